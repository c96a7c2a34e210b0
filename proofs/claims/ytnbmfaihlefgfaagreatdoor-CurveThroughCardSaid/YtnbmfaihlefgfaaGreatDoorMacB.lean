/- A key's block, and the two sums under a key. -/
import Derived.Test.YtnbmfaihlefgfaaGreatDoorShaA
import Derived.Laws.OwnMore
import Derived.ArgAppend
import Derived.Laws.CopyOwn
import Derived.Tactics
import Derived.Laws.BytesArg
import Derived.Laws.BytesString
import Derived.WideShapes
set_option maxRecDepth 1000000
set_option maxHeartbeats 16000000
set_option linter.all false
namespace Go.Proofs.YtnbmfaihlefgfaaGreatDoor
open Go Go.RowKit
def Mm (m:List Nat)(w:World)(e:Ending)(w':World):Prop:=∃g,e=.returned (.pointer (some ⟨g,0,none⟩))/\w.heap.size<=g/\Below w.heap.size w w'/\Bg w' g m
theorem Bg.new {w:World}{g:Nat}(h:Df w g Gr (List.replicate 64 0) 0):Bg w g [] :=
 ⟨List.replicate 64 0,by simp,fun x hx=>by have:=(List.mem_replicate.1 hx).2;omega,h,rfl⟩
def Ri:List Value:=Bi (List.replicate 8 0) (List.replicate 64 0) 0
def hlen (L:Nat):List Value:=Bi (List.replicate 8 0) (List.replicate 64 0) L
theorem Uk (L:Nat):(hlen L).length=73:=rfl
theorem Lg:Ri.length=73:=rfl
theorem Qs (w:World):(zeroValue 266).run Tryz.prog w=.ok (.agg Ri.toArray) w:=by
 have h:(Tryz.prog.info? 266).map (·.zero)=some (some (.agg Ri.toArray)):=by kernel_rfl
 cases hi:Tryz.prog.info? 266 with
 | none=>rw[hi]at h;cases h
 | some i=>
  rw[hi]at h
  have hz:i.zero=some (.agg Ri.toArray):=by simpa using h
  simp[zeroValue,typeInfo,hi,hz]
theorem Kx (w:World)(hT:Tabs w):Calls Tryz.prog 211 #[] w (Mm [] w):=by
 have hz:=Qs;have hzl:=Lg;obtain⟨t0,fr0,hf0⟩:=hT.first
 have hi8:(Tryz.prog.info? 264).map (·.size)=some (Gr.map fun(x:Nat)=>Value.int .u32 x).toArray.size:=by
  rw[show (Gr.map fun(x:Nat)=>Value.int .u32 x).toArray.size=8 by rfl];kernel_rfl
 go_enter Tryz.func211,Tryz.ntmps211
 go_wp2_with (refine wpList_load_row rfl 264 _ rfl 1 rfl t0 (Gr.map fun(x:Nat)=>Value.int .u32 x).toArray fr0 _ hf0 Tryz.underlying264 rfl hi8 ?_)
 have hf:(List.foldl (fun(cs:Array Value) x=>cs.setIfInBounds x.snd x.fst) Ri.toArray (Gr.map fun(x:Nat)=>Value.int .u32 x).zipIdx)=(Bi Gr (List.replicate 64 0) 0).toArray:=by kernel_rfl
 refine bodyPost_ret (v:=.pointer (some ⟨w.heap.size,0,none⟩)) (by simp[results,Tryz.results211,go_sem]) rfl ⟨_,rfl,Ar _,(Aw _ _).alloc (Ar _) _,Bg.new ?_⟩;rw[hf];exact heap_alloc_new w _
theorem Ts (w:World)(b off:Nat) :
  (Instr.sliceAt 264 (.pointer (some ⟨b,off,none⟩)) none none none).run Tryz.prog w=.ok (.slice (some ⟨b,off,none⟩) 8 8) w:=by
 have hlen:Tryz.prog.arrayLen 264 = 8:=by kernel_rfl
 rw[run_sliceAt_array_all w 264 ⟨b,off,none⟩ Tryz.underlying264,hlen];have hs:(sizeOf (Tryz.prog.elem 264)).run Tryz.prog w=.ok 1 w:=by
  have:Tryz.prog.elem 264 = 130 := by kernel_rfl
  rw[this];simp[go_sem]
 rw[hs];simp[slicedAt,Addr.add]
theorem Tt (w:World)(b off:Nat) :
  (Instr.sliceAt 260 (.pointer (some ⟨b,off,none⟩)) none none none).run Tryz.prog w=.ok (.slice (some ⟨b,off,none⟩) 64 64) w:=by
 have hlen:Tryz.prog.arrayLen 260 = 64:=by kernel_rfl
 rw[run_sliceAt_array_all w 260 ⟨b,off,none⟩ Tryz.underlying260,hlen];have hs:(sizeOf (Tryz.prog.elem 260)).run Tryz.prog w=.ok 1 w:=by
  have:Tryz.prog.elem 260 = 5 := by kernel_rfl
  rw[this];simp[go_sem]
 rw[hs];simp[slicedAt,Addr.add]
theorem Kj (w:World)(g:Nat)(m:List Nat)(hH:Bg w g m):Calls Tryz.prog 233 #[.pointer (some ⟨g,0,none⟩)] w (Mm m w):=by
 obtain⟨pend,q1,q2,q3,q4⟩:=hH.ex;have hst8:=Cy m (m.length/64);obtain⟨st,hst⟩:∃st,blocks m (m.length/64)=st:=⟨_,rfl⟩
 obtain⟨L,hL⟩:∃L,m.length%18446744073709551616=L:=⟨_,rfl⟩
 have c72:=q3.cell (Hf hst8 q1);have HST:=Ah hst;have HL:=Ah hL;rw[hL]at c72 q3
 rw[hst]at q3 hst8
 have hlt:=q3.lt;have hz:=Qs;have hzl:=Lg;have HQ3:=Ah q3;have hcS:∀(j:Nat) (v:Value),(st.map fun(x:Nat)=>Value.int .u32 x)[j]? = some v->w.cell? ((⟨g,0,none⟩:Addr).add j)=some v:=fun j v hv=>by
  rw[List.getElem?_map]at hv
  obtain⟨x,hx,rfl⟩:=Option.map_eq_some_iff.1 hv;have hj:j<8:=by have:=(List.getElem?_eq_some_iff.1 hx).1;omega
  rw[add_plain,Nat.zero_add];refine q3.cell ?_;rw[Ff hst8 hj,Dx,hx];rfl
 have hcP:∀(j:Nat) (v:Value),(pend.map fun(x:Nat)=>Value.int .u8 x)[j]? = some v->w.cell? ((⟨g,8,none⟩:Addr).add j)=some v:=fun j v hv=>by
  rw[List.getElem?_map]at hv
  obtain⟨x,hx,rfl⟩:=Option.map_eq_some_iff.1 hv;have hj:j<64:=by have:=(List.getElem?_eq_some_iff.1 hx).1;omega
  rw[add_plain];refine q3.cell ?_;rw[Nb hst8 q1 hj,Dx,hx];rfl
 have HS8:=Ah hst8;have HQ1:=Ah q1;have HCS:=Ah hcS;have HCP:=Ah hcP;have hOne:∀(k:IntKind) (xs:List Nat),∀v∈(xs.map fun(x:Nat)=>Value.int k x),v.oneCell'=true:=fun k xs v hv=>by
  obtain⟨x,_,rfl⟩:=List.mem_map.1 hv;rfl
 have HON:=Ah hOne;have hset:Ri.set 72 (.int .u64 (L:Nat))=hlen L:=Il (by simp) (by simp);clear hL hst q3 hcS hcP hOne;obtain⟨csS,hcsS⟩:∃cs,(st.map fun(x:Nat)=>Value.int .u32 x)=cs:=⟨_,rfl⟩
 obtain⟨csP,hcsP⟩:∃cs,(pend.map fun(x:Nat)=>Value.int .u8 x)=cs:=⟨_,rfl⟩
 have hlS:csS.length=8:=by rw[<-hcsS,List.length_map];exact hst8
 have hlP:csP.length=64:=by rw[<-hcsP,List.length_map];exact q1
 have HSP1:Hid (splice (hlen L) 0 csS=Bi st (List.replicate 64 0) L):=by rw[<-hcsS];exact Ry (by simp) hst8
 have HSP2:Hid (splice (Bi st (List.replicate 64 0) L) 8 csP=Bi st pend L):=by
  rw[<-hcsP];have h:=Mr (st:=st) (pend:=List.replicate 64 0) (len:=L) (xs:=pend) (r:=0) hst8 (by simp[q1]);refine h.trans ?_
  congr 1
  unfold splice;rw[List.take_zero,List.nil_append,List.drop_of_length_le (by simp[q1]),List.append_nil]
 rw[hcsS]at HCS
 rw[hcsP]at HCP
 have HO1:Hid (∀v∈csS,v.oneCell'=true):=by rw[<-hcsS];exact HON.out _ _
 have HO2:Hid (∀v∈csP,v.oneCell'=true):=by rw[<-hcsP];exact HON.out _ _
 clear hcsS hcsP hst8 q1;go_enter Tryz.func233,Tryz.ntmps233;go_wp2;have hn0:=heap_alloc_new w (.cells (hlen L).toArray 266);have hb0:Below w.heap.size w (w.alloc (.cells (hlen L).toArray 266)):=Cu;have hsz0:w.heap.size<(w.alloc (.cells (hlen L).toArray 266)).heap.size:=by simp
 generalize w.alloc (.cells (hlen L).toArray 266)=w1 at *;have HN0:=Ah hn0;have hcS1:∀(j:Nat) (v:Value),csS[j]? = some v->w1.cell? ((⟨g,0,none⟩:Addr).add j)=some v:=fun j v hv=>by
  have h:=HCS.out j v hv;rw[add_plain]at h ⊢
  rw[(Cf hb0).1 _ _ hlt];exact h
 have HCS1:=Ah hcS1;have HF1:Hid (0+csS.length<=(hlen L).length):=by show 0+csS.length<=(hlen L).length;rw[hlS,Uk];omega
 have HM1:Hid (csS.length=Nat.min 8 8):=hlS;clear hcS1 hn0 hset;have hsl1:=Ts;have hsl2:=Tt
 go_region_law (refine Gf rfl (.tmp 15) (.tmp 19) 34 34 rfl 130 Tryz.underlying34 (by kernel_rfl) (some ⟨w.heap.size,0,none⟩) (some ⟨g,0,none⟩) 8 8 8 8 (by simp[Act.eval,Act.put,go_sem]) (by simp[Act.eval,Act.put,go_sem]) w.heap.size 0 (hlen L) 266 HN0.out csS HM1.out (fun _=>⟨rfl,_,rfl,HCS1.out⟩) HF1.out HO1.out ?_;intro w4 hg4 hb4)
 rw[HSP1.out]at hg4
 have hb5:Below w.heap.size w w4:=hb0.trans ((hb4.of_drew).below (Ar _) (Nat.le_of_lt hsz0));have hcP1:∀(j:Nat) (v:Value),csP[j]? = some v->w4.cell? ((⟨g,8,none⟩:Addr).add j)=some v:=fun j v hv=>by
  have h:=HCP.out j v hv;rw[add_plain]at h ⊢
  rw[(Cf hb5).1 _ _ hlt];exact h
 have HCP1:=Ah hcP1;have HB5:=Ah hb5;have HF2:Hid (8+csP.length<=(Bi st (List.replicate 64 0) L).length):=by show 8+csP.length<=List.length _;rw[hlP,Jw HS8.out (by simp)];omega
 have HM2:Hid (csP.length=Nat.min 64 64):=hlP;obtain⟨cur,hcur⟩:∃cur,Bi st (List.replicate 64 0) L=cur:=⟨_,rfl⟩
 rw[hcur]at hg4 HF2 HSP2
 have HC4:=hg4;clear hcP1 hb5 hcur hg4 HN0 hb4 hb0 hsz0;go_wp2;have hs4:w.heap.size<w4.heap.size:=(Ga HC4.out).1
 go_region_law (refine Gf rfl (.tmp 24) (.tmp 28) 60 60 rfl 5 Tryz.underlying60 (by kernel_rfl) (some ⟨w.heap.size,8,none⟩) (some ⟨g,8,none⟩) 64 64 64 64 (by simp[Act.eval,Act.put,go_sem]) (by simp[Act.eval,Act.put,go_sem]) w.heap.size 8 cur 266 HC4.out csP HM2.out (fun _=>⟨rfl,_,rfl,HCP1.out⟩) HF2.out HO2.out ?_;intro w6 hg6 hb6)
 rw[HSP2.out]at hg6
 have hb7:Below w.heap.size w w6:=HB5.out.trans ((hb6.of_drew).below (Ar _) (Nat.le_of_lt hs4));have HB7:=Ah hb7;clear hb6 hb7;go_wp2;go_ret;refine⟨_,rfl,Ar _,HB7.out,⟨pend,HQ1.out,q2,?_,q4⟩⟩;rw[HST.out,HL.out];exact hg6.out
def Jb (m:List Nat)(w:World)(e:Ending)(w':World):Prop:=∃q,e=.returned (.slice (some ⟨q,0,none⟩) 32 32)/\w.heap.size<=q/\Below w.heap.size w w'/\Bk w' q 5 .u8 (Vm m)
theorem Ke (w:World)(g:Nat)(m:List Nat)(hT:Tabs w)(hH:Bg w g m):Calls Tryz.prog 214 #[.pointer (some ⟨g,0,none⟩)] w (Jb m w):=by
 have hlt:=hH.lt;obtain⟨L,hL⟩:∃L,m.length%18446744073709551616=L:=⟨_,rfl⟩
 have hL64:L<18446744073709551616:=by omega
 have HL:=Ah hL;clear hL;go_enter Tryz.func214,Tryz.ntmps214
 go_wp2_with fail
 refine(Kj w g m hH).mono ?_;rintro e w1 ⟨q,rfl,hq,hb1,hh1⟩;have hT1:=hT.below hb1 hT.size;have c72:w1.cell? ⟨g,72,none⟩=some (.int .u64 (L:Nat)):=by
  obtain⟨pend,q1,_,q3,_⟩:=(hH.below hb1 hlt).ex;have h:=q3.cell (Hf (Cy m _) q1);rw[HL.out]at h
  exact h
 go_wp2_with fail
 refine(Tc w1 L hL64).mono ?_;rintro e w2 ⟨rfl,hb2,hk2⟩;have hh2:=hh1.below hb2 hh1.lt;have hT2:=hT1.below hb2 hT1.size;have hz12:=hb1.size;have hz22:=hb2.size;have hbl:behind L=behind m.length:=by rw[<-HL.out,Xj]
 rw[hbl]at hk2
 have hnl:Cr L+9=(behind m.length).length:=by rw[<-hbl,Qp]
 have hrow:Bm w2 .u8 (some ⟨w1.heap.size,0,none⟩) (Cr L+9) (Cr L+9) (behind m.length) :=
  ⟨hnl,Ar _,by have:Cr L<64:=Nat.mod_lt _ (by omega);omega,fun _=>hk2.row hnl (Ar _) (by have:Cr L<64:=Nat.mod_lt _ (by omega);omega)⟩
 have hqlt:=hh1.lt;clear hbl hnl
 go_wp2_with fail
 refine(Eb w2 q m _ _ _ (behind m.length) hT2 hh2 (by have:=hT.size;omega) hrow (Td _) (fun _ a ha=>by cases ha;show w1.heap.size≠q;omega)).mono ?_;rintro e w3 ⟨rfl,hb3,hh3⟩;have hb13:Below w.heap.size w w3:=(hb1.trans (hb2.mono hz12)).trans (hb3.below hq (by omega));obtain⟨pend,q1,q2,q3,q4⟩:=hh3.ex;have hz13:=hb13.size
 go_wp2_with fail
 refine(Oo w3 q _ pend _ (Cy _ _) (Lj _ _) q3).mono ?_;rintro e w4 ⟨rfl,hb4,hk4⟩;rw[List.length_append]at hk4
 go_wp2;go_ret;exact⟨_,rfl,hz13,hb13.trans (hb4.mono hz13),hk4⟩
structure Own (w:World) (B:Nat) (v:Value) (bs:List Nat):Prop where
 owns:w.ownsRow B 5 1 v bs.length (bs.map fun(x:Nat)=>Value.int .u8 (x:Int))
theorem Own.elim {w:World}{B:Nat}{v:Value}{bs:List Nat}(h:Own w B v bs) :
  ∃p c,v=.slice p bs.length c/\Bm w .u8 p bs.length c bs/\Fg B p/\(p=none->c=0)/\(∀q,p=some q->q.block<w.heap.size):=by
 obtain⟨h1,h2⟩:=h.owns;rcases h2 with ⟨rfl,h0⟩|⟨g,cap,cur,rfl,hb,hg,hnc,hcm,hcs,ht⟩
 .refine⟨none,0,by rw[h0],⟨rfl,by omega,by omega,fun h=>absurd h (by omega)⟩,Fg.none _,fun _=>rfl,fun q hq=>(by cases hq)⟩
 .have hlt:g<w.heap.size:=(Ga hg).1;have hcm':cap<=9223372036854775807:=by simpa [maxLen]using hcm
  refine⟨some ⟨g,0,none⟩,cap,rfl,⟨rfl,hnc,hcm',fun _=>⟨rfl,hnc,hcm',.inr ⟨g,0,rfl,hlt,fun i x hx=>?_⟩⟩⟩,fun q hq=>(by cases hq;exact hb),fun h=>(by cases h),fun q hq=>(by cases hq;exact hlt)⟩;have hi:i<bs.length:=(List.getElem?_eq_some_iff.1 hx).1;have hx2:(bs.map fun(x:Nat)=>Value.int .u8 (x:Int))[i]? = some (.int .u8 (x:Int)):=by rw[List.getElem?_map,hx];rfl
  rw[<-ht,List.getElem?_take]at hx2
  split at hx2
  .unfold World.cell?
   dsimp only
   rw[hg];simp only[Nat.zero_add];rw[Array.getElem?_toList]at hx2
   exact hx2
  .cases hx2
theorem Own.below {w w':World}{B C:Nat}{v:Value}{bs:List Nat}(h:Own w B v bs)(hb:Below C w w')(hc:∀g,v.ownBlock=some g->g<C):Own w' B v bs:=by
 refine⟨⟨h.owns.1,?_⟩⟩;rcases h.owns.2 with h2|⟨g,cap,cur,rfl,hbg,hg,h3⟩
 .exact .inl h2
 .refine .inr ⟨g,cap,cur,rfl,hbg,?_,h3⟩;rw[hb.block g (hc g rfl)];exact hg
theorem Own.lt {w:World}{B:Nat}{v:Value}{bs:List Nat}(h:Own w B v bs):∀g,v.ownBlock=some g->g<w.heap.size:=by
 intro g hg;rcases h.owns.2 with ⟨rfl,_⟩|⟨g',cap,cur,rfl,hbg,hg',h3⟩
 .cases hg
 .obtain rfl:g'=g:=by simpa [Value.ownBlock]using hg
  exact(Ga hg').1
theorem Own.ge {w:World}{B:Nat}{v:Value}{bs:List Nat}(h:Own w B v bs):∀g,v.ownBlock=some g->B<=g:=by
 intro g hg;rcases h.owns.2 with ⟨rfl,_⟩|⟨g',cap,cur,rfl,hbg,hg',h3⟩
 .cases hg
 .obtain rfl:g'=g:=by simpa [Value.ownBlock]using hg
  exact hbg
theorem Own.belowS {w w':World}{B:Nat}{v:Value}{bs:List Nat}(h:Own w B v bs)(hb:Below w.heap.size w w'):Own w' B v bs:=h.below hb h.lt
theorem Own.mono {w:World}{B B':Nat}{v:Value}{bs:List Nat}(h:Own w B v bs)(hb:B'<=B):Own w B' v bs:=by
 refine⟨⟨h.owns.1,?_⟩⟩;rcases h.owns.2 with h2|⟨g,cap,cur,h1,hbg,h3⟩
 .exact .inl h2
 .exact .inr ⟨g,cap,cur,h1,by omega,h3⟩
theorem grown_below {w w':World}{g:Option Nat}(h:w.grownBy w' g){B:Nat}(hB:B<=w.heap.size)(hg:∀b,g=some b->B<=b):Below B w w' :=
 ⟨h.os,h.tape,h.output,h.size,fun k hk=>h.block k (by omega) (fun e=>by have:=hg k e.symm;omega)⟩
theorem eC {w:World}{B:Nat}{v:Value}{xs:List Nat}(h:Own w B v xs){p:Option Addr}{m c:Nat}{bs:List Nat}(hr:Bm w .u8 p m c bs)(hn:p=none->c=0)(hmax:xs.length+m<=140737488355328)(hB:B<=w.heap.size)(ty:TypeId) :
  ∃v' w',(Builtin.append_ #[60, 60] ty #[v,.slice p m c]).run Tryz.prog w=.ok v' w'/\Own w' B v' (xs++bs)/\w.grownBy w' v.ownBlock:=by
 obtain⟨i,hi,hz,hs,hb⟩:=info_parts Tryz.info_u8;have hl:=hr.len
 cases p with
 | none=>
  obtain rfl:=hn rfl;have hc:=hr.cap;obtain rfl:m=0:=by omega
  have hbs:bs=[]:=List.eq_nil_of_length_eq_zero hl.symm;refine⟨v,w,run_append_owned_none (P:=Tryz.prog) w B 60 ty 5 i 1 Tryz.underlying60 hi v xs.length _ h.owns,?_,⟨rfl,rfl,rfl,Ar _,fun _ _ _=>rfl⟩⟩;rw[hbs,List.append_nil];exact h
 | some a=>
  have hmx:xs.length+m<=maxLen:=by simp only[maxLen];omega
  obtain⟨v',w',h1,h2,h3,_⟩:=run_append_own (P:=Tryz.prog) w B 60 ty 5 i (.int .u8 0) 1 1 Tryz.underlying60 hi hz hs hb (by rfl) (by decide) v xs.length _ h.owns a m c (bs.map fun(x:Nat)=>Value.int .u8 (x:Int)) (by simp[hl])
   (fun j u hu=>by
    rw[List.getElem?_map]at hu
    obtain⟨x,hx,rfl⟩:=Option.map_eq_some_iff.1 hu;have h0:0<m:=by have:=(List.getElem?_eq_some_iff.1 hx).1;omega
    obtain⟨b,off,e,h2,h3⟩:=(hr.row h0).pos h0;cases e;rw[add_plain];exact h3 j x hx)
   (fun u hu=>by obtain⟨x,_,rfl⟩:=List.mem_map.1 hu;rfl) hmx (by omega) hB
  refine⟨v',w',h1,⟨?_⟩,h3⟩;rw[<-List.map_append,hl,<-List.length_append]at h2
  exact h2
theorem Vo {w:World}{ops:Array Oper}{rest:List Oper}{o:Oper}{a:Act}{Q:Exit->Act->World->Prop}(hgd:o.guard=none)(s x:Operand)(ho:o.op=.call { callee:=.builtin .append,args:=#[s,x],argTypes:=#[60, 60] }){B:Nat}{v:Value}{xs:List Nat}(hs:a.eval s=v)(h:Own w B v xs){p:Option Addr}{m c:Nat}{bs:List Nat}(hx:a.eval x=.slice p m c)(hr:Bm w .u8 p m c bs)(hn:p=none->c=0)(hmax:xs.length+m<=140737488355328)(hB:B<=w.heap.size)(hk:∀v' w',Own w' B v' (xs++bs)->w.grownBy w' v.ownBlock->wpList Tryz.prog ops Q rest (a.put o.dst v') w'):wpList Tryz.prog ops Q (o::rest) a w:=by
 obtain⟨v',w',h1,h2,h3⟩:=eC h hr hn hmax hB o.type;refine wpList_plain hgd fun K hK=>?_
 unfold Oper.wp;simp[execOp,ho,resolve,invoke,builtin,hs,hx,h1,Result.andThen];exact hK _ _ (hk v' w' h2 h3)
inductive Vj (lo:Nat) (bs:List Nat):Value->World->Prop where
 | of (p:Option Addr) (c:Nat) (w:World) (h:Bm w .u8 p bs.length c bs) (hn:Fg lo p) (hz:p=none->c=0) (hp:∀q,p=some q->q.block<w.heap.size):Vj lo bs (.slice p bs.length c) w
theorem Xw (w:World)(bs:List Nat)(hm:bs.length<=9223372036854775807):Bm (w.alloc (.cells (bs.map fun(x:Nat)=>Value.int .u8 (x:Int)).toArray 5)) .u8 (some ⟨w.heap.size,0,none⟩) bs.length bs.length bs:=by
 have h:=Bk.row (w:=w.alloc (.cells (bs.map fun(x:Nat)=>Value.int .u8 (x:Int)).toArray 5)) (g:=w.heap.size) (e := 5) (k:=.u8) (xs:=bs) (heap_alloc_new w _) (n:=bs.length) (c:=bs.length) rfl (Ar _) hm;exact⟨rfl,Ar _,hm,fun _=>h⟩
structure Part where
 p:Option Addr
 n:Nat
 c:Nat
 bs:List Nat
structure Cg (w:World) (P:Part):Prop where
 row:Bm w .u8 P.p P.n P.c P.bs
 bytes:Ay P.bs
theorem Cg.below {w w':World}{P:Part}(h:Cg w P)(hb:Below w.heap.size w w'):Cg w' P:=⟨h.row.below hb,h.bytes⟩
def whole (L:List Part):List Nat:=L.flatMap (·.bs)
theorem Oe (L:List Part)(P:Part):whole (L++[P])=whole L++P.bs:=by simp[whole]
structure Ed (w:World) (p:Option Addr) (n c:Nat) (L:List Part):Prop where
 len:n=L.length
 cap:n<=c
 max:c<=9223372036854775807
 ok:∀(i:Nat) (P:Part),L[i]? = some P->Cg w P
 cells:0<n->∃b off,p=some ⟨b,off,none⟩/\b<w.heap.size/\∀(i:Nat) (P:Part),L[i]? = some P->w.cell? ⟨b,off+i,none⟩=some (.slice P.p P.n P.c)
theorem Ed.below {w w':World}{p:Option Addr}{n c:Nat}{L:List Part}(h:Ed w p n c L)(hb:Below w.heap.size w w'):Ed w' p n c L :=
 ⟨h.len,h.cap,h.max,fun i P hP=>(h.ok i P hP).below hb,fun h0=>by
  obtain⟨b,off,h1,h2,h3⟩:=h.cells h0;exact⟨b,off,h1,Dh h2 hb.size,fun i P hP=>by rw[hb.cell (p:=⟨b,off+i,none⟩) h2];exact h3 i P hP⟩⟩
theorem Ym (w:World)(p:Option Addr)(n c:Nat)(L:List Part)(hT:Tabs w)(hL:Ed w p n c L):Calls Tryz.prog 247 #[.slice p n c] w (Jb (whole L) w):=by
 have HL:Aa (Ed w p n c L):=⟨hL⟩
 have hlen:Aa (n=L.length):=⟨hL.len⟩
 have hcap:=hL.cap;have hmax:=hL.max;clear hL;go_enter Tryz.func247,Tryz.ntmps247
 go_wp2_with fail
 refine(Kx w hT).mono ?_;rintro e w1 ⟨g,rfl,hg,hb1,hh1⟩;go_wp2
 go_loopw [9] (fun i wr=>∃k:Nat,k<=n/\i=.int .i64 k/\Below w.heap.size w wr/\Bg wr g (whole (L.take k))) (fun i _=>n-(intOf i).toNat)
 case atStart=>exact⟨0,by omega,rfl,hb1,hh1⟩
 case round=>
  obtain⟨k,hk,rfl,hbel,hash⟩:=hrel;have hTr:=hT.below hbel hT.size;have hsz:=hT.size
  by_cases hkn:k<n
  .obtain⟨b,off,rfl,hb,hc⟩:=HL.out.cells (by omega);obtain⟨P,hP⟩:∃P,L[k]? = some P:=⟨_,List.getElem?_eq_getElem (by have:=hlen.out;omega)⟩
   have hok:=(HL.out.ok k P hP).below hbel;have hblt:0<P.n->∀q,P.p=some q->q.block≠g:=fun h0 q hq=>by
    obtain⟨b',off',e,h2,_⟩:=((HL.out.ok k P hP).row.row h0).pos h0;rw[hq]at e;cases e
    show b'≠g;omega
   have hck:wr.cell? ⟨b,off+k,none⟩=some (.slice P.p P.n P.c):=by
    rw[(Cf hbel).1 _ _ hb];exact hc k P hP
   have htk:Aa (whole (L.take (k+1))=whole (L.take k)++P.bs):=⟨by rw[List.take_add_one,hP];exact Oe _ _⟩
   have HOK:Aa (Cg wr P):=⟨hok⟩
   have HNE:Aa (0<P.n->∀q,P.p=some q->q.block≠g):=⟨hblt⟩
   clear hc hP hok hblt;obtain⟨pp,pn,pc,pb⟩:=P
   dsimp only at *
   go_wp2_with fail
   refine(Eb wr g _ pp pn pc pb hTr hash (by omega) HOK.out.row HOK.out.bytes HNE.out).mono ?_;rintro e w2 ⟨rfl,hb2,hh2⟩;rw[<-htk.out]at hh2
   have hz:w.heap.size<=wr.heap.size:=hbel.size;have hbel2:=hbel.trans (hb2.below hg hz);go_wp2;go_roundw
   case rel=>exact⟨k+1,by omega,by go_num,hbel2,hh2⟩
   case measure=>simp[intOf];omega
  .obtain rfl:k=n:=by omega
   rw[List.take_of_length_le (by have:=hlen.out;omega)]at hash
   have hz:w.heap.size<=wr.heap.size:=hbel.size
   go_wp2_with fail
   refine(Ke wr g _ hTr hash).mono ?_;rintro e w3 ⟨q,rfl,hq,hb3,hk3⟩;go_wp2;go_ret;exact⟨q,rfl,by omega,hbel.trans (hb3.mono hz),hk3⟩
theorem bF (w:World)(P:Part)(hP:Cg w P):Ed (w.alloc (.cells #[.slice P.p P.n P.c] 60)) (some ⟨w.heap.size,0,none⟩) 1 1 [P]:=by
 have hb:Below w.heap.size w (w.alloc (.cells #[.slice P.p P.n P.c] 60)):=Cu;have hn:=heap_alloc_new w (.cells #[.slice P.p P.n P.c] 60);refine⟨rfl,Ar _,by omega,fun i X hX=>?_,fun _=>⟨w.heap.size,0,rfl,by simp,fun i X hX=>?_⟩⟩
 .match i,hX with
  | 0,h=>cases h;exact hP.below hb
 .match i,hX with
  | 0,h=>cases h;unfold World.cell?;dsimp only;rw[hn];rfl
theorem Qu (P:Part):whole [P]=P.bs:=by simp[whole]
theorem fS (w:World)(P Q R:Part)(hP:Cg w P)(hQ:Cg w Q)(hR:Cg w R):Ed (w.alloc (.cells #[.slice P.p P.n P.c,.slice Q.p Q.n Q.c,.slice R.p R.n R.c] 60)) (some ⟨w.heap.size,0,none⟩) 3 3 [P,Q,R]:=by
 have hb:Below w.heap.size w (w.alloc (.cells #[.slice P.p P.n P.c,.slice Q.p Q.n Q.c,.slice R.p R.n R.c] 60)):=Cu;have hn:=heap_alloc_new w (.cells #[.slice P.p P.n P.c,.slice Q.p Q.n Q.c,.slice R.p R.n R.c] 60);refine⟨rfl,Ar _,by omega,fun i X hX=>?_,fun _=>⟨w.heap.size,0,rfl,by simp,fun i X hX=>?_⟩⟩
 .match i,hX with
  | 0,h=>cases h;exact hP.below hb
  | 1,h=>cases h;exact hQ.below hb
  | 2,h=>cases h;exact hR.below hb
 .match i,hX with
  | 0,h=>cases h;unfold World.cell?;dsimp only;rw[hn];rfl
  | 1,h=>cases h;unfold World.cell?;dsimp only;rw[hn];rfl
  | 2,h=>cases h;unfold World.cell?;dsimp only;rw[hn];rfl
open Go Go.RowKit Go.Proofs.YtnbmfaihlefgfaaGreatDoor.Flow
theorem Ia (w:World)(b off:Nat) :
  (Instr.sliceAt 261 (.pointer (some ⟨b,off,none⟩)) none none none).run Tryz.prog w=.ok (.slice (some ⟨b,off,none⟩) 64 64) w:=by
 have hlen:Tryz.prog.arrayLen 261 = 64:=by kernel_rfl
 rw[run_sliceAt_array_all w 261 ⟨b,off,none⟩ Tryz.underlying261,hlen];have hs:(sizeOf (Tryz.prog.elem 261)).run Tryz.prog w=.ok 1 w:=by
  have:Tryz.prog.elem 261 = 5 := by kernel_rfl
  rw[this];simp[go_sem]
 rw[hs];simp[slicedAt,Addr.add]
theorem Nw (b:List Nat)(h:b.length=64):(Tryz.prog.info? 261).map (·.size)=some (b.map fun(x:Nat)=>Value.int .u8 x).toArray.size:=by
 rw[show (b.map fun(x:Nat)=>Value.int .u8 x).toArray.size=64 by simp[h]];kernel_rfl
theorem Ol {kk:List Nat}(_h:kk.length<=64) :
  splice ((List.replicate 64 0).map fun(x:Nat)=>Value.int .u8 x) 0 (kk.map fun(x:Nat)=>Value.int .u8 x)=(kk++List.replicate (64-kk.length) 0).map fun(x:Nat)=>Value.int .u8 x:=by
 unfold splice;rw[List.take_zero,List.nil_append,List.length_map,Nat.zero_add,<-List.map_drop,List.drop_replicate,List.map_append]
theorem Yq {w:World}{p:Option Addr}{n c:Nat}{bs:List Nat}(h:Bm w .u8 p n c bs)(hn:0<n):∃ad,p=some ad/\ad.block<w.heap.size/\∀(j:Nat) (v:Value),(bs.map fun(x:Nat)=>Value.int .u8 (x:Int))[j]? = some v->w.cell? (ad.add j)=some v:=by
 obtain⟨b,off,rfl,hb,h3⟩:=(h.row hn).pos hn;refine⟨_,rfl,hb,fun j v hv=>?_⟩;rw[List.getElem?_map]at hv
 obtain⟨x,hx,rfl⟩:=Option.map_eq_some_iff.1 hv;rw[add_plain];exact h3 j x hx
def box2 (w:World):World:=(w.alloc (.cells (zeros .u8 64) 261)).alloc (.cells (zeros .u8 64) 261)
theorem Hk (w:World):Below w.heap.size w (box2 w):=((Aw _ _).alloc (Ar _) _).alloc (by simp) _
theorem cW (w:World):Bk (box2 w) (w.heap.size+1) 261 .u8 (List.replicate 64 0):=by
 have:=Bk.zeros (w.alloc (.cells (zeros .u8 64) 261)) 261 .u8 64;rw[show (w.alloc (.cells (zeros .u8 64) 261)).heap.size=w.heap.size+1 by simp]at this
 exact this
theorem cV (w:World):Bk (box2 w) w.heap.size 261 .u8 (List.replicate 64 0):=(Bk.zeros w 261 .u8 64).alloc _
theorem Va {w:World}{p:Option Addr}{n c:Nat}{key:List Nat}(hr:Bm w .u8 p n c key) :
  0<(key.map fun(x:Nat)=>Value.int .u8 (x:Int)).length->∃ad,p=some ad/\∀(j:Nat) (v:Value),(key.map fun(x:Nat)=>Value.int .u8 (x:Int))[j]? = some v->w.cell? (ad.add j)=some v:=fun h=>by
 obtain⟨ad,h1,_,h2⟩:=Yq hr (by have:=hr.len;simpa [this]using h);exact⟨ad,h1,h2⟩
theorem aR (key:List Nat):∀v∈(key.map fun(x:Nat)=>Value.int .u8 (x:Int)),v.oneCell'=true:=fun v hv=>by
 obtain⟨x,_,rfl⟩:=List.mem_map.1 hv;rfl
theorem Vg (w:World)(p:Option Addr)(n c:Nat)(key:List Nat)(hT:Tabs w)(hr:Bm w .u8 p n c key)(h8:Ay key) :
  Calls Tryz.prog 231 #[.slice p n c] w fun e w'=>e=.returned (.agg ((Dw key).map fun(x:Nat)=>Value.int .u8 (x:Int)).toArray)/\Below w.heap.size w w':=by
 have hm:=hr.max;have hcap:=hr.cap;have hsl:=Ia;have HI:=Ah (Nw (Dw key) (Gg key));have H1:=Ah (Lf .u8 (Dw key));have HS:Hid (((List.replicate 64 0).map fun(x:Nat)=>Value.int .u8 x).toArray.size=((Dw key).map fun(x:Nat)=>Value.int .u8 x).toArray.size):=Ah (by simp[Gg]);have HSp:Hid (splice ((List.replicate 64 0).map fun(x:Nat)=>Value.int .u8 x) 0 ((Kd key).map fun(x:Nat)=>Value.int .u8 x)=(Dw key).map fun(x:Nat)=>Value.int .u8 x):=Ah (Ol (kk:=Kd key) (If key));have HG:=Ah (cW w);have HW:=Ah (Hk w);have HO:=Ah (cV w);obtain⟨Z,hZ⟩:∃Z,((List.replicate 64 0).map fun(x:Nat)=>Value.int .u8 x)=Z:=⟨_,rfl⟩
 have HZ:=Ah hZ;have HFit:Hid (0+((Kd key).map fun(x:Nat)=>Value.int .u8 (x:Int)).length<=((List.replicate 64 0).map fun(x:Nat)=>Value.int .u8 (x:Int)).length):=Ah (by have:=If key;simp;omega);simp only[Bk,hZ]at HG HSp HFit HS HO;clear hZ
 by_cases hn:n<=64
 .have HKK:Hid (Kd key=key):=by
   show Kd key=_;unfold Kd;rw[if_neg (by have:=hr.len;omega)]
  rw[HKK.out]at HSp HFit
  have HSrc:=Ab (Va (hr.below (Hk w)));have HN:Hid ((key.map fun(x:Nat)=>Value.int .u8 (x:Int)).length=Nat.min n 64):=by
   show List.length _=_;rw[List.length_map,<-hr.len];exact(Nat.min_eq_left hn).symm
  generalize Dw key=B at *;go_enter Tryz.func231,Tryz.ntmps231
  go_wp2_with (refine wpList_copy_splice rfl (.tmp 10) (.tmp 11) 60 60 rfl 5 Tryz.underlying60 (by kernel_rfl) (some ⟨w.heap.size+1,0,none⟩) p 64 64 n c rfl rfl (w.heap.size+1) 0 Z 261 HG.out (key.map fun(x:Nat)=>Value.int .u8 (x:Int)) HN.out (fun h=>⟨rfl,HSrc.out h⟩) HFit.out (aR key) (w.heap.size+1) (box2 w) (Aw _ _) (Ar _) ?_)
  intro w2 hg2 hb2;have hg3:Hid (Bk w2 (w.heap.size+1) 261 .u8 B):=by
   show w2.heap[_]? = _;rw[hg2.out,HSp.out]
  have ho3:Hid (w2.heap[w.heap.size]? = some (.cells Z.toArray 261 (0,0))):=(hb2.block w.heap.size (by omega)).trans HO.out;have hb3:Hid (Below w.heap.size w w2):=HW.out.trans (hb2.mono (by omega));clear hg2 hb2 HSp HFit HSrc HN HO HG HW
  go_wp2_with (first|(refine wpList_load_row rfl 261 _ rfl (w.heap.size+1) rfl 261 (B.map fun(x:Nat)=>Value.int .u8 x).toArray (0,0) _ hg3.out Tryz.underlying261 rfl HI.out ?_)|(refine wpList_store_row rfl 261 _ _ rfl w.heap.size (B.map fun(x:Nat)=>Value.int .u8 x).toArray rfl rfl 261 Z.toArray ho3.out HI.out HS.out H1.out ?_))
  have hend:=setRow_heap w2 w.heap.size Z.toArray (B.map fun(x:Nat)=>Value.int .u8 x).toArray 261 (0,0) ho3.out;exact bodyPost_ret (v:=.agg (B.map fun(x:Nat)=>Value.int .u8 x).toArray) (results_cell_row Tryz.results231 _ _ w.heap.size 261 _ (0,0) _ rfl hend Tryz.underlying261 rfl HI.out) rfl ⟨rfl,below_setRow hb3.out (Ar _) _⟩
 .have HKK:Hid (Kd key=Vm key):=by
   show Kd key=_;unfold Kd;rw[if_pos (by have:=hr.len;omega)]
  rw[HKK.out]at HSp HFit
  have hz:(box2 w).heap.size=w.heap.size+1+1:=by simp[box2]
  have hP:=bF (box2 w) ⟨p,n,c,key⟩ ⟨hr.below (Hk w),h8⟩;rw[hz]at hP
  have HP:=Ah hP;clear hP;have HT2:=Ah (hT.below (Hk w) hT.size);have HN:Hid (((Vm key).map fun(x:Nat)=>Value.int .u8 (x:Int)).length=Nat.min 32 64):=by
   show List.length _=_;rw[List.length_map,Dc];rfl
  generalize Dw key=B at *;have HW1:Hid (Below (box2 w).heap.size (box2 w) ((box2 w).alloc (.cells #[.slice p n c] 60))):=Ah ((Aw _ _).alloc (Ar _) _);go_enter Tryz.func231,Tryz.ntmps231
  go_wp2_with fail
  refine Vf (w1:=(box2 w).alloc (.cells #[.slice p n c] 60)) (by kernel_rfl) ?_;refine(Ym ((box2 w).alloc (.cells #[.slice p n c] 60)) (some ⟨w.heap.size+1+1,0,none⟩) 1 1 [⟨p,n,c,key⟩] (HT2.out.below HW1.out HT2.out.size) HP.out).mono ?_;rintro e w1 ⟨q,rfl,hq,hb1,hk1⟩;rw[Qu]at hk1
  dsimp only at hk1
  have hb2:Below (box2 w).heap.size (box2 w) w1:=HW1.out.trans (hb1.mono HW1.out.size);have hrow:Bm w1 .u8 (some ⟨q,0,none⟩) 32 32 (Vm key):=⟨(Dc _).symm,Ar _,by omega,fun _=>hk1.row (Dc _).symm (Ar _) (by omega)⟩
  have HSrc:=Ab (Va hrow);have HG1:Hid (w1.heap[w.heap.size+1]? = some (.cells Z.toArray 261 (0,0))):=(hb2.block (w.heap.size+1) (by omega)).trans HG.out;have HO1:Hid (w1.heap[w.heap.size]? = some (.cells Z.toArray 261 (0,0))):=(hb2.block w.heap.size (by omega)).trans HO.out;have HW2:Hid (Below w.heap.size w w1):=HW.out.trans (hb2.mono (by omega));clear hrow hk1 hb1 hb2 HG HO HW HP HT2 HW1 hq
  go_wp2_with (refine wpList_copy_splice rfl (.tmp 10) (.tmp 11) 60 60 rfl 5 Tryz.underlying60 (by kernel_rfl) (some ⟨w.heap.size+1,0,none⟩) (some ⟨q,0,none⟩) 64 64 32 32 rfl rfl (w.heap.size+1) 0 Z 261 HG1.out ((Vm key).map fun(x:Nat)=>Value.int .u8 (x:Int)) HN.out (fun h=>⟨rfl,HSrc.out h⟩) HFit.out (aR _) (w.heap.size+1) w1 (Aw _ _) (Ar _) ?_)
  intro w2 hg2 hb2;have hg3:Hid (Bk w2 (w.heap.size+1) 261 .u8 B):=by
   show w2.heap[_]? = _;rw[hg2.out,HSp.out]
  have ho3:Hid (w2.heap[w.heap.size]? = some (.cells Z.toArray 261 (0,0))):=(hb2.block w.heap.size (by omega)).trans HO1.out;have hb3:Hid (Below w.heap.size w w2):=HW2.out.trans (hb2.mono (by omega));clear hg2 hb2 HSp HFit HSrc HN HO1 HG1 HW2
  go_wp2_with (first|(refine wpList_load_row rfl 261 _ rfl (w.heap.size+1) rfl 261 (B.map fun(x:Nat)=>Value.int .u8 x).toArray (0,0) _ hg3.out Tryz.underlying261 rfl HI.out ?_)|(refine wpList_store_row rfl 261 _ _ rfl w.heap.size (B.map fun(x:Nat)=>Value.int .u8 x).toArray rfl rfl 261 Z.toArray ho3.out HI.out HS.out H1.out ?_))
  have hend:=setRow_heap w2 w.heap.size Z.toArray (B.map fun(x:Nat)=>Value.int .u8 x).toArray 261 (0,0) ho3.out;exact bodyPost_ret (v:=.agg (B.map fun(x:Nat)=>Value.int .u8 x).toArray) (results_cell_row Tryz.results231 _ _ w.heap.size 261 _ (0,0) _ rfl hend Tryz.underlying261 rfl HI.out) rfl ⟨rfl,below_setRow hb3.out (Ar _) _⟩
end Go.Proofs.YtnbmfaihlefgfaaGreatDoor
