/- Contracts as the laws use them. -/
import Derived.Test.YtokhckjemidbpaaGreatDoorShaA
import Derived.Laws.BytesArg
import Derived.Laws.BytesString
import Derived.WideShapes
import Derived.Test.YtokhckjemidbpaaGreatDoorNatU
import Derived.Test.YtokhckjemidbpaaGreatDoorNatG
import Derived.Test.YtokhckjemidbpaaGreatDoorFlowR
set_option maxRecDepth 1000000
set_option maxHeartbeats 16000000
set_option linter.all false
namespace Go.Proofs.YtokhckjemidbpaaGreatDoor
open Go Go.RowKit
def Mx (m:List Nat)(w:World)(e:Ending)(w':World):Prop:=∃g,e=.returned (.pointer (some ⟨g,0,none⟩))/\w.heap.size<=g/\Below w.heap.size w w'/\Bl w' g m
theorem Bl.new {w:World}{g:Nat}(h:Dn w g Hg (List.replicate 64 0) 0):Bl w g [] :=
 ⟨List.replicate 64 0,by simp,fun x hx=>by have:=(List.mem_replicate.1 hx).2;omega,h,rfl⟩
def Rf:List Value:=Bm (List.replicate 8 0) (List.replicate 64 0) 0
def hlen (L:Nat):List Value:=Bm (List.replicate 8 0) (List.replicate 64 0) L
theorem Ur (L:Nat):(hlen L).length=73:=rfl
theorem Lq:Rf.length=73:=rfl
theorem Qq (w:World):(zeroValue 278).run Tryz.prog w=.ok (.agg Rf.toArray) w:=by
 have h:(Tryz.prog.info? 278).map (·.zero)=some (some (.agg Rf.toArray)):=by kernel_rfl
 cases hi:Tryz.prog.info? 278 with
 | none=>rw[hi]at h;cases h
 | some i=>
  rw[hi]at h
  have hz:i.zero=some (.agg Rf.toArray):=by simpa using h
  simp[zeroValue,typeInfo,hi,hz]
theorem Lj (w:World)(hT:Tabs w):Calls Tryz.prog 187 #[] w (Mx [] w):=by
 have hz:=Qq;have hzl:=Lq;obtain⟨t0,fr0,hf0⟩:=hT.first
 have hi8:(Tryz.prog.info? 276).map (·.size)=some (Hg.map fun(x:Nat)=>Value.int .u32 x).toArray.size:=by
  rw[show (Hg.map fun(x:Nat)=>Value.int .u32 x).toArray.size=8 by rfl];kernel_rfl
 go_enter Tryz.func187,Tryz.ntmps187
 go_wp2_with (refine wpList_load_row rfl 276 _ rfl 0 rfl t0 (Hg.map fun(x:Nat)=>Value.int .u32 x).toArray fr0 _ hf0 Tryz.underlying276 rfl hi8 ?_)
 have hf:(List.foldl (fun(cs:Array Value) x=>cs.setIfInBounds x.snd x.fst) Rf.toArray (Hg.map fun(x:Nat)=>Value.int .u32 x).zipIdx)=(Bm Hg (List.replicate 64 0) 0).toArray:=by kernel_rfl
 refine bodyPost_ret (v:=.pointer (some ⟨w.heap.size,0,none⟩)) (by simp[results,Tryz.results187,go_sem]) rfl ⟨_,rfl,Av _,(Bd _ _).alloc (Av _) _,Bl.new ?_⟩;rw[hf];exact heap_alloc_new w _
theorem Tu (w:World)(b off:Nat) :
  (Instr.sliceAt 276 (.pointer (some ⟨b,off,none⟩)) none none none).run Tryz.prog w=.ok (.slice (some ⟨b,off,none⟩) 8 8) w:=by
 have hlen:Tryz.prog.arrayLen 276 = 8:=by kernel_rfl
 rw[run_sliceAt_array_all w 276 ⟨b,off,none⟩ Tryz.underlying276,hlen];have hs:(sizeOf (Tryz.prog.elem 276)).run Tryz.prog w=.ok 1 w:=by
  have:Tryz.prog.elem 276 = 129 := by kernel_rfl
  rw[this];simp[go_sem]
 rw[hs];simp[slicedAt,Addr.add]
theorem Tv (w:World)(b off:Nat) :
  (Instr.sliceAt 272 (.pointer (some ⟨b,off,none⟩)) none none none).run Tryz.prog w=.ok (.slice (some ⟨b,off,none⟩) 64 64) w:=by
 have hlen:Tryz.prog.arrayLen 272 = 64:=by kernel_rfl
 rw[run_sliceAt_array_all w 272 ⟨b,off,none⟩ Tryz.underlying272,hlen];have hs:(sizeOf (Tryz.prog.elem 272)).run Tryz.prog w=.ok 1 w:=by
  have:Tryz.prog.elem 272 = 5 := by kernel_rfl
  rw[this];simp[go_sem]
 rw[hs];simp[slicedAt,Addr.add]
theorem Kx (w:World)(g:Nat)(m:List Nat)(hH:Bl w g m):Calls Tryz.prog 223 #[.pointer (some ⟨g,0,none⟩)] w (Mx m w):=by
 obtain⟨pend,q1,q2,q3,q4⟩:=hH.ex;have hst8:=Dd m (m.length/64);obtain⟨st,hst⟩:∃st,blocks m (m.length/64)=st:=⟨_,rfl⟩
 obtain⟨L,hL⟩:∃L,m.length%18446744073709551616=L:=⟨_,rfl⟩
 have c72:=q3.cell (Hs hst8 q1);have HST:=Af hst;have HL:=Af hL;rw[hL]at c72 q3
 rw[hst]at q3 hst8
 have hlt:=q3.lt;have hz:=Qq;have hzl:=Lq;have HQ3:=Af q3;have hcS:∀(j:Nat) (v:Value),(st.map fun(x:Nat)=>Value.int .u32 x)[j]? = some v->w.cell? ((⟨g,0,none⟩:Addr).add j)=some v:=fun j v hv=>by
  rw[List.getElem?_map]at hv
  obtain⟨x,hx,rfl⟩:=Option.map_eq_some_iff.1 hv;have hj:j<8:=by have:=(List.getElem?_eq_some_iff.1 hx).1;omega
  rw[add_plain,Nat.zero_add];refine q3.cell ?_;rw[Fo hst8 hj,Dv,hx];rfl
 have hcP:∀(j:Nat) (v:Value),(pend.map fun(x:Nat)=>Value.int .u8 x)[j]? = some v->w.cell? ((⟨g,8,none⟩:Addr).add j)=some v:=fun j v hv=>by
  rw[List.getElem?_map]at hv
  obtain⟨x,hx,rfl⟩:=Option.map_eq_some_iff.1 hv;have hj:j<64:=by have:=(List.getElem?_eq_some_iff.1 hx).1;omega
  rw[add_plain];refine q3.cell ?_;rw[Nl hst8 q1 hj,Dv,hx];rfl
 have HS8:=Af hst8;have HQ1:=Af q1;have HCS:=Af hcS;have HCP:=Af hcP;have hOne:∀(k:IntKind) (xs:List Nat),∀v∈(xs.map fun(x:Nat)=>Value.int k x),v.oneCell'=true:=fun k xs v hv=>by
  obtain⟨x,_,rfl⟩:=List.mem_map.1 hv;rfl
 have HON:=Af hOne;have hset:Rf.set 72 (.int .u64 (L:Nat))=hlen L:=Jd (by simp) (by simp);clear hL hst q3 hcS hcP hOne;obtain⟨csS,hcsS⟩:∃cs,(st.map fun(x:Nat)=>Value.int .u32 x)=cs:=⟨_,rfl⟩
 obtain⟨csP,hcsP⟩:∃cs,(pend.map fun(x:Nat)=>Value.int .u8 x)=cs:=⟨_,rfl⟩
 have hlS:csS.length=8:=by rw[<-hcsS,List.length_map];exact hst8
 have hlP:csP.length=64:=by rw[<-hcsP,List.length_map];exact q1
 have HSP1:Hid (splice (hlen L) 0 csS=Bm st (List.replicate 64 0) L):=by rw[<-hcsS];exact Ru (by simp) hst8
 have HSP2:Hid (splice (Bm st (List.replicate 64 0) L) 8 csP=Bm st pend L):=by
  rw[<-hcsP];have h:=Nc (st:=st) (pend:=List.replicate 64 0) (len:=L) (xs:=pend) (r:=0) hst8 (by simp[q1]);refine h.trans ?_
  congr 1
  unfold splice;rw[List.take_zero,List.nil_append,List.drop_of_length_le (by simp[q1]),List.append_nil]
 rw[hcsS]at HCS
 rw[hcsP]at HCP
 have HO1:Hid (∀v∈csS,v.oneCell'=true):=by rw[<-hcsS];exact HON.out _ _
 have HO2:Hid (∀v∈csP,v.oneCell'=true):=by rw[<-hcsP];exact HON.out _ _
 clear hcsS hcsP hst8 q1;go_enter Tryz.func223,Tryz.ntmps223;go_wp2;have hn0:=heap_alloc_new w (.cells (hlen L).toArray 278);have hb0:Below w.heap.size w (w.alloc (.cells (hlen L).toArray 278)):=By;have hsz0:w.heap.size<(w.alloc (.cells (hlen L).toArray 278)).heap.size:=by simp
 generalize w.alloc (.cells (hlen L).toArray 278)=w1 at *;have HN0:=Af hn0;have hcS1:∀(j:Nat) (v:Value),csS[j]? = some v->w1.cell? ((⟨g,0,none⟩:Addr).add j)=some v:=fun j v hv=>by
  have h:=HCS.out j v hv;rw[add_plain]at h ⊢
  rw[(Cd hb0).1 _ _ hlt];exact h
 have HCS1:=Af hcS1;have HF1:Hid (0+csS.length<=(hlen L).length):=by show 0+csS.length<=(hlen L).length;rw[hlS,Ur];omega
 have HM1:Hid (csS.length=Nat.min 8 8):=hlS;clear hcS1 hn0 hset;have hsl1:=Tu;have hsl2:=Tv
 go_region_law (refine Gu rfl (.tmp 15) (.tmp 19) 35 35 rfl 129 Tryz.underlying35 (by kernel_rfl) (some ⟨w.heap.size,0,none⟩) (some ⟨g,0,none⟩) 8 8 8 8 (by simp[Act.eval,Act.put,go_sem]) (by simp[Act.eval,Act.put,go_sem]) w.heap.size 0 (hlen L) 278 HN0.out csS HM1.out (fun _=>⟨rfl,_,rfl,HCS1.out⟩) HF1.out HO1.out ?_;intro w4 hg4 hb4)
 rw[HSP1.out]at hg4
 have hb5:Below w.heap.size w w4:=hb0.trans ((hb4.of_drew).below (Av _) (Nat.le_of_lt hsz0));have hcP1:∀(j:Nat) (v:Value),csP[j]? = some v->w4.cell? ((⟨g,8,none⟩:Addr).add j)=some v:=fun j v hv=>by
  have h:=HCP.out j v hv;rw[add_plain]at h ⊢
  rw[(Cd hb5).1 _ _ hlt];exact h
 have HCP1:=Af hcP1;have HB5:=Af hb5;have HF2:Hid (8+csP.length<=(Bm st (List.replicate 64 0) L).length):=by show 8+csP.length<=List.length _;rw[hlP,Kk HS8.out (by simp)];omega
 have HM2:Hid (csP.length=Nat.min 64 64):=hlP;obtain⟨cur,hcur⟩:∃cur,Bm st (List.replicate 64 0) L=cur:=⟨_,rfl⟩
 rw[hcur]at hg4 HF2 HSP2
 have HC4:=hg4;clear hcP1 hb5 hcur hg4 HN0 hb4 hb0 hsz0;go_wp2;have hs4:w.heap.size<w4.heap.size:=(Ik HC4.out).1
 go_region_law (refine Gu rfl (.tmp 24) (.tmp 28) 23 23 rfl 5 Tryz.underlying23 (by kernel_rfl) (some ⟨w.heap.size,8,none⟩) (some ⟨g,8,none⟩) 64 64 64 64 (by simp[Act.eval,Act.put,go_sem]) (by simp[Act.eval,Act.put,go_sem]) w.heap.size 8 cur 278 HC4.out csP HM2.out (fun _=>⟨rfl,_,rfl,HCP1.out⟩) HF2.out HO2.out ?_;intro w6 hg6 hb6)
 rw[HSP2.out]at hg6
 have hb7:Below w.heap.size w w6:=HB5.out.trans ((hb6.of_drew).below (Av _) (Nat.le_of_lt hs4));have HB7:=Af hb7;clear hb6 hb7;go_wp2;go_ret;refine⟨_,rfl,Av _,HB7.out,⟨pend,HQ1.out,q2,?_,q4⟩⟩;rw[HST.out,HL.out];exact hg6.out
def Jr (m:List Nat)(w:World)(e:Ending)(w':World):Prop:=∃q,e=.returned (.slice (some ⟨q,0,none⟩) 32 32)/\w.heap.size<=q/\Below w.heap.size w w'/\Bi w' q 5 .u8 (Vu m)
theorem Kt (w:World)(g:Nat)(m:List Nat)(hT:Tabs w)(hH:Bl w g m):Calls Tryz.prog 190 #[.pointer (some ⟨g,0,none⟩)] w (Jr m w):=by
 have hlt:=hH.lt;obtain⟨L,hL⟩:∃L,m.length%18446744073709551616=L:=⟨_,rfl⟩
 have hL64:L<18446744073709551616:=by omega
 have HL:=Af hL;clear hL;go_enter Tryz.func190,Tryz.ntmps190
 go_wp2_with fail
 refine(Kx w g m hH).mono ?_;rintro e w1 ⟨q,rfl,hq,hb1,hh1⟩;have hT1:=hT.below hb1 hT.size;have c72:w1.cell? ⟨g,72,none⟩=some (.int .u64 (L:Nat)):=by
  obtain⟨pend,q1,_,q3,_⟩:=(hH.below hb1 hlt).ex;have h:=q3.cell (Hs (Dd m _) q1);rw[HL.out]at h
  exact h
 go_wp2_with fail
 refine(Tc w1 L hL64).mono ?_;rintro e w2 ⟨rfl,hb2,hk2⟩;have hh2:=hh1.below hb2 hh1.lt;have hT2:=hT1.below hb2 hT1.size;have hz12:=hb1.size;have hz22:=hb2.size;have hbl:behind L=behind m.length:=by rw[<-HL.out,Xt]
 rw[hbl]at hk2
 have hnl:Cy L+9=(behind m.length).length:=by rw[<-hbl,Qm]
 have hrow:Bb w2 .u8 (some ⟨w1.heap.size,0,none⟩) (Cy L+9) (Cy L+9) (behind m.length) :=
  ⟨hnl,Av _,by have:Cy L<64:=Nat.mod_lt _ (by omega);omega,fun _=>hk2.row hnl (Av _) (by have:Cy L<64:=Nat.mod_lt _ (by omega);omega)⟩
 have hqlt:=hh1.lt;clear hbl hnl
 go_wp2_with fail
 refine(Eg w2 q m _ _ _ (behind m.length) hT2 hh2 (by have:=hT.size;omega) hrow (Td _) (fun _ a ha=>by cases ha;show w1.heap.size≠q;omega)).mono ?_;rintro e w3 ⟨rfl,hb3,hh3⟩;have hb13:Below w.heap.size w w3:=(hb1.trans (hb2.mono hz12)).trans (hb3.below hq (by omega));obtain⟨pend,q1,q2,q3,q4⟩:=hh3.ex;have hz13:=hb13.size
 go_wp2_with fail
 refine(Ou w3 q _ pend _ (Dd _ _) (Lx _ _) q3).mono ?_;rintro e w4 ⟨rfl,hb4,hk4⟩;rw[List.length_append]at hk4
 go_wp2;go_ret;exact⟨_,rfl,hz13,hb13.trans (hb4.mono hz13),hk4⟩
def dE (x y c:Nat):Nat:=if x<y+c then 1 else 0
theorem gS (x y c:Nat):dE x y c<=1:=by unfold dE;split<;>omega
theorem Lg (n:Nat)(h:n<4294967296):n.testBit 31=decide (2147483648<=n):=by
 rw[Nat.testBit_eq_decide_div_mod_eq];simp only[Nat.reducePow];rw[decide_eq_decide];omega
theorem eK (n:Nat)(h:n<4294967296):n/2147483648=(n.testBit 31).toNat:=by
 rw[Lg n h]
 by_cases h1:2147483648<=n
 .simp[h1];omega
 .simp[h1];omega
theorem Ke {a b:Nat}(h:b<4294967296):a &&& b<4294967296:=Nat.lt_of_le_of_lt Nat.and_le_right h
theorem Jt {a b:Nat}(ha:a<4294967296)(hb:b<4294967296):a ^^^ b<4294967296:=Nat.xor_lt_two_pow (n:=32) ha hb
theorem cB {a b:Nat}(ha:a<4294967296)(hb:b<4294967296):a ||| b<4294967296:=Nat.or_lt_two_pow (n:=32) ha hb
theorem Yv (x y c d:Nat)(hx:x<4294967296)(hy:y<4294967296)(hc:c<=1)(hd:d=(x+8589934592-y-c)%4294967296) :
  (((4294967295 ^^^ x) &&& y) ||| ((4294967295 ^^^ (x ^^^ y)) &&& d))/2147483648=dE x y c:=by
 have hdl:d<4294967296:=by rw[hd];exact Nat.mod_lt _ (by omega)
 rw[eK _ (cB (Ke hy) (Ke hdl))];simp only[Nat.testBit_or,Nat.testBit_and,Nat.testBit_xor];rw[Lg x hx,Lg y hy,Lg d hdl,Lg 4294967295 (by omega)];unfold dE
 by_cases h1:2147483648<=x<;>by_cases h2:2147483648<=y<;>by_cases h3:2147483648<=d<;>by_cases h4:x<y+c<;>simp[h1,h2,h3,h4]<;>omega
theorem Wc (x y c:Nat)(hx:x<4294967296)(hy:y<4294967296)(hc:c<=1) :
  bits BinOp.or IntKind.u32 (bits BinOp.and IntKind.u32 (bits BinOp.xor IntKind.u32 IntKind.u32.max ↑x) ↑y)
        (bits BinOp.and IntKind.u32
         (bits BinOp.xor IntKind.u32 IntKind.u32.max (bits BinOp.xor IntKind.u32 ↑x ↑y))
         (((x:Int)-y-c)%4294967296))/2147483648=(dE x y c:Nat):=by
 have hm:IntKind.u32.max=((4294967295:Nat):Int):=rfl;obtain⟨d,hd⟩:∃d,d=(x+8589934592-y-c)%4294967296:=⟨_,rfl⟩
 have hd':((x:Int)-y-c)%4294967296=(d:Nat):=by omega
 have hdl:d<4294967296:=by omega
 rw[hm,hd',u32_xor_nat _ _ (by omega) hx,u32_xor_nat _ _ hx hy,u32_xor_nat _ _ (by omega) (Jt hx hy),u32_and_nat _ _ (Jt (by omega) hx) hy,
  u32_and_nat _ _ (Jt (by omega) (Jt hx hy)) hdl,u32_or_nat _ _ (Ke hy) (Ke hdl)]
 have:=Yv x y c d hx hy hc hd;omega
theorem Ts (x y c:Nat)(w:World)(hx:x<4294967296)(hy:y<4294967296)(hc:c<=1) :
  Calls Tryz.prog 172 #[.int .u32 x,.int .u32 y,.int .u32 c] w fun e w'=>
   e=.returned (.tuple #[.int .u32 (((x:Int)-y-c)%4294967296),.int .u32 (dE x y c:Nat)])/\w=w':=by
 have hs:IntKind.u32.signed=false:=rfl;have hq:=Af (Wc x y c hx hy hc);go_enter Tryz.func172,Tryz.ntmps172;go_wp2
 go_ret2
 have e6:(((x:Int)-y)%4294967296-c)%4294967296=((x:Int)-y-c)%4294967296:=by omega
 exact⟨by rw[hq.out];exact congrArg (fun z=>Ending.returned (.tuple #[.int .u32 z,.int .u32 (dE x y c:Nat)])) e6,rfl⟩
structure Mc (A B:List Nat) (k:Nat) (S:List Nat) (bw:Nat):Prop where
 len:S.length=k
 words:Words S
 carry:bw<=1
 eq:val S+val (B.take k)=val (A.take k)+Al k*bw
theorem Mc.start (A B:List Nat):Mc A B 0 [] 0:=⟨rfl,Words.nil,by omega,by simp[val]⟩
theorem Mc.step {A B:List Nat}{k:Nat}{S:List Nat}{bw d:Nat}(h:Mc A B k S bw)(hA:Words A)(hB:Words B)(hd:(d:Int)=(((A.getD k 0:Nat):Int)-(B.getD k 0:Nat)-bw)%4294967296) :
  Mc A B (k+1) (S++[d]) (dE (A.getD k 0) (B.getD k 0) bw):=by
 have h1:=hA.get k;have h2:=hB.get k;have h3:=h.carry;refine⟨by simp[h.len],h.words.snoc (by omega),gS _ _ _,?_⟩;rw[Da,h.len,Ar,Ar,Bk];have e:=h.eq;have hb:d+B.getD k 0+bw=A.getD k 0+4294967296*dE (A.getD k 0) (B.getD k 0) bw:=by
  unfold dE;split<;>omega
 generalize A.getD k 0=x at *;generalize B.getD k 0=y at *;generalize dE x y bw=q at *;generalize Al k=b at *;have e2:b*(d+y+bw)=b*(x+4294967296*q):=by rw[hb]
 have e3:b*(4294967296*q)=4294967296*b*q:=by rw[<-Nat.mul_assoc,Nat.mul_comm b]
 rw[Nat.mul_add,Nat.mul_add,Nat.mul_add,e3]at e2
 omega
theorem Mc.last {A B:List Nat}{k:Nat}{S:List Nat}{bw:Nat}(h:Mc A B k S bw)(hA:A.length=k)(hB:B.length<=k)(hle:val B<=val A):val S=val A-val B:=by
 have e:=h.eq;rw[List.take_of_length_le (l:=A) (by omega),List.take_of_length_le hB]at e
 have h1:=h.words.lt;rw[h.len]at h1
 have h2:=h.carry;rcases Nat.lt_or_ge bw 1 with h3|h3
 .obtain rfl:bw=0:=by omega
  omega
 .obtain rfl:bw=1:=by omega
  omega
def dZ (N M:Nat)(w:World)(e:Ending)(w':World):Prop:=∃p n c,e=.returned (.tuple #[.agg #[.slice p n c],.bool (decide (M<=N))])/\Ah w' p n c (N-M)/\Below w.heap.size w w'/\El w.heap.size p
theorem Yu (w:World)(pa:Option Addr)(na ca N:Nat)(pb:Option Addr)(nb cb M:Nat)(hA:Ah w pa na ca N)(hB:Ah w pb nb cb M)(hs:na<1000000)(hsb:nb<1000000) :
  Calls Tryz.prog 113 #[.agg #[.slice pa na ca],.agg #[.slice pb nb cb]] w (dZ N M w):=by
 have hb0:Below w.heap.size w (((w.alloc (.cells #[.slice pa na ca] 37)).alloc (.cells #[.slice pb nb cb] 37)).alloc (.cells #[.slice none 0 0] 37)) :=
  (((Bd _ w).alloc (Av _) _).alloc (by simp) _).alloc (by simp;omega) _
 by_cases hlt:N<M
 .have hcm:Bp N M = -1:=Dp hlt;go_enter Tryz.func113,Tryz.ntmps113
  go_wp2_with fail
  refine(Ft _ pa pb na ca N nb cb M (hA.below hb0) (hB.below hb0) hs hsb).mono ?_;rintro e w1 ⟨rfl,hb1⟩;obtain⟨hc,hf⟩:=Cd hb1;have hz:=hb1.size;simp only[World.size_alloc]at hz;go_wp2;refine bodyPost_ret (v:=.tuple #[.agg #[.slice none 0 0],.bool false]) (by simp[results,Tryz.results113,go_sem,hc]) rfl ⟨none,0,0,by simp[show ¬M<=N by omega],?_,?_,El.none _⟩
  .exact⟨[],Row.nil _ _,Words.nil,by simp,by simp[val];omega⟩
  .exact(hb0.trans (hb1.mono (by simp;omega))).setCell (by simp;omega) _
 .have hcm:¬Bp N M<0:=by
   unfold Bp;rw[if_neg hlt];split<;>omega
  obtain⟨A,a1,a2,a3,rfl⟩:=hA.ex;obtain⟨B,b1,b2,b3,rfl⟩:=hB.ex;have HA:=Af a1.len;have HB:=Af b1.len;have hle:nb<=na:=by
   rcases Nat.lt_or_ge na nb with h|h
   .exact absurd (hA.len_lt hB h) hlt
   .exact h
  have hmk:=Fz na (by omega);go_enter Tryz.func113,Tryz.ntmps113
  go_wp2_with fail
  refine(Ft _ pa pb na ca _ nb cb _ (hA.below hb0) (hB.below hb0) hs hsb).mono ?_;rintro e w1 ⟨rfl,hb1⟩;have hbx:=(Ci.mk3 w (.slice pa na ca) (.slice pb nb cb) (.slice none 0 0) 37 37 37).later hb1;have c0:=hbx.c0;have c1:=hbx.c1;have c2:=hbx.c2;have f2:=hbx.f2;have hz0:w.heap.size<w1.heap.size:=by have:=hbx.size;omega
  have hz1:w.heap.size+1<w1.heap.size:=by have:=hbx.size;omega
  have hz2:w.heap.size+1+1<w1.heap.size:=by have:=hbx.size;omega
  have HC:=Af (show decide (Bp (val A) (val B)<0)=false by simpa using hcm);go_wp2
  go_loopw [7,22] (fun cy i wr=>∃k c:Nat,∃S,k<=na/\i=.int .i64 k/\cy=.int .u32 c/\Ci w wr (.slice pa na ca) (.slice pb nb cb) (.slice none 0 0)/\w1.heap.size<wr.heap.size/\Below w1.heap.size w1 wr/\Mc A B k S c/\Bi wr w1.heap.size 129 .u32 (S++List.replicate (na-k) 0)) (fun _ i _=>na-(intOf i).toNat)
  case atStart=>
   refine⟨0,0,[],by omega,rfl,rfl,hbx.alloc _,by simp,(Bd _ _).alloc (Av _) _,Mc.start A B,?_⟩;exact Bi.zeros _ _ _ _
  case round=>
   obtain⟨k,bw,S,hk,rfl,rfl,hbr,hsr,hbw,hS,hblk⟩:=hrel;clear c0 c1 c2 f2;have d0:=hbr.c0;have d1:=hbr.c1;have d2:=hbr.c2;have g2:=hbr.f2
   by_cases hkn:k<na
   .obtain⟨b,off,rfl,hb,hc⟩:=a1.pos (by omega);obtain⟨x,hx⟩:∃x,A.getD k 0=x:=⟨_,rfl⟩
    obtain⟨y,hy⟩:∃y,B.getD k 0=y:=⟨_,rfl⟩
    have hci:wr.cell? ⟨b,off+k,none⟩=some (.int .u32 (x:Nat)):=by
     rw[(Cd hbr.bel).1 _ _ hb];exact hc k x (by rw[<-hx,Dv];simp[show k<A.length by have:=HA.out;omega])
    have HX:=Af hx;have HY:=Af hy;have HSk:=Af hS.len;clear hc hx hy;have hg0:=hblk.zero_cell HSk.out (by omega);have hgf:=hblk.free k
    go_wp2_with fail
    refine(Ep wr pb nb cb B k y (b1.below hbr.bel) (by omega) HY.out).mono ?_;rintro e w2 ⟨rfl,hb2⟩;have hy:y<4294967296:=by rw[<-HY.out];exact b2.get k
    have hx':x<4294967296:=by rw[<-HX.out];exact a2.get k
    have hcy:=hS.carry;have hg0':=((Cd hb2).1 _ k hblk.lt).trans hg0;have hgf':=((Cd hb2).2 _ k hblk.lt).trans hgf;obtain⟨d,hd⟩:∃d:Nat,(d:Int)=((x:Int)-y-bw)%4294967296:=⟨(((x:Int)-y-bw)%4294967296).toNat,by omega⟩
    have HD:=Af hd;clear hd
    go_wp2_with fail
    refine(Ts x y bw _ hx' hy hcy).mono ?_;rintro e w3 ⟨rfl,rfl⟩;rw[<-HD.out];go_wp2;go_roundw
    case rel=>
     refine⟨k+1,_,S++[d],by omega,by go_num,rfl,(hbr.later hb2).below (B:=w.heap.size+3) ((Bd _ _).setCell (by simp;omega) _) (Av _),by have:=hb2.size;simp;omega,(hbw.trans (hb2.mono (by omega))).setCell (by simp) _,?_,?_⟩
     .have:=hS.step (d:=d) a2 b2 (by rw[HX.out,HY.out];exact HD.out);rw[HX.out,HY.out]at this
      exact this
     .exact(hblk.below hb2 hblk.lt).next HSk.out (by omega) d
    case measure=>clear HD;simp[intOf];omega
   .have hkn':na<=k:=by omega
    have hrow:=(hblk.row (n:=na) (c:=na) (by have:=hS.len;simp;omega) (Av _) (by omega))
    have hw2:Words (S++List.replicate (na-k) 0):=hS.words.append (Words.zeros _)
    go_wp2_with fail
    refine(Ca _ _ _ _ _ hrow hw2).mono ?_;rintro e w2 ⟨p,n,c,rfl,hn,hb2,hp⟩;have hbx3:=hbr.later hb2;have k2:=hbx3.c2;have e2:=hbx3.f2;have hn':El w1.heap.size p:=by
     intro q hq;rcases hp with rfl|rfl
     .cases hq
     .cases hq;simp
    have hv:val (S++List.replicate (na-k) 0)=val A-val B:=by
     rw[val_append,Hb,Nat.mul_zero,Nat.add_zero];exact hS.last (by have:=HA.out;omega) (by have:=HB.out;omega) (by omega)
    have HV:=Af hv;clear hv;go_wp2;refine bodyPost_ret (v:=.tuple #[.agg #[.slice p n c],.bool true]) (by simp[results,Tryz.results113,go_sem,k2]) rfl ⟨p,n,c,by simp[show val B<=val A by omega],?_,?_,hn'.mono (by omega)⟩
    .rw[<-HV.out];exact hn.setCell (a:=⟨w.heap.size+1+1,0,none⟩) (hn'.ne hz2) (.slice p n c)
    .exact hbx3.bel.setCell (by simp;omega) _
structure Part where
 p:Option Addr
 n:Nat
 c:Nat
 bs:List Nat
structure Bu (w:World) (P:Part):Prop where
 row:Bb w .u8 P.p P.n P.c P.bs
 bytes:Au P.bs
theorem Bu.below {w w':World}{P:Part}(h:Bu w P)(hb:Below w.heap.size w w'):Bu w' P:=⟨h.row.below hb,h.bytes⟩
def whole (L:List Part):List Nat:=L.flatMap (·.bs)
theorem Ol (L:List Part)(P:Part):whole (L++[P])=whole L++P.bs:=by simp[whole]
structure Ei (w:World) (p:Option Addr) (n c:Nat) (L:List Part):Prop where
 len:n=L.length
 cap:n<=c
 max:c<=9223372036854775807
 ok:∀(i:Nat) (P:Part),L[i]? = some P->Bu w P
 cells:0<n->∃b off,p=some ⟨b,off,none⟩/\b<w.heap.size/\∀(i:Nat) (P:Part),L[i]? = some P->w.cell? ⟨b,off+i,none⟩=some (.slice P.p P.n P.c)
theorem Ei.below {w w':World}{p:Option Addr}{n c:Nat}{L:List Part}(h:Ei w p n c L)(hb:Below w.heap.size w w'):Ei w' p n c L :=
 ⟨h.len,h.cap,h.max,fun i P hP=>(h.ok i P hP).below hb,fun h0=>by
  obtain⟨b,off,h1,h2,h3⟩:=h.cells h0;exact⟨b,off,h1,Dk h2 hb.size,fun i P hP=>by rw[hb.cell (p:=⟨b,off+i,none⟩) h2];exact h3 i P hP⟩⟩
theorem Yt (w:World)(p:Option Addr)(n c:Nat)(L:List Part)(hT:Tabs w)(hL:Ei w p n c L):Calls Tryz.prog 242 #[.slice p n c] w (Jr (whole L) w):=by
 have HL:Aa (Ei w p n c L):=⟨hL⟩
 have hlen:Aa (n=L.length):=⟨hL.len⟩
 have hcap:=hL.cap;have hmax:=hL.max;clear hL;go_enter Tryz.func242,Tryz.ntmps242
 go_wp2_with fail
 refine(Lj w hT).mono ?_;rintro e w1 ⟨g,rfl,hg,hb1,hh1⟩;go_wp2
 go_loopw [9] (fun i wr=>∃k:Nat,k<=n/\i=.int .i64 k/\Below w.heap.size w wr/\Bl wr g (whole (L.take k))) (fun i _=>n-(intOf i).toNat)
 case atStart=>exact⟨0,by omega,rfl,hb1,hh1⟩
 case round=>
  obtain⟨k,hk,rfl,hbel,hash⟩:=hrel;have hTr:=hT.below hbel hT.size;have hsz:=hT.size
  by_cases hkn:k<n
  .obtain⟨b,off,rfl,hb,hc⟩:=HL.out.cells (by omega);obtain⟨P,hP⟩:∃P,L[k]? = some P:=⟨_,List.getElem?_eq_getElem (by have:=hlen.out;omega)⟩
   have hok:=(HL.out.ok k P hP).below hbel;have hblt:0<P.n->∀q,P.p=some q->q.block≠g:=fun h0 q hq=>by
    obtain⟨b',off',e,h2,_⟩:=((HL.out.ok k P hP).row.row h0).pos h0;rw[hq]at e;cases e
    show b'≠g;omega
   have hck:wr.cell? ⟨b,off+k,none⟩=some (.slice P.p P.n P.c):=by
    rw[(Cd hbel).1 _ _ hb];exact hc k P hP
   have htk:Aa (whole (L.take (k+1))=whole (L.take k)++P.bs):=⟨by rw[List.take_add_one,hP];exact Ol _ _⟩
   have HOK:Aa (Bu wr P):=⟨hok⟩
   have HNE:Aa (0<P.n->∀q,P.p=some q->q.block≠g):=⟨hblt⟩
   clear hc hP hok hblt;obtain⟨pp,pn,pc,pb⟩:=P
   dsimp only at *
   go_wp2_with fail
   refine(Eg wr g _ pp pn pc pb hTr hash (by omega) HOK.out.row HOK.out.bytes HNE.out).mono ?_;rintro e w2 ⟨rfl,hb2,hh2⟩;rw[<-htk.out]at hh2
   have hz:w.heap.size<=wr.heap.size:=hbel.size;have hbel2:=hbel.trans (hb2.below hg hz);go_wp2;go_roundw
   case rel=>exact⟨k+1,by omega,by go_num,hbel2,hh2⟩
   case measure=>simp[intOf];omega
  .obtain rfl:k=n:=by omega
   rw[List.take_of_length_le (by have:=hlen.out;omega)]at hash
   have hz:w.heap.size<=wr.heap.size:=hbel.size
   go_wp2_with fail
   refine(Kt wr g _ hTr hash).mono ?_;rintro e w3 ⟨q,rfl,hq,hb3,hk3⟩;go_wp2;go_ret;exact⟨q,rfl,by omega,hbel.trans (hb3.mono hz),hk3⟩
def strOf (bs:List Nat):ByteArray:=strOfNums (bs.map fun(x:Nat)=>(x:Int))
theorem Vi {w:World}{p:Option Addr}{n c:Nat}{bs:List Nat}(h:Row w .u8 p n c bs) :
  (convert 23 9 (.slice p n c)).run Tryz.prog w=.ok (.string (strOf bs)) w:=by
 rcases h.at_ with ⟨rfl,rfl,rfl⟩|⟨b,off,rfl,hb,hc⟩
 .have hl:=h.len;have:bs=[]:=List.eq_nil_of_length_eq_zero hl.symm;subst this;rw[run_convert_bytes_nil w 23 5 (by kernel_rfl) (by kernel_rfl) _ _ _ (by kernel_rfl)];rfl
 .refine run_convert_bytes_arg w 23 5 (by kernel_rfl) (by kernel_rfl) b off n c _ (by simp[h.len]) ?_ _ (by kernel_rfl);intro i hi;have hl:=h.len;rw[hc i (bs.getD i 0) (by rw[Dv];simp[show i<bs.length by omega])];simp[Dv,show i<bs.length by omega]
theorem Qk (w:World)(p:Option Addr)(c:Nat):(convert 23 9 (.slice p 0 c)).run Tryz.prog w=.ok (.string (strOf [])) w:=by
 rw[run_convert_bytes_string w 23 9 5 p 0 c (by kernel_rfl) (by kernel_rfl) (by kernel_rfl)]
 cases p with
 | none=>rfl
 | some a=>rfl
theorem Dl {w:World}{p:Option Addr}{n c:Nat}{bs:List Nat}(h:Bb w .u8 p n c bs) :
  (convert 23 9 (.slice p n c)).run Tryz.prog w=.ok (.string (strOf bs)) w:=by
 rcases Nat.eq_zero_or_pos n with rfl|h0
 .have:bs=[]:=List.eq_nil_of_length_eq_zero h.len.symm;rw[this];exact Qk w p c
 .exact Vi (h.row h0)
theorem bZ (w:World)(P:Part)(hP:Bu w P):Ei (w.alloc (.cells #[.slice P.p P.n P.c] 23)) (some ⟨w.heap.size,0,none⟩) 1 1 [P]:=by
 have hb:Below w.heap.size w (w.alloc (.cells #[.slice P.p P.n P.c] 23)):=By;have hn:=heap_alloc_new w (.cells #[.slice P.p P.n P.c] 23);refine⟨rfl,Av _,by omega,fun i X hX=>?_,fun _=>⟨w.heap.size,0,rfl,by simp,fun i X hX=>?_⟩⟩
 .match i,hX with
  | 0,h=>cases h;exact hP.below hb
 .match i,hX with
  | 0,h=>cases h;unfold World.cell?;dsimp only;rw[hn];rfl
theorem Qs (P:Part):whole [P]=P.bs:=by simp[whole]
theorem fZ (w:World)(P Q R:Part)(hP:Bu w P)(hQ:Bu w Q)(hR:Bu w R):Ei (w.alloc (.cells #[.slice P.p P.n P.c,.slice Q.p Q.n Q.c,.slice R.p R.n R.c] 23)) (some ⟨w.heap.size,0,none⟩) 3 3 [P,Q,R]:=by
 have hb:Below w.heap.size w (w.alloc (.cells #[.slice P.p P.n P.c,.slice Q.p Q.n Q.c,.slice R.p R.n R.c] 23)):=By;have hn:=heap_alloc_new w (.cells #[.slice P.p P.n P.c,.slice Q.p Q.n Q.c,.slice R.p R.n R.c] 23);refine⟨rfl,Av _,by omega,fun i X hX=>?_,fun _=>⟨w.heap.size,0,rfl,by simp,fun i X hX=>?_⟩⟩
 .match i,hX with
  | 0,h=>cases h;exact hP.below hb
  | 1,h=>cases h;exact hQ.below hb
  | 2,h=>cases h;exact hR.below hb
 .match i,hX with
  | 0,h=>cases h;unfold World.cell?;dsimp only;rw[hn];rfl
  | 1,h=>cases h;unfold World.cell?;dsimp only;rw[hn];rfl
  | 2,h=>cases h;unfold World.cell?;dsimp only;rw[hn];rfl
open Go Go.RowKit Go.Proofs.YtokhckjemidbpaaGreatDoor.Flow
def Fit (e N:Nat)(v:Value)(w:World):Prop:=∃p n c,v=.agg #[.slice p n c]/\Ah w p n c N/\N<Al e
theorem Fit.below {e N:Nat}{v:Value}{w w':World}(h:Fit e N v w)(hb:Below w.heap.size w w'):Fit e N v w' :=
 let ⟨p,n,c,h1,h2,h3⟩:=h
 ⟨p,n,c,h1,h2.below hb,h3⟩
theorem Fit.of {e N p n c}{w:World}(h:Ah w p n c N)(hN:N<Al e):Fit e N (.agg #[.slice p n c]) w:=⟨p,n,c,rfl,h,hN⟩
theorem Fit.lim {e N:Nat}{v:Value}{w:World}(h:Fit e N v w):N<Al e:=let ⟨_,_,_,_,_,h3⟩:=h;h3
theorem fA {e f N M:Nat}(h:N<Al e)(k:M<Al f):N+M<Al (e+f+1):=by
 have h1:Al e<=Al (e+f):=Bz (by omega);have h2:Al f<=Al (e+f):=Bz (by omega);rw[Bk];omega
theorem eZ {e f N M:Nat}(h:N<Al e)(k:M<Al f):N*M<Al (e+f):=by
 rw[Th];exact Nat.mul_lt_mul'' h k
theorem Ma {w:World}{v u:Value}{e f N M:Nat}(h:Fit e N v w)(k:Fit f M u w)(he:e<=900000)(hf:f<=900000) :
  Calls Tryz.prog 94 #[v,u] w fun en w'=>∃x,en=.returned x/\Fit (e+f+1) (N+M) x w'/\Below w.heap.size w w':=by
 obtain⟨p,n,c,rfl,h1,h2⟩:=h;obtain⟨q,m,d,rfl,k1,k2⟩:=k;have l1:=h1.len_le h2;have l2:=k1.len_le k2;refine(Ro w p n c N q m d M h1 k1 (by omega) (by omega)).mono ?_;rintro en w' ⟨r,l,g,rfl,hr,hb,_⟩;exact⟨_,rfl,Fit.of hr (fA h2 k2),hb⟩
theorem Ll {w:World}{v u:Value}{e f N M:Nat}(h:Fit e N v w)(k:Fit f M u w)(he:e<=900000)(hf:f<=900000) :
  Calls Tryz.prog 95 #[v,u] w fun en w'=>∃x,en=.returned x/\Fit (e+f) (N*M) x w'/\Below w.heap.size w w':=by
 obtain⟨p,n,c,rfl,h1,h2⟩:=h;obtain⟨q,m,d,rfl,k1,k2⟩:=k;have l1:=h1.len_le h2;have l2:=k1.len_le k2;refine(Zh w p n c N q m d M h1 k1 (by omega) (by omega)).mono ?_;rintro en w' ⟨r,l,g,rfl,hr,hb,_⟩;exact⟨_,rfl,Fit.of hr (eZ h2 k2),hb⟩
theorem Sv {w:World}{v u:Value}{e f N M:Nat}(h:Fit e N v w)(k:Fit f M u w)(he:e<=900000)(hf:f<=900000) :
  Calls Tryz.prog 24 #[v,u] w fun en w'=>∃x,en=.returned x/\x=.int .i64 (Bp N M)/\Below w.heap.size w w':=by
 obtain⟨p,n,c,rfl,h1,h2⟩:=h;obtain⟨q,m,d,rfl,k1,k2⟩:=k;have l1:=h1.len_le h2;have l2:=k1.len_le k2;refine(Ft w p q n c N m d M h1 k1 (by omega) (by omega)).mono ?_;rintro en w' ⟨rfl,hb⟩;exact⟨_,rfl,rfl,hb⟩
theorem Rt {w:World}{v u:Value}{e f N M:Nat}(h:Fit e N v w)(k:Fit f M u w)(he:e<=900000)(hf:f<=900000) :
  Calls Tryz.prog 113 #[v,u] w fun en w'=>∃x,en=.returned (.tuple #[x,.bool (decide (M<=N))])/\Fit e (N-M) x w'/\Below w.heap.size w w':=by
 obtain⟨p,n,c,rfl,h1,h2⟩:=h;obtain⟨q,m,d,rfl,k1,k2⟩:=k;have l1:=h1.len_le h2;have l2:=k1.len_le k2;refine(Yu w p n c N q m d M h1 k1 (by omega) (by omega)).mono ?_;rintro en w' ⟨r,l,g,rfl,hr,hb,_⟩;exact⟨_,rfl,Fit.of hr (by omega),hb⟩
theorem Kb (N:Nat):Bp N N=0:=by simp[Bp]
structure Ap (B:Nat) (w w':World):Prop where
 bel:Below B w w'
 nat:∀p n c N,Ah w p n c N->Ah w' p n c N
theorem Ap.of {B:Nat}{w w':World}(h:Below w.heap.size w w')(hB:B<=w.heap.size):Ap B w w':=⟨h.mono hB,fun _ _ _ _ k=>k.below h⟩
theorem Fit.keep {e N B:Nat}{v:Value}{w w':World}(h:Fit e N v w)(k:Ap B w w'):Fit e N v w' :=
 let ⟨p,n,c,h1,h2,h3⟩:=h
 ⟨p,n,c,h1,k.nat _ _ _ _ h2,h3⟩
def Ae (w:World)(b:Nat)(u:Value):Prop:=w.heap[b]? = some (.cells #[u] 37 (0,0))
theorem Ae.below {w w':World}{b B:Nat}{u:Value}(h:Ae w b u)(hb:Below B w w')(hB:b<B):Ae w' b u:=by
 unfold Ae at *;rw[hb.block b hB];exact h
theorem Ae.cell {w:World}{b:Nat}{u:Value}(h:Ae w b u):w.cell? ⟨b,0,none⟩=some u:=by
 unfold Ae at h;simp[World.cell?,h]
theorem Ae.free {w:World}{b:Nat}{u:Value}(h:Ae w b u):w.frozen? ⟨b,0,none⟩=false:=by
 unfold Ae at h;simp[World.frozen?,h]
theorem Ae.lt {w:World}{b:Nat}{u:Value}(h:Ae w b u):b<w.heap.size:=(Ik h).1
theorem Ae.set {w:World}{b:Nat}{u:Value}(h:Ae w b u)(v:Value):Ae (w.setCell ⟨b,0,none⟩ v) b v:=by
 unfold Ae at *;simp[World.setCell,Array.getElem?_modify,h]
theorem Ae.made (w:World)(u:Value):Ae (w.alloc (.cells #[u] 37)) w.heap.size u:=by
 show (w.heap.push _)[w.heap.size]? = _;simp
theorem Ah.store {w:World}{p:Option Addr}{n c N b m d:Nat}{q:Option Addr}(h:Ah w p n c N)(hb:Ae w b (.slice q m d))(v:Value):Ah (w.setCell ⟨b,0,none⟩ v) p n c N:=by
 obtain⟨ws,r1,r2,r3,r4⟩:=h.ex;rcases Nat.eq_zero_or_pos n with h0|h0
 .refine⟨ws,⟨r1.len,r1.cap,r1.max,?_⟩,r2,r3,r4⟩;rcases r1.at_ with k|⟨b',off,k1,k2,_⟩
  .exact .inl k
  .refine .inr ⟨b',off,k1,by simpa using k2,fun i x hx=>?_⟩;have:ws=[]:=List.eq_nil_of_length_eq_zero (by rw[<-r1.len];exact h0);rw[this]at hx;cases hx
 .refine h.setCell (a:=⟨b,0,none⟩) ?_ v;intro a ha hab;obtain⟨b',off,k1,k2,k3⟩:=r1.pos h0;rw[k1]at ha;cases ha
  have hbb:b'=b:=hab;subst hbb;have h1:=k3 0 (ws.getD 0 0) (by rw[Dv];simp[show 0<ws.length by rw[<-r1.len];exact h0]);unfold Ae at hb;simp only[World.cell?,hb,Nat.add_zero]at h1
  cases off with
  | zero=>simp at h1
  | succ k=>simp at h1
theorem Ap.store {B:Nat}{w:World}{b m d:Nat}{q:Option Addr}(hb:Ae w b (.slice q m d))(hB:B<=b)(v:Value):Ap B w (w.setCell ⟨b,0,none⟩ v) :=
 ⟨(Bd _ _).setCell hB _,fun _ _ _ _ k=>k.store hb v⟩
end Go.Proofs.YtokhckjemidbpaaGreatDoor
