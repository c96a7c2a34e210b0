/- The greatest number that divides two. -/
import Derived.Test.YtnbmfaihlefgfaaGreatDoorShaA
import Derived.Laws.BytesArg
import Derived.Laws.BytesString
import Derived.WideShapes
import Derived.Test.YtnbmfaihlefgfaaGreatDoorFlowR
import Derived.Test.YtnbmfaihlefgfaaGreatDoorDiv
import Derived.Test.YtnbmfaihlefgfaaGreatDoorRefN
import Derived.Deep.LoopGhost
set_option maxRecDepth 1000000
set_option maxHeartbeats 16000000
set_option linter.all false
namespace Go.Proofs.YtnbmfaihlefgfaaGreatDoor
open Go Go.RowKit
def Qe (m:List Nat)(w:World)(e:Ending)(w':World):Prop:=∃g,e=.returned (.pointer (some ⟨g,0,none⟩))/\w.heap.size<=g/\Below w.heap.size w w'/\Cd w' g m
theorem Cd.new {w:World}{g:Nat}(h:Eu w g Jg (List.replicate 64 0) 0):Cd w g [] :=
 ⟨List.replicate 64 0,by simp,fun x hx=>by have:=(List.mem_replicate.1 hx).2;omega,h,rfl⟩
def Vg:List Value:=Cg (List.replicate 8 0) (List.replicate 64 0) 0
def hlen (L:Nat):List Value:=Cg (List.replicate 8 0) (List.replicate 64 0) L
theorem Zm (L:Nat):(hlen L).length=73:=rfl
theorem Ow:Vg.length=73:=rfl
theorem Ul (w:World):(zeroValue 266).run Tryz.prog w=.ok (.agg Vg.toArray) w:=by
 have h:(Tryz.prog.info? 266).map (·.zero)=some (some (.agg Vg.toArray)):=by kernel_rfl
 cases hi:Tryz.prog.info? 266 with
 | none=>rw[hi]at h;cases h
 | some i=>
  rw[hi]at h
  have hz:i.zero=some (.agg Vg.toArray):=by simpa using h
  simp[zeroValue,typeInfo,hi,hz]
theorem Om (w:World)(hT:Tabs w):Calls Tryz.prog 211 #[] w (Qe [] w):=by
 have hz:=Ul;have hzl:=Ow;obtain⟨t0,fr0,hf0⟩:=hT.first
 have hi8:(Tryz.prog.info? 264).map (·.size)=some (Jg.map fun(x:Nat)=>Value.int .u32 x).toArray.size:=by
  rw[show (Jg.map fun(x:Nat)=>Value.int .u32 x).toArray.size=8 by rfl];kernel_rfl
 go_enter Tryz.func211,Tryz.ntmps211
 go_wp2_with (refine wpList_load_row rfl 264 _ rfl 1 rfl t0 (Jg.map fun(x:Nat)=>Value.int .u32 x).toArray fr0 _ hf0 Tryz.underlying264 rfl hi8 ?_)
 have hf:(List.foldl (fun(cs:Array Value) x=>cs.setIfInBounds x.snd x.fst) Vg.toArray (Jg.map fun(x:Nat)=>Value.int .u32 x).zipIdx)=(Cg Jg (List.replicate 64 0) 0).toArray:=by kernel_rfl
 refine bodyPost_ret (v:=.pointer (some ⟨w.heap.size,0,none⟩)) (by simp[results,Tryz.results211,go_sem]) rfl ⟨_,rfl,Av _,(Br _ _).alloc (Av _) _,Cd.new ?_⟩;rw[hf];exact heap_alloc_new w _
theorem Yk (w:World)(b off:Nat) :
  (Instr.sliceAt 264 (.pointer (some ⟨b,off,none⟩)) none none none).run Tryz.prog w=.ok (.slice (some ⟨b,off,none⟩) 8 8) w:=by
 have hlen:Tryz.prog.arrayLen 264 = 8:=by kernel_rfl
 rw[run_sliceAt_array_all w 264 ⟨b,off,none⟩ Tryz.underlying264,hlen];have hs:(sizeOf (Tryz.prog.elem 264)).run Tryz.prog w=.ok 1 w:=by
  have:Tryz.prog.elem 264 = 130 := by kernel_rfl
  rw[this];simp[go_sem]
 rw[hs];simp[slicedAt,Addr.add]
theorem Yl (w:World)(b off:Nat) :
  (Instr.sliceAt 260 (.pointer (some ⟨b,off,none⟩)) none none none).run Tryz.prog w=.ok (.slice (some ⟨b,off,none⟩) 64 64) w:=by
 have hlen:Tryz.prog.arrayLen 260 = 64:=by kernel_rfl
 rw[run_sliceAt_array_all w 260 ⟨b,off,none⟩ Tryz.underlying260,hlen];have hs:(sizeOf (Tryz.prog.elem 260)).run Tryz.prog w=.ok 1 w:=by
  have:Tryz.prog.elem 260 = 5 := by kernel_rfl
  rw[this];simp[go_sem]
 rw[hs];simp[slicedAt,Addr.add]
theorem Ny (w:World)(g:Nat)(m:List Nat)(hH:Cd w g m):Calls Tryz.prog 233 #[.pointer (some ⟨g,0,none⟩)] w (Qe m w):=by
 obtain⟨pend,q1,q2,q3,q4⟩:=hH.ex;have hst8:=Ei m (m.length/64);obtain⟨st,hst⟩:∃st,blocks m (m.length/64)=st:=⟨_,rfl⟩
 obtain⟨L,hL⟩:∃L,m.length%18446744073709551616=L:=⟨_,rfl⟩
 have c72:=q3.cell (Kd hst8 q1);have HST:=Ag hst;have HL:=Ag hL;rw[hL]at c72 q3
 rw[hst]at q3 hst8
 have hlt:=q3.lt;have hz:=Ul;have hzl:=Ow;have HQ3:=Ag q3;have hcS:∀(j:Nat) (v:Value),(st.map fun(x:Nat)=>Value.int .u32 x)[j]? = some v->w.cell? ((⟨g,0,none⟩:Addr).add j)=some v:=fun j v hv=>by
  rw[List.getElem?_map]at hv
  obtain⟨x,hx,rfl⟩:=Option.map_eq_some_iff.1 hv;have hj:j<8:=by have:=(List.getElem?_eq_some_iff.1 hx).1;omega
  rw[add_plain,Nat.zero_add];refine q3.cell ?_;rw[Hb hst8 hj,Ex,hx];rfl
 have hcP:∀(j:Nat) (v:Value),(pend.map fun(x:Nat)=>Value.int .u8 x)[j]? = some v->w.cell? ((⟨g,8,none⟩:Addr).add j)=some v:=fun j v hv=>by
  rw[List.getElem?_map]at hv
  obtain⟨x,hx,rfl⟩:=Option.map_eq_some_iff.1 hv;have hj:j<64:=by have:=(List.getElem?_eq_some_iff.1 hx).1;omega
  rw[add_plain];refine q3.cell ?_;rw[Qv hst8 q1 hj,Ex,hx];rfl
 have HS8:=Ag hst8;have HQ1:=Ag q1;have HCS:=Ag hcS;have HCP:=Ag hcP;have hOne:∀(k:IntKind) (xs:List Nat),∀v∈(xs.map fun(x:Nat)=>Value.int k x),v.oneCell'=true:=fun k xs v hv=>by
  obtain⟨x,_,rfl⟩:=List.mem_map.1 hv;rfl
 have HON:=Ag hOne;have hset:Vg.set 72 (.int .u64 (L:Nat))=hlen L:=Ll (by simp) (by simp);clear hL hst q3 hcS hcP hOne;obtain⟨csS,hcsS⟩:∃cs,(st.map fun(x:Nat)=>Value.int .u32 x)=cs:=⟨_,rfl⟩
 obtain⟨csP,hcsP⟩:∃cs,(pend.map fun(x:Nat)=>Value.int .u8 x)=cs:=⟨_,rfl⟩
 have hlS:csS.length=8:=by rw[<-hcsS,List.length_map];exact hst8
 have hlP:csP.length=64:=by rw[<-hcsP,List.length_map];exact q1
 have HSP1:Hid (splice (hlen L) 0 csS=Cg st (List.replicate 64 0) L):=by rw[<-hcsS];exact Wc (by simp) hst8
 have HSP2:Hid (splice (Cg st (List.replicate 64 0) L) 8 csP=Cg st pend L):=by
  rw[<-hcsP];have h:=Qk (st:=st) (pend:=List.replicate 64 0) (len:=L) (xs:=pend) (r:=0) hst8 (by simp[q1]);refine h.trans ?_
  congr 1
  unfold splice;rw[List.take_zero,List.nil_append,List.drop_of_length_le (by simp[q1]),List.append_nil]
 rw[hcsS]at HCS
 rw[hcsP]at HCP
 have HO1:Hid (∀v∈csS,v.oneCell'=true):=by rw[<-hcsS];exact HON.out _ _
 have HO2:Hid (∀v∈csP,v.oneCell'=true):=by rw[<-hcsP];exact HON.out _ _
 clear hcsS hcsP hst8 q1;go_enter Tryz.func233,Tryz.ntmps233;go_wp2;have hn0:=heap_alloc_new w (.cells (hlen L).toArray 266);have hb0:Below w.heap.size w (w.alloc (.cells (hlen L).toArray 266)):=Dl;have hsz0:w.heap.size<(w.alloc (.cells (hlen L).toArray 266)).heap.size:=by simp
 generalize w.alloc (.cells (hlen L).toArray 266)=w1 at *;have HN0:=Ag hn0;have hcS1:∀(j:Nat) (v:Value),csS[j]? = some v->w1.cell? ((⟨g,0,none⟩:Addr).add j)=some v:=fun j v hv=>by
  have h:=HCS.out j v hv;rw[add_plain]at h ⊢
  rw[(Co hb0).1 _ _ hlt];exact h
 have HCS1:=Ag hcS1;have HF1:Hid (0+csS.length<=(hlen L).length):=by show 0+csS.length<=(hlen L).length;rw[hlS,Zm];omega
 have HM1:Hid (csS.length=Nat.min 8 8):=hlS;clear hcS1 hn0 hset;have hsl1:=Yk;have hsl2:=Yl
 go_region_law (refine Ir rfl (.tmp 15) (.tmp 19) 34 34 rfl 130 Tryz.underlying34 (by kernel_rfl) (some ⟨w.heap.size,0,none⟩) (some ⟨g,0,none⟩) 8 8 8 8 (by simp[Act.eval,Act.put,go_sem]) (by simp[Act.eval,Act.put,go_sem]) w.heap.size 0 (hlen L) 266 HN0.out csS HM1.out (fun _=>⟨rfl,_,rfl,HCS1.out⟩) HF1.out HO1.out ?_;intro w4 hg4 hb4)
 rw[HSP1.out]at hg4
 have hb5:Below w.heap.size w w4:=hb0.trans ((hb4.of_drew).below (Av _) (Nat.le_of_lt hsz0));have hcP1:∀(j:Nat) (v:Value),csP[j]? = some v->w4.cell? ((⟨g,8,none⟩:Addr).add j)=some v:=fun j v hv=>by
  have h:=HCP.out j v hv;rw[add_plain]at h ⊢
  rw[(Co hb5).1 _ _ hlt];exact h
 have HCP1:=Ag hcP1;have HB5:=Ag hb5;have HF2:Hid (8+csP.length<=(Cg st (List.replicate 64 0) L).length):=by show 8+csP.length<=List.length _;rw[hlP,Nd HS8.out (by simp)];omega
 have HM2:Hid (csP.length=Nat.min 64 64):=hlP;obtain⟨cur,hcur⟩:∃cur,Cg st (List.replicate 64 0) L=cur:=⟨_,rfl⟩
 rw[hcur]at hg4 HF2 HSP2
 have HC4:=hg4;clear hcP1 hb5 hcur hg4 HN0 hb4 hb0 hsz0;go_wp2;have hs4:w.heap.size<w4.heap.size:=(Hy HC4.out).1
 go_region_law (refine Ir rfl (.tmp 24) (.tmp 28) 60 60 rfl 5 Tryz.underlying60 (by kernel_rfl) (some ⟨w.heap.size,8,none⟩) (some ⟨g,8,none⟩) 64 64 64 64 (by simp[Act.eval,Act.put,go_sem]) (by simp[Act.eval,Act.put,go_sem]) w.heap.size 8 cur 266 HC4.out csP HM2.out (fun _=>⟨rfl,_,rfl,HCP1.out⟩) HF2.out HO2.out ?_;intro w6 hg6 hb6)
 rw[HSP2.out]at hg6
 have hb7:Below w.heap.size w w6:=HB5.out.trans ((hb6.of_drew).below (Av _) (Nat.le_of_lt hs4));have HB7:=Ag hb7;clear hb6 hb7;go_wp2;go_ret;refine⟨_,rfl,Av _,HB7.out,⟨pend,HQ1.out,q2,?_,q4⟩⟩;rw[HST.out,HL.out];exact hg6.out
def Mb (m:List Nat)(w:World)(e:Ending)(w':World):Prop:=∃q,e=.returned (.slice (some ⟨q,0,none⟩) 32 32)/\w.heap.size<=q/\Below w.heap.size w w'/\Cf w' q 5 .u8 (bF m)
theorem Nr (w:World)(g:Nat)(m:List Nat)(hT:Tabs w)(hH:Cd w g m):Calls Tryz.prog 214 #[.pointer (some ⟨g,0,none⟩)] w (Mb m w):=by
 have hlt:=hH.lt;obtain⟨L,hL⟩:∃L,m.length%18446744073709551616=L:=⟨_,rfl⟩
 have hL64:L<18446744073709551616:=by omega
 have HL:=Ag hL;clear hL;go_enter Tryz.func214,Tryz.ntmps214
 go_wp2_with fail
 refine(Ny w g m hH).mono ?_;rintro e w1 ⟨q,rfl,hq,hb1,hh1⟩;have hT1:=hT.below hb1 hT.size;have c72:w1.cell? ⟨g,72,none⟩=some (.int .u64 (L:Nat)):=by
  obtain⟨pend,q1,_,q3,_⟩:=(hH.below hb1 hlt).ex;have h:=q3.cell (Kd (Ei m _) q1);rw[HL.out]at h
  exact h
 go_wp2_with fail
 refine(Xs w1 L hL64).mono ?_;rintro e w2 ⟨rfl,hb2,hk2⟩;have hh2:=hh1.below hb2 hh1.lt;have hT2:=hT1.below hb2 hT1.size;have hz12:=hb1.size;have hz22:=hb2.size;have hbl:behind L=behind m.length:=by rw[<-HL.out,dM]
 rw[hbl]at hk2
 have hnl:Eb L+9=(behind m.length).length:=by rw[<-hbl,Ug]
 have hrow:Ci w2 .u8 (some ⟨w1.heap.size,0,none⟩) (Eb L+9) (Eb L+9) (behind m.length) :=
  ⟨hnl,Av _,by have:Eb L<64:=Nat.mod_lt _ (by omega);omega,fun _=>hk2.row hnl (Av _) (by have:Eb L<64:=Nat.mod_lt _ (by omega);omega)⟩
 have hqlt:=hh1.lt;clear hbl hnl
 go_wp2_with fail
 refine(Fp w2 q m _ _ _ (behind m.length) hT2 hh2 (by have:=hT.size;omega) hrow (Xt _) (fun _ a ha=>by cases ha;show w1.heap.size≠q;omega)).mono ?_;rintro e w3 ⟨rfl,hb3,hh3⟩;have hb13:Below w.heap.size w w3:=(hb1.trans (hb2.mono hz12)).trans (hb3.below hq (by omega));obtain⟨pend,q1,q2,q3,q4⟩:=hh3.ex;have hz13:=hb13.size
 go_wp2_with fail
 refine(Sd w3 q _ pend _ (Ei _ _) (Pc _ _) q3).mono ?_;rintro e w4 ⟨rfl,hb4,hk4⟩;rw[List.length_append]at hk4
 go_wp2;go_ret;exact⟨_,rfl,hz13,hb13.trans (hb4.mono hz13),hk4⟩
def mD (x y c:Nat):Nat:=if x<y+c then 1 else 0
theorem qE (x y c:Nat):mD x y c<=1:=by unfold mD;split<;>omega
theorem Oj (n:Nat)(h:n<4294967296):n.testBit 31=decide (2147483648<=n):=by
 rw[Nat.testBit_eq_decide_div_mod_eq];simp only[Nat.reducePow];rw[decide_eq_decide];omega
theorem nO (n:Nat)(h:n<4294967296):n/2147483648=(n.testBit 31).toNat:=by
 rw[Oj n h]
 by_cases h1:2147483648<=n
 .simp[h1];omega
 .simp[h1];omega
theorem Mt {a b:Nat}(h:b<4294967296):a &&& b<4294967296:=Nat.lt_of_le_of_lt Nat.and_le_right h
theorem Me {a b:Nat}(ha:a<4294967296)(hb:b<4294967296):a ^^^ b<4294967296:=Nat.xor_lt_two_pow (n:=32) ha hb
theorem jZ {a b:Nat}(ha:a<4294967296)(hb:b<4294967296):a ||| b<4294967296:=Nat.or_lt_two_pow (n:=32) ha hb
theorem fH (x y c d:Nat)(hx:x<4294967296)(hy:y<4294967296)(hc:c<=1)(hd:d=(x+8589934592-y-c)%4294967296) :
  (((4294967295 ^^^ x) &&& y) ||| ((4294967295 ^^^ (x ^^^ y)) &&& d))/2147483648=mD x y c:=by
 have hdl:d<4294967296:=by rw[hd];exact Nat.mod_lt _ (by omega)
 rw[nO _ (jZ (Mt hy) (Mt hdl))];simp only[Nat.testBit_or,Nat.testBit_and,Nat.testBit_xor];rw[Oj x hx,Oj y hy,Oj d hdl,Oj 4294967295 (by omega)];unfold mD
 by_cases h1:2147483648<=x<;>by_cases h2:2147483648<=y<;>by_cases h3:2147483648<=d<;>by_cases h4:x<y+c<;>simp[h1,h2,h3,h4]<;>omega
theorem bQ (x y c:Nat)(hx:x<4294967296)(hy:y<4294967296)(hc:c<=1) :
  bits BinOp.or IntKind.u32 (bits BinOp.and IntKind.u32 (bits BinOp.xor IntKind.u32 IntKind.u32.max ↑x) ↑y)
        (bits BinOp.and IntKind.u32
         (bits BinOp.xor IntKind.u32 IntKind.u32.max (bits BinOp.xor IntKind.u32 ↑x ↑y))
         (((x:Int)-y-c)%4294967296))/2147483648=(mD x y c:Nat):=by
 have hm:IntKind.u32.max=((4294967295:Nat):Int):=rfl;obtain⟨d,hd⟩:∃d,d=(x+8589934592-y-c)%4294967296:=⟨_,rfl⟩
 have hd':((x:Int)-y-c)%4294967296=(d:Nat):=by omega
 have hdl:d<4294967296:=by omega
 rw[hm,hd',u32_xor_nat _ _ (by omega) hx,u32_xor_nat _ _ hx hy,u32_xor_nat _ _ (by omega) (Me hx hy),u32_and_nat _ _ (Me (by omega) hx) hy,
  u32_and_nat _ _ (Me (by omega) (Me hx hy)) hdl,u32_or_nat _ _ (Mt hy) (Mt hdl)]
 have:=fH x y c d hx hy hc hd;omega
theorem Yi (x y c:Nat)(w:World)(hx:x<4294967296)(hy:y<4294967296)(hc:c<=1) :
  Calls Tryz.prog 183 #[.int .u32 x,.int .u32 y,.int .u32 c] w fun e w'=>
   e=.returned (.tuple #[.int .u32 (((x:Int)-y-c)%4294967296),.int .u32 (mD x y c:Nat)])/\w=w':=by
 have hs:IntKind.u32.signed=false:=rfl;have hq:=Ag (bQ x y c hx hy hc);go_enter Tryz.func183,Tryz.ntmps183;go_wp2
 go_ret2
 have e6:(((x:Int)-y)%4294967296-c)%4294967296=((x:Int)-y-c)%4294967296:=by omega
 exact⟨by rw[hq.out];exact congrArg (fun z=>Ending.returned (.tuple #[.int .u32 z,.int .u32 (mD x y c:Nat)])) e6,rfl⟩
structure Ph (A B:List Nat) (k:Nat) (S:List Nat) (bw:Nat):Prop where
 len:S.length=k
 words:Words S
 carry:bw<=1
 eq:val S+val (B.take k)=val (A.take k)+Ao k*bw
theorem Ph.start (A B:List Nat):Ph A B 0 [] 0:=⟨rfl,Words.nil,by omega,by simp[val]⟩
theorem Ph.step {A B:List Nat}{k:Nat}{S:List Nat}{bw d:Nat}(h:Ph A B k S bw)(hA:Words A)(hB:Words B)(hd:(d:Int)=(((A.getD k 0:Nat):Int)-(B.getD k 0:Nat)-bw)%4294967296) :
  Ph A B (k+1) (S++[d]) (mD (A.getD k 0) (B.getD k 0) bw):=by
 have h1:=hA.get k;have h2:=hB.get k;have h3:=h.carry;refine⟨by simp[h.len],h.words.snoc (by omega),qE _ _ _,?_⟩;rw[Ee,h.len,Bn,Bn,Cc];have e:=h.eq;have hb:d+B.getD k 0+bw=A.getD k 0+4294967296*mD (A.getD k 0) (B.getD k 0) bw:=by
  unfold mD;split<;>omega
 generalize A.getD k 0=x at *;generalize B.getD k 0=y at *;generalize mD x y bw=q at *;generalize Ao k=b at *;have e2:b*(d+y+bw)=b*(x+4294967296*q):=by rw[hb]
 have e3:b*(4294967296*q)=4294967296*b*q:=by rw[<-Nat.mul_assoc,Nat.mul_comm b]
 rw[Nat.mul_add,Nat.mul_add,Nat.mul_add,e3]at e2
 omega
theorem Ph.last {A B:List Nat}{k:Nat}{S:List Nat}{bw:Nat}(h:Ph A B k S bw)(hA:A.length=k)(hB:B.length<=k)(hle:val B<=val A):val S=val A-val B:=by
 have e:=h.eq;rw[List.take_of_length_le (l:=A) (by omega),List.take_of_length_le hB]at e
 have h1:=h.words.lt;rw[h.len]at h1
 have h2:=h.carry;rcases Nat.lt_or_ge bw 1 with h3|h3
 .obtain rfl:bw=0:=by omega
  omega
 .obtain rfl:bw=1:=by omega
  omega
def nB (N M:Nat)(w:World)(e:Ending)(w':World):Prop:=∃p n c,e=.returned (.tuple #[.agg #[.slice p n c],.bool (decide (M<=N))])/\Ai w' p n c (N-M)/\Below w.heap.size w w'/\Ey w.heap.size p
theorem fF (w:World)(pa:Option Addr)(na ca N:Nat)(pb:Option Addr)(nb cb M:Nat)(hA:Ai w pa na ca N)(hB:Ai w pb nb cb M)(hs:na<1000000)(hsb:nb<1000000) :
  Calls Tryz.prog 130 #[.agg #[.slice pa na ca],.agg #[.slice pb nb cb]] w (nB N M w):=by
 have hb0:Below w.heap.size w (((w.alloc (.cells #[.slice pa na ca] 36)).alloc (.cells #[.slice pb nb cb] 36)).alloc (.cells #[.slice none 0 0] 36)) :=
  (((Br _ w).alloc (Av _) _).alloc (by simp) _).alloc (by simp;omega) _
 by_cases hlt:N<M
 .have hcm:By N M = -1:=Dn hlt;go_enter Tryz.func130,Tryz.ntmps130
  go_wp2_with fail
  refine(Hh _ pa pb na ca N nb cb M (hA.below hb0) (hB.below hb0) hs hsb).mono ?_;rintro e w1 ⟨rfl,hb1⟩;obtain⟨hc,hf⟩:=Co hb1;have hz:=hb1.size;simp only[World.size_alloc]at hz;go_wp2;refine bodyPost_ret (v:=.tuple #[.agg #[.slice none 0 0],.bool false]) (by simp[results,Tryz.results130,go_sem,hc]) rfl ⟨none,0,0,by simp[show ¬M<=N by omega],?_,?_,Ey.none _⟩
  .exact⟨[],Row.nil _ _,Words.nil,by simp,by simp[val];omega⟩
  .exact(hb0.trans (hb1.mono (by simp;omega))).setCell (by simp;omega) _
 .have hcm:¬By N M<0:=by
   unfold By;rw[if_neg hlt];split<;>omega
  obtain⟨A,a1,a2,a3,rfl⟩:=hA.ex;obtain⟨B,b1,b2,b3,rfl⟩:=hB.ex;have HA:=Ag a1.len;have HB:=Ag b1.len;have hle:nb<=na:=by
   rcases Nat.lt_or_ge na nb with h|h
   .exact absurd (hA.len_lt hB h) hlt
   .exact h
  have hmk:=Hq na (by omega);go_enter Tryz.func130,Tryz.ntmps130
  go_wp2_with fail
  refine(Hh _ pa pb na ca _ nb cb _ (hA.below hb0) (hB.below hb0) hs hsb).mono ?_;rintro e w1 ⟨rfl,hb1⟩;have hbx:=(Dc.mk3 w (.slice pa na ca) (.slice pb nb cb) (.slice none 0 0) 36 36 36).later hb1;have c0:=hbx.c0;have c1:=hbx.c1;have c2:=hbx.c2;have f2:=hbx.f2;have hz0:w.heap.size<w1.heap.size:=by have:=hbx.size;omega
  have hz1:w.heap.size+1<w1.heap.size:=by have:=hbx.size;omega
  have hz2:w.heap.size+1+1<w1.heap.size:=by have:=hbx.size;omega
  have HC:=Ag (show decide (By (val A) (val B)<0)=false by simpa using hcm);go_wp2
  go_loopw [7,22] (fun cy i wr=>∃k c:Nat,∃S,k<=na/\i=.int .i64 k/\cy=.int .u32 c/\Dc w wr (.slice pa na ca) (.slice pb nb cb) (.slice none 0 0)/\w1.heap.size<wr.heap.size/\Below w1.heap.size w1 wr/\Ph A B k S c/\Cf wr w1.heap.size 130 .u32 (S++List.replicate (na-k) 0)) (fun _ i _=>na-(intOf i).toNat)
  case atStart=>
   refine⟨0,0,[],by omega,rfl,rfl,hbx.alloc _,by simp,(Br _ _).alloc (Av _) _,Ph.start A B,?_⟩;exact Cf.zeros _ _ _ _
  case round=>
   obtain⟨k,bw,S,hk,rfl,rfl,hbr,hsr,hbw,hS,hblk⟩:=hrel;clear c0 c1 c2 f2;have d0:=hbr.c0;have d1:=hbr.c1;have d2:=hbr.c2;have g2:=hbr.f2
   by_cases hkn:k<na
   .obtain⟨b,off,rfl,hb,hc⟩:=a1.pos (by omega);obtain⟨x,hx⟩:∃x,A.getD k 0=x:=⟨_,rfl⟩
    obtain⟨y,hy⟩:∃y,B.getD k 0=y:=⟨_,rfl⟩
    have hci:wr.cell? ⟨b,off+k,none⟩=some (.int .u32 (x:Nat)):=by
     rw[(Co hbr.bel).1 _ _ hb];exact hc k x (by rw[<-hx,Ex];simp[show k<A.length by have:=HA.out;omega])
    have HX:=Ag hx;have HY:=Ag hy;have HSk:=Ag hS.len;clear hc hx hy;have hg0:=hblk.zero_cell HSk.out (by omega);have hgf:=hblk.free k
    go_wp2_with fail
    refine(Ga wr pb nb cb B k y (b1.below hbr.bel) (by omega) HY.out).mono ?_;rintro e w2 ⟨rfl,hb2⟩;have hy:y<4294967296:=by rw[<-HY.out];exact b2.get k
    have hx':x<4294967296:=by rw[<-HX.out];exact a2.get k
    have hcy:=hS.carry;have hg0':=((Co hb2).1 _ k hblk.lt).trans hg0;have hgf':=((Co hb2).2 _ k hblk.lt).trans hgf;obtain⟨d,hd⟩:∃d:Nat,(d:Int)=((x:Int)-y-bw)%4294967296:=⟨(((x:Int)-y-bw)%4294967296).toNat,by omega⟩
    have HD:=Ag hd;clear hd
    go_wp2_with fail
    refine(Yi x y bw _ hx' hy hcy).mono ?_;rintro e w3 ⟨rfl,rfl⟩;rw[<-HD.out];go_wp2;go_roundw
    case rel=>
     refine⟨k+1,_,S++[d],by omega,by go_num,rfl,(hbr.later hb2).below (B:=w.heap.size+3) ((Br _ _).setCell (by simp;omega) _) (Av _),by have:=hb2.size;simp;omega,(hbw.trans (hb2.mono (by omega))).setCell (by simp) _,?_,?_⟩
     .have:=hS.step (d:=d) a2 b2 (by rw[HX.out,HY.out];exact HD.out);rw[HX.out,HY.out]at this
      exact this
     .exact(hblk.below hb2 hblk.lt).next HSk.out (by omega) d
    case measure=>clear HD;simp[intOf];omega
   .have hkn':na<=k:=by omega
    have hrow:=(hblk.row (n:=na) (c:=na) (by have:=hS.len;simp;omega) (Av _) (by omega))
    have hw2:Words (S++List.replicate (na-k) 0):=hS.words.append (Words.zeros _)
    go_wp2_with fail
    refine(Cv _ _ _ _ _ hrow hw2).mono ?_;rintro e w2 ⟨p,n,c,rfl,hn,hb2,hp⟩;have hbx3:=hbr.later hb2;have k2:=hbx3.c2;have e2:=hbx3.f2;have hn':Ey w1.heap.size p:=by
     intro q hq;rcases hp with rfl|rfl
     .cases hq
     .cases hq;simp
    have hv:val (S++List.replicate (na-k) 0)=val A-val B:=by
     rw[val_append,Jb,Nat.mul_zero,Nat.add_zero];exact hS.last (by have:=HA.out;omega) (by have:=HB.out;omega) (by omega)
    have HV:=Ag hv;clear hv;go_wp2;refine bodyPost_ret (v:=.tuple #[.agg #[.slice p n c],.bool true]) (by simp[results,Tryz.results130,go_sem,k2]) rfl ⟨p,n,c,by simp[show val B<=val A by omega],?_,?_,hn'.mono (by omega)⟩
    .rw[<-HV.out];exact hn.setCell (a:=⟨w.heap.size+1+1,0,none⟩) (hn'.ne hz2) (.slice p n c)
    .exact hbx3.bel.setCell (by simp;omega) _
structure Part where
 p:Option Addr
 n:Nat
 c:Nat
 bs:List Nat
structure Dj (w:World) (P:Part):Prop where
 row:Ci w .u8 P.p P.n P.c P.bs
 bytes:Bv P.bs
theorem Dj.below {w w':World}{P:Part}(h:Dj w P)(hb:Below w.heap.size w w'):Dj w' P:=⟨h.row.below hb,h.bytes⟩
def whole (L:List Part):List Nat:=L.flatMap (·.bs)
theorem Ru (L:List Part)(P:Part):whole (L++[P])=whole L++P.bs:=by simp[whole]
structure Fs (w:World) (p:Option Addr) (n c:Nat) (L:List Part):Prop where
 len:n=L.length
 cap:n<=c
 max:c<=9223372036854775807
 ok:∀(i:Nat) (P:Part),L[i]? = some P->Dj w P
 cells:0<n->∃b off,p=some ⟨b,off,none⟩/\b<w.heap.size/\∀(i:Nat) (P:Part),L[i]? = some P->w.cell? ⟨b,off+i,none⟩=some (.slice P.p P.n P.c)
theorem Fs.below {w w':World}{p:Option Addr}{n c:Nat}{L:List Part}(h:Fs w p n c L)(hb:Below w.heap.size w w'):Fs w' p n c L :=
 ⟨h.len,h.cap,h.max,fun i P hP=>(h.ok i P hP).below hb,fun h0=>by
  obtain⟨b,off,h1,h2,h3⟩:=h.cells h0;exact⟨b,off,h1,Eh h2 hb.size,fun i P hP=>by rw[hb.cell (p:=⟨b,off+i,none⟩) h2];exact h3 i P hP⟩⟩
theorem fE (w:World)(p:Option Addr)(n c:Nat)(L:List Part)(hT:Tabs w)(hL:Fs w p n c L):Calls Tryz.prog 247 #[.slice p n c] w (Mb (whole L) w):=by
 have HL:Ab (Fs w p n c L):=⟨hL⟩
 have hlen:Ab (n=L.length):=⟨hL.len⟩
 have hcap:=hL.cap;have hmax:=hL.max;clear hL;go_enter Tryz.func247,Tryz.ntmps247
 go_wp2_with fail
 refine(Om w hT).mono ?_;rintro e w1 ⟨g,rfl,hg,hb1,hh1⟩;go_wp2
 go_loopw [9] (fun i wr=>∃k:Nat,k<=n/\i=.int .i64 k/\Below w.heap.size w wr/\Cd wr g (whole (L.take k))) (fun i _=>n-(intOf i).toNat)
 case atStart=>exact⟨0,by omega,rfl,hb1,hh1⟩
 case round=>
  obtain⟨k,hk,rfl,hbel,hash⟩:=hrel;have hTr:=hT.below hbel hT.size;have hsz:=hT.size
  by_cases hkn:k<n
  .obtain⟨b,off,rfl,hb,hc⟩:=HL.out.cells (by omega);obtain⟨P,hP⟩:∃P,L[k]? = some P:=⟨_,List.getElem?_eq_getElem (by have:=hlen.out;omega)⟩
   have hok:=(HL.out.ok k P hP).below hbel;have hblt:0<P.n->∀q,P.p=some q->q.block≠g:=fun h0 q hq=>by
    obtain⟨b',off',e,h2,_⟩:=((HL.out.ok k P hP).row.row h0).pos h0;rw[hq]at e;cases e
    show b'≠g;omega
   have hck:wr.cell? ⟨b,off+k,none⟩=some (.slice P.p P.n P.c):=by
    rw[(Co hbel).1 _ _ hb];exact hc k P hP
   have htk:Ab (whole (L.take (k+1))=whole (L.take k)++P.bs):=⟨by rw[List.take_add_one,hP];exact Ru _ _⟩
   have HOK:Ab (Dj wr P):=⟨hok⟩
   have HNE:Ab (0<P.n->∀q,P.p=some q->q.block≠g):=⟨hblt⟩
   clear hc hP hok hblt;obtain⟨pp,pn,pc,pb⟩:=P
   dsimp only at *
   go_wp2_with fail
   refine(Fp wr g _ pp pn pc pb hTr hash (by omega) HOK.out.row HOK.out.bytes HNE.out).mono ?_;rintro e w2 ⟨rfl,hb2,hh2⟩;rw[<-htk.out]at hh2
   have hz:w.heap.size<=wr.heap.size:=hbel.size;have hbel2:=hbel.trans (hb2.below hg hz);go_wp2;go_roundw
   case rel=>exact⟨k+1,by omega,by go_num,hbel2,hh2⟩
   case measure=>simp[intOf];omega
  .obtain rfl:k=n:=by omega
   rw[List.take_of_length_le (by have:=hlen.out;omega)]at hash
   have hz:w.heap.size<=wr.heap.size:=hbel.size
   go_wp2_with fail
   refine(Nr wr g _ hTr hash).mono ?_;rintro e w3 ⟨q,rfl,hq,hb3,hk3⟩;go_wp2;go_ret;exact⟨q,rfl,by omega,hbel.trans (hb3.mono hz),hk3⟩
def strOf (bs:List Nat):ByteArray:=strOfNums (bs.map fun(x:Nat)=>(x:Int))
theorem Qy {w:World}{p:Option Addr}{n c:Nat}{bs:List Nat}(h:Row w .u8 p n c bs) :
  (convert 60 9 (.slice p n c)).run Tryz.prog w=.ok (.string (strOf bs)) w:=by
 rcases h.at_ with ⟨rfl,rfl,rfl⟩|⟨b,off,rfl,hb,hc⟩
 .have hl:=h.len;have:bs=[]:=List.eq_nil_of_length_eq_zero hl.symm;subst this;rw[run_convert_bytes_nil w 60 5 (by kernel_rfl) (by kernel_rfl) _ _ _ (by kernel_rfl)];rfl
 .refine run_convert_bytes_arg w 60 5 (by kernel_rfl) (by kernel_rfl) b off n c _ (by simp[h.len]) ?_ _ (by kernel_rfl);intro i hi;have hl:=h.len;rw[hc i (bs.getD i 0) (by rw[Ex];simp[show i<bs.length by omega])];simp[Ex,show i<bs.length by omega]
theorem jX (w:World)(P:Part)(hP:Dj w P):Fs (w.alloc (.cells #[.slice P.p P.n P.c] 60)) (some ⟨w.heap.size,0,none⟩) 1 1 [P]:=by
 have hb:Below w.heap.size w (w.alloc (.cells #[.slice P.p P.n P.c] 60)):=Dl;have hn:=heap_alloc_new w (.cells #[.slice P.p P.n P.c] 60);refine⟨rfl,Av _,by omega,fun i X hX=>?_,fun _=>⟨w.heap.size,0,rfl,by simp,fun i X hX=>?_⟩⟩
 .match i,hX with
  | 0,h=>cases h;exact hP.below hb
 .match i,hX with
  | 0,h=>cases h;unfold World.cell?;dsimp only;rw[hn];rfl
theorem Un (P:Part):whole [P]=P.bs:=by simp[whole]
theorem pR (w:World)(P Q R:Part)(hP:Dj w P)(hQ:Dj w Q)(hR:Dj w R):Fs (w.alloc (.cells #[.slice P.p P.n P.c,.slice Q.p Q.n Q.c,.slice R.p R.n R.c] 60)) (some ⟨w.heap.size,0,none⟩) 3 3 [P,Q,R]:=by
 have hb:Below w.heap.size w (w.alloc (.cells #[.slice P.p P.n P.c,.slice Q.p Q.n Q.c,.slice R.p R.n R.c] 60)):=Dl;have hn:=heap_alloc_new w (.cells #[.slice P.p P.n P.c,.slice Q.p Q.n Q.c,.slice R.p R.n R.c] 60);refine⟨rfl,Av _,by omega,fun i X hX=>?_,fun _=>⟨w.heap.size,0,rfl,by simp,fun i X hX=>?_⟩⟩
 .match i,hX with
  | 0,h=>cases h;exact hP.below hb
  | 1,h=>cases h;exact hQ.below hb
  | 2,h=>cases h;exact hR.below hb
 .match i,hX with
  | 0,h=>cases h;unfold World.cell?;dsimp only;rw[hn];rfl
  | 1,h=>cases h;unfold World.cell?;dsimp only;rw[hn];rfl
  | 2,h=>cases h;unfold World.cell?;dsimp only;rw[hn];rfl
open Go Go.RowKit Go.Proofs.YtnbmfaihlefgfaaGreatDoor.Flow
theorem bV (w:World)(p:Option Addr)(n c N:Nat)(q:Option Addr)(m d M:Nat)(hA:Ai w p n c N)(hn:n<1000000)(hN:Ak N<=1000000)(hB:Bt w q m d M)(hNM:N=M) :
  Calls Tryz.prog 28 #[.agg #[.slice p n c],.slice q m d] w fun e w'=>e=.returned (.bool true)/\Below w.heap.size w w':=by
 subst hNM;have hbx:=Dq.mk1 w (.slice p n c) 36;have hm:m=Ak N:=by have:=hB.len;rwa [Bo]at this
 have hw7:IntKind.i64.wrap ((m:Int)+7)=(m:Int)+7:=IntWalk.i64_in _ (by omega);have hbs:((m:Int)+7)/8=(Ay N:Nat):=by unfold Ay;omega
 have hw8:IntKind.i64.wrap (((m:Int)+7)/8)=(Ay N:Nat):=by rw[<-hbs];exact IntWalk.i64_in _ (by omega)
 have hw9:wrap64 (((m:Int)+7).tdiv 8)=(Ay N:Nat):=by
  rw[Int.tdiv_eq_ediv_of_nonneg (by omega),<-hbs];exact IntWalk.wrap64_in _ (by omega)
 have hb9:Ay N<=1000000:=by unfold Ay;omega
 clear hm hbs;go_enter Tryz.func28,Tryz.ntmps28
 go_wp2_with fail
 refine(We _ q m d N (Ay N) (hB.below hbx.bel) hb9 (by omega)).mono ?_;rintro e w1 ⟨v,rfl,hv,hb1⟩;rw[if_pos (Av _)]at hv
 have hbx1:=hbx.later hb1;go_wp2;refine Aj (by kernel_rfl) (by kernel_rfl)
  [some (.agg #[.slice p n c]),none,some (.string (strOf (Ef N (Ay N)))),some v,some (.string (strOf (Ef N (Ay N)))),some (.bool true),some (.bool true)]
  [false,true,false,false,false,false,false] rfl
  (fun w1 w2=>Below w1.heap.size w1 w2)
  (fun _ w'=>Dq w w' (.slice p n c)/\Do (Ef N (Ay N)) (w.heap.size+1) v w')
  (fun _ v w'=>Do (Ef N (Ay N)) w.heap.size v w')
  ?_ ⟨hbx1.below (Br _ _).drew (Av _),by simpa using hv.below (Br _ _).drew⟩ ?_ ?_
 .intro i v w1 w2 hf hb;exact hf.below hb
 .simp only[Bu,Nat.reduceAdd];refine⟨?_,?_,?_,?_,?_,?_,?_,trivial⟩
  case refine_2=>
   intro D sp w' hD hW hdp ⟨hbx',hv'⟩
   (with_reducible refine Ac (w1:=w') (f := 96) (args:=#[.agg #[.slice p n c]]) ?_ ?_ ?_)
   .simp only[Region.wanted]
   .simp[Act.eval,Act.put,go_sem]
   .refine(Qs w' p n c N (hA.below hbx'.bel) hn hN).mono ?_;rintro e w2 ⟨v2,rfl,hv2,hb2⟩;obtain⟨q2,m2,d2,k1,k2,k3⟩:=hv2;exact⟨_,rfl,hb2,⟨q2,m2,d2,k1,k2,k3.mono hbx'.bel.size⟩,hbx'.later hb2,hv'.below hb2⟩
  case refine_3=>
   intro D sp w' hD hW hdp ⟨hbx',hv'⟩;have h2:∃q n d,sp 1=.slice q n d/\Row w' .u8 q n d (Ef N (Ay N))/\Ey w.heap.size q:=(hdp 1 (mq (by kernel_rfl))).2
   (with_reducible refine Bp h2 fun q2 hq2=>Bp hq2 fun m2 hm2=>Bp hm2 fun d2 hd2=>?_)
   have k1:=hd2.1;have k2:=Qy hd2.2.1;simp[asked,Region.wanted,Oper.gives,execOp,Act.eval,Act.put,go_sem,k1,k2]
  case refine_5=>
   intro D sp w' hD hW hdp ⟨hbx',hv'⟩;have hv2:∃q n d,v=.slice q n d/\Row w' .u8 q n d (Ef N (Ay N))/\Ey (w.heap.size+1) q:=hv'
   (with_reducible refine Bp hv2 fun q2 hq2=>Bp hq2 fun m2 hm2=>Bp hm2 fun d2 hd2=>?_)
   have k1:=hd2.1;have k2:=Qy hd2.2.1;simp[asked,Region.wanted,Oper.gives,execOp,Act.eval,Act.put,go_sem,k1,k2]
  all_goals
   intro D sp w' hD hW hdp ⟨hbx',hv'⟩;have c0:=hbx'.c0;simp[asked,Region.wanted,Oper.gives,execOp,Act.eval,Act.put,go_sem,c0]
 .intro sp w' hsp ⟨hbx',hv'⟩;clear hsp hv hv';simp only[An,Nat.reduceAdd];generalize sp 1=u at *
  go_simp
  go_wp2;go_ret;exact⟨rfl,hbx'.bel⟩
def iS (N:Nat)(w:World)(e:Ending)(w':World):Prop :=
 e=.returned (.tuple #[.int .u64 ((if Ak N<=64 then N else 0:Nat):Int),.bool (decide (Ak N<=64))])/\Below w.heap.size w w'
theorem nM {ws:List Nat}(hw:Words ws)(h:ws.length<=2):val ws=ws.getD 1 0*4294967296+ws.getD 0 0:=by
 match ws,h with
 | [],_=>simp[val]
 | [x],_=>simp[val]
 | [x,y],_=>simp[val];omega
theorem Js (w:World)(p:Option Addr)(n c N:Nat)(h:Ai w p n c N)(hn:n<1000000) :
  Calls Tryz.prog 219 #[.agg #[.slice p n c]] w (iS N w):=by
 have hbx:=Dq.mk1 w (.slice p n c) 36
 by_cases hN:Ak N<=64
 .have hn2:n<=2:=h.len_le (k:=2) (by have:=(Bq N 64).1 hN;exact this);obtain⟨ws,r1,r2,r3,r4⟩:=h.ex;have hv:=nM r2 (by have:=r1.len;omega);obtain⟨y,hy⟩:∃y,ws.getD 1 0=y:=⟨_,rfl⟩
  obtain⟨x,hx⟩:∃x,ws.getD 0 0=x:=⟨_,rfl⟩
  have hy4:y<4294967296:=by rw[<-hy];exact r2.get 1
  have hx4:x<4294967296:=by rw[<-hx];exact r2.get 0
  rw[hy,hx,r4]at hv
  have HY:=Ag hy;have HX:=Ag hx;have HV:=Ag hv;have HB:Hid (Ak N<=64):=Ag hN;have HI:Hid (¬(64:Int)<(Ak N:Nat)):=Ag (by omega);clear hv hx hy r4 hN;go_enter Tryz.func219,Tryz.ntmps219
  go_wp2_with fail
  refine(Gh _ p n c N (h.below hbx.bel) hn).mono ?_;rintro e w1 ⟨rfl,hb1⟩;have hbx1:=hbx.later hb1;have hI:=HI.out;go_wp2;clear hI;have t1:IntKind.u64.wrap ((y:Int)*4294967296)=(y:Int)*4294967296:=IntWalk.u64_in _ (by omega);have t2:=Ok y x hy4 hx4;have t3:IntKind.u64.wrap (y:Int)=y:=IntWalk.u64_in _ (by omega);have t4:IntKind.u64.wrap (x:Int)=x:=IntWalk.u64_in _ (by omega);refine Aj (by kernel_rfl) (by kernel_rfl)
   [some (.agg #[.slice p n c]),none,some (.int .u64 y),some (.int .u64 ((y:Int)*4294967296)),some (.agg #[.slice p n c]),none,some (.int .u64 x),some (.int .u64 ((y*4294967296+x:Nat):Int)),
    some (.int .u64 ((y*4294967296+x:Nat):Int)),some (.bool true)]
   [false,true,false,false,false,true,false,false,false,false] rfl
   (fun _ _=>True)
   (fun _ w'=>Dq w w' (.slice p n c))
   (fun i v w'=>match i with
    | 1=>v=.int .u32 y
    | _=>v=.int .u32 x)
   (fun _ _ _ _ h _=>h) (hbx1.below (Br _ _).drew (Av _)) ?_ ?_
  .simp only[Bu,Nat.reduceAdd];refine⟨?_,?_,?_,?_,?_,?_,?_,?_,?_,?_,trivial⟩
   case refine_2=>
    intro D sp w' hD hW hdp hbx'
    (with_reducible refine Ac (w1:=w') (f := 176) (args:=#[.agg #[.slice p n c],.int .i64 1]) ?_ ?_ ?_)
    .simp only[Region.wanted]
    .simp[Act.eval,Act.put,go_sem]
    .refine(Ga w' p n c ws 1 y (r1.below hbx'.bel) (by omega) HY.out).mono ?_;rintro e w2 ⟨rfl,hb⟩;exact⟨_,rfl,trivial,rfl,hbx'.later hb⟩
   case refine_6=>
    intro D sp w' hD hW hdp hbx'
    (with_reducible refine Ac (w1:=w') (f := 176) (args:=#[.agg #[.slice p n c],.int .i64 0]) ?_ ?_ ?_)
    .simp only[Region.wanted]
    .simp[Act.eval,Act.put,go_sem]
    .refine(Ga w' p n c ws 0 x (r1.below hbx'.bel) (by omega) HX.out).mono ?_;rintro e w2 ⟨rfl,hb⟩;exact⟨_,rfl,trivial,rfl,hbx'.later hb⟩
   case refine_3=>
    intro D sp w' hD hW hdp hbx';have k1:sp 1=.int .u32 y:=(hdp 1 (mq (by kernel_rfl))).2;simp[asked,Region.wanted,Oper.gives,execOp,Act.eval,Act.put,go_sem,k1,t3]
   case refine_7=>
    intro D sp w' hD hW hdp hbx';have k1:sp 5=.int .u32 x:=(hdp 5 (mq (by kernel_rfl))).2;simp[asked,Region.wanted,Oper.gives,execOp,Act.eval,Act.put,go_sem,k1,t4]
   all_goals
    intro D sp w' hD hW hdp hbx';have c0:=hbx'.c0;simp[asked,Region.wanted,Oper.gives,execOp,Act.eval,Act.put,go_sem,c0,t1,t2]
  .intro sp w' hsp hbx';clear hsp t1 t2 t3 t4;simp only[An,Nat.reduceAdd];generalize sp 1=u1,sp 5=u5 at *
   go_simp
   go_wp2
   go_ret2
   refine⟨?_,hbx'.bel⟩;have hB:=HB.out;rw[if_pos hB,decide_eq_true hB,HV.out];simp
 .have HB:Hid (¬Ak N<=64):=Ag hN;have HI:Hid ((64:Int)<(Ak N:Nat)):=Ag (by omega);clear hN;go_enter Tryz.func219,Tryz.ntmps219
  go_wp2_with fail
  refine(Gh _ p n c N (h.below hbx.bel) hn).mono ?_;rintro e w1 ⟨rfl,hb1⟩;have hbx1:=hbx.later hb1;have hI:=HI.out;go_wp2
  go_ret2
  refine⟨?_,hbx1.bel⟩;rw[if_neg HB.out,decide_eq_false HB.out];rfl
theorem mJ {N i x:Nat}(h:N/Ao (i/32)%4294967296=x):x/2^(i%32)%2=(bit N i).toNat:=by
 have e:Ao (i/32)=2^(32*(i/32)):=by unfold Ao;rw[Nat.pow_mul]
 have h2:bit N i=bit x (i%32):=by
  rw[Er,Er,<-h,e,show (4294967296:Nat)=2^32 from rfl,Nat.testBit_mod_two_pow,Nat.testBit_div_two_pow];have:i%32<32:=Nat.mod_lt _ (by omega);rw[Nat.mod_add_div];simp[this]
 rw[h2];unfold bit
 by_cases h3:x/2^(i%32)%2=1
 .simp[h3]
 .have h4:x/2^(i%32)%2<2:=Nat.mod_lt _ (by omega);have:x/2^(i%32)%2=0:=by omega
  simp[this]
def Th (N:Nat)(i:Int):Nat:=if 0<=i then (bit N i.toNat).toNat else 0
theorem iM (w:World)(p:Option Addr)(n c N:Nat)(i:Int)(h:Ai w p n c N)(_hn:n<1000000)(hi:-9223372036854775808<=i)(hi2:i<=9223372036854775807) :
  Calls Tryz.prog 187 #[.agg #[.slice p n c],.int .i64 i] w fun e w'=>e=.returned (.int .i64 (Th N i:Nat))/\Below w.heap.size w w':=by
 have hbx:=Dq.mk1 w (.slice p n c) 36
 by_cases h0:i<0
 .have HA:Hid (Th N i=0):=Ag (by unfold Th;rw[if_neg (by omega)]);go_enter Tryz.func187,Tryz.ntmps187;go_wp2;go_ret;exact⟨by rw[HA.out];rfl,hbx.bel⟩
 .obtain⟨j,rfl⟩:=Int.eq_ofNat_of_zero_le (show 0<=i by omega);have HA:Hid (Th N (j:Int)=(bit N j).toNat):=Ag (by unfold Th;rw[if_pos (by omega),Int.toNat_natCast]);obtain⟨ws,r1,r2,r3,r4⟩:=h.ex;obtain⟨q,hq⟩:∃q,j/32=q:=⟨_,rfl⟩
  obtain⟨r,hr⟩:∃r,j%32=r:=⟨_,rfl⟩
  obtain⟨x,hx⟩:∃x,ws.getD q 0=x:=⟨_,rfl⟩
  have hx4:x<4294967296:=by rw[<-hx];exact r2.get _
  have hd:=digit ws r2 q;rw[hx,r4]at hd
  have hbw:=mJ (N:=N) (i:=j) (x:=x) (by rw[hq];exact hd);rw[hr]at hbw
  have hr5:r<32:=by omega
  have HX:=Ag hx;have HW:=Ag hbw;have eq1:Hid ((j:Int)/32=(q:Nat)):=Ag (by omega);have er1:Hid ((j:Int)%32=(r:Nat)):=Ag (by omega);have hq9:q<9223372036854775807:=by omega
  have hz4:x/2^r<4294967296:=Nat.lt_of_le_of_lt (Nat.div_le_self _ _) hx4;have hand:bits BinOp.and IntKind.u32 ((x:Int)/2^r) 1=((x/2^r%2:Nat):Int):=by
   have e1:((x:Int)/2^r)=((x/2^r:Nat):Int):=by simp[Int.natCast_ediv]
   have:=u32_and_nat (x/2^r) 1 hz4 (by omega);rw[e1];exact this.trans (by rw[Nat.and_one_is_mod])
  have HAN:=Ag hand;clear hd hbw hx hq hr r4 hand;go_enter Tryz.func187,Tryz.ntmps187
  go_wp2_with fail
  rw[eq1.out];refine(Ga _ p n c ws q x (r1.below hbx.bel) (by omega) HX.out).mono ?_;rintro e w1 ⟨rfl,hb1⟩;have hbx1:=hbx.later hb1;have hE:=er1.out;go_wp2;clear hE;go_ret;refine⟨?_,hbx1.bel⟩;rw[HAN.out,HW.out,HA.out,IntWalk.wrap64_in _ (by have:(bit N j).toNat<=1:=Bool.toNat_le _;omega)];rfl
def Fit (e N:Nat)(v:Value)(w:World):Prop:=∃p n c,v=.agg #[.slice p n c]/\Ai w p n c N/\N<Ao e
theorem Fit.below {e N:Nat}{v:Value}{w w':World}(h:Fit e N v w)(hb:Below w.heap.size w w'):Fit e N v w' :=
 let ⟨p,n,c,h1,h2,h3⟩:=h
 ⟨p,n,c,h1,h2.below hb,h3⟩
theorem Fit.of {e N p n c}{w:World}(h:Ai w p n c N)(hN:N<Ao e):Fit e N (.agg #[.slice p n c]) w:=⟨p,n,c,rfl,h,hN⟩
theorem Fit.lim {e N:Nat}{v:Value}{w:World}(h:Fit e N v w):N<Ao e:=let ⟨_,_,_,_,_,h3⟩:=h;h3
theorem oG {e f N M:Nat}(h:N<Ao e)(k:M<Ao f):N+M<Ao (e+f+1):=by
 have h1:Ao e<=Ao (e+f):=Cu (by omega);have h2:Ao f<=Ao (e+f):=Cu (by omega);rw[Cc];omega
theorem oF {e f N M:Nat}(h:N<Ao e)(k:M<Ao f):N*M<Ao (e+f):=by
 rw[Rr];exact Nat.mul_lt_mul'' h k
theorem Mu {w:World}{v u:Value}{e f N M:Nat}(h:Fit e N v w)(k:Fit f M u w)(he:e<=900000)(hf:f<=900000) :
  Calls Tryz.prog 121 #[v,u] w fun en w'=>∃x,en=.returned x/\Fit (e+f+1) (N+M) x w'/\Below w.heap.size w w':=by
 obtain⟨p,n,c,rfl,h1,h2⟩:=h;obtain⟨q,m,d,rfl,k1,k2⟩:=k;have l1:=h1.len_le h2;have l2:=k1.len_le k2;refine(Vr w p n c N q m d M h1 k1 (by omega) (by omega)).mono ?_;rintro en w' ⟨r,l,g,rfl,hr,hb,_⟩;exact⟨_,rfl,Fit.of hr (oG h2 k2),hb⟩
theorem Mk {w:World}{v u:Value}{e f N M:Nat}(h:Fit e N v w)(k:Fit f M u w)(he:e<=900000)(hf:f<=900000) :
  Calls Tryz.prog 122 #[v,u] w fun en w'=>∃x,en=.returned x/\Fit (e+f) (N*M) x w'/\Below w.heap.size w w':=by
 obtain⟨p,n,c,rfl,h1,h2⟩:=h;obtain⟨q,m,d,rfl,k1,k2⟩:=k;have l1:=h1.len_le h2;have l2:=k1.len_le k2;refine(fT w p n c N q m d M h1 k1 (by omega) (by omega)).mono ?_;rintro en w' ⟨r,l,g,rfl,hr,hb,_⟩;exact⟨_,rfl,Fit.of hr (oF h2 k2),hb⟩
theorem Im {w:World}{v u:Value}{e f N M:Nat}(h:Fit e N v w)(k:Fit f M u w)(he:e<=900000)(hf:f<=900000) :
  Calls Tryz.prog 34 #[v,u] w fun en w'=>∃x,en=.returned x/\x=.int .i64 (By N M)/\Below w.heap.size w w':=by
 obtain⟨p,n,c,rfl,h1,h2⟩:=h;obtain⟨q,m,d,rfl,k1,k2⟩:=k;have l1:=h1.len_le h2;have l2:=k1.len_le k2;refine(Hh w p q n c N m d M h1 k1 (by omega) (by omega)).mono ?_;rintro en w' ⟨rfl,hb⟩;exact⟨_,rfl,rfl,hb⟩
theorem Vy {w:World}{v u:Value}{e f N M:Nat}(h:Fit e N v w)(k:Fit f M u w)(he:e<=900000)(hf:f<=900000) :
  Calls Tryz.prog 130 #[v,u] w fun en w'=>∃x,en=.returned (.tuple #[x,.bool (decide (M<=N))])/\Fit e (N-M) x w'/\Below w.heap.size w w':=by
 obtain⟨p,n,c,rfl,h1,h2⟩:=h;obtain⟨q,m,d,rfl,k1,k2⟩:=k;have l1:=h1.len_le h2;have l2:=k1.len_le k2;refine(fF w p n c N q m d M h1 k1 (by omega) (by omega)).mono ?_;rintro en w' ⟨r,l,g,rfl,hr,hb,_⟩;exact⟨_,rfl,Fit.of hr (by omega),hb⟩
theorem Mq (N:Nat):By N N=0:=by simp[By]
structure Ap (B:Nat) (w w':World):Prop where
 bel:Below B w w'
 nat:∀p n c N,Ai w p n c N->Ai w' p n c N
theorem Ap.of {B:Nat}{w w':World}(h:Below w.heap.size w w')(hB:B<=w.heap.size):Ap B w w':=⟨h.mono hB,fun _ _ _ _ k=>k.below h⟩
theorem Fit.keep {e N B:Nat}{v:Value}{w w':World}(h:Fit e N v w)(k:Ap B w w'):Fit e N v w' :=
 let ⟨p,n,c,h1,h2,h3⟩:=h
 ⟨p,n,c,h1,k.nat _ _ _ _ h2,h3⟩
def Af (w:World)(b:Nat)(u:Value):Prop:=w.heap[b]? = some (.cells #[u] 36 (0,0))
theorem Af.below {w w':World}{b B:Nat}{u:Value}(h:Af w b u)(hb:Below B w w')(hB:b<B):Af w' b u:=by
 unfold Af at *;rw[hb.block b hB];exact h
theorem Af.cell {w:World}{b:Nat}{u:Value}(h:Af w b u):w.cell? ⟨b,0,none⟩=some u:=by
 unfold Af at h;simp[World.cell?,h]
theorem Af.free {w:World}{b:Nat}{u:Value}(h:Af w b u):w.frozen? ⟨b,0,none⟩=false:=by
 unfold Af at h;simp[World.frozen?,h]
theorem Af.lt {w:World}{b:Nat}{u:Value}(h:Af w b u):b<w.heap.size:=(Hy h).1
theorem Af.set {w:World}{b:Nat}{u:Value}(h:Af w b u)(v:Value):Af (w.setCell ⟨b,0,none⟩ v) b v:=by
 unfold Af at *;simp[World.setCell,Array.getElem?_modify,h]
theorem Af.made (w:World)(u:Value):Af (w.alloc (.cells #[u] 36)) w.heap.size u:=by
 show (w.heap.push _)[w.heap.size]? = _;simp
theorem Ai.store {w:World}{p:Option Addr}{n c N b m d:Nat}{q:Option Addr}(h:Ai w p n c N)(hb:Af w b (.slice q m d))(v:Value):Ai (w.setCell ⟨b,0,none⟩ v) p n c N:=by
 obtain⟨ws,r1,r2,r3,r4⟩:=h.ex;rcases Nat.eq_zero_or_pos n with h0|h0
 .refine⟨ws,⟨r1.len,r1.cap,r1.max,?_⟩,r2,r3,r4⟩;rcases r1.at_ with k|⟨b',off,k1,k2,_⟩
  .exact .inl k
  .refine .inr ⟨b',off,k1,by simpa using k2,fun i x hx=>?_⟩;have:ws=[]:=List.eq_nil_of_length_eq_zero (by rw[<-r1.len];exact h0);rw[this]at hx;cases hx
 .refine h.setCell (a:=⟨b,0,none⟩) ?_ v;intro a ha hab;obtain⟨b',off,k1,k2,k3⟩:=r1.pos h0;rw[k1]at ha;cases ha
  have hbb:b'=b:=hab;subst hbb;have h1:=k3 0 (ws.getD 0 0) (by rw[Ex];simp[show 0<ws.length by rw[<-r1.len];exact h0]);unfold Af at hb;simp only[World.cell?,hb,Nat.add_zero]at h1
  cases off with
  | zero=>simp at h1
  | succ k=>simp at h1
theorem Ap.store {B:Nat}{w:World}{b m d:Nat}{q:Option Addr}(hb:Af w b (.slice q m d))(hB:B<=b)(v:Value):Ap B w (w.setCell ⟨b,0,none⟩ v) :=
 ⟨(Br _ _).setCell hB _,fun _ _ _ _ k=>k.store hb v⟩
def mX (N:Nat)(v:Value)(w:World):Prop:=∃q n d,v=.slice q n d/\Row w .u8 q n d (Ef N (Ay N))
theorem Xy {w:World}{v:Value}{e N:Nat}(h:Fit e N v w) :
  Calls Tryz.prog 26 #[v] w fun en w'=>∃x,en=.returned x/\x=.bool (decide (N=0))/\Below w.heap.size w w':=by
 obtain⟨p,n,c,rfl,h1,h2⟩:=h;refine(Ea w p n c).mono ?_;rintro en w' ⟨rfl,hb⟩;exact⟨_,rfl,by rw[decide_eq_decide.2 h1.zero],hb⟩
theorem Ek (w:World) :
  Calls Tryz.prog 21 #[.int .u64 1] w fun en w'=>∃x,en=.returned x/\Fit 1 1 x w'/\Below w.heap.size w w':=by
 refine(Da 1 w (by decide)).mono ?_;rintro en w' ⟨p,n,c,rfl,hn,hb,_⟩;exact⟨_,rfl,Fit.of hn (by decide),hb⟩
theorem Vc {w:World}{v:Value}{e N:Nat}(h:Fit e N v w)(he:e<=30000) :
  Calls Tryz.prog 96 #[v] w fun en w'=>∃x,en=.returned x/\mX N x w'/\Below w.heap.size w w':=by
 obtain⟨p,n,c,rfl,h1,h2⟩:=h;have l1:=h1.len_le h2;have hbl:Ak N<=32*e:=(Bq N _).2 (by
  have:Ao e=2^(32*e):=by unfold Ao;rw[Nat.pow_mul]
  rw[<-this];exact h2)
 refine(Qs w p n c N h1 (by omega) (by omega)).mono ?_;rintro en w' ⟨x,rfl,⟨q,m,d,k1,k2,_⟩,hb⟩;exact⟨_,rfl,⟨q,m,d,k1,k2⟩,hb⟩
theorem Cr {x y:Nat}:By x y=0 ↔ x=y:=by
 unfold By;repeat' split
 all_goals omega
theorem Lu {x y:Nat}:0<By x y ↔ y<x:=by
 unfold By;repeat' split
 all_goals omega
theorem Ae {w w1 w2:World}(h:Below w.heap.size w w1)(k:Below w1.heap.size w1 w2):Below w.heap.size w w2:=h.trans (k.mono h.size)
theorem Ld {e N:Nat}(h:N<Ao e):Ak N<=32*e:=(Bq N _).2 (by
 have:Ao e=2^(32*e):=by unfold Ao;rw[Nat.pow_mul]
 rw[<-this];exact h)
theorem jL {w:World}{v:Value}{e N:Nat}{q:Option Addr}{m d:Nat}(h:Fit e N v w)(k:Bt w q m d N)(he:e<=30000) :
  Calls Tryz.prog 28 #[v,.slice q m d] w fun en w'=>∃x,en=.returned x/\x=.bool true/\Below w.heap.size w w':=by
 obtain⟨p,n,c,rfl,h1,h2⟩:=h;have l1:=h1.len_le h2;have l2:=Ld h2;refine(bV w p n c N q m d N h1 (by omega) (by omega) k rfl).mono ?_;rintro en w' ⟨rfl,hb⟩;exact⟨_,rfl,rfl,hb⟩
def Al (N:Nat)(v:Value)(w:World):Prop:=∃q m d,v=.slice q m d/\Bt w q m d N
theorem Al.below {N:Nat}{v:Value}{w w':World}(h:Al N v w)(hb:Below w.heap.size w w'):Al N v w' :=
 let ⟨q,m,d,h1,h2⟩:=h
 ⟨q,m,d,h1,h2.below hb⟩
theorem Al.of {N:Nat}{q:Option Addr}{m d:Nat}{w:World}(h:Bt w q m d N):Al N (.slice q m d) w:=⟨q,m,d,rfl,h⟩
theorem Uw {w:World}{v u:Value}{e N:Nat}(h:Fit e N v w)(k:Al N u w)(he:e<=30000) :
  Calls Tryz.prog 28 #[v,u] w fun en w'=>∃x,en=.returned x/\x=.bool true/\Below w.heap.size w w':=by
 obtain⟨q,m,d,rfl,k⟩:=k;exact jL h k he
theorem jQ {w:World}{v u:Value}{N M:Nat}(h:Al N v w)(k:Al M u w)(hN:Ak N<=1000000)(hM:Ak M<=1000000) :
  Calls Tryz.prog 51 #[v,u] w fun en w'=>∃x,en=.returned x/\x=.int .i64 (By N M)/\Below w.heap.size w w':=by
 obtain⟨p,n,c,rfl,h⟩:=h;obtain⟨q,m,d,rfl,k⟩:=k;refine(Nk w p n c N q m d M h k (by rw[De h];omega) (by rw[De k];omega)).mono ?_;rintro en w' ⟨rfl,hb⟩;exact⟨_,rfl,rfl,hb⟩
theorem Yq {w:World}{v u:Value}{N M:Nat}(h:Al N v w)(k:Al M u w)(hN:Ak N<=1000000)(hM:Ak M<=1000000) :
  Calls Tryz.prog 151 #[v,u] w fun en w'=>∃x,en=.returned x/\Al (N+M) x w'/\Below w.heap.size w w':=by
 obtain⟨p,n,c,rfl,h⟩:=h;obtain⟨q,m,d,rfl,k⟩:=k;refine(Sf w p n c N q m d M h k (by rw[De h];omega) (by rw[De k];omega)).mono ?_;rintro en w' ⟨p,n,c,rfl,hr,hb,_⟩;exact⟨_,rfl,Al.of hr,hb⟩
theorem jO {w:World}{v u:Value}{N M:Nat}(h:Al N v w)(k:Al M u w)(hN:Ak N<=1000000)(hle:M<=N) :
  Calls Tryz.prog 198 #[v,u] w fun en w'=>∃x,en=.returned x/\Al (N-M) x w'/\Below w.heap.size w w':=by
 obtain⟨p,n,c,rfl,h⟩:=h;obtain⟨q,m,d,rfl,k⟩:=k;refine(Ni w p n c N q m d M h k (by rw[De h];omega) hle).mono ?_;rintro en w' ⟨p,n,c,rfl,hr,hb,_⟩;exact⟨_,rfl,Al.of hr,hb⟩
theorem Xh {w:World}{v u:Value}{e f N M:Nat}(h:Fit e N v w)(k:Fit f M u w)(he:e<=800000)(hf:f<=800000) :
  Calls Tryz.prog 101 #[v,u] w fun en w'=>∃x,en=.returned x/\(∃q r,x=.tuple #[q,r,.int .i64 (if M=0 then 5 else 0)]/\Fit e (N/M) q w'/\Fit e (if M=0 then 0 else N%M) r w')/\Below w.heap.size w w':=by
 obtain⟨p,n,c,rfl,h1,h2⟩:=h;obtain⟨q,m,d,rfl,k1,k2⟩:=k;have l1:=h1.len_le h2;have l2:=k1.len_le k2;refine(Vl w p n c N q m d M h1 k1 (by omega) (by omega)).mono ?_;rintro en w' ⟨p1,n1,c1,p2,n2,c2,rfl,g1,g2,hb,_,_⟩;refine⟨_,rfl,⟨_,_,rfl,Fit.of g1 (Nat.lt_of_le_of_lt (Nat.div_le_self _ _) h2),Fit.of g2 ?_⟩,hb⟩;split
 .exact Fj e
 .exact Nat.lt_of_le_of_lt (Nat.mod_le _ _) h2
def Kw (v:Value)(B N:Nat)(full:Bool)(w:World):Prop:=∃b,v=.pointer (some ⟨b,0,none⟩)/\B<=b/\∃p n c,Af w b (.slice p n c)/\(full=true->Ai w p n c N)
theorem Kw.later {v:Value}{B N:Nat}{full:Bool}{w w':World}(h:Kw v B N full w)(hb:Below w.heap.size w w'):Kw v B N full w' :=
 let ⟨b,h1,h2,p,n,c,h3,h4⟩:=h
 ⟨b,h1,h2,p,n,c,h3.below hb h3.lt,fun hf=>(h4 hf).below hb⟩
theorem Kw.made (w:World){B:Nat}(hB:B<=w.heap.size)(N:Nat):Kw (.pointer (some ⟨w.heap.size,0,none⟩)) B N false (w.alloc (.cells #[.slice none 0 0] 36)) :=
 ⟨w.heap.size,rfl,hB,none,0,0,Af.made _ _,fun h=>by cases h⟩
theorem Af.other {w:World}{b b':Nat}{u:Value}(h:Af w b u)(hne:b≠b')(v:Value):Af (w.setCell ⟨b',0,none⟩ v) b u:=by
 unfold Af at *;rw[heap_setCell_other w ⟨b',0,none⟩ b v (fun e=>hne e)];exact h
structure Hf (B x y:Nat) (d1 d2 f1 f2:Bool) (v1 v2:Value) (w:World):Prop where
 one:d1=true->Kw v1 B x f1 w
 two:d2=true->Kw v2 B y f2 w
 ne:d1=true->d2=true->v1≠v2
 size:B<=w.heap.size
theorem Hf.start {B x y:Nat}{f1 f2:Bool}{v1 v2:Value}{w:World}(h:B<=w.heap.size):Hf B x y false false f1 f2 v1 v2 w :=
 ⟨(fun h=>by cases h),(fun h=>by cases h),(fun h=>by cases h),h⟩
theorem Hf.swap {B x y:Nat}{d1 d2 f1 f2:Bool}{v1 v2:Value}{w:World}(h:Hf B x y d1 d2 f1 f2 v1 v2 w):Hf B y x d2 d1 f2 f1 v2 v1 w :=
 ⟨h.two,h.one,fun a b e=>h.ne b a e.symm,h.size⟩
theorem Hf.later {B x y:Nat}{d1 d2 f1 f2:Bool}{v1 v2:Value}{w w':World}(h:Hf B x y d1 d2 f1 f2 v1 v2 w)(hb:Below w.heap.size w w'):Hf B x y d1 d2 f1 f2 v1 v2 w' :=
 ⟨fun a=>(h.one a).later hb,fun a=>(h.two a).later hb,h.ne,Dm h.size hb.size⟩
theorem Hf.alloc1 {B x y:Nat}{d2 f1 f2:Bool}{v1 v2:Value}{w:World}(h:Hf B x y false d2 f1 f2 v1 v2 w) :
  Hf B x y true d2 false f2 (.pointer (some ⟨w.heap.size,0,none⟩)) v2 (w.alloc (.cells #[.slice none 0 0] 36)) :=
 ⟨fun _=>Kw.made w h.size x,fun a=>(h.two a).later ((Br _ _).alloc (Av _) _),fun _ a e=>by
  obtain⟨b,h1,_,p,n,c,h3,_⟩:=h.two a;have:=h3.lt;rw[h1]at e
  simp only[Value.pointer.injEq,Option.some.injEq,Addr.mk.injEq]at e;omega,Dm h.size (by simp)⟩
theorem Hf.alloc2 {B x y:Nat}{d1 f1 f2:Bool}{v1 v2:Value}{w:World}(h:Hf B x y d1 false f1 f2 v1 v2 w) :
  Hf B x y d1 true f1 false v1 (.pointer (some ⟨w.heap.size,0,none⟩)) (w.alloc (.cells #[.slice none 0 0] 36)):=h.swap.alloc1.swap
theorem Hf.store1 {B x y:Nat}{d2 f1 f2:Bool}{v1 v2:Value}{w:World}{p:Option Addr}{n c:Nat}(h:Hf B x y true d2 f1 f2 v1 v2 w)(hx:Ai w p n c x) :
  ∃b q m d,v1=.pointer (some ⟨b,0,none⟩)/\B<=b/\Af w b (.slice q m d)/\Hf B x y true d2 true f2 v1 v2 (w.setCell ⟨b,0,none⟩ (.slice p n c)):=by
 obtain⟨b,h1,h2,q,m,d,h3,_⟩:=h.one rfl;refine⟨b,q,m,d,h1,h2,h3,fun _=>⟨b,h1,h2,p,n,c,h3.set _,fun _=>hx.store h3 _⟩,fun a=>?_,h.ne,by simpa using h.size⟩;obtain⟨b',g1,g2,q',m',d',g3,g4⟩:=h.two a;have hne:b'≠b:=fun e=>h.ne rfl a (by rw[h1,g1,e])
 exact⟨b',g1,g2,q',m',d',g3.other hne _,fun hf=>(g4 hf).store h3 _⟩
theorem Hf.store2 {B x y:Nat}{d1 f1 f2:Bool}{v1 v2:Value}{w:World}{p:Option Addr}{n c:Nat}(h:Hf B x y d1 true f1 f2 v1 v2 w)(hy:Ai w p n c y) :
  ∃b q m d,v2=.pointer (some ⟨b,0,none⟩)/\B<=b/\Af w b (.slice q m d)/\Hf B x y d1 true f1 true v1 v2 (w.setCell ⟨b,0,none⟩ (.slice p n c)):=by
 obtain⟨b,q,m,d,h1,h2,h3,h4⟩:=h.swap.store1 hy;exact⟨b,q,m,d,h1,h2,h3,h4.swap⟩
theorem jP {w:World}{v u:Value}{N M:Nat}(h:Al N v w)(k:Al M u w)(hN:Ak N<=100000)(hM:Ak M<=100000) :
  Calls Tryz.prog 152 #[v,u] w fun en w'=>∃x,en=.returned x/\Al (N*M) x w'/\Below w.heap.size w w':=by
 obtain⟨p,n,c,rfl,h⟩:=h;obtain⟨q,m,d,rfl,k⟩:=k;refine(cB w p n c N q m d M h k (by rw[De h];omega) (by rw[De k];omega)).mono ?_;rintro en w' ⟨p,n,c,rfl,hr,hb,_⟩;exact⟨_,rfl,Al.of hr,hb⟩
theorem Yp {w:World}{v u:Value}{N M:Nat}(h:Al N v w)(k:Al M u w)(hN:Ak N<=900000)(hM:Ak M<=900000)(hM0:0<M) :
  Calls Tryz.prog 148 #[v,u] w fun en w'=>∃p n c q m d,en=.returned (.tuple #[.slice p n c,.slice q m d])/\Bt w' p n c (N/M)/\Bt w' q m d (N%M)/\Below w.heap.size w w':=by
 obtain⟨p,n,c,rfl,h⟩:=h;obtain⟨q,m,d,rfl,k⟩:=k;refine(cD w p n c N q m d M h k (by rw[De h];omega) (by rw[De k];omega) hM0).mono ?_;rintro en w' ⟨p,n,c,q,m,d,rfl,h1,h2,hb,_,_⟩;exact⟨p,n,c,q,m,d,rfl,h1,h2,hb⟩
theorem lD (A B:Nat):Nat.gcd B (A%B)=Nat.gcd A B:=by
 rw[Nat.gcd_comm B,<-Nat.gcd_rec,Nat.gcd_comm]
structure pH (w wr:World) (e A k:Nat) (pa:Option Addr) (na ca:Nat) (pb:Option Addr) (nb cb:Nat):Prop where
 box0:Af wr w.heap.size (.slice pa na ca)
 box1:Af wr (w.heap.size+1) (.slice pb nb cb)
 box2:Af wr (w.heap.size+2) (.slice none 0 0)
 one:Ai wr pa na ca A
 two:Ai wr pb nb cb k
 lim1:A<Ao e
 lim2:k<Ao e
 bel:Below w.heap.size w wr
theorem gS (w:World)(pa:Option Addr)(na ca N:Nat)(pb:Option Addr)(nb cb M e:Nat)(hA:Ai w pa na ca N)(hB:Ai w pb nb cb M)(hlA:N<Ao e)(hlB:M<Ao e)(he:e<=800000) :
  Calls Tryz.prog 253 #[.agg #[.slice pa na ca],.agg #[.slice pb nb cb]] w (Gt (Nat.gcd N M) w):=by
 obtain⟨G,hG⟩:∃G,Nat.gcd N M=G:=⟨_,rfl⟩
 rw[hG];have HG:=Ag hG;clear hG;go_enter Tryz.func253,Tryz.ntmps253;go_wp2
 go_loopg [7] M (fun k _ wr=>∃(A:Nat) (pa:Option Addr) (na ca:Nat) (pb:Option Addr) (nb cb:Nat),pH w wr e A k pa na ca pb nb cb/\Hid (Nat.gcd A k=G))
 case atStart=>
  have hbx:=Dc.mk3 w (.slice pa na ca) (.slice pb nb cb) (.slice none 0 0) 36 36 36;refine⟨N,pa,na,ca,pb,nb,cb,⟨?_,?_,?_,hA.below hbx.bel,hB.below hbx.bel,hlA,hlB,hbx.bel⟩,HG⟩
  .exact((Af.made w _).below ((Br _ _).alloc (Av _) _) (by simp)).below ((Br _ _).alloc (Av _) _) (by simp;omega)
  .have:=(Af.made (w.alloc (.cells #[.slice pa na ca] 36)) (.slice pb nb cb)).below ((Br _ _).alloc (Av _) (.cells #[.slice none 0 0] 36)) (by simp);simpa using this
  .have:=Af.made ((w.alloc (.cells #[.slice pa na ca] 36)).alloc (.cells #[.slice pb nb cb] 36)) (.slice none 0 0);simpa using this
 case round=>
  obtain⟨A,pa,na,ca,pb,nb,cb,hst,hgc⟩:=hrel;have HST:=Ag hst;have c1:=hst.box1.cell;have l1:=hst.one.len_le hst.lim1;have l2:=hst.two.len_le hst.lim2;clear hst
  go_wp2_with fail
  refine(Ea wr pb nb cb).mono ?_;rintro en w1 ⟨rfl,hb1⟩;have hz:decide (nb=0)=decide (gk=0):=decide_eq_decide.2 HST.out.two.zero;rw[hz];clear hz;rcases Nat.eq_zero_or_pos gk with h0|h0
  .have hd0:decide (gk=0)=true:=decide_eq_true h0;rw[hd0];have HAG:Hid (A=G):=Ag (by have:=hgc.out;rw[h0,Nat.gcd_zero_right]at this;exact this);have HB1:=Ag hb1;have k0:=(HST.out.box0.below hb1 HST.out.box0.lt).cell;clear hd0 h0 c1
   go_wp2_with fail
   refine(Qz w1 pa na ca A (HST.out.one.below HB1.out) (by omega)).mono ?_;rintro en w2 ⟨q,m,d,rfl,hn,hb2,hq⟩;have k2:=((HST.out.box2.below HB1.out HST.out.box2.lt).below hb2 (Eh HST.out.box2.lt HB1.out.size))
   have k2c:=k2.cell;have k2f:=k2.free;have hqn:w.heap.size+2<w1.heap.size:=Eh HST.out.box2.lt HB1.out.size;have hbw:=Ae (Ae HST.out.bel HB1.out) hb2;clear k0;go_wp2;refine bodyPost_ret (v:=.agg #[.slice q m d]) (by simp[results,Tryz.results253,go_sem,k2c]) rfl ⟨q,m,d,rfl,?_,hbw.setCell (by simp;omega) _,hq.mono (by omega)⟩;have:=hn.setCell (a:=⟨w.heap.size+2,0,none⟩) (hq.ne (by simpa using hqn)) (.slice q m d);rw[HAG.out]at this
   exact this
  .have hd0:decide (gk=0)=false:=decide_eq_false (by omega);rw[hd0];have H0:=Ag h0;have HB1:=Ag hb1;have k0:=(HST.out.box0.below hb1 HST.out.box0.lt).cell;have k1:=(HST.out.box1.below hb1 HST.out.box1.lt).cell;clear hd0 h0 c1 hb1
   go_wp2_with fail
   refine(Vl w1 pa na ca A pb nb cb gk (HST.out.one.below HB1.out) (HST.out.two.below HB1.out) (by omega) (by omega)).mono ?_;rintro en w2 ⟨q,m,d,r,l,f,rfl,hq,hr,hb2,_,_⟩;rw[if_neg (by have:=H0.out;omega)]at hr
   rw[if_neg (by have:=H0.out;omega)];have hb12:=Ae HB1.out hb2;have g0:=HST.out.box0.below hb12 HST.out.box0.lt;have g1:=HST.out.box1.below hb12 HST.out.box1.lt;have g2:=HST.out.box2.below hb12 HST.out.box2.lt;have n2:=HST.out.two.below hb12;have hbw:=Ae HST.out.bel hb12;have s2:=g2.lt;have HG0:=Ag g0;have HG1:=Ag g1;have HG2:=Ag g2;have HR:=Ag hr;have HN2:=Ag n2;have HBW:=Ag hbw;clear k0 k1 hq g0 g1 g2 hr n2 hbw hb12 hb2;go_wp2;obtain⟨w3,hw3⟩:∃w3,(w2.alloc (.cells #[.slice q m d] 36)).alloc (.cells #[.slice r l f] 36)=w3:=⟨_,rfl⟩
   have hb3:Below w2.heap.size w2 w3:=by rw[<-hw3];exact((Br _ _).alloc (Av _) _).alloc (by simp) _
   have hr3:Af w3 (w2.heap.size+1) (.slice r l f):=by
    rw[<-hw3];have:=Af.made (w2.alloc (.cells #[.slice q m d] 36)) (.slice r l f);simpa using this
   rw[hw3];have hb4:=hb3.trans (Br w2.heap.size w3).drew;have hs2:w.heap.size+2<w2.heap.size:=s2;refine Aj (by kernel_rfl) (by kernel_rfl)
    [some (.agg #[.slice pb nb cb]),some (.agg #[.slice r l f]),none,none]
    [false,false,true,true] rfl
    (fun _ _=>True)
    (fun D w'=>Af w' w.heap.size (if D 2 then .slice pb nb cb else .slice pa na ca)/\Af w' (w.heap.size+1) (if D 3 then .slice r l f else .slice pb nb cb)/\Af w' (w.heap.size+2) (.slice none 0 0)/\Af w' (w2.heap.size+1) (.slice r l f)/\Ai w' pb nb cb gk/\Ai w' r l f (A%gk)/\Below w.heap.size w w')
    (fun _ _ _=>True)
    (fun _ _ _ _ h _=>h) ⟨HG0.out.below hb4 HG0.out.lt,HG1.out.below hb4 HG1.out.lt,HG2.out.below hb4 HG2.out.lt,hr3,HN2.out.below hb4,HR.out.below hb4,Ae HBW.out hb4⟩ ?_ ?_
   .simp only[Bu,Nat.reduceAdd];refine⟨?_,?_,?_,?_,trivial⟩
    case refine_1=>
     intro D sp w' hD hW hdp ⟨k0,k1,k2,k3,k4,k5,k6⟩;have h3:D 3=false:=hW 3 (mq (by kernel_rfl));rw[h3]at k1
     simp only[Bool.false_eq_true,if_false]at k1;have c1:=k1.cell;simp[asked,Region.wanted,Oper.gives,execOp,Act.eval,go_sem,c1]
    case refine_2=>
     intro D sp w' hD hW hdp ⟨k0,k1,k2,k3,k4,k5,k6⟩;have c3:=k3.cell;simp[asked,Region.wanted,Oper.gives,execOp,Act.eval,Act.put,go_sem,c3]
    case refine_3=>
     intro D sp w' hD hW hdp ⟨k0,k1,k2,k3,k4,k5,k6⟩;rw[hD]at k0
     simp only[Bool.false_eq_true,if_false]at k0;have c0:=k0.cell;have f0:=k0.free;have e1:=k1.other (b':=w.heap.size) (by omega) (.slice pb nb cb);have e2:=k2.other (b':=w.heap.size) (by omega) (.slice pb nb cb);have e3:=k3.other (b':=w.heap.size) (by omega) (.slice pb nb cb)
     (with_reducible refine Ar (w1:=w'.setCell ⟨w.heap.size,0,none⟩ (.slice pb nb cb)) ?_ ?_ ?_)
     .simp only[Region.wanted]
     .simp[execOp,Act.eval,Act.put,go_sem,c0,f0]
     .refine⟨trivial,trivial,?_,?_,e2,e3,k4.store k0 _,k5.store k0 _,k6.setCell (Av _) _⟩
      .simp only[decide_true,Bool.or_true,if_true];exact k0.set _
      .simpa using e1
    case refine_4=>
     intro D sp w' hD hW hdp ⟨k0,k1,k2,k3,k4,k5,k6⟩;rw[hD]at k1
     simp only[Bool.false_eq_true,if_false]at k1;have c0:=k1.cell;have f0:=k1.free;have e1:=k0.other (b':=w.heap.size+1) (by omega) (.slice r l f);have e2:=k2.other (b':=w.heap.size+1) (by omega) (.slice r l f);have e3:=k3.other (b':=w.heap.size+1) (by omega) (.slice r l f)
     (with_reducible refine Ar (w1:=w'.setCell ⟨w.heap.size+1,0,none⟩ (.slice r l f)) ?_ ?_ ?_)
     .simp only[Region.wanted]
     .simp[execOp,Act.eval,Act.put,go_sem,c0,f0]
     .refine⟨trivial,trivial,?_,?_,e2,e3,k4.store k1 _,k5.store k1 _,k6.setCell (by simp) _⟩
      .simpa using e1
      .simp only[decide_true,Bool.or_true,if_true];exact k1.set _
   .intro sp w' hsp ⟨k0,k1,k2,k3,k4,k5,k6⟩;have j0:Af w' w.heap.size (.slice pb nb cb):=k0;have j1:Af w' (w.heap.size+1) (.slice r l f):=k1;have hlt:A%gk<gk:=Nat.mod_lt _ H0.out;have HLT:=Ag hlt;have J:Hid (pH w w' e gk (A%gk) pb nb cb r l f):=Ag ⟨j0,j1,k2,k4,k5,HST.out.lim2,Nat.lt_trans hlt HST.out.lim2,k6⟩;clear hsp k0 k1 k2 k3 k4 k5 k6 j0 j1 hlt;simp only[An,Nat.reduceAdd];generalize sp 2=u2,sp 3=u3 at *
    go_simp
    go_wp2
    go_roundg (A%gk)
    case measure=>exact HLT.out
    case rel=>exact⟨gk,pb,nb,cb,r,l,f,J.out,Ag (by rw[lD];exact hgc.out)⟩
end Go.Proofs.YtnbmfaihlefgfaaGreatDoor
