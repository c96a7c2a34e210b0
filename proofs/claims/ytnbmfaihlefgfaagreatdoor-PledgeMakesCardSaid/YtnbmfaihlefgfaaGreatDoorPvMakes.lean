/- PledgeMakes, walked: polynomials' pledges, bare ones, and products of rows are the document's. -/
import Derived.Lib.SmallJoins
import Derived.Deep.LoopGhost
import Derived.Test.YtnbmfaihlefgfaaGreatDoorPdB
import Derived.Test.YtnbmfaihlefgfaaGreatDoorPdC
set_option maxRecDepth 1000000
set_option maxHeartbeats 16000000
set_option linter.all false
namespace Go.Proofs.YtnbmfaihlefgfaaGreatDoor
open Go Go.RowKit Go.Proofs.YtnbmfaihlefgfaaGreatDoor.Flow
theorem kL (i:Nat)(hi:i<3):Au (gP i)<=16:=by
 rw[Mo i hi]
 match i,hi with
 | 0,_=>decide
 | 1,_=>decide
 | 2,_=>decide
theorem lD:∀i,i<3->gQ i<gP i
 | 0,_=>by decide
 | 1,_=>by decide
 | 2,_=>by decide
 | _+3,h=>by omega
theorem kJ (i:Nat)(hi:i<3):Au (gQ i)<=16:=Mq.2 (Nat.lt_trans (lD i hi) (Mq.1 (kL i hi)))
def Tm (e:Nat)(Ls:List (List Nat))(v:Value)(w:World):Prop:=∃g,v=.slice (some ⟨g,0,none⟩) 3 3/\Mx w e (some ⟨g,0,none⟩) 3 Ls
theorem Tm.below {e:Nat}{Ls:List (List Nat)}{v:Value}{w w':World}(h:Tm e Ls v w)(hb:Below w.heap.size w w'):Tm e Ls v w':=let ⟨g,h1,h2⟩:=h;⟨g,h1,h2.below hb⟩
def Nv (Ls:List (List Nat))(v:Value)(w:World):Prop:=∃g,v=.slice (some ⟨g,0,none⟩) 3 3/\To w (some ⟨g,0,none⟩) 3 Ls
theorem Nv.below {Ls:List (List Nat)}{v:Value}{w w':World}(h:Nv Ls v w)(hb:Below w.heap.size w w'):Nv Ls v w':=let ⟨g,h1,h2⟩:=h;⟨g,h1,h2.below hb⟩
def kT (Ns:List Nat)(v:Value)(w:World):Prop:=∃q d,v=.slice q Ns.length d/\Bd w 33 q Ns.length d Ns
theorem kT.below {Ns:List Nat}{v:Value}{w w':World}(h:kT Ns v w)(hb:Below w.heap.size w w'):kT Ns v w':=let ⟨q,d,h1,h2⟩:=h;⟨q,d,h1,h2.below hb⟩
theorem kB {w:World}{g e m0 d0 m1 d1 m2 d2:Nat}{q0 q1 q2:Option Addr}{L0 L1 L2:List Nat}{T:TypeId}(h:w.heap[g]? = some (.cells #[.slice q0 m0 d0,.slice q1 m1 d1,.slice q2 m2 d2] T (0,0)))(h0:Bd w e q0 m0 d0 L0)(h1:Bd w e q1 m1 d1 L1)(h2:Bd w e q2 m2 d2 L2) :
  Mx w e (some ⟨g,0,none⟩) 3 [L0,L1,L2] :=
 ⟨rfl,fun _=>⟨g,0,rfl,(Mv h).1,fun i L hL=>by
  match i,hL with
  | 0,hL=>cases hL;exact⟨q0,m0,d0,by simp[World.cell?,h],h0⟩
  | 1,hL=>cases hL;exact⟨q1,m1,d1,by simp[World.cell?,h],h1⟩
  | 2,hL=>cases hL;exact⟨q2,m2,d2,by simp[World.cell?,h],h2⟩
  | i+3,hL=>simp at hL⟩⟩
theorem kE {w:World}{g m0 d0 m1 d1 m2 d2:Nat}{q0 q1 q2:Option Addr}{L0 L1 L2:List Nat}{T:TypeId}(h:w.heap[g]? = some (.cells #[.slice q0 m0 d0,.slice q1 m1 d1,.slice q2 m2 d2] T (0,0)))(h0:Em w q0 m0 d0 L0)(h1:Em w q1 m1 d1 L1)(h2:Em w q2 m2 d2 L2) :
  To w (some ⟨g,0,none⟩) 3 [L0,L1,L2] :=
 ⟨rfl,fun _=>⟨g,0,rfl,(Mv h).1,fun i L hL=>by
  match i,hL with
  | 0,hL=>cases hL;exact⟨q0,m0,d0,by simp[World.cell?,h],h0⟩
  | 1,hL=>cases hL;exact⟨q1,m1,d1,by simp[World.cell?,h],h1⟩
  | 2,hL=>cases hL;exact⟨q2,m2,d2,by simp[World.cell?,h],h2⟩
  | i+3,hL=>simp at hL⟩⟩
theorem cP {w:World}{b P Q GG HH e:Nat}{u:Value}{Ls:List (List Nat)}(hg:Bo w b P Q GG HH)(hL:Tm e Ls u w)(he:e<=200)(hl:∀L∈Ls,L.length<=1000) :
  Calls Tryz.prog 66 #[.pointer (some ⟨b,0,none⟩),u] w fun en w'=>∃x,en=.returned x/\kT (By P Ls []) x w'/\Below w.heap.size w w':=by
 obtain⟨g,rfl,h⟩:=hL;refine(Sn hg h he (by decide) hl).mono ?_;rintro en w9 ⟨q,m,d,rfl,rfl,hp,hb⟩;exact⟨_,rfl,⟨q,d,rfl,hp⟩,hb⟩
theorem Wp {w:World}{b P Q GG HH:Nat}(hg:Bo w b P Q GG HH) :
  Calls Tryz.prog 66 #[.pointer (some ⟨b,0,none⟩),.slice none 0 0] w fun en w'=>∃x,en=.returned x/\(∃q d,x=.slice q 0 d)/\Below w.heap.size w w':=by
 refine(Sn (e:=33) (Ls:=[]) hg (Mx.nil w 33 none) (by decide) (by decide) (fun L hL=>by cases hL)).mono ?_;rintro en w9 ⟨q,m,d,rfl,rfl,hp,hb⟩;exact⟨_,rfl,⟨q,d,rfl⟩,hb⟩
theorem Zs {w:World}{v u:Value}{P Q G H:Nat}{Ls:List (List Nat)}(h:Cz P Q G H v w)(hL:Nv Ls u w)(lP:Aj P<=100000)(hP:2<=P)(hx:∀L∈Ls,∀x∈L,Aj x<=100000)(hl:∀L∈Ls,L.length<=1000) :
  Calls Tryz.prog 67 #[v,u] w fun e w'=>∃x,e=.returned x/\Kv (By P Ls []).length (By P Ls []) x w'/\Below w.heap.size w w':=by
 obtain⟨g,rfl,h2⟩:=hL;exact Rr h h2 lP hP hx hl (by decide) (by decide) (by decide)
theorem dB {w:World}{v u t:Value}{P Q G H n m:Nat}{xa xb:List Nat}(h:Cz P Q G H v w)(hA:Kv n xa u w)(hB:Kv m xb t w)(lP:Aj P<=100000)(lG:Aj G<=100000)(lH:Aj H<=100000)(hP:2<=P)(hG:G^Q%P=1%P)(hH:H^Q%P=1%P)(hxa:∀x∈xa,Aj x<=100000)(hxb:∀x∈xb,Aj x<=100000)(hn:n<=1000)(hm:m<=1000) :
  Calls Tryz.prog 62 #[v,u,t] w fun e w'=>∃x,e=.returned x/\Kv (max n m) (Fa P Q G H xa xb) x w'/\Below w.heap.size w w':=by
 obtain⟨q,d,rfl,h2⟩:=hA.ex;obtain⟨q',d',rfl,h3⟩:=hB.ex;exact Ut h h2 h3 lP lG lH hP hG hH hxa hxb hn hm
theorem Zu {w:World}{v u:Value}{P Q G H n:Nat}{xa:List Nat}(h:Cz P Q G H v w)(hA:Kv n xa u w)(lP:Aj P<=100000)(lG:Aj G<=100000)(hP:2<=P)(hG:G^Q%P=1%P)(hH:H^Q%P=1%P)(hxa:∀x∈xa,Aj x<=100000)(hn:n<=1000) :
  Calls Tryz.prog 65 #[v,u] w fun e w'=>∃x,e=.returned x/\Kv n (Fa P Q G H xa []) x w'/\Below w.heap.size w w':=by
 obtain⟨q,d,rfl,h2⟩:=hA.ex;exact Rt h h2 lP lG hP hG hH hxa hn
theorem Si {w:World}{v u:Value}{n m:Nat}{Ns:List Nat}(h:iF n Ns v w)(k:Kv m Ns u w) :
  Calls Tryz.prog 60 #[v,u] w fun en w'=>∃x,en=.returned x/\x=.bool true/\Below w.heap.size w w':=by
 obtain⟨g,rfl,h1⟩:=h;obtain⟨q,d,rfl,h2⟩:=k.ex;obtain rfl:n=m:=by rw[h1.len,h2.len]
 exact Mf h1 h2 (by decide)
theorem bI {w:World}{v u:Value}{m:Nat}{Ns:List Nat}(h:kT Ns v w)(k:Kv m Ns u w) :
  Calls Tryz.prog 60 #[v,u] w fun en w'=>∃x,en=.returned x/\x=.bool true/\Below w.heap.size w w':=by
 obtain⟨g,c,rfl,h1⟩:=h;obtain⟨q,d,rfl,h2⟩:=k.ex;obtain rfl:Ns.length=m:=by rw[h2.len]
 exact Mf h1 h2 (by decide)
theorem Tz (w:World)(hr:Tabs w)(A:Int)(q1:Option Addr)(s1 e1:Nat)(xa:List Nat)(h1:Bq w .u64 q1 s1 e1 xa)(k1:∀x∈xa,jU x)(q2:Option Addr)(s2 e2:Nat)(xb:List Nat)(h2:Bq w .u64 q2 s2 e2 xb)(k2:∀x∈xb,jU x)(q3:Option Addr)(s3 e3:Nat)(xc:List Nat)(h3:Bq w .u64 q3 s3 e3 xc)(k3:∀x∈xc,jU x) :
  Calls Tryz.prog 10 #[.int .i64 A,.slice q1 s1 e1,.slice q2 s2 e2,.slice q3 s3 e3] w fun e w'=>e=.returned (.bool true)/\Below w.heap.size w w':=by
 have HLI:=Ac Rp;have HGR:=Ac La;have HT:=Ac hr;have HRW1:=Ac h1;have H641:=Ac k1;have hcp1:=h1.cap;have hmx1:=h1.max;have HXL1:Ab (∀x∈xa,Aj x<=100000):=⟨fun x hx=>by have:=(Ba x 64).2 (k1 x hx);omega⟩
 have HLN1:=Ac h1.len;have HRW2:=Ac h2;have H642:=Ac k2;have hcp2:=h2.cap;have hmx2:=h2.max;have HXL2:Ab (∀x∈xb,Aj x<=100000):=⟨fun x hx=>by have:=(Ba x 64).2 (k2 x hx);omega⟩
 have HLN2:=Ac h2.len;have HRW3:=Ac h3;have H643:=Ac k3;have hcp3:=h3.cap;have hmx3:=h3.max;have HXL3:Ab (∀x∈xc,Aj x<=100000):=⟨fun x hx=>by have:=(Ba x 64).2 (k3 x hx);omega⟩
 have HLN3:=Ac h3.len;obtain⟨i,hi⟩:∃i,((IntKind.u64.wrap A)%3).toNat=i:=⟨_,rfl⟩
 have HI3:Ab (i<3):=⟨by rw[<-hi];exact fN A⟩
 have HI:=Ac hi;clear h1 h2 h3 k1 k2 k3 hr hi;go_enter Tryz.func10,Tryz.ntmps10
 go_wp2_with fail
 refine(HLI.out w HT.out).mono ?_;rintro en w1 ⟨rfl,b1⟩;have B1:=Ac b1;clear b1
 by_cases hb1:8<s1
 .have hb':(8:Int)<s1:=by omega
  go_wp2_with fail
  refine(HLI.out w1 (HT.out.below B1.out HT.out.size)).mono ?_;rintro en w2 ⟨rfl,b2⟩;have B2:=Ac (Ae B1.out b2);clear b2;go_wp2;go_ret;exact⟨rfl,B2.out⟩
 have hb1':¬(8:Int)<s1:=by omega
 by_cases hb2:8<s2
 .have hb':(8:Int)<s2:=by omega
  go_wp2_with fail
  refine(HLI.out w1 (HT.out.below B1.out HT.out.size)).mono ?_;rintro en w2 ⟨rfl,b2⟩;have B2:=Ac (Ae B1.out b2);clear b2;go_wp2;go_ret;exact⟨rfl,B2.out⟩
 have hb2':¬(8:Int)<s2:=by omega
 by_cases hb3:8<s3
 .have hb':(8:Int)<s3:=by omega
  go_wp2_with fail
  refine(HLI.out w1 (HT.out.below B1.out HT.out.size)).mono ?_;rintro en w2 ⟨rfl,b2⟩;have B2:=Ac (Ae B1.out b2);clear b2;go_wp2;go_ret;exact⟨rfl,B2.out⟩
 have hb3':¬(8:Int)<s3:=by omega
 go_wp2_with fail
 refine(HGR.out w1 A (HT.out.below B1.out HT.out.size)).mono ?_;rintro en w2 ⟨b,rfl,hg2,b2⟩;rw[HI.out]at hg2
 obtain⟨P,hP⟩:∃q,gP i=q:=⟨_,rfl⟩
 obtain⟨q,hq⟩:∃q,gQ i=q:=⟨_,rfl⟩
 obtain⟨gg,hgg⟩:∃q,gG i=q:=⟨_,rfl⟩
 obtain⟨hh,hhh⟩:∃q,gH i=q:=⟨_,rfl⟩
 have HPQ:Ab (Cj q):=⟨by rw[<-hq];exact fT i HI3.out⟩
 have HP2:Ab (2<=P):=⟨by have:=Gr i HI3.out;omega⟩
 have HGM:Ab (gg^q%P=1%P):=⟨by
  have h1:=Tc i HI3.out;rw[hq,hP,hgg]at h1
  rw[h1,Nat.mod_eq_of_lt (by have:=HP2.out;omega)]⟩
 have HHM:Ab (hh^q%P=1%P):=⟨by
  have h1:=cU i HI3.out;rw[hq,hP,hhh]at h1
  rw[h1,Nat.mod_eq_of_lt (by have:=HP2.out;omega)]⟩
 have HG1:Ab (gg%P≠1%P):=⟨by
  have h1:=Gr i HI3.out;rw[hq,hP,hgg,hhh]at h1
  rw[Nat.mod_eq_of_lt h1.2.2.1,Nat.mod_eq_of_lt (by omega)];omega⟩
 have hbd:=Gr i HI3.out;rw[hq,hP,hgg,hhh]at hbd
 have HQ0:Ab (0<q):=⟨by omega⟩
 have HP0:Ab (0<P):=⟨by omega⟩
 have hP65:Aj P<=65:=(Ba P 65).2 hbd.2.2.2.2.2;have HPl:Ab (Aj P<=100000):=⟨by omega⟩
 have HGl:Ab (Aj gg<=100000):=⟨Fo (El (Nat.le_of_lt hbd.2.2.1)) HPl.out⟩
 have HHl:Ab (Aj hh<=100000):=⟨Fo (El (Nat.le_of_lt hbd.2.2.2.2.1)) HPl.out⟩
 have HQl:Ab (Aj q<=100000):=⟨by
  have hl:=(kJ i HI3.out)
  rw[hq]at hl
  have:=cT hl;omega⟩
 clear hbd hP65;rw[hP,hq,hgg,hhh]at hg2
 have HG2:=Ac hg2;have B2:=Ac (Ae B1.out b2);clear hg2 b2 hq hP hgg hhh
 go_wp2_with fail
 refine(Vv HG2.out).mono ?_;rintro en w3 ⟨_,rfl,hv,b3'⟩;obtain⟨p0,n0,c0,p1,n1,c1,p2,n2,c2,p3,n3,c3,rfl,h0,h1,h2,h3⟩:=hv.ex;have hbx:Below w3.heap.size w3 (w3.alloc (.cells #[.slice p0 n0 c0,.slice p1 n1 c1,.slice p2 n2 c2,.slice p3 n3 c3] 30)):=Co;have hbo:=Cm.made 30 w3 (.slice p0 n0 c0) (.slice p1 n1 c1) (.slice p2 n2 c2) (.slice p3 n3 c3);obtain⟨wa,hwa⟩:∃wa,w3.alloc (.cells #[.slice p0 n0 c0,.slice p1 n1 c1,.slice p2 n2 c2,.slice p3 n3 c3] 30)=wa:=⟨_,rfl⟩
 rw[hwa]at hbx hbo
 obtain⟨b3,hb3⟩:∃x,w3.heap.size=x:=⟨_,rfl⟩
 rw[hb3]at hbo
 have HBX0:=Ac hbo;have HV0:Ab (Cz P q gg hh (.agg #[.slice p0 n0 c0,.slice p1 n1 c1,.slice p2 n2 c2,.slice p3 n3 c3]) wa):=⟨⟨p0,n0,c0,p1,n1,c1,p2,n2,c2,p3,n3,c3,rfl,h0.below hbx,h1.below hbx,h2.below hbx,h3.below hbx⟩⟩
 have HGB0:=Ac (Aq.of (h2.below hbx));have hb3a:=Ae b3' hbx;have HG3:=Ac (HG2.out.below hb3a);have B3:=Ac (Ae B2.out hb3a);clear hv h0 h1 h2 h3 hbx hbo b3' hb3a
 go_wp2_with fail
 refine(Lg wa q1 s1 e1 xa (HRW1.out.below B3.out) H641.out (by omega)).mono ?_;rintro en wn1 ⟨r1,j1,rfl,hp,b9⟩;have HGn1:=Ac (HG3.out.below b9);have HVn1:=Ac (HV0.out.below b9);have HBXn1:=Ac (HBX0.out.below b9 HBX0.out.lt);have Bn1:=Ac (Ae B3.out b9);have HP1_n1:=Ac hp;have hjm1:=hp.max;have hjc1:=hp.cap;clear hp b9;clear HG3 HV0 HBX0 B3
 go_wp2_with fail
 refine(Lg wn1 q2 s2 e2 xb (HRW2.out.below Bn1.out) H642.out (by omega)).mono ?_;rintro en wn2 ⟨r2,j2,rfl,hp,b9⟩;have HGn2:=Ac (HGn1.out.below b9);have HVn2:=Ac (HVn1.out.below b9);have HBXn2:=Ac (HBXn1.out.below b9 HBXn1.out.lt);have Bn2:=Ac (Ae Bn1.out b9);have HP1_n2:=Ac (HP1_n1.out.below b9);have HP2_n2:=Ac hp;have hjm2:=hp.max;have hjc2:=hp.cap;clear hp b9;clear HGn1 HVn1 HBXn1 Bn1
 go_wp2_with fail
 refine(Lg wn2 q3 s3 e3 xc (HRW3.out.below Bn2.out) H643.out (by omega)).mono ?_;rintro en wn3 ⟨r3,j3,rfl,hp,b9⟩;have HGn3:=Ac (HGn2.out.below b9);have HVn3:=Ac (HVn2.out.below b9);have HBXn3:=Ac (HBXn2.out.below b9 HBXn2.out.lt);have Bn3:=Ac (Ae Bn2.out b9);have HP1_n3:=Ac (HP1_n2.out.below b9);have HP2_n3:=Ac (HP2_n2.out.below b9);have HP3_n3:=Ac hp;have hjm3:=hp.max;have hjc3:=hp.cap;clear hp b9;clear HGn2 HVn2 HBXn2 Bn2;obtain⟨LA,hLA⟩:∃l,Fa P q gg hh xa xb=l:=⟨_,rfl⟩
 obtain⟨LB,hLB⟩:∃l,Fa P q gg hh xa []=l:=⟨_,rfl⟩
 obtain⟨LJ,hLJ⟩:∃l,By P [xa,xb,xc] []=l:=⟨_,rfl⟩
 have HLA:=Ac hLA;have HLB:=Ac hLB;have HLJ:=Ac hLJ;have HL3:Ab (∀L∈[xa,xb,xc],L.length<=1000):=⟨fun L hL=>by
  have h1:=HLN1.out;have h2:=HLN2.out;have h3:=HLN3.out;simp only[List.mem_cons,List.not_mem_nil,or_false]at hL;rcases hL with rfl|rfl|rfl<;>omega⟩
 have HX3:Ab (∀L∈[xa,xb,xc],∀x∈L,Aj x<=100000):=⟨fun L hL=>by
  simp only[List.mem_cons,List.not_mem_nil,or_false]at hL;rcases hL with rfl|rfl|rfl
  .exact HXL1.out
  .exact HXL2.out
  .exact HXL3.out⟩
 clear hLA hLB hLJ;go_wp2;clear hwa hb3;refine Ak (by kernel_rfl) (by kernel_rfl)
  [some (.pointer (some ⟨b,0,none⟩)),some (.slice r1 s1 j1),some (.slice r2 s2 j2),none,some (.agg #[.slice p0 n0 c0,.slice p1 n1 c1,.slice p2 n2 c2,.slice p3 n3 c3]),some (.slice r1 s1 j1),none,some (.slice r2 s2 j2),none,none,none,some (.bool false),some (.bool false),some (.pointer (some ⟨b,0,none⟩)),some (.slice r1 s1 j1),none,some (.agg #[.slice p0 n0 c0,.slice p1 n1 c1,.slice p2 n2 c2,.slice p3 n3 c3]),some (.slice r1 s1 j1),none,none,none,some (.bool false),some (.bool false)]
  [false,false,false,true,false,false,true,false,true,true,true,false,false,false,false,true,false,false,true,true,true,false,false] rfl
  (fun w1 w2=>Below w1.heap.size w1 w2)
  (fun _ w'=>Below wn3.heap.size wn3 w')
  (fun i v w'=>match i with
   | 3=>iF (max s1 s2) LA v w'
   | 6=>Kv s1 xa v w'
   | 8=>Kv s2 xb v w'
   | 9=>Kv (max s1 s2) LA v w'
   | 10=>v=.bool true
   | 15=>iF s1 LB v w'
   | 18=>Kv s1 xa v w'
   | 19=>Kv s1 LB v w'
   | 20=>v=.bool true
   | _=>True)
  ?_ (Be _ _).drew ?_ ?_
 .intro i v w1 w2 hf hb;split at hf
  .exact hf.below hb
  .exact hf.below hb
  .exact hf.below hb
  .exact hf.below hb
  .exact hf
  .exact hf.below hb
  .exact hf.below hb
  .exact hf.below hb
  .exact hf
  .trivial
 .simp only[Bh,Nat.reduceAdd];refine⟨?_,?_,?_,?_,?_,?_,?_,?_,?_,?_,?_,?_,?_,?_,?_,?_,?_,?_,?_,?_,?_,?_,?_,trivial⟩
  all_goals intro D sp w' hD hW hdp hbx'
  case refine_4=>
   (with_reducible refine Aa (w1:=w') (f := 61) (args:=#[.pointer (some ⟨b,0,none⟩),.slice r1 s1 j1,.slice r2 s2 j2]) ?_ ?_ ?_)
   .simp[Region.wanted,yielded,Act.put,go_sem]
   .simp[Act.eval,Act.put,go_sem]
   .refine(Xv (HGn3.out.below hbx') (HP1_n3.out.below hbx') (HP2_n3.out.below hbx') (by decide) (by decide) (by omega) (by omega)).mono ?_;rintro en w9 ⟨u,rfl,hu,hb⟩;rw[HLA.out]at hu
    exact⟨u,rfl,hb,hu,Ae hbx' hb⟩
  case refine_5|refine_17=>
   have hB4:=HBXn3.out.below hbx' HBXn3.out.lt;have g0:=hB4.cells.1;have g1:=hB4.cells.2.1;have g2:=hB4.cells.2.2.1;have g3:=hB4.cells.2.2.2
   with_reducible refine Ag ?_ ?_
   all_goals simp[Region.wanted,yielded,execOp,Act.eval,Act.put,go_sem,g0,g1,g2,g3]
  case refine_7|refine_19=>
   (with_reducible refine Aa (w1:=w') (f := 63) (args:=#[.slice r1 s1 j1]) ?_ ?_ ?_)
   .simp[Region.wanted,yielded,Act.put,go_sem]
   .simp[Act.eval,Act.put,go_sem]
   .refine(Gm (HP1_n3.out.below hbx') (by decide) (by omega)).mono ?_;rintro en w9 ⟨u,rfl,hu,hb⟩;exact⟨u,rfl,hb,hu,Ae hbx' hb⟩
  case refine_9=>
   (with_reducible refine Aa (w1:=w') (f := 63) (args:=#[.slice r2 s2 j2]) ?_ ?_ ?_)
   .simp[Region.wanted,yielded,Act.put,go_sem]
   .simp[Act.eval,Act.put,go_sem]
   .refine(Gm (HP2_n3.out.below hbx') (by decide) (by omega)).mono ?_;rintro en w9 ⟨u,rfl,hu,hb⟩;exact⟨u,rfl,hb,hu,Ae hbx' hb⟩
  case refine_10=>
   have k6:Kv s1 xa (sp 6) w':=(hdp 6 (mq (by kernel_rfl))).2;have k8:Kv s2 xb (sp 8) w':=(hdp 8 (mq (by kernel_rfl))).2
   (with_reducible refine Aa (w1:=w') (f := 62) (args:=#[.agg #[.slice p0 n0 c0,.slice p1 n1 c1,.slice p2 n2 c2,.slice p3 n3 c3],sp 6,sp 8]) ?_ ?_ ?_)
   .simp[Region.wanted,yielded,Act.put,go_sem]
   .simp[Act.eval,Act.put,go_sem]
   .refine(dB (HVn3.out.below hbx') k6 k8 HPl.out HGl.out HHl.out HP2.out HGM.out HHM.out HXL1.out HXL2.out (by omega) (by omega)).mono ?_;rintro en w9 ⟨u,rfl,hu,hb⟩;rw[HLA.out]at hu
    exact⟨u,rfl,hb,hu,Ae hbx' hb⟩
  case refine_11=>
   have k3:iF (max s1 s2) LA (sp 3) w':=(hdp 3 (mq (by kernel_rfl))).2;have k9:Kv (max s1 s2) LA (sp 9) w':=(hdp 9 (mq (by kernel_rfl))).2
   (with_reducible refine Aa (w1:=w') (f := 60) (args:=#[sp 3,sp 9]) ?_ ?_ ?_)
   .simp[Region.wanted,yielded,Act.put,go_sem]
   .simp[Act.eval,Act.put,go_sem]
   .refine(Si k3 k9).mono ?_;rintro en w9 ⟨_,rfl,rfl,hb⟩;exact⟨_,rfl,hb,rfl,Ae hbx' hb⟩
  case refine_12=>
   have k10:(sp 10)=.bool true:=(hdp 10 (mq (by kernel_rfl))).2
   with_reducible refine Ag ?_ ?_
   all_goals simp[Region.wanted,yielded,execOp,Act.eval,Act.put,go_sem,k10]
  case refine_16=>
   (with_reducible refine Aa (w1:=w') (f := 64) (args:=#[.pointer (some ⟨b,0,none⟩),.slice r1 s1 j1]) ?_ ?_ ?_)
   .simp[Region.wanted,yielded,Act.put,go_sem]
   .simp[Act.eval,Act.put,go_sem]
   .refine(gN (HGn3.out.below hbx') (HP1_n3.out.below hbx') (by decide) (by omega)).mono ?_;rintro en w9 ⟨u,rfl,hu,hb⟩;rw[HLB.out]at hu
    exact⟨u,rfl,hb,hu,Ae hbx' hb⟩
  case refine_20=>
   have k18:Kv s1 xa (sp 18) w':=(hdp 18 (mq (by kernel_rfl))).2
   (with_reducible refine Aa (w1:=w') (f := 65) (args:=#[.agg #[.slice p0 n0 c0,.slice p1 n1 c1,.slice p2 n2 c2,.slice p3 n3 c3],sp 18]) ?_ ?_ ?_)
   .simp[Region.wanted,yielded,Act.put,go_sem]
   .simp[Act.eval,Act.put,go_sem]
   .refine(Zu (HVn3.out.below hbx') k18 HPl.out HGl.out HP2.out HGM.out HHM.out HXL1.out (by omega)).mono ?_;rintro en w9 ⟨u,rfl,hu,hb⟩;rw[HLB.out]at hu
    exact⟨u,rfl,hb,hu,Ae hbx' hb⟩
  case refine_21=>
   have k15:iF s1 LB (sp 15) w':=(hdp 15 (mq (by kernel_rfl))).2;have k19:Kv s1 LB (sp 19) w':=(hdp 19 (mq (by kernel_rfl))).2
   (with_reducible refine Aa (w1:=w') (f := 60) (args:=#[sp 15,sp 19]) ?_ ?_ ?_)
   .simp[Region.wanted,yielded,Act.put,go_sem]
   .simp[Act.eval,Act.put,go_sem]
   .refine(Si k15 k19).mono ?_;rintro en w9 ⟨_,rfl,rfl,hb⟩;exact⟨_,rfl,hb,rfl,Ae hbx' hb⟩
  case refine_22=>
   have k20:(sp 20)=.bool true:=(hdp 20 (mq (by kernel_rfl))).2
   with_reducible refine Ag ?_ ?_
   all_goals simp[Region.wanted,yielded,execOp,Act.eval,Act.put,go_sem,k20]
  all_goals ((with_reducible refine Ag ?_ ?_);all_goals first|(simp only[Region.wanted];done)|simp[Region.wanted,yielded,execOp,Act.eval,Act.put,go_sem])
 .intro sp w5 hsp hb;have HG5:=Ac (HGn3.out.below hb);have HV5:=Ac (HVn3.out.below hb);have HP1_5:=Ac (HP1_n3.out.below hb);have HP2_5:=Ac (HP2_n3.out.below hb);have HP3_5:=Ac (HP3_n3.out.below hb);have HBX5:=Ac (HBXn3.out.below hb HBXn3.out.lt);have B5:=Ac (Ae Bn3.out hb);clear HGn3 HVn3 HP1_n3 HP2_n3 HP3_n3 HBXn3 Bn3;clear hsp hb;simp only[An,Nat.reduceAdd];generalize sp 3=y3,sp 6=y6,sp 8=y8,sp 9=y9,sp 10=y10,sp 15=y15,sp 18=y18,sp 19=y19,sp 20=y20 at *
  go_simp
  go_wp2;refine Ak (by kernel_rfl) (by kernel_rfl)
   [some (.pointer (some ⟨b,0,none⟩)),some (.slice r1 s1 j1),some (.slice r2 s2 j2),some (.slice r3 s3 j3),none,none,some (.agg #[.slice p0 n0 c0,.slice p1 n1 c1,.slice p2 n2 c2,.slice p3 n3 c3]),some (.slice r1 s1 j1),none,some (.slice r2 s2 j2),none,some (.slice r3 s3 j3),none,none,none,none,some (.bool true),some (.pointer (some ⟨b,0,none⟩)),none,some (.int .i64 0),some (.bool true),some (.bool true),some (.bool true)]
   [false,false,false,false,true,true,false,false,true,false,true,false,true,true,true,true,false,false,true,false,false,false,false] rfl
   (fun w1 w2=>Below w1.heap.size w1 w2)
   (fun _ w'=>Below w5.heap.size w5 w')
   (fun i v w'=>match i with
    | 4=>Tm 2 [xa,xb,xc] v w'
    | 5=>kT LJ v w'
    | 8=>Kv s1 xa v w'
    | 10=>Kv s2 xb v w'
    | 12=>Kv s3 xc v w'
    | 13=>Nv [xa,xb,xc] v w'
    | 14=>Kv LJ.length LJ v w'
    | 15=>v=.bool true
    | 18=>∃q d,v=.slice q 0 d
    | _=>True)
   ?_ (Be _ _).drew ?_ ?_
  .intro i v w1 w2 hf hb;split at hf
   .exact hf.below hb
   .exact hf.below hb
   .exact hf.below hb
   .exact hf.below hb
   .exact hf.below hb
   .exact hf.below hb
   .exact hf.below hb
   .exact hf
   .exact hf
   .trivial
  .simp only[Bh,Nat.reduceAdd];refine⟨?_,?_,?_,?_,?_,?_,?_,?_,?_,?_,?_,?_,?_,?_,?_,?_,?_,?_,?_,?_,?_,?_,?_,trivial⟩
   all_goals intro D sp w' hD hW hdp hbx'
   case refine_5=>
    (with_reducible refine Ai (w1:=w'.alloc (.cells #[.slice r1 s1 j1,.slice r2 s2 j2,.slice r3 s3 j3] 32)) (v:=.slice (some ⟨w'.heap.size,0,none⟩) 3 3) ?_ ?_ ?_)
    .simp only[Region.wanted]
    .simp[execOp,Act.eval,Act.put,go_sem]
    .have hbl:Below w'.heap.size w' (w'.alloc (.cells #[.slice r1 s1 j1,.slice r2 s2 j2,.slice r3 s3 j3] 32)):=Co;exact⟨hbl,⟨w'.heap.size,rfl,kB (heap_alloc_new w' _) ((HP1_5.out.below hbx').below hbl) ((HP2_5.out.below hbx').below hbl) ((HP3_5.out.below hbx').below hbl)⟩,Ae hbx' hbl⟩
   case refine_6=>
    have k4:Tm 2 [xa,xb,xc] (sp 4) w':=(hdp 4 (mq (by kernel_rfl))).2
    (with_reducible refine Aa (w1:=w') (f := 66) (args:=#[.pointer (some ⟨b,0,none⟩),sp 4]) ?_ ?_ ?_)
    .simp[Region.wanted,yielded,Act.put,go_sem]
    .simp[Act.eval,Act.put,go_sem]
    .refine(cP (HG5.out.below hbx') k4 (by decide) HL3.out).mono ?_;rintro en w9 ⟨u,rfl,hu,hb⟩;rw[HLJ.out]at hu
     exact⟨u,rfl,hb,hu,Ae hbx' hb⟩
   case refine_7=>
    have hB4:=HBX5.out.below hbx' HBX5.out.lt;have g0:=hB4.cells.1;have g1:=hB4.cells.2.1;have g2:=hB4.cells.2.2.1;have g3:=hB4.cells.2.2.2
    with_reducible refine Ag ?_ ?_
    all_goals simp[Region.wanted,yielded,execOp,Act.eval,Act.put,go_sem,g0,g1,g2,g3]
   case refine_9=>
    (with_reducible refine Aa (w1:=w') (f := 63) (args:=#[.slice r1 s1 j1]) ?_ ?_ ?_)
    .simp[Region.wanted,yielded,Act.put,go_sem]
    .simp[Act.eval,Act.put,go_sem]
    .refine(Gm (HP1_5.out.below hbx') (by decide) (by omega)).mono ?_;rintro en w9 ⟨u,rfl,hu,hb⟩;exact⟨u,rfl,hb,hu,Ae hbx' hb⟩
   case refine_11=>
    (with_reducible refine Aa (w1:=w') (f := 63) (args:=#[.slice r2 s2 j2]) ?_ ?_ ?_)
    .simp[Region.wanted,yielded,Act.put,go_sem]
    .simp[Act.eval,Act.put,go_sem]
    .refine(Gm (HP2_5.out.below hbx') (by decide) (by omega)).mono ?_;rintro en w9 ⟨u,rfl,hu,hb⟩;exact⟨u,rfl,hb,hu,Ae hbx' hb⟩
   case refine_13=>
    (with_reducible refine Aa (w1:=w') (f := 63) (args:=#[.slice r3 s3 j3]) ?_ ?_ ?_)
    .simp[Region.wanted,yielded,Act.put,go_sem]
    .simp[Act.eval,Act.put,go_sem]
    .refine(Gm (HP3_5.out.below hbx') (by decide) (by omega)).mono ?_;rintro en w9 ⟨u,rfl,hu,hb⟩;exact⟨u,rfl,hb,hu,Ae hbx' hb⟩
   case refine_14=>
    have hxa:∃q d,sp 8=.slice q s1 d/\Em w' q s1 d xa:=((hdp 8 (mq (by kernel_rfl))).2:Kv s1 xa (sp 8) w').ex
    (with_reducible refine Az hxa fun fa hxa1=>Az hxa1 fun ta hxa2=>?_)
    have ha:=hxa2.1;have hxb:∃q d,sp 10=.slice q s2 d/\Em w' q s2 d xb:=((hdp 10 (mq (by kernel_rfl))).2:Kv s2 xb (sp 10) w').ex
    (with_reducible refine Az hxb fun fb hxb1=>Az hxb1 fun tb hxb2=>?_)
    have hb:=hxb2.1;have hxc:∃q d,sp 12=.slice q s3 d/\Em w' q s3 d xc:=((hdp 12 (mq (by kernel_rfl))).2:Kv s3 xc (sp 12) w').ex
    (with_reducible refine Az hxc fun fc hxc1=>Az hxc1 fun tc hxc2=>?_)
    have hc:=hxc2.1
    (with_reducible refine Ai (w1:=w'.alloc (.cells #[.slice fa s1 ta,.slice fb s2 tb,.slice fc s3 tc] 47)) (v:=.slice (some ⟨w'.heap.size,0,none⟩) 3 3) ?_ ?_ ?_)
    .simp only[Region.wanted]
    .simp[execOp,Act.eval,Act.put,go_sem,ha,hb,hc]
    .have hbl:Below w'.heap.size w' (w'.alloc (.cells #[.slice fa s1 ta,.slice fb s2 tb,.slice fc s3 tc] 47)):=Co;exact⟨hbl,⟨w'.heap.size,rfl,kE (heap_alloc_new w' _) (hxa2.2.below hbl) (hxb2.2.below hbl) (hxc2.2.below hbl)⟩,Ae hbx' hbl⟩
   case refine_15=>
    have k13:Nv [xa,xb,xc] (sp 13) w':=(hdp 13 (mq (by kernel_rfl))).2
    (with_reducible refine Aa (w1:=w') (f := 67) (args:=#[.agg #[.slice p0 n0 c0,.slice p1 n1 c1,.slice p2 n2 c2,.slice p3 n3 c3],sp 13]) ?_ ?_ ?_)
    .simp[Region.wanted,yielded,Act.put,go_sem]
    .simp[Act.eval,Act.put,go_sem]
    .refine(Zs (HV5.out.below hbx') k13 HPl.out HP2.out HX3.out HL3.out).mono ?_;rintro en w9 ⟨u,rfl,hu,hb⟩;rw[HLJ.out]at hu
     exact⟨u,rfl,hb,hu,Ae hbx' hb⟩
   case refine_16=>
    have k5:kT LJ (sp 5) w':=(hdp 5 (mq (by kernel_rfl))).2;have k14:Kv LJ.length LJ (sp 14) w':=(hdp 14 (mq (by kernel_rfl))).2
    (with_reducible refine Aa (w1:=w') (f := 60) (args:=#[sp 5,sp 14]) ?_ ?_ ?_)
    .simp[Region.wanted,yielded,Act.put,go_sem]
    .simp[Act.eval,Act.put,go_sem]
    .refine(bI k5 k14).mono ?_;rintro en w9 ⟨_,rfl,rfl,hb⟩;exact⟨_,rfl,hb,rfl,Ae hbx' hb⟩
   case refine_17=>
    have k15:(sp 15)=.bool true:=(hdp 15 (mq (by kernel_rfl))).2
    with_reducible refine Ag ?_ ?_
    all_goals simp[Region.wanted,yielded,execOp,Act.eval,Act.put,go_sem,k15]
   case refine_19=>
    (with_reducible refine Aa (w1:=w') (f := 66) (args:=#[.pointer (some ⟨b,0,none⟩),.slice none 0 0]) ?_ ?_ ?_)
    .simp[Region.wanted,yielded,Act.put,go_sem]
    .simp[Act.eval,Act.put,go_sem]
    .refine(Wp (HG5.out.below hbx')).mono ?_;rintro en w9 ⟨u,rfl,hu,hb⟩;exact⟨u,rfl,hb,hu,Ae hbx' hb⟩
   case refine_20=>
    have hx:∃q d,sp 18=.slice q 0 d:=(hdp 18 (mq (by kernel_rfl))).2
    (with_reducible refine Az hx fun q9 hx1=>Az hx1 fun d9 hx2=>?_)
    (with_reducible refine Ai (w1:=w') (v:=.int .i64 0) ?_ ?_ ?_)
    .simp[Region.wanted,yielded,Act.put,go_sem]
    .simp[Act.eval,Act.put,go_sem,hx2]
    .exact⟨rfl,rfl⟩
   all_goals ((with_reducible refine Ag ?_ ?_);all_goals first|(simp only[Region.wanted];done)|simp[Region.wanted,yielded,execOp,Act.eval,Act.put,go_sem])
  .intro sp w6 hsp hb;have B6:=Ac (Ae B5.out hb);clear hsp hb;simp only[An,Nat.reduceAdd];generalize sp 4=y4,sp 5=y5,sp 8=y8,sp 10=y10,sp 12=y12,sp 13=y13,sp 14=y14,sp 15=y15,sp 18=y18 at *
   go_simp
   go_wp2;go_ret;exact⟨rfl,B6.out⟩
end Go.Proofs.YtnbmfaihlefgfaaGreatDoor
