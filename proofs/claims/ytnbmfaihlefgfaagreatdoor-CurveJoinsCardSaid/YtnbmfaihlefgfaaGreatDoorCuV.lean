/- The polynomial through all places (curve.Through). -/
import Derived.Test.YtnbmfaihlefgfaaGreatDoorGqG
import Derived.Lib.SmallJoins
import Derived.Test.YtnbmfaihlefgfaaGreatDoorCuS
import Derived.Lib.AppendZeros
import Derived.Lib.Walk
import Derived.BigRegion
import Derived.Laws.Rows
import Derived.Laws.OwnMore
set_option maxRecDepth 1000000
set_option maxHeartbeats 16000000
set_option linter.all false
namespace Go.Proofs.YtnbmfaihlefgfaaGreatDoor
open Go Go.RowKit Go.Proofs.YtnbmfaihlefgfaaGreatDoor.Flow
theorem pU (i:Nat)(hi:i<3):gP i<Ao 3/\gQ i<Ao 3/\gG i<Ao 3:=by
 have h:=Jh i hi;have h1:gP i<Ao 3:=Eh h.2.2.2.2.2 (by decide);have h2:=Vh i hi;refine⟨h1,?_,by omega⟩;rcases Nat.eq_zero_or_pos (Nt i) with h0|h0
 .rw[h0,Nat.mul_zero]at h2;omega
 .have:=Nat.le_mul_of_pos_right (gQ i) h0;omega
theorem cY:∀i,i<3->(Ez i).length<=60
 | 0,_=>by decide
 | 1,_=>by decide
 | 2,_=>by decide
 | _+3,h=>by omega
def qY (N M:Nat)(v:Value)(w:World):Prop:=∃(g:Nat) (x y:Option Addr×Nat×Nat),v=.slice (some ⟨g,0,none⟩) 2 2/\w.heap[g]? = some (.cells #[.slice x.1 x.2.1 x.2.2,.slice y.1 y.2.1 y.2.2] 36 (0,0))/\Jp w x N/\Jp w y M/\N<Ao 33/\M<Ao 33
theorem qY.plist {N M g:Nat}{x y:Option Addr×Nat×Nat}{w:World}(h2:w.heap[g]? = some (.cells #[.slice x.1 x.2.1 x.2.2,.slice y.1 y.2.1 y.2.2] 36 (0,0)))(h3:Jp w x N)(h4:Jp w y M)(h5:N<Ao 33)(h6:M<Ao 33):Aw w 33 (some ⟨g,0,none⟩) 2 2 [N,M]:=by
 refine⟨rfl,Av _,by decide,(fun e=>by cases e),fun _=>⟨g,0,rfl,(Hy h2).1,fun i K hK=>?_⟩⟩
 match i,hK with
 | 0,hK=>cases hK;exact⟨x.1,x.2.1,x.2.2,by simp[World.cell?,h2],h3,h5⟩
 | 1,hK=>cases hK;exact⟨y.1,y.2.1,y.2.2,by simp[World.cell?,h2],h4,h6⟩
theorem nN {x:Nat}(h:nH x):x<Ao 2:=by
 unfold nH at h;exact Eh h (by decide)
theorem Nm (w:World)(p:Option Addr)(n c:Nat)(xs:List Nat)(h:Ci w .u64 p n c xs)(h64:∀x∈xs,nH x)(hn:n<=1000) :
  Calls Tryz.prog 18 #[.slice p n c] w fun e w'=>∃q d,e=.returned (.slice q n d)/\Aw w' 2 q n d xs/\Below w.heap.size w w':=by
 have HX:=Aa h;have H6:=Aa h64;have HLn:=Aa h.len;clear h h64;go_enter Tryz.func18,Tryz.ntmps18;go_wp2
 go_loopw [3,5,8] (fun vv _ iv wr=>∃(k:Nat) (bad:Nat->Prop),k<=n/\iv=.int .i64 k/\Ab (Below w.heap.size w wr)/\Ab (∀g,bad g->g<wr.heap.size)/\Ab (Fb Ai 36 w.heap.size bad wr vv (xs.take k))/\Ab (∀g,vv.ownBlock=some g->bad g)) (fun _ _ iv _=>n-(intOf iv).toNat)
 case atStart=>exact⟨0,fun _=>False,by omega,rfl,⟨Br _ _⟩,⟨fun _ h=>h.elim⟩,⟨Fb.nil⟩,⟨fun g h=>by cases h⟩⟩
 case round=>
  obtain⟨k,bad,hk,rfl,HB,HLT,HO,HV⟩:=hrel
  by_cases hkn:k<n
  .obtain⟨S,hSk⟩:∃s,xs[k]? = some s:=⟨xs[k]'(by rw[<-HLn.out];exact hkn),List.getElem?_eq_getElem _⟩
   obtain⟨bb,off,rfl,hb,hc⟩:=(HX.out.row (by omega)).pos (by omega);have hx:wr.cell? ⟨bb,off+k,none⟩=some (.int .u64 (S:Nat)):=(HB.out.cell (p:=⟨bb,off+k,none⟩) hb).trans (hc k S hSk);have HTk:Ab (xs.take (k+1)=xs.take k++[S]):=⟨Dx hSk⟩
   have HTl:Ab ((xs.take k).length<=1000000):=⟨by rw[List.length_take];omega⟩
   have HSU:Ab (S<18446744073709551616):=⟨H6.out S (List.mem_of_getElem? hSk)⟩
   have hkn':(k:Int)<n:=by omega
   clear hc hSk hb
   go_wp2_with fail
   refine(Da S wr HSU.out).mono ?_;rintro en w3 ⟨q,m,d,rfl,hn3,b3,hnew⟩;have hb4:Below w3.heap.size w3 (w3.alloc (.cells #[.slice q m d] 36)):=Dl;have hx4:(w3.alloc (.cells #[.slice q m d] 36)).cell? ⟨w3.heap.size,0,none⟩=some (.slice q m d):=(Af.made w3 (.slice q m d)).cell;obtain⟨w4,hw4⟩:∃w4,w3.alloc (.cells #[.slice q m d] 36)=w4:=⟨_,rfl⟩
   rw[hw4]at hb4 hx4
   have hb34:=Ae b3 hb4;have hB4:=Ae HB.out hb34;have hfirm:Jo (fun w=>Ai w q m d S) bad w4:=Je.fresh (hn3.below hb4) hnew HLT.out;obtain⟨i1,hi1,hz1,hs1,hbb1⟩:=info_parts Tryz.info_Nat;refine(HO.out.below hb34).app2 (x:=(q,m,d)) Tryz.underlying32 hi1 hz1 hs1 hbb1 rfl (by decide) hB4.size hx4 hfirm HV.out (fun g hg=>Eh (HLT.out g hg) hb34.size) HTl.out 32 (c:=1) ?_;intro v9 w9 bad9 happ ho9 hg9 m1 m2 m3 m4;have HO9:=Aa ho9;have HB9:Ab (Below w.heap.size w w9):=⟨hB4.grown hg9 hB4.size fun g hg=>(HO.out.block g hg).1⟩
   have HLT9:=Aa m4;have HV9:=Aa m3;clear hb4 hx4 hb34 hB4 hfirm hi1 hz1 hs1 hbb1 ho9 hg9 m1 m2 m3 m4 b3 hn3 hnew
   go_wp2_with (at_builtin;refine Lib.wpList_append_run _ rfl _ _ _ _ rfl _ _ rfl rfl _ _ happ ?_;refine Tn.out ?_)
   refine⟨?_⟩;clear happ;go_wp2;go_roundw
   case rel=>exact⟨k+1,bad9,by omega,by go_num,HB9,HLT9,⟨by rw[HTk.out];exact HO9.out⟩,HV9⟩
   case measure=>simp[intOf];omega
  .obtain rfl:k=n:=by omega
   have hkn':¬(k:Int)<k:=by omega
   have htk:xs.take k=xs:=List.take_of_length_le (by rw[<-HLn.out];exact Av _);rw[htk]at HO
   obtain⟨q,d,rfl,hp⟩:=HO.out.plist (e:=2) (fun N hN=>nN (H6.out N hN));have HP:Ab (Aw wr 2 q k d xs):=⟨by have e:=HLn.out;rw[<-e]at hp;exact hp⟩
   have e9:xs.length=k:=HLn.out.symm;rw[e9];clear htk hp e9;go_wp2;go_ret;exact⟨q,d,rfl,HP.out,HB.out⟩
theorem lF (i:Nat)(hi:i<3):Ch (gQ i):=by
 rcases eN i hi with h|⟨h1,s,hs,h2⟩
 .exact h.prime
 .rw[<-h2];exact Lv _ [] (fun x hx=>by cases hx) h1 s hs
theorem kV (A:Int):((IntKind.u64.wrap A)%3).toNat<3:=by
 have h1:=Int.emod_nonneg (IntKind.u64.wrap A) (show (3:Int)≠0 by decide);have h2:=Int.emod_lt_of_pos (IntKind.u64.wrap A) (show (0:Int)<3 by decide);omega
theorem kY {w:World}{i:Nat}{x y z:Option Addr×Nat×Nat}{pc:Option Addr}{nc cc:Nat}(hi:i<3)(hr:Tabs w)(hx:Jp w x (gP i))(hy:Jp w y (gQ i))(hz:Jp w z (gG i))(hc:Fa w 3 pc nc cc (Ez i)) :
  Calls Tryz.prog 80 #[.agg #[.slice x.1 x.2.1 x.2.2,.slice y.1 y.2.1 y.2.2,.slice z.1 z.2.1 z.2.2,.slice none 0 0],.slice pc nc cc] w fun e w'=>
   ∃b,e=.returned (.tuple #[.pointer (some ⟨b,0,none⟩),.int .i64 0])/\Cp w' b (gP i) (gQ i) (gG i) (gH i)/\Below w.heap.size w w':=by
 obtain⟨l1,l2,l3⟩:=pU i hi;refine(kZ (e:=3) (seed:=[]) hr hx l1 hy l2 hz l3 (Yu w) hc (by rw[hc.len];exact cY i hi) (cZ i hi) (by decide)).mono ?_;rintro en w' ⟨_,h0,_,hbl⟩;rw[fS i hi]at h0
 obtain⟨b,rfl,hg⟩:=h0 (by decide) rfl;exact⟨b,rfl,hg,hbl⟩
theorem Nf (w:World)(A:Int)(hr:Tabs w) :
  Calls Tryz.prog 16 #[.int .i64 A,.slice none 0 0] w fun e w'=>∃b,e=.returned (.pointer (some ⟨b,0,none⟩))/\Cp w' b (gP ((IntKind.u64.wrap A)%3).toNat) (gQ ((IntKind.u64.wrap A)%3).toNat) (gG ((IntKind.u64.wrap A)%3).toNat) (gH ((IntKind.u64.wrap A)%3).toNat)/\Below w.heap.size w w':=by
 have HR:=Aa hr;have hi:=kV A;obtain⟨i,ei⟩:∃i,((IntKind.u64.wrap A)%3).toNat=i:=⟨_,rfl⟩
 have HN:=Aa (Tz w A none 0 0);rw[ei]at hi HN ⊢
 have HI:=Aa hi;clear hr hi ei;go_enter Tryz.func16,Tryz.ntmps16
 go_wp2_with fail
 refine HN.out.mono ?_;rintro en w1 ⟨x,y,z,pc,nc,cc,rfl,h1,h2,h3,h4,b1⟩;have HH:=Aa (kY HI.out (HR.out.below b1 HR.out.size) h1 h2 h3 h4);have B1:=Aa b1;clear h1 h2 h3 h4 b1 HN
 go_wp2_with fail
 refine HH.out.mono ?_;rintro en w2 ⟨b,rfl,hg,b2⟩;have HG:=Aa hg;have B2:=Aa (Ae B1.out b2);clear hg b2 HH B1;go_wp2;go_ret;exact⟨b,rfl,HG.out,B2.out⟩
theorem Zu (w:World)(A:Int)(hr:Tabs w) :
  Calls Tryz.prog 31 #[.int .i64 A] w fun e w'=>∃r,e=.returned (.pointer (some ⟨r,0,none⟩))/\Ring w' r (gQ ((IntKind.u64.wrap A)%3).toNat) 33/\Below w.heap.size w w':=by
 have HG:=Aa (Nf w A hr);clear hr;go_enter Tryz.func31,Tryz.ntmps31
 go_wp2_with fail
 refine HG.out.mono ?_;rintro en w1 ⟨b,rfl,hg,hb⟩;have HGA:=Aa hg;have HB:=Aa hb;clear hg hb HG
 go_wp2_with fail
 refine(Gg HGA.out).mono ?_;rintro en w2 ⟨r,rfl,hr,hb2⟩;have HR:=Aa hr;have HB2:=Aa (Ae HB.out hb2);clear hr hb2;go_wp2;go_ret;exact⟨r,rfl,HR.out,HB2.out⟩
theorem kE {w:World}{p:Option Addr}{n c e N:Nat}(h1:Ai w p n c N)(h2:N<Ao e)(he:e<=200) :
  Calls Tryz.prog 46 #[.agg #[.slice p n c]] w fun en w'=>∃q m d,en=.returned (.slice q m d)/\Bt w' q m d N/\Below w.heap.size w w'/\Ey w.heap.size q:=by
 have hbx:=Dq.mk1 w (.slice p n c) 36;have HF:=Aa ((Fit.of h1 h2).below hbx.bel);have HB:=Aa hbx.bel;have hl:Ab (Ay N<=1000):=⟨by
  have:Ak N<=32*e:=(Bq N _).2 (by
   have:Ao e=2^(32*e):=by unfold Ao;rw[Nat.pow_mul]
   rw[<-this];exact h2)
  unfold Ay;omega⟩
 clear h1 h2 hbx;go_enter Tryz.func46,Tryz.ntmps46
 go_wp2_with fail
 refine(Vc HF.out (by omega)).mono ?_;rintro en w1 ⟨_,rfl,⟨q,m,d,rfl,hr⟩,b1⟩;have HR:Ab (Ci w1 .u8 q m d (Ef N (Ay N))):=⟨⟨hr.len,hr.cap,hr.max,fun _=>hr⟩⟩
 have HM:Ab (m<=1000):=⟨by rw[hr.len,Lw];exact hl.out⟩
 have HB1:=Aa (Ae HB.out b1);clear hr b1
 go_wp2_with fail
 refine(Yx w1 q m d _ HR.out (Np N _).reverse HM.out).mono ?_;rintro en w2 ⟨x,y,z,rfl,hb,b2,hnw⟩;rw[aV]at hb
 have HN:=Aa hb;have HB2:=Aa (Ae HB1.out b2);have HW:Ab (Ey w.heap.size x):=⟨fun q hq=>Dm HB1.out.size (hnw q hq)⟩
 clear hb b2 hnw;go_wp2;go_ret;exact⟨_,_,_,rfl,HN.out,HB2.out,HW.out⟩
theorem iD (w:World)(t:TypeId)(u:Value):(w.alloc (.cells #[u] t)).cell? ⟨w.heap.size,0,none⟩=some u:=by
 have h:(w.alloc (.cells #[u] t)).heap[w.heap.size]? = some (.cells #[u] t (0,0)):=by
  show (w.heap.push _)[w.heap.size]? = _;simp
 generalize w.alloc (.cells #[u] t)=w2 at h;generalize w.heap.size=b at h;simp[World.cell?,h]
theorem cC {w:World}{p:Option Addr}{n c e:Nat}{xs:List Nat}(h:Aw w e p n c xs)(he:e<=200)(hn:n<=1000) :
  Calls Tryz.prog 25 #[.slice p n c] w fun en w'=>∃q d,en=.returned (.slice q n d)/\Jm w' q n d xs/\Below w.heap.size w w':=by
 have HX:=Aa h;have HLn:=Aa h.len;have hcap:n<=c:=h.cap;have hmax:c<=9223372036854775807:=h.max;clear h;go_enter Tryz.func25,Tryz.ntmps25;go_wp2
 go_loopw [3,5,8] (fun vv _ iv wr=>∃(k:Nat) (bad:Nat->Prop),k<=n/\iv=.int .i64 k/\Ab (Below w.heap.size w wr)/\Ab (∀g,bad g->g<wr.heap.size)/\Ab (Fb Bt 28 w.heap.size bad wr vv (xs.take k))/\Ab (∀g,vv.ownBlock=some g->bad g)) (fun _ _ iv _=>n-(intOf iv).toNat)
 case atStart=>exact⟨0,fun _=>False,by omega,rfl,⟨Br _ _⟩,⟨fun _ h=>h.elim⟩,⟨Fb.nil⟩,⟨fun g h=>by cases h⟩⟩
 case round=>
  obtain⟨k,bad,hk,rfl,HB,HLT,HO,HV⟩:=hrel
  by_cases hkn:k<n
  .obtain⟨S,hSk⟩:∃s,xs[k]? = some s:=⟨xs[k]'(by rw[<-HLn.out];exact hkn),List.getElem?_eq_getElem _⟩
   obtain⟨bb,off,rfl,hb,hc⟩:=HX.out.at_ (by omega)
   obtain⟨px,nx,cx,hc1,hc2,hc3⟩:=hc k S hSk;have hx:wr.cell? ⟨bb,off+k,none⟩=some (.slice px nx cx):=(HB.out.cell (p:=⟨bb,off+k,none⟩) hb).trans hc1;have HTk:Ab (xs.take (k+1)=xs.take k++[S]):=⟨Dx hSk⟩
   have HTl:Ab ((xs.take k).length<=1000000):=⟨by rw[List.length_take];omega⟩
   have HSU:Ab (S<Ao e):=⟨hc3⟩
   have hkn':(k:Int)<n:=by omega
   have hb2:Below wr.heap.size wr (wr.alloc (.cells #[.slice px nx cx] 36)):=Dl;have hx2:(wr.alloc (.cells #[.slice px nx cx] 36)).cell? ⟨wr.heap.size,0,none⟩=some (.slice px nx cx):=(Af.made wr (.slice px nx cx)).cell;have HNX:Ab (Ai (wr.alloc (.cells #[.slice px nx cx] 36)) px nx cx S):=⟨(hc2.below HB.out).below hb2⟩
   obtain⟨w2,hw2⟩:∃w2,wr.alloc (.cells #[.slice px nx cx] 36)=w2:=⟨_,rfl⟩
   rw[hw2]at hb2 hx2 HNX
   clear hc hSk hb hc1 hc2 hc3
   go_wp2_with fail
   refine(kE HNX.out HSU.out he).mono ?_;rintro en w3 ⟨q,m,d,rfl,hn3,b3,hnew⟩;have hb23:=Ae hb2 b3;have hnew2:Ey wr.heap.size q:=fun a ha=>Dm hb2.size (hnew a ha)
   have hb4:Below w3.heap.size w3 (w3.alloc (.cells #[.slice q m d] 28)):=Dl;have hx4:(w3.alloc (.cells #[.slice q m d] 28)).cell? ⟨w3.heap.size,0,none⟩=some (.slice q m d):=iD _ _ _;obtain⟨w4,hw4⟩:∃w4,w3.alloc (.cells #[.slice q m d] 28)=w4:=⟨_,rfl⟩
   rw[hw4]at hb4 hx4
   have hb34:=Ae hb23 hb4;have hB4:=Ae HB.out hb34;have hfirm:Jo (fun w=>Bt w q m d S) bad w4:=dL.fresh (hn3.below hb4) hnew2 HLT.out;obtain⟨i1,hi1,hz1,hs1,hbb1⟩:=info_parts Tryz.info_N;refine(HO.out.below hb34).app2 (x:=(q,m,d)) Tryz.underlying47 hi1 hz1 hs1 hbb1 rfl (by decide) hB4.size hx4 hfirm HV.out (fun g hg=>Eh (HLT.out g hg) hb34.size) HTl.out 47 (c:=1) ?_;intro v9 w9 bad9 happ ho9 hg9 m1 m2 m3 m4;have HO9:=Aa ho9;have HB9:Ab (Below w.heap.size w w9):=⟨hB4.grown hg9 hB4.size fun g hg=>(HO.out.block g hg).1⟩
   have HLT9:=Aa m4;have HV9:=Aa m3;clear hb4 hx4 hb34 hb23 hB4 hfirm hi1 hz1 hs1 hbb1 ho9 hg9 m1 m2 m3 m4 b3 hn3 hnew hnew2 hb2 hx2
   go_wp2_with (at_builtin;refine Lib.wpList_append_run _ rfl _ _ _ _ rfl _ _ rfl rfl _ _ happ ?_;refine Tn.out ?_)
   refine⟨?_⟩;clear happ;go_wp2;go_roundw
   case rel=>exact⟨k+1,bad9,by omega,by go_num,HB9,HLT9,⟨by rw[HTk.out];exact HO9.out⟩,HV9⟩
   case measure=>simp[intOf];omega
  .obtain rfl:k=n:=by omega
   have hkn':¬(k:Int)<k:=by omega
   have htk:xs.take k=xs:=List.take_of_length_le (by rw[<-HLn.out];exact Av _);rw[htk]at HO
   obtain⟨q,d,rfl,hp⟩:=HO.out.nlist;have HP:Ab (Jm wr q k d xs):=⟨by have e:=HLn.out;rw[<-e]at hp;exact hp⟩
   have e9:xs.length=k:=HLn.out.symm;rw[e9];clear htk hp e9;go_wp2;go_ret;exact⟨q,d,rfl,HP.out,HB.out⟩
theorem qR:Lh 101 2 [3,2,1]=11:=by decide
theorem Ua (w:World)(hr:Tabs w) :
  Calls Tryz.prog 15 #[] w fun e w'=>e=.returned (.bool true)/\Below w.heap.size w w':=by
 have HF:=Aa (Zu w 0 hr);clear hr;go_enter Tryz.func15,Tryz.ntmps15
 go_wp2_with fail
 refine HF.out.mono ?_;rintro en w1 ⟨r,rfl,hr,hb1⟩;have hr':Ring w1 r 101 33:=hr;obtain⟨W1,hW1⟩:∃W,w1.alloc (.cells #[.int .u64 3,.int .u64 2,.int .u64 1] 23)=W:=⟨_,rfl⟩
 have hbw:Below w1.heap.size w1 W1:=by rw[<-hW1];exact(Br _ _).alloc (Av _) _
 have hnew:W1.heap[w1.heap.size]? = some (.cells #[.int .u64 3,.int .u64 2,.int .u64 1] 23 (0,0)):=by rw[<-hW1];exact heap_alloc_new w1 _
 have hrow:Ci W1 .u64 (some ⟨w1.heap.size,0,none⟩) 3 3 [3,2,1]:=⟨rfl,Av _,by decide,fun _=>⟨rfl,Av _,by decide,.inr ⟨w1.heap.size,0,rfl,(Hy hnew).1,fun i x hx=>by
  match i,hx with
  | 0,hx=>simp at hx;subst hx;simp[World.cell?,hnew]
  | 1,hx=>simp at hx;subst hx;simp[World.cell?,hnew]
  | 2,hx=>simp at hx;subst hx;simp[World.cell?,hnew]
  | i+3,hx=>simp at hx⟩⟩⟩
 have HN:=Aa (Nm W1 _ 3 3 [3,2,1] hrow (fun x hx=>by simp at hx;unfold nH;omega) (by decide));have HR1:=Aa (hr'.below hbw);have HB1:=Aa (Ae hb1 hbw);clear hr hr' hbw hnew hrow hb1 HF
 go_wp2_with fail
 refine HN.out.mono ?_;rintro en w2 ⟨p,c,rfl,hp,hb2⟩;have HR2:=Aa (HR1.out.below hb2);have HP2:=Aa hp;have HB2:=Aa (Ae HB1.out hb2);clear hp hb2 HR1 HB1 HN hW1
 go_wp2_with fail
 refine(Rl w2).mono ?_;rintro en w3 ⟨x3,rfl,h3,b3⟩;have HE:=Aa (Zx (HR2.out.below b3) (HP2.out.below b3) h3 (by decide) (by decide) (by decide));have HB3:=Aa (Ae HB2.out b3);clear h3 b3 HR2 HP2 HB2
 go_wp2_with fail
 refine HE.out.mono ?_;rintro en w4 ⟨x4,rfl,h4,b4⟩;rw[qR]at h4
 have H4:=Aa h4;have HB4:=Aa (Ae HB3.out b4);clear h4 b4 HE HB3
 go_wp2_with fail
 refine(Dh (n:=11) w4 (by omega)).mono ?_;rintro en w5 ⟨x5,rfl,h5,b5⟩;have HC:=Aa (Cj (H4.out.below b5) h5 (by decide) (by decide) (Cr.2 rfl));have HB5:=Aa (Ae HB4.out b5);clear h5 b5 H4 HB4
 go_wp2_with fail
 refine HC.out.mono ?_;rintro en w6 ⟨_,rfl,rfl,b6⟩;have HB6:=Aa (Ae HB5.out b6);clear b6 HC HB5;go_wp2;go_ret;exact⟨rfl,HB6.out⟩
def pB (q L:Nat)(As Bs:List Nat)(v:Value)(w:World):Prop:=∃g acc,v=.slice (some ⟨g,0,none⟩) L L/\Aw w 33 (some ⟨g,0,none⟩) L L acc/\Tm q As Bs acc
theorem pB.below {q L:Nat}{As Bs:List Nat}{v:Value}{w w':World}(h:pB q L As Bs v w)(hb:Below w.heap.size w w'):pB q L As Bs v w':=let ⟨g,acc,h1,h2,h3⟩:=h;⟨g,acc,h1,h2.below hb,h3⟩
theorem Za {w:World}{r q e1 e2 n c m d:Nat}{p p2:Option Addr}{As Bs:List Nat}(hR:Ring w r q 33)(hA:Aw w e1 p n c As)(hB:Aw w e2 p2 m d Bs)(h1:e1<=200)(h2:e2<=200)(hn:n<=1000)(hm:m<=1000)(hn0:0<n)(hm0:0<m) :
  Calls Tryz.prog 93 #[.pointer (some ⟨r,0,none⟩),.slice p n c,.slice p2 m d] w fun en w'=>∃u,en=.returned u/\pB q (n+m-1) As Bs u w'/\Below w.heap.size w w':=by
 refine(lZ hR hA hB h1 h2 hn hm hn0 hm0).mono ?_;rintro en w9 ⟨g,acc,rfl,h,k,hb⟩;exact⟨_,rfl,⟨g,acc,rfl,h,k⟩,hb⟩
theorem Vj {w:World}{r q e ex n c X N:Nat}{p:Option Addr}{As:List Nat}{v:Value}(hR:Ring w r q 33)(hA:Aw w e p n c As)(hX:Fit ex X v w)(he:e<=200)(hex:ex<=200)(hn:n<=1000000)(hN:Lh q X As=N) :
  Calls Tryz.prog 33 #[.pointer (some ⟨r,0,none⟩),.slice p n c,v] w fun en w'=>∃x,en=.returned x/\Fit 33 N x w'/\Below w.heap.size w w':=by
 subst hN;exact Zx hR hA hX he hex hn
def nU (w:World)(b:Nat)(u0 u1 u2 u3:Value):World:=(((w.setCell ⟨b,0,none⟩ u0).setCell ⟨b,1,none⟩ u1).setCell ⟨b,2,none⟩ u2).setCell ⟨b,3,none⟩ u3
structure rE (w:World) (b:Nat) (o:Obj) (w':World):Prop where
 new:w'.heap[b]? = some o
 old:∀g,g≠b->w'.heap[g]? = w.heap[g]?
 size:w'.heap.size=w.heap.size
 bel:∀B,B<=b->Below B w w'
theorem put4 {w:World}{b:Nat}{v0 v1 v2 v3 u0 u1 u2 u3:Value}{T:TypeId}(h:w.heap[b]? = some (.cells #[v0,v1,v2,v3] T (0,0))):rE w b (.cells #[u0,u1,u2,u3] T (0,0)) (nU w b u0 u1 u2 u3) :=
 ⟨by simp[nU,World.setCell,Array.getElem?_modify,h],fun g hg=>by simp[nU,World.setCell,Array.getElem?_modify,hg.symm],by simp[nU],fun B hB=>(((((Br _ _).setCell hB _).setCell hB _).setCell hB _).setCell hB _)⟩
def z4 (T:TypeId):Obj:=.cells #[.slice none 0 0,.slice none 0 0,.slice none 0 0,.slice none 0 0] T (0,0)
structure Uj (n:Nat) (xs:List Nat) (v:Value) (w:World):Prop where
 ex:∃q d,v=.slice q n d/\Jm w q n d xs
theorem Uj.below {n:Nat}{xs:List Nat}{v:Value}{w w':World}(h:Uj n xs v w)(hb:Below w.heap.size w w'):Uj n xs v w' :=
 let ⟨q,d,h1,h2⟩:=h.ex;⟨q,d,h1,h2.below hb⟩
def rJ (n:Nat)(Ns:List Nat)(v:Value)(w:World):Prop:=∃q c,v=.slice q n c/\Aw w 33 q n c Ns
def qI (B n:Nat)(Ns:List Nat)(v:Value)(w:World):Prop:=∃q c,v=.slice q n c/\Aw w 33 q n c Ns/\∀a,q=some a->B<=a.block
def pC (q n:Nat)(zs Ys:List Nat)(w:World)(en:Ending)(w':World):Prop:=∃u ps ss,en=.returned (.tuple #[u,.int .i64 0])/\qI w.heap.size n ps u w'/\Lz q zs Ys n ps ss/\Below w.heap.size w w'
theorem kJ {w:World}{r q e1 n c m:Nat}{p:Option Addr}{As Bs:List Nat}{u:Value}(hR:Ring w r q 33)(hA:Aw w e1 p n c As)(hB:nJ m Bs u w)(h1:e1<=200)(hn:n<=1000/\0<n)(hm:m<=1000/\0<m) :
  Calls Tryz.prog 93 #[.pointer (some ⟨r,0,none⟩),.slice p n c,u] w fun en w'=>∃u,en=.returned u/\pB q (n+m-1) As Bs u w'/\Below w.heap.size w w':=by
 obtain⟨g,rfl,h⟩:=hB;exact Za hR hA h h1 (by decide) hn.1 hm.1 hn.2 hm.2
theorem Zv {q n V:Nat}{Bs:List Nat}(h:Cn q n V Bs=0):n=V/\0<n/\(Bs.map fun x=>x%q).Nodup:=by
 unfold Cn at h;split at h
 .omega
 .split at h
  .omega
  .split at h
   .rename_i h1 h2 h3
    exact⟨by omega,by omega,h3⟩
   .omega
theorem Yg {w:World}{r q e n c V cy:Nat}{p py:Option Addr}{As:List Nat}(hR:Ring w r q 33)(h:Aw w e p n c As)(he:e<=200)(hn:n<=12)(hV:V<=1000000)(hf:Cn q n V As≠0) :
  Calls Tryz.prog 23 #[.pointer (some ⟨r,0,none⟩),.slice p n c,.slice py V cy] w fun en w'=>en=.returned (.tuple #[.slice none 0 0,.int .i64 (Cn q n V As:Nat)])/\Below w.heap.size w w':=by
 have HF:=Aa (Mp hR h he hn hV);obtain⟨F,hF⟩:∃F,Cn q n V As=F:=⟨_,rfl⟩
 rw[hF]at HF hf
 rw[hF];have hF0:((F:Int)!=0)=true:=by rw[bne_iff_ne];omega
 have hF1:¬(F:Int)=0:=by omega
 clear hR h hF;go_enter Tryz.func23,Tryz.ntmps23
 go_wp2_with fail
 refine HF.out.mono ?_;rintro en w1 ⟨rfl,b1⟩;have B1:=Aa b1;clear b1 HF;go_wp2
 go_ret2
 exact⟨rfl,B1.out⟩
theorem bM {w:World}{r q e e2 n c V d:Nat}{p py:Option Addr}{As Ys:List Nat}(hq:Ch q)(hR:Ring w r q 33)(h:Aw w e p n c As)(hY:Aw w e2 py V d Ys)(he:e<=200)(he2:e2<=200)(hn:n<=12)(hV:V<=1000000)(hf:Cn q n V As=0) :
  Calls Tryz.prog 23 #[.pointer (some ⟨r,0,none⟩),.slice p n c,.slice py V d] w (pC q n (As.map fun x=>x%q) Ys w):=by
 have HF:=Aa (Mp hR h he hn hV);obtain⟨rfl,hn0,hnd⟩:=Zv hf;rw[hf]at HF
 have HPQ:=Aa hq;have HUN:Ab (Iy q (ints (As.map fun x=>x%q))):=⟨by
  rw[Jq];rw[List.map_map];have e9:((fun x=>x%q) ∘ fun x=>x%q)=fun x=>x%q:=by funext x;exact Nat.mod_mod _ _
  rw[e9];exact hnd⟩
 have HR0:=Aa hR;have HA0:=Aa h;have HY0:=Aa hY;have HLY:=Aa hY.len;have HLA:=Aa h.len;obtain⟨zs,hzs⟩:∃l,(As.map fun x=>x%q)=l:=⟨_,rfl⟩
 have HZS:=Aa hzs;have HZL:Ab (zs.length=n):=⟨by rw[<-hzs,List.length_map];exact h.len.symm⟩
 have HZlt:Ab (∀z∈zs,z<q):=⟨fun z hz=>by
  rw[<-hzs]at hz
  obtain⟨x,_,rfl⟩:=List.mem_map.1 hz;exact Nat.mod_lt _ (by have:=hq.two;omega)⟩
 rw[hzs]at HUN
 rw[hzs];clear hR h hY hf hnd hq hzs;go_enter Tryz.func23,Tryz.ntmps23
 go_wp2_with fail
 refine HF.out.mono ?_;rintro en w1 ⟨rfl,b1⟩;have B1:=Aa b1;clear b1 HF
 go_wp2_with fail
 refine(Ek w1).mono ?_;rintro en w2 ⟨_,rfl,⟨p1,n1,c1,rfl,o1,o2⟩,b2⟩;have hb3:Below w2.heap.size w2 (w2.alloc (.cells #[.slice p1 n1 c1] 36)):=Dl;have hx3:=heap_alloc_new w2 (.cells #[.slice p1 n1 c1] 36);obtain⟨w3,hw3⟩:∃x,w2.alloc (.cells #[.slice p1 n1 c1] 36)=x:=⟨_,rfl⟩
 rw[hw3]at hb3 hx3
 obtain⟨g3,hg3⟩:∃x,w2.heap.size=x:=⟨_,rfl⟩
 rw[hg3]at hx3
 have hb23:=Ae b2 hb3;have B3:=Aa (Ae B1.out hb23);have hs3:Aw w3 33 (some ⟨g3,0,none⟩) 1 1 [1]:=⟨rfl,Av _,by decide,(fun e=>by cases e),fun _=>⟨g3,0,rfl,(Hy hx3).1,fun i N hN=>by
  match i,hN with
  | 0,hN=>cases hN;exact⟨p1,n1,c1,by simp[World.cell?,hx3],o1.below hb3,Eh o2 (Cu (by decide))⟩
  | i+1,hN=>simp at hN⟩⟩
 have HS3:=Aa hs3;have HEACH:=Aa (Jj (HR0.out.below B3.out) (HA0.out.below B3.out) he (by omega));clear o1 b2 hb3 hx3 hb23 hs3 B1
 go_wp2_with fail
 refine HEACH.out.mono ?_;rintro en w4 ⟨rfl,hz,b4⟩;rw[HZS.out]at hz
 have HZ4:=Aa hz;have HS4:=Aa (HS3.out.below b4);have B4:=Aa (Ae B3.out b4);obtain⟨gz,hgz⟩:∃x,w3.heap.size=x:=⟨_,rfl⟩
 rw[hgz]at HZ4
 rw[hgz];clear hz b4 HEACH B3 HS3 hgz;go_wp2;clear hw3 hg3
 go_loopw [9,10,11,12,13,14,30] (fun vp vs _ _ _ _ iv wr=>∃(k:Nat) (ps ss:List Nat),k<=n/\iv=.int .i64 k/\Ab (Lz q zs Ys k ps ss)/\Ab (qI w.heap.size k ps vp wr)/\Ab (rJ (k+1) ss vs wr)/\Ab (Below w4.heap.size w4 wr)) (fun _ _ _ _ _ _ iv _=>n-(intOf iv).toNat)
 case atStart=>exact⟨0,[],[1],by omega,rfl,⟨Lz.start HPQ.out.two _ _⟩,⟨⟨_,_,rfl,Aw.none _ _,fun a h=>by cases h⟩⟩,⟨⟨_,_,rfl,HS4.out⟩⟩,⟨Br _ _⟩⟩
 case round=>
  obtain⟨k,pl,ss,hk,rfl,HN,HPK,HSK,HB⟩:=hrel;obtain⟨pp,cp,hvp,hpl,hpf⟩:=HPK.out;obtain⟨ps,cs,hvs,hsl⟩:=HSK.out;obtain⟨k1,hk1⟩:∃x,k+1=x:=⟨_,rfl⟩
  rw[hk1]at hvs hsl
  subst hvp hvs
  by_cases hkn:k<n
  .obtain⟨z,hzk⟩:∃s,zs[k]? = some s:=⟨zs[k]'(by rw[HZL.out];exact hkn),List.getElem?_eq_getElem _⟩
   obtain⟨y,hyk⟩:∃s,Ys[k]? = some s:=⟨Ys[k]'(by rw[<-HLY.out];exact hkn),List.getElem?_eq_getElem _⟩
   obtain⟨bz,oz,ez,hbz,hcz⟩:=HZ4.out.at_ (by omega)
   simp only[Option.some.injEq,Addr.mk.injEq,and_true]at ez;obtain⟨rfl,rfl⟩:=ez;obtain⟨qx,mx,dx,x1,x2,x3⟩:=hcz k z hzk;rw[Nat.zero_add]at x1
   obtain⟨by_,oy,rfl,hby,hcy⟩:=HY0.out.at_ (by omega)
   obtain⟨qy,my,dy,y1,y2,y3⟩:=hcy k y hyk;have hxc:wr.cell? ⟨gz,k,none⟩=some (.slice qx mx dx):=(HB.out.cell (p:=⟨gz,k,none⟩) hbz).trans x1;have hba:Below wr.heap.size wr (wr.alloc (.cells #[.slice qx mx dx] 36)):=Dl;have hxa:=Af.made wr (.slice qx mx dx);obtain⟨wa,hwa⟩:∃wa,wr.alloc (.cells #[.slice qx mx dx] 36)=wa:=⟨_,rfl⟩
   rw[hwa]at hba hxa
   obtain⟨b9,hb9⟩:∃x,wr.heap.size=x:=⟨_,rfl⟩
   rw[hb9]at hxa
   have hB4a:=Ae HB.out hba;have BW:=Aa (Ae B4.out hB4a);have HXB:=Aa hxa;have HX:=Aa ((Fit.of x2 x3).below hB4a);have HYI:=Aa ((Fit.of y2 y3).below BW.out);have HCY:Ab (∀w',Below wa.heap.size wa w'->w'.cell? ⟨by_,oy+k,none⟩=some (.slice qy my dy)):=⟨fun w' hb=>((Ae BW.out hb).cell (p:=⟨by_,oy+k,none⟩) hby).trans y1⟩
   have HR:=Aa (HR0.out.below BW.out);have HPL:=Aa (hpl.below hba);have HSL:=Aa (hsl.below hba);have HBa:=Aa hB4a;have hzq:z<q:=HZlt.out z (List.mem_of_getElem? hzk);have hq2:=HPQ.out.two;obtain⟨EP,hEP⟩:∃V,Lh q z pl=V:=⟨_,rfl⟩
   obtain⟨EB,hEB⟩:∃V,Lh q z ss=V:=⟨_,rfl⟩
   obtain⟨DA,hDA⟩:∃V,Cb y EP q=V:=⟨_,rfl⟩
   obtain⟨OT,hOT⟩:∃V,DA*Mx q EB%q=V:=⟨_,rfl⟩
   obtain⟨TT,hTT⟩:∃V,Cb 0 z q=V:=⟨_,rfl⟩
   have hIB:Is q EB (ev (ints ss) z):=by rw[<-hEB];exact Wy hq2 ss
   have hIP:Is q EP (ev (ints pl) z):=by rw[<-hEP];exact Wy hq2 pl
   have hap:=HN.out.apart HPQ.out HUN.out hzk;have hgc:Nat.gcd q EB=1:=HPQ.out.coprime fun hd=>hap (by
    have h1:=hIB.dvd;have h2:(q:Int) ∣ (EB:Int):=by exact Int.natCast_dvd_natCast.2 hd
    have:=Int.dvd_sub h2 h1
    rwa [show (EB:Int)-((EB:Int)-ev (ints ss) (z:Int))=ev (ints ss) (z:Int) by omega]at this)
   have HGC:=Aa hgc;have HOT:Ab (∀I,Ia q EB I->DA*I%q=OT):=⟨fun I hI=>by rw[Wx hq2 hI,hOT]⟩
   have HEP:=Aa hEP;have HEB:=Aa hEB;have HDA:=Aa hDA;have HTT:=Aa hTT;have HOTl:Ab (OT<Ao 33):=⟨by rw[<-hOT];exact Nat.lt_trans (Nat.mod_lt _ (by omega)) HR0.out.lim⟩
   have hOD:(q:Int) ∣ ev (ints ss) z*OT-(y-ev (ints pl) z):=by
    have h1:Is q DA (y-ev (ints pl) z):=by
     have h2:Is q (y%q) (y:Int):=Is.of (by omega) y;have h3:=Is.sub hq2 h2 hIP;have h4:Cb (y%q) EP q=DA:=by rw[<-hDA];unfold Cb;rw[Nat.mod_mod]
     rwa [h4]at h3
    have h5:=kC HPQ.out h1 hIB (Ou hq2 EB) hap
    rwa [hOT]at h5
   have hTD:(q:Int) ∣ (TT:Int)+z:=by
    have h2:Is q (z%q) (z:Int):=Is.of (by omega) z;have h3:=Is.sub hq2 (Is.zero (by omega)) h2;have h4:Cb 0 (z%q) q=TT:=by rw[<-hTT,Nat.mod_eq_of_lt hzq]
    rw[h4]at h3
    have h6:=h3.dvd
    rwa [show (TT:Int)-(0-(z:Int))=(TT:Int)+z by omega]at h6
   have HNS:Ab (∀m s2,Tm q ss [OT] m->Tm q ss [TT,1] s2->Lz q zs Ys (k+1) (Oa q pl m) s2):=⟨fun m s2 h1 h2=>HN.out.step hzk hyk hOD h1 rfl (by omega) hTD h2⟩
   have hkn':(k:Int)<n:=by omega
   have hnk:¬n<=k:=by omega
   clear hcz hzk hyk x1 x2 hbz hcy hby y1 y2 hba hxa hB4a hpl hsl hEP hEB hDA hOT hTT hIB hIP hap hgc hOD hTD hq2 hzq HPK HSK HN HB hpf;go_wp2;clear hwa hb9 hxc;refine Am (by kernel_rfl) (by kernel_rfl)
    [some (.pointer (some ⟨r,0,none⟩)),some (.pointer (some ⟨r,0,none⟩)),some (.slice (some ⟨by_,oy,none⟩) n d),some (.int .i64 (k:Nat)),some (.pointer (some ⟨by_,oy+k,none⟩)),some (.agg #[.slice qy my dy]),some (.pointer (some ⟨r,0,none⟩)),some (.slice pp k cp),some (.agg #[.slice qx mx dx]),none,none,some (.pointer (some ⟨r,0,none⟩)),some (.slice ps k1 cs),some (.agg #[.slice qx mx dx]),none,none,none,none,some (.int .i64 0),none,none,some (.int .i64 0)]
    [false,false,false,false,false,false,false,false,false,true,true,false,false,false,true,true,true,true,false,true,true,false] rfl
    (fun wA wB=>Ap (wa.heap.size) wA wB)
    (fun D sp w'=>RG (wa.heap.size) wa [] w'/\bC (D 19) (D 20) (sp 19) (wa.heap.size) (OT) w')
    (fun i v w'=>match i with
     | 9=>Fit 33 (EP) v w'
     | 10=>Fit 33 (DA) v w'
     | 14=>Fit 33 (EB) v w'
     | 15=>Km 33 OT (.int .i64 0) v w'
     | 16=>Km 33 OT (.int .i64 0) v w'
     | 17=>Fit (33) (OT) v w'
     | _=>True)
    ?_ ⟨RG.start (Av _) (fun x hx=>by cases hx),bC.start (Av _)⟩ ?_ ?_
   .intro i v wA wB hf hb;split at hf
    .exact hf.keep hb
    .exact hf.keep hb
    .exact hf.keep hb
    .exact hf.keep hb
    .exact hf.keep hb
    .exact hf.keep hb
    .trivial
   .simp only[Bw,Nat.reduceAdd];refine⟨?_,?_,?_,?_,?_,?_,?_,?_,?_,?_,?_,?_,?_,?_,?_,?_,?_,?_,?_,?_,?_,?_,trivial⟩
    all_goals intro D sp w' hD hW hdp hg
    case refine_5=>
     (with_reducible refine Ah (w1:=w') (v:=.pointer (some ⟨by_,oy+k,none⟩)) ?_ ?_ ?_)
     .simp[Region.wanted,yielded,Act.put,go_sem]
     .simp[execOp,Act.eval,Act.put,go_sem,hkn]
     .exact⟨rfl,rfl⟩
    case refine_6=>
     have c0:=HCY.out w' hg.1.keep.bel
     with_reducible refine Ad ?_ ?_
     all_goals simp[Region.wanted,yielded,execOp,Act.eval,Act.put,go_sem,c0]
    case refine_9|refine_14=>
     have c0:=(HXB.out.below hg.1.keep.bel HXB.out.lt).cell
     with_reducible refine Ad ?_ ?_
     all_goals simp[Region.wanted,yielded,execOp,Act.eval,Act.put,go_sem,c0]
    case refine_10=>
     (with_reducible refine Ac (w1:=w') (f := 33) (args:=#[.pointer (some ⟨r,0,none⟩),.slice pp k cp,.agg #[.slice qx mx dx]]) ?_ ?_ ?_)
     .simp[Region.wanted,yielded,Act.put,go_sem]
     .simp[Act.eval,Act.put,go_sem]
     .refine(Vj (HR.out.below hg.1.keep.bel) (HPL.out.below hg.1.keep.bel) (HX.out.below hg.1.keep.bel) (by decide) (by decide) (by omega) HEP.out).mono ?_;rintro en w9 ⟨u,rfl,hu,hb⟩;exact⟨u,rfl,Ap.of hb hg.1.base,hu,hg.1.later hb,by simpa [upd]using hg.2.later hb⟩
    case refine_11=>
     have k9:Fit 33 (EP) (sp 9) w':=(hdp 9 (mq (by kernel_rfl))).2
     (with_reducible refine Ac (w1:=w') (f := 58) (args:=#[.pointer (some ⟨r,0,none⟩),.agg #[.slice qy my dy],sp 9]) ?_ ?_ ?_)
     .simp[Region.wanted,yielded,Act.put,go_sem]
     .simp[Act.eval,Act.put,go_sem]
     .refine(Hn (HR.out.below hg.1.keep.bel) (HYI.out.below hg.1.keep.bel) k9 (by omega) (by decide)).mono ?_;rintro en w9 ⟨u,rfl,hu,hb⟩;rw[HDA.out]at hu
      exact⟨u,rfl,Ap.of hb hg.1.base,hu,hg.1.later hb,by simpa [upd]using hg.2.later hb⟩
    case refine_15=>
     (with_reducible refine Ac (w1:=w') (f := 33) (args:=#[.pointer (some ⟨r,0,none⟩),.slice ps k1 cs,.agg #[.slice qx mx dx]]) ?_ ?_ ?_)
     .simp[Region.wanted,yielded,Act.put,go_sem]
     .simp[Act.eval,Act.put,go_sem]
     .refine(Vj (HR.out.below hg.1.keep.bel) (HSL.out.below hg.1.keep.bel) (HX.out.below hg.1.keep.bel) (by decide) (by decide) (by omega) HEB.out).mono ?_;rintro en w9 ⟨u,rfl,hu,hb⟩;exact⟨u,rfl,Ap.of hb hg.1.base,hu,hg.1.later hb,by simpa [upd]using hg.2.later hb⟩
    case refine_16=>
     have k10:Fit 33 (DA) (sp 10) w':=(hdp 10 (mq (by kernel_rfl))).2;have k14:Fit 33 (EB) (sp 14) w':=(hdp 14 (mq (by kernel_rfl))).2
     (with_reducible refine Ac (w1:=w') (f := 92) (args:=#[.pointer (some ⟨r,0,none⟩),sp 10,sp 14]) ?_ ?_ ?_)
     .simp only[Region.wanted]
     .simp[Act.eval,Act.put,go_sem]
     .refine(eH (HR.out.below hg.1.keep.bel) k10 k14 (by decide) (by decide)).mono ?_;rintro en w9 ⟨_,I,rfl,hI,⟨p9,n9,c9,rfl,u1,u2⟩,hb⟩;rw[if_pos HGC.out];have hOI:=HOT.out I hI;rw[hOI]at u1 u2
      exact⟨_,rfl,Ap.of hb hg.1.base,⟨p9,n9,c9,rfl,u1,u2⟩,hg.1.later hb,by simpa [upd]using hg.2.later hb⟩
    case refine_17=>
     have k15:Km 33 OT (.int .i64 0) (sp 15) w':=(hdp 15 (mq (by kernel_rfl))).2
     (with_reducible refine Ah (w1:=w') (v:=sp 15) ?_ ?_ ?_)
     .simp[Region.wanted,yielded,Act.put,go_sem]
     .simp[execOp,Act.eval,Act.put,go_sem]
     .exact⟨Ap.same _ _,k15,hg.1,by simpa [upd]using hg.2⟩
    case refine_18=>
     have hx:∃p n c,sp 16=.tuple #[.agg #[.slice p n c],.int .i64 0]/\Ai w' p n c (OT)/\OT<Ao (33):=(hdp 16 (mq (by kernel_rfl))).2
     (with_reducible refine Bp hx fun p hx1=>Bp hx1 fun n hx2=>Bp hx2 fun c hx3=>?_)
     have h1:=hx3.1
     (with_reducible refine Ah (w1:=w') (v:=.agg #[.slice p n c]) ?_ ?_ ?_)
     .simp[Region.wanted,yielded,Act.put,go_sem]
     .simp[execOp,Act.eval,Act.put,go_sem,h1]
     .exact⟨Ap.same _ _,⟨p,n,c,rfl,hx3.2⟩,hg.1,by simpa [upd]using hg.2⟩
    case refine_19=>
     have hx:∃p n c,sp 16=.tuple #[.agg #[.slice p n c],.int .i64 0]/\Ai w' p n c (OT)/\OT<Ao (33):=(hdp 16 (mq (by kernel_rfl))).2
     (with_reducible refine Bp hx fun p hx1=>Bp hx1 fun n hx2=>Bp hx2 fun c hx3=>?_)
     have h1:=hx3.1
     with_reducible refine Ad ?_ ?_
     all_goals simp[Region.wanted,yielded,execOp,Act.eval,Act.put,go_sem,h1]
    case refine_20=>
     have h9:D 20=false:=hW 20 (mq (by kernel_rfl));rw[hD,h9]at hg
     (with_reducible refine Ah (w1:=w'.alloc (.cells #[.slice none 0 0] 36)) (v:=.pointer (some ⟨w'.heap.size,0,none⟩)) ?_ ?_ ?_)
     .simp[Region.wanted,yielded,Act.put,go_sem]
     .simp[execOp,go_sem]
     .have hb:Below w'.heap.size w' (w'.alloc (.cells #[.slice none 0 0] 36)):=Dl;refine⟨Ap.of hb hg.1.base,trivial,hg.1.later hb,?_⟩;have h8:=hg.2.made;simpa [upd,h9]using h8
    case refine_21=>
     have hx:∃p n c,sp 17=.agg #[.slice p n c]/\Ai w' p n c (OT)/\OT<Ao (33):=(hdp 17 (mq (by kernel_rfl))).2
     (with_reducible refine Bp hx fun p hx1=>Bp hx1 fun n hx2=>Bp hx2 fun c hx3=>?_)
     have h1:=hx3.1;have h9:D 19=true:=(hdp 19 (mq (by kernel_rfl))).1;rw[h9]at hg
     have hp:=hg.2.put (hx3.2.1)
     (with_reducible refine Bp hp fun b hy0=>Bp hy0 fun q hy1=>Bp hy1 fun m hy2=>Bp hy2 fun k hy3=>?_)
     have h3:=hy3.1;have h6:=hy3.2.2.1.cell;have h7:=hy3.2.2.1.free
     (with_reducible refine Ar (w1:=w'.setCell ⟨b,0,none⟩ (.slice p n c)) ?_ ?_ ?_)
     .simp[Region.wanted,yielded,Act.put,go_sem]
     .simp[execOp,Act.eval,Act.put,go_sem,h1,h3,h6,h7]
     .refine⟨Ap.store hy3.2.2.1 (Dm (Av _) hy3.2.1) _,trivial,hg.1.store_over hy3.2.2.1 (Av _) hy3.2.1 (fun x hx=>by cases hx) _,?_⟩;have h8:=hy3.2.2.2;simpa [upd,h9]using h8
    all_goals ((with_reducible refine Ad ?_ ?_);all_goals first|(simp only[Region.wanted];done)|simp[Region.wanted,yielded,execOp,Act.eval,Act.put,go_sem])
   .intro sp w5 hsp hg;obtain⟨hg1,_,hmk⟩:=hg;obtain⟨bO,e11,hbO,po,no,co,hxz,hnz⟩:=hmk rfl;have HBO:=Aa hxz;have HFO:=Aa (hnz rfl);have kb:=hg1.keep.bel;have HXB5:=Aa (HXB.out.below kb HXB.out.lt);have HX5:=Aa (HX.out.below kb);have HR5:=Aa (HR.out.below kb);have HPL5:=Aa (HPL.out.below kb);have HSL5:=Aa (HSL.out.below kb);have HB5:=Aa (Ae HBa.out kb);clear hsp hg1 hmk hxz hnz hbO kb HX HXB HR HPL HSL HYI HCY BW HBa;simp only[An,Nat.reduceAdd];rw[e11];clear e11;generalize sp 9=y9,sp 10=y10,sp 14=y14,sp 15=y15,sp 16=y16,sp 17=y17,sp 20=y20 at *
    go_simp
    have c5:=HBO.out.cell;have hb6:Below w5.heap.size w5 (w5.alloc (.cells #[.slice po no co] 36)):=Dl;have hx6:=heap_alloc_new w5 (.cells #[.slice po no co] 36);obtain⟨w6,hw6⟩:∃x,w5.alloc (.cells #[.slice po no co] 36)=x:=⟨_,rfl⟩
    rw[hw6]at hb6 hx6
    obtain⟨g6,hg6⟩:∃x,w5.heap.size=x:=⟨_,rfl⟩
    rw[hg6]at hx6
    have hs6:Aw w6 33 (some ⟨g6,0,none⟩) 1 1 [OT]:=⟨rfl,Av _,by decide,(fun e=>by cases e),fun _=>⟨g6,0,rfl,(Hy hx6).1,fun i N hN=>by
     match i,hN with
     | 0,hN=>cases hN;exact⟨po,no,co,by simp[World.cell?,hx6],HFO.out.below hb6,HOTl.out⟩
     | i+1,hN=>simp at hN⟩⟩
    have HMUL:=Aa (Za (HR5.out.below hb6) (HSL5.out.below hb6) hs6 (by decide) (by decide) (by omega) (by decide) (by omega) (by decide));have HX6:=Aa (HX5.out.below hb6);have HXB6:=Aa (HXB5.out.below hb6 HXB5.out.lt);have HR6:=Aa (HR5.out.below hb6);have HPL6:=Aa (HPL5.out.below hb6);have HSL6:=Aa (HSL5.out.below hb6);have HB6:=Aa (Ae HB5.out hb6);clear hb6 hx6 hs6 HX5 HXB5 HR5 HPL5 HSL5 HB5 HBO HFO
    go_wp2_with fail
    refine HMUL.out.mono ?_;rintro en w7 ⟨_,rfl,⟨g7,acc,rfl,hm7,hpr7⟩,b7⟩;have HM7:=Aa hm7;have HPR:=Aa hpr7;have HX7:=Aa (HX6.out.below b7);have HXB7:=Aa (HXB6.out.below b7 HXB6.out.lt);have HR7:=Aa (HR6.out.below b7);have HPL7:=Aa (HPL6.out.below b7);have HSL7:=Aa (HSL6.out.below b7);have HB7:=Aa (Ae HB6.out b7);clear hm7 hpr7 b7 HX6 HXB6 HR6 HPL6 HSL6 HB6 HMUL c5;have hk11:k1+1-1=k1:=by omega
    rw[hk11]at HM7
    rw[hk11];clear hk11
    go_wp2_with fail
    refine(mC HR7.out HPL7.out HM7.out (by decide) (by decide) (by omega) (by omega)).mono ?_;rintro en w8 ⟨rfl,ha8,b8⟩;have hmax:max k k1=k1:=by omega
    obtain⟨g8,hg8⟩:∃x,w7.heap.size=x:=⟨_,rfl⟩
    have HG8:Ab (w.heap.size<=g8):=⟨by rw[<-hg8];exact(Ae B4.out HB7.out).size⟩
    rw[hmax,hg8]at ha8
    rw[hmax,hg8];have HA8:=Aa ha8;have HXb:=Aa (HX7.out.below b8);have HXBb:=Aa (HXB7.out.below b8 HXB7.out.lt);have HRb:=Aa (HR7.out.below b8);have HSLb:=Aa (HSL7.out.below b8);have HB8:=Aa (Ae HB7.out b8);clear ha8 b8 HX7 HXB7 HR7 HPL7 HSL7 HB7 HM7 hmax hg8;go_wp2;clear hw6 hg6;refine Aj (by kernel_rfl) (by kernel_rfl)
     [some (.pointer (some ⟨r,0,none⟩)),some (.slice ps k1 cs),some (.pointer (some ⟨r,0,none⟩)),none,some (.agg #[.slice qx mx dx]),none,none,none,none,none]
     [false,false,false,true,false,true,true,true,true,true] rfl
     (fun w1 w2=>Below w1.heap.size w1 w2)
     (fun _ w'=>Below w8.heap.size w8 w')
     (fun i v w'=>match i with
      | 3=>Fit 2 0 v w'
      | 5=>Fit 33 (TT) v w'
      | 6=>Fit 1 1 v w'
      | 7=>nJ 2 [TT,1] v w'
      | 8=>pB q (k1+2-1) ss [TT,1] v w'
      | 9=>pB q (k1+2-1) ss [TT,1] v w'
      | _=>True)
     ?_ (Br _ _).drew ?_ ?_
    .intro i v w1 w2 hf hb;split at hf
     .exact hf.below hb
     .exact hf.below hb
     .exact hf.below hb
     .exact hf.below hb
     .exact hf.below hb
     .exact hf.below hb
     .trivial
    .simp only[Bu,Nat.reduceAdd];refine⟨?_,?_,?_,?_,?_,?_,?_,?_,?_,?_,trivial⟩
     all_goals intro D sp w' hD hW hdp hbx'
     case refine_4=>
      (with_reducible refine Ac (w1:=w') (f := 21) (args:=#[.int .u64 0]) ?_ ?_ ?_)
      .simp[Region.wanted,yielded,Act.put,go_sem]
      .simp[Act.eval,Act.put,go_sem]
      .refine(Dh (n:=0) w' (by omega)).mono ?_;rintro en w9 ⟨u,rfl,hu,hb⟩;exact⟨u,rfl,hb,hu,Ae hbx' hb⟩
     case refine_5=>
      have c0:=(HXBb.out.below hbx' HXBb.out.lt).cell
      with_reducible refine Ad ?_ ?_
      all_goals simp[Region.wanted,yielded,execOp,Act.eval,Act.put,go_sem,c0]
     case refine_6=>
      have k3:Fit 2 0 (sp 3) w':=(hdp 3 (mq (by kernel_rfl))).2
      (with_reducible refine Ac (w1:=w') (f := 58) (args:=#[.pointer (some ⟨r,0,none⟩),sp 3,.agg #[.slice qx mx dx]]) ?_ ?_ ?_)
      .simp[Region.wanted,yielded,Act.put,go_sem]
      .simp[Act.eval,Act.put,go_sem]
      .refine(Hn (HRb.out.below hbx') k3 (HXb.out.below hbx') (by decide) (by decide)).mono ?_;rintro en w9 ⟨u,rfl,hu,hb⟩;rw[HTT.out]at hu
       exact⟨u,rfl,hb,hu,Ae hbx' hb⟩
     case refine_7=>
      (with_reducible refine Ac (w1:=w') (f := 21) (args:=#[.int .u64 1]) ?_ ?_ ?_)
      .simp[Region.wanted,yielded,Act.put,go_sem]
      .simp[Act.eval,Act.put,go_sem]
      .refine(Ek w').mono ?_;rintro en w9 ⟨u,rfl,hu,hb⟩;exact⟨u,rfl,hb,hu,Ae hbx' hb⟩
     case refine_8=>
      have hxa:∃p n c,sp 5=.agg #[.slice p n c]/\Ai w' p n c (TT)/\TT<Ao (33):=(hdp 5 (mq (by kernel_rfl))).2
      (with_reducible refine Bp hxa fun pa hxa1=>Bp hxa1 fun na hxa2=>Bp hxa2 fun ca hxa3=>?_)
      have ha:=hxa3.1;have hxb:∃p n c,sp 6=.agg #[.slice p n c]/\Ai w' p n c (1)/\1<Ao (1):=(hdp 6 (mq (by kernel_rfl))).2
      (with_reducible refine Bp hxb fun pb hxb1=>Bp hxb1 fun nb hxb2=>Bp hxb2 fun cb hxb3=>?_)
      have hb:=hxb3.1
      (with_reducible refine Ah (w1:=w'.alloc (.cells #[.slice pa na ca,.slice pb nb cb] 36)) (v:=.slice (some ⟨w'.heap.size,0,none⟩) 2 2) ?_ ?_ ?_)
      .simp only[Region.wanted]
      .simp[execOp,Act.eval,Act.put,go_sem,ha,hb]
      .have hbl:Below w'.heap.size w' (w'.alloc (.cells #[.slice pa na ca,.slice pb nb cb] 36)):=Dl;exact⟨hbl,⟨w'.heap.size,rfl,qY.plist (x:=(pa,na,ca)) (y:=(pb,nb,cb)) (heap_alloc_new w' _) (hxa3.2.1.below hbl) (hxb3.2.1.below hbl) hxa3.2.2 (Eh hxb3.2.2 (Cu (by decide)))⟩,Ae hbx' hbl⟩
     case refine_9=>
      have k7:nJ 2 [TT,1] (sp 7) w':=(hdp 7 (mq (by kernel_rfl))).2
      (with_reducible refine Ac (w1:=w') (f := 93) (args:=#[.pointer (some ⟨r,0,none⟩),.slice ps k1 cs,sp 7]) ?_ ?_ ?_)
      .simp only[Region.wanted]
      .simp[Act.eval,Act.put,go_sem]
      .refine(kJ (HRb.out.below hbx') (HSLb.out.below hbx') k7 (by decide) (by omega) (by omega)).mono ?_;rintro en w9 ⟨u,rfl,hu,hb⟩;exact⟨u,rfl,hb,hu,Ae hbx' hb⟩
     case refine_10=>
      have k8:pB q (k1+2-1) ss [TT,1] (sp 8) w':=(hdp 8 (mq (by kernel_rfl))).2
      (with_reducible refine Ah (w1:=w') (v:=sp 8) ?_ ?_ ?_)
      .simp[Region.wanted,yielded,Act.put,go_sem]
      .simp[execOp,Act.eval,Act.put,go_sem]
      .exact⟨Br _ _,k8,hbx'⟩
     all_goals ((with_reducible refine Ad ?_ ?_);all_goals first|(simp only[Region.wanted];done)|simp[Region.wanted,yielded,execOp,Act.eval,Act.put,go_sem])
    .intro sp wz hsp hb;obtain⟨g9,acc2,e9,hm9,hpr9⟩:pB q (k1+2-1) ss [TT,1] (sp 9) wz:=hsp 9 rfl;have hk12:k1+2-1=k1+1:=by omega
     rw[hk12]at e9 hm9
     have HNn:=Aa (HNS.out acc acc2 HPR.out hpr9);have HPn:Ab (qI w.heap.size (k+1) (Oa q pl acc) (.slice (some ⟨g8,0,none⟩) k1 k1) wz):=⟨⟨_,k1,by rw[hk1],by rw[hk1];exact HA8.out.below hb,fun a ha=>by cases ha;exact HG8.out⟩⟩
     have HSn:Ab (rJ (k+1+1) acc2 (.slice (some ⟨g9,0,none⟩) (k1+1) (k1+1)) wz):=⟨⟨_,_,by rw[hk1],by rw[hk1];exact hm9⟩⟩
     have HBn:=Aa (Ae HB8.out hb);clear hsp hb hm9 hpr9 hk12;simp only[An,Nat.reduceAdd];rw[e9];clear e9;generalize sp 3=y3,sp 5=y5,sp 6=y6,sp 7=y7,sp 8=y8 at *
     go_simp
     go_wp2;go_roundw
     case rel=>exact⟨k+1,_,_,by omega,by go_num,HNn,HPn,HSn,HBn⟩
     case measure=>simp[intOf];omega
  .obtain rfl:k=n:=by omega
   have hkn':¬(k:Int)<k:=by omega
   have HPF:=Aa hpl;have HPG:=Aa hpf;have HNF:=Aa HN.out;have HBF:=Aa (Ae B4.out HB.out);clear hpl hsl hpf HPK HSK HN HB;go_wp2
   go_ret2
   exact⟨_,pl,ss,rfl,⟨_,_,rfl,HPF.out,HPG.out⟩,HNF.out,HBF.out⟩
end Go.Proofs.YtnbmfaihlefgfaaGreatDoor
