/- The insertion sort of slices.SortFunc, over numbers. -/
import Derived.Test.YtnbmfaihlefgfaaGreatDoorSdA
import Derived.BigRegion
set_option maxRecDepth 1000000
set_option maxHeartbeats 16000000
set_option linter.all false
namespace Go.Proofs.YtnbmfaihlefgfaaGreatDoor
open Go Go.RowKit Go.Proofs.YtnbmfaihlefgfaaGreatDoor.Flow
attribute [local go_sem] Oper.semAt_some
theorem On {W W':World}{row:Option Nat}{B size n:Nat}{e:TypeId}{v:Value}{us:List Value}(h:W.ownsRow B e size v n us)(hg:W.grownBy W' row)(hr:Calm W row):W'.ownsRow B e size v n us:=by
 refine⟨h.1,?_⟩;rcases h.2 with h4|⟨g,cap,cur,e',hbg,hgg,h5⟩
 .exact .inl h4
 .exact .inr ⟨g,cap,cur,e',hbg,Dt hg hr hgg,h5⟩
theorem Nb {W W':World}{B size n:Nat}{e:TypeId}{v:Value}{us:List Value}(h:W.ownsRow B e size v n us)(hb:Below W.heap.size W W'):W'.ownsRow B e size v n us:=by
 refine⟨h.1,?_⟩;rcases h.2 with h4|⟨g,cap,cur,e',hbg,hgg,h5⟩
 .exact .inl h4
 .exact .inr ⟨g,cap,cur,e',hbg,by rw[hb.block g (Hy hgg).1];exact hgg,h5⟩
theorem Tx {W:World}{B size n:Nat}{e:TypeId}{v:Value}{us:List Value}(h:W.ownsRow B e size v n us):∃p m c,v=.slice p m c:=by
 rcases h.2 with ⟨h1,_⟩|⟨g,cap,cur,h1,_⟩
 .exact⟨_,_,_,h1⟩
 .exact⟨_,_,_,h1⟩
structure Pi (w:World) (B bx:Nat) (us:List (Option Addr×Nat×Nat)) (k:Nat) (W:World):Prop where
 ex:∃v,W.heap[bx]? = some (.cells #[v] 32 (0,0))/\W.ownsRow B 36 1 v k ((us.take k).map sv)
 bel:Below w.heap.size w W
theorem Pi.stable {w:World}{B bx k:Nat}{us:List (Option Addr×Nat×Nat)}{W W':World}(h:Pi w B bx us k W)(hb:Below W.heap.size W W'):Pi w B bx us k W':=by
 obtain⟨v,h1,h2⟩:=h.ex;exact⟨⟨v,by rw[hb.block bx (Hy h1).1];exact h1,Nb h2 hb⟩,Ae h.bel hb⟩
theorem Pi.own {w:World}{B bx:Nat}{us:List (Option Addr×Nat×Nat)}{D:Nat}(hD:w.heap.size<=D):OwnFrom D (fun k=>Pi w B bx us k):=fun k W W' row h hg hr=>by
 have hc:Calm W row:=fun j e=>(hr j e).2
 obtain⟨v,h1,h2⟩:=h.ex;exact⟨⟨v,Dt hg hc h1,On h2 hg hc⟩,h.bel.grown hg h.bel.size (fun j e=>Dm hD (hr j e).1)⟩
theorem Pi.grow {w:World}{B bx k D:Nat}{us:List (Option Addr×Nat×Nat)}{Wb W1 w':World}{v v':Value}{x:Option Addr×Nat×Nat}(h:Pi w B bx us k Wb)(hv:Wb.heap[bx]? = some (.cells #[v] 32 (0,0)))(hrow:Wb.ownsRow B 36 1 v k ((us.take k).map sv))(hx:us[k]? = some x)(hbw:Below Wb.heap.size Wb W1)(hg:W1.grownBy w' v.ownBlock)(hown:w'.ownsRow B 36 1 v' (k+1) ((us.take k).map sv++[sv x]))(hB:w.heap.size<=B)(hbx:w.heap.size<=bx) :
  (w'.cell? ⟨bx,0,none⟩=some v/\w'.frozen? ⟨bx,0,none⟩=false)/\KeepsFrom D Wb (w'.setCell ⟨bx,0,none⟩ v')/\Mid (fun j=>j<w.heap.size) Wb (w'.setCell ⟨bx,0,none⟩ v')/\Pi w B bx us (k+1) (w'.setCell ⟨bx,0,none⟩ v'):=by
 have hltx:=(Hy hv).1;have hne:∀g,v.ownBlock=some g->(∃cur,Wb.heap[g]? = some (.cells cur 36 (0,0)))/\B<=g:=fun g hg=>by
  rcases hrow.2 with ⟨e,_⟩|⟨g',cap,cur,e,hbg,hgg,_⟩
  .rw[e]at hg;cases hg
  .rw[e]at hg
   simp[Value.ownBlock]at hg
   subst hg;exact⟨⟨cur,hgg⟩,hbg⟩
 have hother:∀j,j<Wb.heap.size->(∀cur,Wb.heap[j]? ≠ some (.cells cur 36 (0,0)))->w'.heap[j]? = Wb.heap[j]? := fun j hj hn=>by
  rw[hg.block j (Eh hj hbw.size) (fun e=>by obtain⟨⟨cur,h1⟩,_⟩:=hne j e.symm;exact hn cur h1),hbw.block j hj]
 have hv':w'.heap[bx]? = some (.cells #[v] 32 (0,0)):=by
  rw[hother bx hltx (fun cur e=>by rw[hv]at e;simp only[Option.some.injEq,Obj.cells.injEq]at e;exact absurd e.2.1 (by decide))];exact hv
 have hsz:Wb.heap.size<=w'.heap.size:=Dm hbw.size hg.size;have hset:∀j,j≠bx->(w'.setCell ⟨bx,0,none⟩ v').heap[j]? = w'.heap[j]? := fun j hj=>heap_setCell_other w' ⟨bx,0,none⟩ j v' hj
 have hmid:Mid (fun j=>j<w.heap.size) Wb (w'.setCell ⟨bx,0,none⟩ v'):=by
  refine⟨hg.os.trans hbw.os,hg.tape.trans hbw.tape,hg.output.trans hbw.output,by simpa using hsz,fun j hj hp=>?_⟩;rw[hset j (by omega),hg.block j (Eh hj hbw.size) (fun e=>by obtain⟨_,h1⟩:=hne j e.symm;omega),hbw.block j hj]
 refine⟨⟨by simp[World.cell?,hv'],by simp[World.frozen?,hv']⟩,⟨by simpa using hsz,fun j o _ hj ho=>?_⟩,hmid,⟨⟨v',?_,?_⟩,?_⟩⟩
 .have hjb:j≠bx:=fun e=>by subst e;rw[hv]at hj;cases hj;cases ho
  rw[hset j hjb,hother j (Hy hj).1 (fun cur e=>by rw[hj]at e;cases e;cases ho)];exact hj
 .simp[World.setCell,Array.getElem?_modify,hv']
 .rw[Dx hx,List.map_append,List.map_singleton];refine⟨hown.1,?_⟩;rcases hown.2 with h4|⟨g,cap,cur,e',hbg,hgg,h5⟩
  .exact .inl h4
  .exact .inr ⟨g,cap,cur,e',hbg,by
    rw[hset g (fun e=>by subst e;rw[hv']at hgg;simp only[Option.some.injEq,Obj.cells.injEq]at hgg;exact absurd hgg.2.1 (by decide))];exact hgg,h5⟩
 .exact h.bel.trans (hmid.below h.bel.size (fun j hj=>hj))
theorem Xu (w:World)(b1 b off len cap:Nat)(p:Option Addr)(us:List (Option Addr×Nat×Nat))(hr:Pe w p len cap b off us)(hlen:len<=1000000)(hc1:w.cell? ⟨b1,0,none⟩=some (.slice p len cap))(hb1:b1<w.heap.size) :
  CallsIn Fence.wide 10 Tryz.prog 244 #[.slice none 0 0,.func (.func 226) #[] #[.pointer (some ⟨b1,0,none⟩)]] w fun e w'=>
   ∃v,e=.returned v/\w'.ownsRow w.heap.size 36 1 v len (us.map sv)/\Below w.heap.size w w':=by
 have HR:=Aa hr;have HC1:=Aa hc1;have HB1:=Aa hb1;clear hr hc1 hb1;refine callsIn_of_wp_marks Tryz.func244 rfl trivial ?_ rfl;simp only[Tryz.ntmps244,List.size_toArray,List.length_cons,List.length_nil,Nat.reduceAdd,Nat.reduceSub,Array.replicate_succ,Array.replicate_zero,List.push_toArray,List.append_toArray,List.nil_append,List.cons_append];obtain⟨bx,hbx⟩:∃b,w.heap.size=b:=⟨_,rfl⟩
 obtain⟨W0,hW0⟩:∃W0,w.alloc (.cells #[.slice none 0 0] 32)=W0:=⟨_,rfl⟩
 have hb0:Below w.heap.size w W0:=by rw[<-hW0];exact(Br _ _).alloc (Av _) _
 have hs0:W0.heap.size=bx+1:=by rw[<-hW0,<-hbx];simp
 have hx0:W0.heap[bx]? = some (.cells #[.slice none 0 0] 32 (0,0)):=by rw[<-hW0,<-hbx];exact heap_alloc_new w _
 have HS0:Ab (Pi w bx bx us 0 W0):=⟨⟨⟨_,hx0,World.ownsRow_nil W0 bx _ 1⟩,hb0⟩⟩
 have HZ0:=Aa hs0;have HBX:=Aa hbx;have HCW:Ab (W0.cell? ⟨b1,0,none⟩=some (.slice p len cap)):=⟨(hb0.cell (p:=⟨b1,0,none⟩) HB1.out).trans HC1.out⟩
 clear hb0 hs0 hx0
 gi_wp2_with fail
 clear hbx hW0;refine Fw rfl (by decide) (gf := 226) (lb:=#[.pointer (some ⟨b1,0,none⟩)]) rfl trivial (enters_of Tryz.func226 (by kernel_rfl) rfl)
  (N:=len) (Kp:=Mid (fun j=>j<w.heap.size)) (Gd:=fun k vs _=>∃x,us[k]? = some x/\vs=#[.agg #[sv x]]) (by rintro k vs W ⟨x,_,rfl⟩;rfl)
  (fun W5 hs5 hb5=>Tt (10-1) (W0.heap.size+2) (W0.heap.size+1) b1 b off len cap p us w W5 HR.out hlen _ (HS0.out.bel.trans (hb5.mono HS0.out.bel.size))
   ((hb5.cell (p:=⟨b1,0,none⟩) (by have:=HB1.out;have:=HS0.out.bel.size;simp;omega)).trans HCW.out) (fun A C h hA=>h.below hA (fun j hj=>hj)))
  (fun h k=>h.trans k) (fun W5 o=>Mid.putObj _ _ _ (by have:=HZ0.out;have:=HBX.out;omega))
  (fun k=>Pi w bx bx us k) (Pi.own (by have:=HZ0.out;have:=HBX.out;omega)) HS0.out
  (fun k a' W5=>∃(bv:Nat) (x:Option Addr×Nat×Nat),us[k]? = some x/\a'={ defers:=[],tmps:=#[.slice none 0 0,.func (.func 226) #[] #[.pointer (some ⟨b1,0,none⟩)],.pointer (some ⟨bx,0,none⟩),undef,.slice none 0 0,.pointer (some ⟨bv,0,none⟩),.func (.func 226) #[] #[.pointer (some ⟨b1,0,none⟩)],.agg #[.slice x.1 x.2.1 x.2.2],undef,undef,undef,undef,undef] }/\Af W5 bv (sv x)/\Pi w bx bx us k W5)
  ?ax ?assign ?body ?done
 case ax=>
  rintro k a' _ X Y row ⟨bv,x,hx,e,h1,h2⟩ hg hr;exact⟨bv,x,hx,e,Dt hg (fun j e=>(hr j e).2) h1,Pi.own (w:=w) (B:=bx) (bx:=bx) (us:=us) (D:=W0.heap.size) (by have:=HZ0.out;have:=HBX.out;omega) k X Y row h2 hg hr⟩
 case assign=>
  rintro l2 k v W5 K hk hi ⟨x,hx,rfl⟩ hK;obtain⟨q,m,d⟩:=x;have hbw:Below W5.heap.size W5 (W5.alloc (.cells #[.slice q m d] 36)):=Dl;have HK:=Aa hK;have HI:=Aa hi;have HX:=Aa hx;clear hK hi hx;unfold sv
  gi_wp2
  exact HK.out _ _ ((KeepsOthers.alloc _ _).from _) (Mid.of hbw) ⟨_,(q,m,d),HX.out,rfl,Af.made W5 _,HI.out.stable hbw⟩
 case body=>
  rintro l2 k a' Wb hk ⟨bv,⟨q,m,d⟩,hx,rfl,hxn,hst⟩;obtain⟨v,hv,hrow⟩:=hst.ex;have cb:Wb.cell? ⟨bx,0,none⟩=some v:=by simp[World.cell?,hv]
  have cx:=hxn.cell;unfold sv at cx;have HX:=Aa hx;have HV:=Aa hv;have HST:=Aa hst;have HROW:=Aa hrow;clear hx hv hst hxn hrow;have hlk:=HROW.out.1
  gi_wp2_with (gi_at_builtin;refine Tn.out ?_)
  refine⟨?_⟩;clear cx cb;obtain⟨i1,hi1,hz1,hs1,hbb1⟩:=info_parts Tryz.info_Nat;have hbw:Below Wb.heap.size Wb (Wb.alloc (.cells #[.slice q m d] 36)):=Dl;have hcn:(Wb.alloc (.cells #[.slice q m d] 36)).cell? ⟨Wb.heap.size,0,none⟩=some (.slice q m d):=(Af.made Wb (.slice q m d)).cell;have hbsz:bx<=Wb.heap.size:=Nat.le_of_lt (Hy HV.out).1;refine wpListIn_append_own _ rfl _ _ _ rfl bx _ i1 _ 1 _ Tryz.underlying32 hi1 hz1 hs1 rfl rfl (by decide) v k _ rfl (Nb HROW.out hbw) ⟨Wb.heap.size,0,none⟩ 1 1 [.slice q m d] rfl rfl
   (fun j u hj=>by
    cases j with
    | zero=>simp at hj;subst hj;exact hcn
    | succ j=>simp at hj)
   (fun u hj=>by simp at hj;subst hj;rfl) (by simp only[maxLen];omega) (Dm (Nat.mul_le_mul (by omega:k+1<=1000001) (hbb1 ▸ (by decide:(24:Nat)<=1000))) (by decide)) (Dm hbsz hbw.size) ?_
  intro v' w' hown hgr _;obtain⟨pv,nv,cv,rfl⟩:=Tx hown;obtain⟨⟨cb,fb⟩,hkf,hmd,hap⟩:=Pi.grow (D:=W0.heap.size) HST.out HV.out HROW.out HX.out hbw hgr hown (by have:=HBX.out;omega) (by have:=HBX.out;omega);have HKF:=Aa hkf;have HMD:=Aa hmd;have HAP:=Aa hap;clear hkf hmd hap hown hgr hbw hcn hbsz hi1 hz1 hs1 hbb1 hlk
  gi_wp2
  exact⟨HKF.out,HMD.out,HAP.out⟩
 case done=>
  rintro D W5 hD hi hK;obtain⟨v,hv,hrow⟩:=hi.ex;have cb:W5.cell? ⟨bx,0,none⟩=some v:=by simp[World.cell?,hv]
  have HROW:=Aa hrow;have HK:=Aa hK;have HI:=Aa hi;clear hv hrow hK hi
  gi_wp2
  refine⟨by simp,.inl ⟨_,_,rfl,run_takeDeferred HK.out,?_⟩⟩;have hgr:=grownBy_putObj' W5 D (.deferred none);have hown:=HROW.out;rw[List.take_of_length_le (by rw[HR.out.len];exact Av _)]at hown
  refine⟨v,?_,v,rfl,?_,?_⟩
  .simp[results,Tryz.f244,go_sem]
  .rw[HBX.out];exact On hown hgr (fun j e=>by cases e;exact⟨_,HK.out,rfl⟩)
  .exact HI.out.bel.grown hgr HI.out.bel.size (fun j e=>by cases e;have:=HBX.out;have:=HZ0.out;omega)
theorem Ue (w:World)(b1 b off len cap:Nat)(p:Option Addr)(us:List (Option Addr×Nat×Nat))(hr:Pe w p len cap b off us)(hlen:len<=1000000)(hc1:w.cell? ⟨b1,0,none⟩=some (.slice p len cap))(hb1:b1<w.heap.size) :
  Calls Tryz.prog 224 #[.func (.func 226) #[] #[.pointer (some ⟨b1,0,none⟩)]] w fun e w'=>
   ∃v,e=.returned v/\w'.ownsRow w.heap.size 36 1 v len (us.map sv)/\Below w.heap.size w w':=by
 have HA:=Aa (callsIn_wide.1 (Xu w b1 b off len cap p us hr hlen hc1 hb1));clear hr hc1 hb1;go_enter Tryz.func224,Tryz.ntmps224
 go_wp2_with fail
 refine HA.out.mono ?_;rintro en w1 ⟨v,rfl,hv,hb⟩;have HV:=Aa hv;have HB:=Aa hb;clear hv hb HA;go_wp2;go_ret;exact⟨v,rfl,HV.out,HB.out⟩
def Kl (w:World)(g:Nat)(us:List (Option Addr×Nat×Nat))(rest:List Value):Prop:=w.heap[g]? = some (.cells (us.map sv++rest).toArray 36 (0,0))
theorem Kl.lt {w:World}{g:Nat}{us:List (Option Addr×Nat×Nat)}{rest:List Value}(h:Kl w g us rest):g<w.heap.size:=(Hy h).1
theorem Kl.below {w w':World}{g B:Nat}{us:List (Option Addr×Nat×Nat)}{rest:List Value}(h:Kl w g us rest)(hb:Below B w w')(hg:g<B):Kl w' g us rest:=by
 unfold Kl at *;rw[hb.block g hg];exact h
theorem Kl.cell {w:World}{g j:Nat}{us:List (Option Addr×Nat×Nat)}{rest:List Value}{x:Option Addr×Nat×Nat}(h:Kl w g us rest)(hj:us[j]? = some x):w.cell? ⟨g,j,none⟩=some (.slice x.1 x.2.1 x.2.2):=by
 have hl:j<us.length:=(List.getElem?_eq_some_iff.1 hj).1;unfold Kl at h;have:(us.map sv++rest)[j]? = some (sv x):=by rw[List.getElem?_append_left (by simpa using hl),List.getElem?_map,hj];rfl
 simp[World.cell?,h,this,sv]
theorem Kl.free {w:World}{g:Nat}{us:List (Option Addr×Nat×Nat)}{rest:List Value}(h:Kl w g us rest)(j:Nat):w.frozen? ⟨g,j,none⟩=false:=by
 unfold Kl at h;simp[World.frozen?,h]
theorem Kl.set {w:World}{g:Nat}{us:List (Option Addr×Nat×Nat)}{rest:List Value}(h:Kl w g us rest){j:Nat}(hj:j<us.length)(x:Option Addr×Nat×Nat):Kl (w.setCell ⟨g,j,none⟩ (.slice x.1 x.2.1 x.2.2)) g (us.set j x) rest:=by
 unfold Kl at *;have e:(us.set j x).map sv++rest=(us.map sv++rest).set j (sv x):=by
  rw[List.map_set,List.set_append_left _ _ (by simpa using hj)]
 rw[e];simp[World.setCell,Array.getElem?_modify,h,sv]
theorem fD {w:World}{e j A B:Nat}{us:List (Option Addr×Nat×Nat)}{Ms:List Nat}{xa xb:Option Addr×Nat×Nat}(h:dO w e us Ms)(ha:us[j+1]? = some xa)(hb:us[j]? = some xb)(hA:Ms[j+1]? = some A)(hB:Ms[j]? = some B) :
  dO w e ((us.set (j+1) xb).set j xa) ((Ms.set (j+1) B).set j A):=by
 refine⟨by simp[h.len],fun i N hN=>?_⟩;obtain⟨l1,_⟩:=List.getElem?_eq_some_iff.1 ha;obtain⟨m1,_⟩:=List.getElem?_eq_some_iff.1 hA
 by_cases e1:i=j
 .subst e1;rw[List.getElem?_set_self (by simp;omega)]at hN;cases hN
  obtain⟨x,k1,k2⟩:=h.at_ _ _ hA
  rw[ha]at k1;cases k1
  exact⟨xa,by rw[List.getElem?_set_self (by simp;omega)],k2⟩
 .rw[List.getElem?_set_ne (by omega)]at hN
  rw[List.getElem?_set_ne (by omega)]
  by_cases e2:i=j+1
  .subst e2;rw[List.getElem?_set_self m1]at hN;cases hN
   obtain⟨x,k1,k2⟩:=h.at_ _ _ hB
   rw[hb]at k1;cases k1
   exact⟨xb,by rw[List.getElem?_set_self l1],k2⟩
  .rw[List.getElem?_set_ne (by omega)]at hN
   rw[List.getElem?_set_ne (by omega)];exact h.at_ i N hN
structure Jk (w0:World) (e g:Nat) (rest:List Value) (Ns:List Nat) (us:List (Option Addr×Nat×Nat)) (Ms:List Nat) (w:World):Prop where
 row:Kl w g us rest
 trip:dO w0 e us Ms
 perm:Ms.Perm Ns
 bel:Below w0.heap.size w0 w
 own:w0.heap.size<=g
theorem Jk.later {w0 w w':World}{e g:Nat}{rest:List Value}{Ns Ms:List Nat}{us:List (Option Addr×Nat×Nat)}(h:Jk w0 e g rest Ns us Ms w)(hb:Below w.heap.size w w'):Jk w0 e g rest Ns us Ms w' :=
 ⟨h.row.below hb h.row.lt,h.trip,h.perm,Ae h.bel hb,h.own⟩
theorem Jk.len {w0 w:World}{e g:Nat}{rest:List Value}{Ns Ms:List Nat}{us:List (Option Addr×Nat×Nat)}(h:Jk w0 e g rest Ns us Ms w):us.length=Ns.length:=h.trip.len.trans h.perm.length_eq
theorem Jk.swap {w0 w:World}{e g j A B:Nat}{rest:List Value}{Ns Ms:List Nat}{us:List (Option Addr×Nat×Nat)}{xa xb:Option Addr×Nat×Nat}(h:Jk w0 e g rest Ns us Ms w)(ha:us[j+1]? = some xa)(hb:us[j]? = some xb)(hA:Ms[j+1]? = some A)(hB:Ms[j]? = some B){w':World}(hw:w'=(w.setCell ⟨g,j+1,none⟩ (.slice xb.1 xb.2.1 xb.2.2)).setCell ⟨g,j,none⟩ (.slice xa.1 xa.2.1 xa.2.2)):Jk w0 e g rest Ns ((us.set (j+1) xb).set j xa) ((Ms.set (j+1) B).set j A) w':=by
 have l1:=(List.getElem?_eq_some_iff.1 ha).1;subst hw;exact⟨(h.row.set l1 xb).set (by simp;omega) xa,fD h.trip ha hb hA hB,(Us hA hB).trans h.perm,(h.bel.setCell h.own _).setCell h.own _,h.own⟩
theorem mA {N M:Nat}:By N M<0 ↔ N<M:=by
 unfold By;split
 .omega
 .split<;>omega
theorem gN {w0 w:World}{e g n cap:Nat}{rest:List Value}{Ns Ms0:List Nat}{us0:List (Option Addr×Nat×Nat)}(h:Jk w0 e g rest Ns us0 Ms0 w)(hn:Ns.length=n)(hn2:n<=1000000)(he:e<=900000) :
  Calls Tryz.prog 255 #[.slice (some ⟨g,0,none⟩) n cap,.int .i64 0,.int .i64 n,.func (.func 34) #[] #[]] w fun en w'=>(∃v,en=.returned v)/\∃us Ms,Jk w0 e g rest Ns us Ms w'/\iZ n Ms:=by
 have HS0:=Aa h;have HN:=Aa hn;clear h hn;go_enter Tryz.func255,Tryz.ntmps255;go_wp2
 go_loopw [8,9] (fun iv _ wr=>∃(i:Nat) (us:List (Option Addr×Nat×Nat)) (Ms:List Nat),iv=.int .i64 i/\(i<=n ∨ i=1)/\Ab (Jk w0 e g rest Ns us Ms wr)/\Ab (iZ i Ms)) (fun iv _ _=>n-(intOf iv).toNat)
 case atStart=>exact⟨1,us0,Ms0,rfl,.inr rfl,HS0,⟨fun p r a b h1 h2=>by omega⟩⟩
 case round=>
  obtain⟨i,us,Ms,rfl,hi,HSo,HSr⟩:=hrel
  by_cases hin:i<n
  .have hin':(i:Int)<n:=by omega
   clear hi;have HI0:Ab (Ins i i Ms):=⟨HSr.out.ins⟩
   clear HSr;obtain⟨wo,hwo⟩:∃x,x=wr:=⟨_,rfl⟩
   subst hwo;go_wp2
   go_loopw [9] (fun jv wr=>∃(j:Nat) (us:List (Option Addr×Nat×Nat)) (Ms:List Nat),jv=.int .i64 j/\j<=i/\Ab (Jk w0 e g rest Ns us Ms wr)/\Ab (Ins i j Ms)) (fun jv _=>(intOf jv).toNat)
   case atStart=>exact⟨i,us,Ms,rfl,Av _,HSo,HI0⟩
   case round=>
    clear HSo HI0;obtain⟨j',us,Ms,rfl,hj,HSO,HI⟩:=hrel;rcases Nat.eq_zero_or_pos j' with h0|h0
    .subst h0;go_wp2;refine Aj (by kernel_rfl) (by kernel_rfl)
      [some (.int .i64 0),some (.int .i64 0),some (.bool false),some (.bool false),some (undef),some (undef),some (undef),some (undef),some (undef),some (undef),some (undef),some (undef),some (undef),some (undef),some (undef),some (undef),some (.bool false)]
      [false,false,false,false,false,false,false,false,false,false,false,false,false,false,false,false,false] rfl
      (fun w1 w2=>Below w1.heap.size w1 w2)
      (fun _ w'=>Below wr.heap.size wr w')
      (fun i v w'=>match i with
       | _=>True)
      ?_ (Br _ _).drew ?_ ?_
     .intro i v w1 w2 hf hb;split at hf
      .trivial
     .simp only[Bu,Nat.reduceAdd];refine⟨?_,?_,?_,?_,?_,?_,?_,?_,?_,?_,?_,?_,?_,?_,?_,?_,?_,trivial⟩
      all_goals intro D sp w' hD hW hdp hbx'
      case refine_5|refine_6|refine_7|refine_8|refine_9|refine_10|refine_11|refine_12|refine_13|refine_14|refine_15|refine_16=>
       (with_reducible refine Hi ?_ ?_)
       ·(simp[Region.wanted,yielded,Act.put,go_sem]<;>exact fun h=>by cases h)
       .exact⟨rfl,rfl⟩
      all_goals ((with_reducible refine Ad ?_ ?_);all_goals first|(simp only[Region.wanted];done)|simp[Region.wanted,yielded,execOp,Act.eval,Act.put,go_sem])
     .intro sp w7 hsp hbx';have HS7:=Aa (HSO.out.later hbx');clear hsp hbx';simp only[An]
      go_simp
      go_wp2;have HSR:=Aa (HI.out.done (.inl rfl) (by rw[HSO.out.perm.length_eq,HN.out];exact hin));go_roundw
      case rel=>exact⟨i+1,us,Ms,by go_num,by omega,HS7,HSR⟩
      case measure=>simp[intOf];omega
    .obtain⟨j,rfl⟩:∃j,j'=j+1:=⟨j'-1,by omega⟩
     clear h0;have hlen:us.length=n:=HSO.out.len.trans HN.out;obtain⟨xa,hxa⟩:∃x,us[j+1]? = some x:=⟨_,List.getElem?_eq_getElem (by omega)⟩
     obtain⟨xb,hxb⟩:∃x,us[j]? = some x:=⟨_,List.getElem?_eq_getElem (by omega)⟩
     obtain⟨A,hA,ha2,ha3⟩:=HSO.out.trip.get hxa;obtain⟨B,hB,hb2,hb3⟩:=HSO.out.trip.get hxb;have HXA:=Aa hxa;have HXB:=Aa hxb;have HA:=Aa hA;have HB:=Aa hB;have HFA:Ab (Fit e A (.agg #[.slice xa.1 xa.2.1 xa.2.2]) wr):=⟨(Fit.of ha2 ha3).below HSO.out.bel⟩
     have HFB:Ab (Fit e B (.agg #[.slice xb.1 xb.2.1 xb.2.2]) wr):=⟨(Fit.of hb2 hb3).below HSO.out.bel⟩
     obtain⟨K,hKe⟩:∃K,By A B=K:=⟨_,rfl⟩
     have HK:=Aa hKe;have HKN:Ab (K<0 ↔ A<B):=⟨by rw[<-hKe];exact mA⟩
     have hj0:(0:Int)<((j+1:Nat):Int):=by omega
     have hn1:¬(n:Int)<=(j:Int)+1:=by omega
     have hj9:(0:Int)<=(j:Int)+1:=by omega
     have hwj:IntKind.i64.wrap (j:Int)=(j:Nat):=by rw[IntKind.wrap_i64];omega
     have hn2:¬n<=j:=by omega
     clear hxa hxb hA hB ha2 ha3 hb2 hb3 hKe hlen
     by_cases hK:K<0
     .go_wp2;refine Aj (by kernel_rfl) (by kernel_rfl)
       [some (.int .i64 ((j+1:Nat):Int)),some (.int .i64 0),some (.bool true),some (.bool true),some (.func (.func 34) #[] #[]),some (.slice (some ⟨g,0,none⟩) n cap),some (.int .i64 ((j+1:Nat):Int)),some (.pointer (some ⟨g,j+1,none⟩)),some (.agg #[.slice xa.1 xa.2.1 xa.2.2]),some (.slice (some ⟨g,0,none⟩) n cap),some (.int .i64 ((j+1:Nat):Int)),some (.int .i64 (j:Nat)),some (.pointer (some ⟨g,j,none⟩)),some (.agg #[.slice xb.1 xb.2.1 xb.2.2]),none,some (.bool true),some (.bool true)]
       [false,false,false,false,false,false,false,false,false,false,false,false,false,false,true,false,false] rfl
       (fun w1 w2=>Below w1.heap.size w1 w2)
       (fun _ w'=>Below wr.heap.size wr w')
       (fun i v w'=>match i with
        | 14=>v=.int .i64 K
        | _=>True)
       ?_ (Br _ _).drew ?_ ?_
      .intro i v w1 w2 hf hb;split at hf
       .exact hf
       .trivial
      .simp only[Bu,Nat.reduceAdd];refine⟨?_,?_,?_,?_,?_,?_,?_,?_,?_,?_,?_,?_,?_,?_,?_,?_,?_,trivial⟩
       all_goals intro D sp w' hD hW hdp hbx'
       case refine_8=>
        (with_reducible refine Ah (w1:=w') (v:=.pointer (some ⟨g,j+1,none⟩)) ?_ ?_ ?_)
        .simp[Region.wanted,yielded,Act.put,go_sem]
        .simp[execOp,Act.eval,Act.put,go_sem,hn1,hj9]
        .exact⟨rfl,rfl⟩
       case refine_9=>
        have c0:=(HSO.out.row.below hbx' HSO.out.row.lt).cell HXA.out
        with_reducible refine Ad ?_ ?_
        all_goals simp[Region.wanted,yielded,execOp,Act.eval,Act.put,go_sem,c0]
       case refine_12=>
        (with_reducible refine Ah (w1:=w') (v:=.int .i64 (j:Nat)) ?_ ?_ ?_)
        .simp[Region.wanted,yielded,Act.put,go_sem]
        .simp[execOp,Act.eval,Act.put,go_sem,hwj]
        .exact⟨rfl,rfl⟩
       case refine_13=>
        (with_reducible refine Ah (w1:=w') (v:=.pointer (some ⟨g,j,none⟩)) ?_ ?_ ?_)
        .simp[Region.wanted,yielded,Act.put,go_sem]
        .simp[execOp,Act.eval,Act.put,go_sem,hn2]
        .exact⟨rfl,rfl⟩
       case refine_14=>
        have c0:=(HSO.out.row.below hbx' HSO.out.row.lt).cell HXB.out
        with_reducible refine Ad ?_ ?_
        all_goals simp[Region.wanted,yielded,execOp,Act.eval,Act.put,go_sem,c0]
       case refine_15=>
        (with_reducible refine Ac (w1:=w') (f := 34) (args:=#[.agg #[.slice xa.1 xa.2.1 xa.2.2],.agg #[.slice xb.1 xb.2.1 xb.2.2]]) ?_ ?_ ?_)
        .simp[Region.wanted,yielded,Act.put,go_sem]
        .simp[Act.eval,Act.put,go_sem]
        .refine(Im (HFA.out.below hbx') (HFB.out.below hbx') he he).mono ?_;rintro en w9 ⟨_,rfl,rfl,hb⟩;rw[HK.out];exact⟨_,rfl,hb,rfl,Ae hbx' hb⟩
       case refine_16=>
        have k14:(sp 14)=.int .i64 K:=(hdp 14 (mq (by kernel_rfl))).2
        with_reducible refine Ad ?_ ?_
        all_goals simp[Region.wanted,yielded,execOp,Act.eval,Act.put,go_sem,k14,hK]
       all_goals ((with_reducible refine Ad ?_ ?_);all_goals first|(simp only[Region.wanted];done)|simp[Region.wanted,yielded,execOp,Act.eval,Act.put,go_sem])
      .intro sp w7 hsp hbx';have HS7:=Aa (HSO.out.later hbx');clear hsp hbx';simp only[An,Nat.reduceAdd];generalize sp 14=y14 at *
       go_simp
       have c1:=HS7.out.row.cell HXA.out;have c2:=HS7.out.row.cell HXB.out;have f1:=HS7.out.row.free (j+1);have f2:=HS7.out.row.free j;have HS8:Ab (Jk w0 e g rest Ns ((us.set (j+1) xb).set j xa) ((Ms.set (j+1) B).set j A) ((w7.setCell ⟨g,j+1,none⟩ (.slice xb.1 xb.2.1 xb.2.2)).setCell ⟨g,j,none⟩ (.slice xa.1 xa.2.1 xa.2.2)).drew):=⟨(HS7.out.swap HXA.out HXB.out HA.out HB.out rfl).later ((Br _ _).drew)⟩
       have HI8:=Aa (HI.out.swap HA.out HB.out (HKN.out.1 hK));go_wp2
       go_region
       clear c1 c2 f1 f2;go_wp2;go_roundw
       case rel=>exact⟨j,_,_,by go_num,by omega,HS8,HI8⟩
       case measure=>simp[intOf]
     .go_wp2;refine Aj (by kernel_rfl) (by kernel_rfl)
       [some (.int .i64 ((j+1:Nat):Int)),some (.int .i64 0),some (.bool true),some (.bool true),some (.func (.func 34) #[] #[]),some (.slice (some ⟨g,0,none⟩) n cap),some (.int .i64 ((j+1:Nat):Int)),some (.pointer (some ⟨g,j+1,none⟩)),some (.agg #[.slice xa.1 xa.2.1 xa.2.2]),some (.slice (some ⟨g,0,none⟩) n cap),some (.int .i64 ((j+1:Nat):Int)),some (.int .i64 (j:Nat)),some (.pointer (some ⟨g,j,none⟩)),some (.agg #[.slice xb.1 xb.2.1 xb.2.2]),none,some (.bool false),some (.bool false)]
       [false,false,false,false,false,false,false,false,false,false,false,false,false,false,true,false,false] rfl
       (fun w1 w2=>Below w1.heap.size w1 w2)
       (fun _ w'=>Below wr.heap.size wr w')
       (fun i v w'=>match i with
        | 14=>v=.int .i64 K
        | _=>True)
       ?_ (Br _ _).drew ?_ ?_
      .intro i v w1 w2 hf hb;split at hf
       .exact hf
       .trivial
      .simp only[Bu,Nat.reduceAdd];refine⟨?_,?_,?_,?_,?_,?_,?_,?_,?_,?_,?_,?_,?_,?_,?_,?_,?_,trivial⟩
       all_goals intro D sp w' hD hW hdp hbx'
       case refine_8=>
        (with_reducible refine Ah (w1:=w') (v:=.pointer (some ⟨g,j+1,none⟩)) ?_ ?_ ?_)
        .simp[Region.wanted,yielded,Act.put,go_sem]
        .simp[execOp,Act.eval,Act.put,go_sem,hn1,hj9]
        .exact⟨rfl,rfl⟩
       case refine_9=>
        have c0:=(HSO.out.row.below hbx' HSO.out.row.lt).cell HXA.out
        with_reducible refine Ad ?_ ?_
        all_goals simp[Region.wanted,yielded,execOp,Act.eval,Act.put,go_sem,c0]
       case refine_12=>
        (with_reducible refine Ah (w1:=w') (v:=.int .i64 (j:Nat)) ?_ ?_ ?_)
        .simp[Region.wanted,yielded,Act.put,go_sem]
        .simp[execOp,Act.eval,Act.put,go_sem,hwj]
        .exact⟨rfl,rfl⟩
       case refine_13=>
        (with_reducible refine Ah (w1:=w') (v:=.pointer (some ⟨g,j,none⟩)) ?_ ?_ ?_)
        .simp[Region.wanted,yielded,Act.put,go_sem]
        .simp[execOp,Act.eval,Act.put,go_sem,hn2]
        .exact⟨rfl,rfl⟩
       case refine_14=>
        have c0:=(HSO.out.row.below hbx' HSO.out.row.lt).cell HXB.out
        with_reducible refine Ad ?_ ?_
        all_goals simp[Region.wanted,yielded,execOp,Act.eval,Act.put,go_sem,c0]
       case refine_15=>
        (with_reducible refine Ac (w1:=w') (f := 34) (args:=#[.agg #[.slice xa.1 xa.2.1 xa.2.2],.agg #[.slice xb.1 xb.2.1 xb.2.2]]) ?_ ?_ ?_)
        .simp[Region.wanted,yielded,Act.put,go_sem]
        .simp[Act.eval,Act.put,go_sem]
        .refine(Im (HFA.out.below hbx') (HFB.out.below hbx') he he).mono ?_;rintro en w9 ⟨_,rfl,rfl,hb⟩;rw[HK.out];exact⟨_,rfl,hb,rfl,Ae hbx' hb⟩
       case refine_16=>
        have k14:(sp 14)=.int .i64 K:=(hdp 14 (mq (by kernel_rfl))).2
        with_reducible refine Ad ?_ ?_
        all_goals simp[Region.wanted,yielded,execOp,Act.eval,Act.put,go_sem,k14,hK]
       all_goals ((with_reducible refine Ad ?_ ?_);all_goals first|(simp only[Region.wanted];done)|simp[Region.wanted,yielded,execOp,Act.eval,Act.put,go_sem])
      .intro sp w7 hsp hbx';have HS7:=Aa (HSO.out.later hbx');clear hsp hbx';simp only[An,Nat.reduceAdd];generalize sp 14=y14 at *
       go_simp
       go_wp2;have HSR:Ab _:=⟨HI.out.done (.inr fun a b hb ha=>by
        have e1:=HA.out;have e2:=HB.out;rw[ha]at e1;cases e1
        have hb9:Ms[j]? = some b:=hb;rw[hb9]at e2;cases e2
        have:=HKN.out;omega) (by rw[HSO.out.perm.length_eq,HN.out];exact hin)⟩
       go_roundw
       case rel=>exact⟨i+1,us,Ms,by go_num,by omega,HS7,HSR⟩
       case measure=>simp[intOf];omega
  .have hin':¬(i:Int)<n:=by omega
   have HSR:Ab (iZ n Ms):=⟨fun p r a b h1 h2=>HSr.out p r a b h1 (by omega)⟩
   go_wp2
   go_end0
   exact⟨⟨_,rfl⟩,us,Ms,HSo.out,HSR.out⟩
end Go.Proofs.YtnbmfaihlefgfaaGreatDoor
