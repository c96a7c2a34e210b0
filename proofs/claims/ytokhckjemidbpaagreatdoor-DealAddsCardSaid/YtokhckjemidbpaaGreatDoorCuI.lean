/- What is weighed, summed (curve.weighed), in any place that has sums and products. -/
import Derived.Test.YtokhckjemidbpaaGreatDoorCuG
set_option maxRecDepth 1000000
set_option maxHeartbeats 16000000
set_option linter.all false
namespace Go.Proofs.YtokhckjemidbpaaGreatDoor
open Go Go.RowKit Go.Proofs.YtokhckjemidbpaaGreatDoor.Flow
structure KB (B b:Nat) (w w':World):Prop where
 k:Am B w w'
 b:Ev b w w'
theorem KB.of {B b:Nat}{w w':World}(h:Below w.heap.size w w')(hB:B<=w.heap.size):KB B b w w':=⟨Am.of h hB,Ev.of h⟩
theorem KB.same (B b:Nat)(w:World):KB B b w w:=⟨Am.same _ _,Ev.refl _ _⟩
theorem KB.store {B b m d:Nat}{q:Option Addr}{w:World}(hb:Ae w b (.slice q m d))(hB:B<=b)(v:Value):KB B b w (w.setCell ⟨b,0,none⟩ v):=⟨Am.store hb hB v,Ev.setCell _ _ _⟩
theorem Fit.kb {e N B b:Nat}{v:Value}{w w':World}(h:Fit e N v w)(k:KB B b w w'):Fit e N v w':=h.keep k.k
def eB (b n:Nat)(Ns:List Nat)(v:Value)(w:World):Prop:=∃g,v=.slice (some ⟨g,0,none⟩) n n/\Aq w 33 (some ⟨g,0,none⟩) n n Ns/\g≠b
theorem jU {w w':World}{e B b n c:Nat}{g off:Nat}{Ns:List Nat}(h:Aq w e (some ⟨g,off,none⟩) n c Ns)(k:KB B b w w')(hne:g≠b):Aq w' e (some ⟨g,off,none⟩) n c Ns:=by
 refine⟨h.len,h.cap,h.max,h.nil,fun h0=>?_⟩;obtain⟨b',off',h1,h2,h3⟩:=h.at_ h0
 simp only[Option.some.injEq,Addr.mk.injEq,and_true]at h1;obtain⟨rfl,rfl⟩:=h1;refine⟨g,off,rfl,Da h2 k.b.size,fun i N hN=>?_⟩;obtain⟨q,m,d,k1,k2,k3⟩:=h3 i N hN;exact⟨q,m,d,by rw[k.b.cell (p:=⟨g,off+i,none⟩) h2 hne];exact k1,k.k.nat _ _ _ _ k2,k3⟩
theorem eB.kb {b n B:Nat}{Ns:List Nat}{v:Value}{w w':World}(h:eB b n Ns v w)(k:KB B b w w'):eB b n Ns v w' :=
 let ⟨g,h1,h2,h3⟩:=h
 ⟨g,h1,jU h2 k h3,h3⟩
theorem pA {w:World}{r q e e2 n c Vn X:Nat}{p:Option Addr}{Bs:List Nat}{v:Value}(hR:Ring w r q 33)(h:Aq w e p n c Bs)(hX:Fit e2 X v w)(he:e<=200)(hn:n<=12)(hV:Vn<=1000000)(hf:Fb q n Vn Bs≠0) :
  Calls Tryz.prog 209 #[.pointer (some ⟨r,0,none⟩),.slice p n c,.int .i64 Vn,v] w fun en w'=>en=.returned (.tuple #[.slice none 0 0,.int .i64 (Fb q n Vn Bs:Nat)])/\Below w.heap.size w w':=by
 obtain⟨px,nx,cx,rfl,x1,x2⟩:=Ao hX;have hbw:Below w.heap.size w (w.alloc (.cells #[.slice px nx cx] 37)):=Bt;have HF:=Ab (Vk (V:=Vn) (hR.below hbw) (h.below hbw) he hn hV);have HB:=Ab hbw;obtain⟨E,hE⟩:∃E,Fb q n Vn Bs=E:=⟨_,rfl⟩
 rw[hE]at HF hf ⊢
 have hne:((E:Int)!=0)=true:=by rw[bne_iff_ne];omega
 clear hR h hX x1 hbw hE hf;go_enter Tryz.func209,Tryz.ntmps209
 go_wp2_with fail
 refine HF.out.mono ?_;rintro en w1 ⟨rfl,hb1⟩;have HB1:=Ab (Af HB.out hb1);clear hb1 HF;go_wp2
 go_ret2
 exact⟨rfl,HB1.out⟩
theorem qB {w:World}{r q e e2 n c X:Nat}{p:Option Addr}{Bs:List Nat}{v:Value}(hq:Bl q)(hR:Ring w r q 33)(h:Aq w e p n c Bs)(hX:Fit e2 X v w)(he:e<=200)(he2:e2<=200)(hn:n<=12)(hf:Fb q n n Bs=0) :
  Calls Tryz.prog 209 #[.pointer (some ⟨r,0,none⟩),.slice p n c,.int .i64 n,v] w fun en w'=>∃g,en=.returned (.tuple #[.slice (some ⟨g,0,none⟩) n n,.int .i64 0])/\Aq w' 33 (some ⟨g,0,none⟩) n n (Qu q X [] Bs)/\Below w.heap.size w w':=by
 obtain⟨px,nx,cx,rfl,x1,x2⟩:=Ao hX;have hbw:Below w.heap.size w (w.alloc (.cells #[.slice px nx cx] 37)):=Bt;have hbx:=Ae.made w (.slice px nx cx);obtain⟨w0,hw0⟩:∃w0,w.alloc (.cells #[.slice px nx cx] 37)=w0:=⟨_,rfl⟩
 rw[hw0]at hbw hbx
 have HF:=Ab (Vk (V:=n) (hR.below hbw) (h.below hbw) he hn (by omega));have hn0:n≠0:=fun e=>by rw[Fb,if_pos e]at hf;omega
 have HU:Aa (Fc q (ints Bs)):=⟨by
  rw[Ha];unfold Fb at hf;rw[if_neg hn0,if_neg (fun h=>h rfl)]at hf
  by_cases hd:(Bs.map fun x=>x%q).Nodup
  .exact hd
  .rw[if_neg hd]at hf;omega⟩
 rw[hf]at HF
 have HQ:=Ab hq;have HLN:=Ab h.len;have HR:=Ab hR;have HP:=Ab h;have HX0:=Ab (Fit.of x1 x2);have HB0:=Ab hbw;have HX00:=Ab hbx;have HRL:=Ab hR.at_.lt
 clear hq hR h hX x1 hbw hbx hf;go_enter Tryz.func209,Tryz.ntmps209
 go_wp2_with fail
 refine HF.out.mono ?_;rintro en w1 ⟨rfl,hb1⟩;have HB1:=Ab (Af HB0.out hb1);have HXB:=Ab (HX00.out.below hb1 HX00.out.lt);have HR1:=Ab (HR.out.below HB1.out);have HP1:Aa (Tf w.heap.size w1 e p n c Bs):=⟨Tf.of HP.out HB1.out (Aw _)⟩
 have HFX:=Ab (HX0.out.below HB1.out);have hc0:((0:Nat):Int)=0:=rfl;clear hb1 HF HB0 HX00 HX0;go_wp2;refine Aj (by kernel_rfl) (by kernel_rfl)
  [some (.slice p n c),some (.pointer (some ⟨r,0,none⟩)),some (.func (.func 31) #[.pointer (some ⟨r,0,none⟩)] #[]),none,some (.pointer (some ⟨r,0,none⟩)),some (.agg #[.slice px nx cx]),none,none,none]
  [false,false,false,true,false,false,true,true,true] rfl
  (fun wA wB=>KB (w.heap.size) (w.heap.size) wA wB)
  (fun D sp w'=>RG (w.heap.size) w1 [] w'/\jC (D 8) (w.heap.size) px nx cx (X%q) w')
  (fun i v w'=>match i with
   | 3=>eB w.heap.size n (Bs.map fun x=>x%q) v w'
   | 6=>Fit 33 (X%q) v w'
   | 7=>eB w.heap.size n (Bs.map fun x=>x%q) v w'
   | _=>True)
  ?_ ⟨RG.start HB1.out.size (fun x hx=>by cases hx),⟨fun _=>HXB.out,fun e=>by cases e⟩⟩ ?_ ?_
 .intro i v wA wB hf hb;split at hf
  .exact hf.kb hb
  .exact hf.kb hb
  .exact hf.kb hb
  .trivial
 .simp only[Az,Nat.reduceAdd];refine⟨?_,?_,?_,?_,?_,?_,?_,?_,?_,trivial⟩
  all_goals intro D sp w' hD hW hdp hg
  case refine_4=>
   (with_reducible refine Ac (w1:=w') (f := 115) (args:=#[.slice p n c,.func (.func 31) #[.pointer (some ⟨r,0,none⟩)] #[]]) ?_ ?_ ?_)
   .simp[Region.wanted,yielded,Act.put,go_sem]
   .simp[Act.eval,Act.put,go_sem]
   .refine(Vu (HR1.out.keep HRL.out hg.1.keep) (HP1.out.keep hg.1.keep).pl he (by omega)).mono ?_;rintro en w9 ⟨rfl,hu,hb⟩;exact⟨_,rfl,KB.of hb hg.1.base,⟨_,rfl,hu,Nat.ne_of_gt (Da HXB.out.lt hg.1.keep.bel.size)⟩,hg.1.later hb,by simpa [upd]using hg.2.later hb⟩
  case refine_6=>
   have c0:=(hg.2.z (hW 8 (mq (by kernel_rfl)))).cell
   with_reducible refine Ad ?_ ?_
   all_goals simp[Region.wanted,yielded,execOp,Act.eval,Act.put,go_sem,c0]
  case refine_7=>
   (with_reducible refine Ac (w1:=w') (f := 31) (args:=#[.pointer (some ⟨r,0,none⟩),.agg #[.slice px nx cx]]) ?_ ?_ ?_)
   .simp[Region.wanted,yielded,Act.put,go_sem]
   .simp[Act.eval,Act.put,go_sem]
   .refine(Cv (HR1.out.keep HRL.out hg.1.keep) (HFX.out.keep hg.1.keep) (by omega)).mono ?_;rintro en w9 ⟨u,rfl,hu,hb⟩;exact⟨u,rfl,KB.of hb hg.1.base,hu,hg.1.later hb,by simpa [upd]using hg.2.later hb⟩
  case refine_8=>
   have k3:eB w.heap.size n (Bs.map fun x=>x%q) (sp 3) w':=(hdp 3 (mq (by kernel_rfl))).2
   (with_reducible refine Ah (w1:=w') (v:=sp 3) ?_ ?_ ?_)
   .simp[Region.wanted,yielded,Act.put,go_sem]
   .simp[execOp,Act.eval,Act.put,go_sem]
   .exact⟨KB.same _ _ _,k3,hg.1,by simpa [upd]using hg.2⟩
  case refine_9=>
   have hx:∃p n c,sp 6=.agg #[.slice p n c]/\Ag w' p n c (X%q)/\X%q<An (33):=(hdp 6 (mq (by kernel_rfl))).2
   (with_reducible refine Av hx fun p hx1=>Av hx1 fun n hx2=>Av hx2 fun c hx3=>?_)
   have h1:=hx3.1;rw[hD]at hg
   have hp:=hg.2.put (hx3.2.1)
   (with_reducible refine Av hp fun q hy1=>Av hy1 fun m hy2=>Av hy2 fun k hy3=>?_)
   have h6:=hy3.1.cell;have h7:=hy3.1.free
   (with_reducible refine Ap (w1:=w'.setCell ⟨w.heap.size,0,none⟩ (.slice p n c)) ?_ ?_ ?_)
   .simp[Region.wanted,yielded,Act.put,go_sem]
   .simp[execOp,Act.eval,Act.put,go_sem,h1,h6,h7]
   .refine⟨KB.store hy3.1 (Aw _) _,trivial,hg.1.store hy3.1 (Aw _) (fun x hx=>by cases hx) _,?_⟩;have h8:=hy3.2;simpa [upd]using h8
  all_goals ((with_reducible refine Ad ?_ ?_);all_goals first|(simp only[Region.wanted];done)|simp[Region.wanted,yielded,execOp,Act.eval,Act.put,go_sem])
 .intro sp w2 hsp hg;obtain⟨hg1,hg2⟩:=hg;obtain⟨g1,e7,hp7,hne7⟩:eB w.heap.size n (Bs.map fun x=>x%q) (sp 7) w2:=hsp 7 rfl;obtain⟨pz,nz,cz,hzb,hzn⟩:=hg2.o rfl;have hB2:Below w.heap.size w w2:=HB1.out.trans hg1.keep.bel;have HB2:=Ab hB2;have HP7:=Ab hp7;have HZB:=Ab hzb;have HZN:Aa (Fit 33 (X%q) (.agg #[.slice pz nz cz]) w2):=⟨Fit.of hzn (Nat.lt_trans (Nat.mod_lt _ (by have:=HQ.out.two;omega)) HR.out.lim)⟩
  have HR2:=Ab (HR.out.below hB2);clear hsp hg1 hg2 hzb hzn hp7 hne7 HP1 HR1 HFX HXB hB2;simp only[Al,Nat.reduceAdd];generalize sp 3=y3,sp 6=y6,sp 7=y7,sp 8=y8 at *;subst e7;have hmk:=fun w=>Nu n (by omega) w
  obtain⟨w3,hw3⟩:∃w3,w2.alloc (.cells (madeCells #[.slice none 0 0] n) 37)=w3:=⟨_,rfl⟩
  have hb3:Below w2.heap.size w2 w3:=by rw[<-hw3];exact(Ba _ _).alloc (Aw _) _
  have HS3:Aa (Cr w3 w2.heap.size (List.replicate n (none,0,0))):=⟨by rw[<-hw3];exact Cr.made w2 n⟩
  have HB3:=Ab hb3;clear hb3
  go_simp
  go_wp2
  go_loopw [12,13,14,34] (fun _ _ _ iv wr=>∃(k:Nat) (us:List (Option Addr×Nat×Nat)),k<=n/\iv=.int .i64 k/\us.length=n/\Aa (Cr wr w2.heap.size us)/\Aa (Ra wr 33 us (Qu q X [] Bs) k)/\Aa (Below w2.heap.size w2 wr)) (fun _ _ _ iv _=>n-(intOf iv).toNat)
  case atStart=>exact⟨0,List.replicate n (none,0,0),by omega,rfl,by simp,HS3,⟨fun j N hj=>by omega⟩,HB3⟩
  case round=>
   obtain⟨k,us,hk,rfl,hus,HSr,HVr,HBr⟩:=hrel
   by_cases hkn:k<n
   .obtain⟨Z,hZk⟩:∃Z,Bs[k]? = some Z:=⟨Bs[k]'(by rw[<-HLN.out];exact hkn),List.getElem?_eq_getElem _⟩
    have hzk:(Bs.map fun x=>x%q)[k]? = some (Z%q):=by rw[List.getElem?_map,hZk];rfl
    have c7:=(HZB.out.below HBr.out HZB.out.lt).cell;have HUK:Aa (us[k]? = some (us[k]'(by omega))):=⟨List.getElem?_eq_getElem _⟩
    have HUZ:Aa (∀a∈(Bs.map fun x=>x%q).take k++(Bs.map fun x=>x%q).drop (k+1),¬(q:Int) ∣ ((Z%q:Nat):Int)-a):=⟨by
     have h1:Fc q (ints (Bs.map fun x=>x%q)):=by
      rw[Ha,List.map_map];have h2:=(Ha Bs).1 HU.out
      rwa [show (Bs.map ((fun x=>x%q) ∘ fun x=>x%q))=Bs.map fun x=>x%q from List.map_congr_left fun a _=>Nat.mod_mod a q]
     exact Tn h1 hzk⟩
    have HDW:Aa (Jp q (X%q) (Z%q) 1 ((Bs.map fun x=>x%q).take k++(Bs.map fun x=>x%q).drop (k+1))=Jp q X Z 1 (Bs.take k++Bs.drop (k+1))):=⟨by
     rw[<-List.map_take,<-List.map_drop,<-List.map_append];exact aM q X Z _ 1⟩
    have HWK:Aa ((Qu q X [] Bs)[k]? = some (Jp q X Z 1 (Bs.take k++Bs.drop (k+1)))):=⟨by
     have:=Yh q X Bs [] k Z hZk
     rwa [List.nil_append]at this⟩
    have HWT:=Ab (bR (i:=k) HQ.out (HR2.out.below HBr.out) (HP7.out.below HBr.out) (HZN.out.below HBr.out) (by decide) (by omega) hzk);have hkn':(k:Int)<n:=by omega
    have hnk:¬n<=k:=by omega
    clear hzk hZk hmk
    go_wp2_with fail
    refine HWT.out.mono ?_;rintro en w4 ⟨_,I,rfl,hI,⟨pm,nm,cm,rfl,m1,m2⟩,hb4⟩;obtain⟨hgcd,hval⟩:=bQ (X:=X%q) HQ.out HUZ.out hI;rw[hval,HDW.out]at m1 m2
    rw[if_pos hgcd];have hb5:Below w4.heap.size w4 (w4.alloc (.cells #[.slice pm nm cm] 37)):=Bt;have hb13:=Ae.made w4 (.slice pm nm cm);obtain⟨w5,hw5⟩:∃w5,w4.alloc (.cells #[.slice pm nm cm] 37)=w5:=⟨_,rfl⟩
    rw[hw5]at hb5 hb13
    have c13:=hb13.cell;have hb45:=Af hb4 hb5;have hs5:=HSr.out.below hb45 HSr.out.lt;have c1:=hs5.cell HUK.out;have f1:=hs5.free k;have hsz:w2.heap.size<=wr.heap.size:=HBr.out.size;have HS8:=Ab (hs5.set k pm nm cm);have HV8:=Ab (((HVr.out.keep (Am.of (B:=w2.heap.size) hb45 hsz)).keep (Am.store_row hs5 (Aw _) k (.slice pm nm cm))).step (by omega) HWK.out (hs5.nat (m1.below hb5) k _) m2);have HB8:Aa (Below w2.heap.size w2 (w5.setCell ⟨w2.heap.size,k,none⟩ (.slice pm nm cm))):=⟨(Af HBr.out hb45).setCell (Aw _) _⟩
    have HLEN:Aa ((us.set k (pm,nm,cm)).length=n):=⟨by rw[List.length_set];exact hus⟩
    clear m1 hb4 hb5 hb13 hb45 hs5 hI hgcd hval HWT HUZ HDW c7 hsz;go_wp2;go_roundw
    case rel=>exact⟨k+1,us.set k (pm,nm,cm),by omega,by go_num,HLEN.out,HS8,HV8,HB8⟩
    case measure=>simp[intOf];omega
   .obtain rfl:k=n:=by omega
    have hkn':¬(k:Int)<k:=by omega
    have HPL:=Ab (HVr.out.plist HSr.out (by rw[Pu];exact HLN.out.symm) (by omega));have HBF:=Ab (HB2.out.trans (HBr.out.mono HB2.out.size));clear hmk;go_wp2
    go_ret2
    exact⟨w2.heap.size,rfl,HPL.out,HBF.out⟩
structure oX (g:Nat) (pr:Value) (w:World) (h:Nat->Nat->Nat):Prop where
 out:∀(W:World) (e1 e2 A B:Nat) (u v:Value),Below w.heap.size w W->e1<=200->e2<=200->Fit e1 A u W->Fit e2 B v W->Calls Tryz.prog g #[pr,u,v] W fun en w'=>∃x,en=.returned x/\Fit 33 (h A B) x w'/\Below W.heap.size W w'
theorem kD {w:World}{r q:Nat}(hR:Ring w r q 33):oX 32 (.pointer (some ⟨r,0,none⟩)) w (fun a b=>(a+b)%q) :=
 ⟨fun W e1 e2 A B u v hW h1 h2 hu hv=>Ew (hR.below hW) hu hv (by omega) (by omega)⟩
theorem kC {w:World}{r q:Nat}(hR:Ring w r q 33):oX 33 (.pointer (some ⟨r,0,none⟩)) w (fun a b=>a*b%q) :=
 ⟨fun W e1 e2 A B u v hW h1 h2 hu hv=>Dq (hR.below hW) hu hv (by omega) (by omega)⟩
theorem nR {w:World}{b P Q G H:Nat}(hG:Au w b P Q G H):oX 124 (.pointer (some ⟨b,0,none⟩)) w (fun a b=>a*b%P) :=
 ⟨fun W e1 e2 A B u v hW h1 h2 hu hv=>Ku (hG.below hW) hu hv (by omega) (by omega)⟩
theorem nS {w:World}{b P Q G H:Nat}(hG:Au w b P Q G H):oX 25 (.pointer (some ⟨b,0,none⟩)) w (fun a b=>a^b%P) :=
 ⟨fun W e1 e2 A B u v hW h1 h2 hu hv=>aE (hG.below hW) hu hv (by omega) (by omega)⟩
theorem Yi {w:World}{e n c d O gp gt:Nat}{pp pt v:Value}{hp ht:Nat->Nat->Nat}{p q:Option Addr}{As Ws:List Nat}(egp:∀args w,(callFunc gp args).run Tryz.prog w=.ok (.enter gp args) w)(egt:∀args w,(callFunc gt args).run Tryz.prog w=.ok (.enter gt args) w)(hP:oX gp pp w hp)(hT:oX gt pt w ht)(hA:Aq w e p n c As)(hW:Aq w 33 q n d Ws)(hO:Fit 33 O v w)(he:e<=200)(hn:n<=1000000)(hcp:∃b,pp=.pointer (some ⟨b,0,none⟩))(hct:∃b,pt=.pointer (some ⟨b,0,none⟩)) :
  Calls Tryz.prog 210 #[.slice p n c,.slice q n d,v,.func (.func gp) #[pp] #[],.func (.func gt) #[pt] #[]] w fun en w'=>∃x,en=.returned x/\Fit 33 (Mm hp ht O (As.zip Ws)) x w'/\Below w.heap.size w w':=by
 obtain⟨bp,rfl⟩:=hcp;obtain⟨bt,rfl⟩:=hct;obtain⟨pv,nv,cv,rfl,v1,v2⟩:=Ao hO;obtain⟨pp,hpp⟩:∃x:Value,.pointer (some ⟨bp,0,none⟩)=x:=⟨_,rfl⟩
 obtain⟨pt,hpt⟩:∃x:Value,.pointer (some ⟨bt,0,none⟩)=x:=⟨_,rfl⟩
 rw[hpp]at hP ⊢
 rw[hpt]at hT ⊢
 clear hpp hpt;have hx3:=Xz.mk3 w (.slice pv nv cv) (.slice none 0 0) (.slice pv nv cv);obtain⟨w3,hw3⟩:∃w3,((w.alloc (.cells #[.slice pv nv cv] 37)).alloc (.cells #[.slice none 0 0] 37)).alloc (.cells #[.slice pv nv cv] 37)=w3:=⟨_,rfl⟩
 rw[hw3]at hx3
 obtain⟨b11,hb11⟩:∃b,w.heap.size+1+1=b:=⟨_,rfl⟩
 have hX2:=hx3.b2;rw[hb11]at hX2
 have HX3:Aa (Ae w3 w.heap.size (.slice pv nv cv)/\Ae w3 (w.heap.size+1) (.slice none 0 0)/\Dg w3 b11 (Mm hp ht O ((As.zip Ws).take 0))/\Below w.heap.size w w3):=⟨⟨hx3.b0,hx3.b1,⟨pv,nv,cv,hX2,v1.below hx3.bel⟩,hx3.bel⟩⟩
 have HO:=Ab v2;have HLA:=Ab hA.len;have HLW:=Ab hW.len;have HPA:=Ab hA;have HPW:=Ab hW;have HPp:=Ab hP;have HT:=Ab hT;have HB11:=Ab hb11;clear hP hT hA hW hO v1 hx3 hX2;go_enter Tryz.func210,Tryz.ntmps210;go_wp2;clear hw3 hb11
 go_loopw [12,13,17] (fun _ _ iv wr=>∃k:Nat,k<=n/\iv=.int .i64 k/\Aa (Ae wr w.heap.size (.slice pv nv cv)/\Ae wr (w.heap.size+1) (.slice none 0 0)/\Dg wr b11 (Mm hp ht O ((As.zip Ws).take k))/\Below w.heap.size w wr)/\Aa (Mm hp ht O ((As.zip Ws).take k)<An 33)) (fun _ _ iv _=>n-(intOf iv).toNat)
 case atStart=>exact⟨0,by omega,rfl,HX3,⟨HO.out⟩⟩
 case round=>
  obtain⟨k,hk,rfl,HS,HSL⟩:=hrel
  by_cases hkn:k<n
  .obtain⟨A,hAk⟩:∃X,As[k]? = some X:=⟨As[k]'(by rw[<-HLA.out];exact hkn),List.getElem?_eq_getElem _⟩
   obtain⟨Y,hYk⟩:∃X,Ws[k]? = some X:=⟨Ws[k]'(by rw[<-HLW.out];exact hkn),List.getElem?_eq_getElem _⟩
   obtain⟨b1,off1,rfl,hb1,hc1⟩:=HPA.out.at_ (by omega)
   obtain⟨b2,off2,rfl,hb2,hc2⟩:=HPW.out.at_ (by omega)
   obtain⟨qa,ma,da,ha1,ha2,ha3⟩:=hc1 k A hAk;obtain⟨qy,my,dy,hy1,hy2,hy3⟩:=hc2 k Y hYk;obtain⟨a,ha⟩:∃x:Option Addr×Nat×Nat,(qa,ma,da)=x:=⟨_,rfl⟩
   obtain rfl:qa=a.1:=by rw[<-ha]
   obtain rfl:ma=a.2.1:=by rw[<-ha]
   obtain rfl:da=a.2.2:=by rw[<-ha]
   obtain⟨y,hy⟩:∃x:Option Addr×Nat×Nat,(qy,my,dy)=x:=⟨_,rfl⟩
   obtain rfl:qy=y.1:=by rw[<-hy]
   obtain rfl:my=y.2.1:=by rw[<-hy]
   obtain rfl:dy=y.2.2:=by rw[<-hy]
   clear ha hy;have hcell:wr.cell? ⟨b1,off1+k,none⟩=some (.slice a.1 a.2.1 a.2.2):=(HS.out.2.2.2.cell (p:=⟨b1,off1+k,none⟩) hb1).trans ha1;have hbw:Below wr.heap.size wr (wr.alloc (.cells #[.slice a.1 a.2.1 a.2.2] 37)):=Bt;have hbo:=Ae.made wr (.slice a.1 a.2.1 a.2.2);obtain⟨wb,hwb⟩:∃wb,wr.alloc (.cells #[.slice a.1 a.2.1 a.2.2] 37)=wb:=⟨_,rfl⟩
   rw[hwb]at hbw hbo
   have HBO:=Ab hbo;have HBb:Aa (Below w.heap.size w wb):=⟨Af HS.out.2.2.2 hbw⟩
   have HV:=Ab (HS.out.1.below hbw HS.out.1.lt);have HR1:=Ab (HS.out.2.1.below hbw HS.out.2.1.lt);obtain⟨po,no,co,hob,hon⟩:=HS.out.2.2.1;have HOB:=Ab (hob.below hbw hob.lt);obtain⟨OO,hOO⟩:∃N,Mm hp ht O ((As.zip Ws).take k)=N:=⟨_,rfl⟩
   rw[hOO]at hon
   have HFO:Aa (Fit 33 OO (.agg #[.slice po no co]) wb):=⟨(Fit.of hon (by rw[<-hOO];exact HSL.out)).below hbw⟩
   have HFA:=Ab ((Fit.of ha2 ha3).below HBb.out);have HFW:=Ab ((Fit.of hy2 hy3).below HBb.out);have HCW:Aa (wb.cell? ⟨b2,off2+k,none⟩=some (.slice y.1 y.2.1 y.2.2)):=⟨(HBb.out.cell (p:=⟨b2,off2+k,none⟩) hb2).trans hy1⟩
   have HB2L:=Ab hb2;obtain⟨Z,hZ⟩:∃Z,hp OO (ht A Y)=Z:=⟨_,rfl⟩
   have HZ:=Ab hZ;have HSN:Aa (Mm hp ht O ((As.zip Ws).take (k+1))=Z):=⟨by rw[Cz (eG hAk hYk),Ue,hOO,hZ]⟩
   have HNE:Aa (∀x∈([(wr.heap.size,.cells #[.slice a.1 a.2.1 a.2.2] 37 (0,0)),(w.heap.size,.cells #[.slice pv nv cv] 37 (0,0)),(w.heap.size+1,.cells #[.slice none 0 0] 37 (0,0))]:List (Nat×Obj)),x.1≠b11):=⟨by
    have h1:=HB11.out;have h2:=hob.lt;intro x hx;simp only[List.mem_cons,List.not_mem_nil,or_false]at hx;rcases hx with rfl|rfl|rfl<;>simp only<;>omega⟩
   have HLL:Aa (∀x∈([(wr.heap.size,.cells #[.slice a.1 a.2.1 a.2.2] 37 (0,0)),(w.heap.size,.cells #[.slice pv nv cv] 37 (0,0)),(w.heap.size+1,.cells #[.slice none 0 0] 37 (0,0))]:List (Nat×Obj)),wb.heap[x.1]? = some x.2):=⟨by
    intro x hx;simp only[List.mem_cons,List.not_mem_nil,or_false]at hx;rcases hx with rfl|rfl|rfl
    .exact HBO.out
    .exact HV.out
    .exact HR1.out⟩
   have HLE:Aa (w.heap.size<=b11):=⟨by have:=HB11.out;omega⟩
   have hkn':(k:Int)<n:=by omega
   clear hc1 hc2 hAk hYk ha1 ha2 hy1 hy2 hbw hbo hob hon hOO hZ hb1 hb2;go_wp2;refine Aj (by kernel_rfl) (by kernel_rfl)
    [some (.func (.func gp) #[pp] #[]),some (.agg #[.slice po no co]),some (.func (.func gt) #[pt] #[]),some (.agg #[.slice a.1 a.2.1 a.2.2]),some (.slice (some ⟨b2,off2,none⟩) n d),some (.int .i64 (k:Nat)),some (.pointer (some ⟨b2,off2+k,none⟩)),some (.agg #[.slice y.1 y.2.1 y.2.2]),none,none,none]
    [false,false,false,false,false,false,false,false,true,true,true] rfl
    (fun wA wB=>Am (w.heap.size) wA wB)
    (fun D sp w'=>RG (w.heap.size) wb [(wr.heap.size,.cells #[.slice a.1 a.2.1 a.2.2] 37 (0,0)),(w.heap.size,.cells #[.slice pv nv cv] 37 (0,0)),(w.heap.size+1,.cells #[.slice none 0 0] 37 (0,0))] w'/\jC (D 10) (b11) po no co (Z) w')
    (fun i v w'=>match i with
     | 8=>Fit 33 (ht A Y) v w'
     | 9=>Fit 33 Z v w'
     | _=>True)
    ?_ ⟨RG.start HBb.out.size HLL.out,⟨fun _=>HOB.out,fun e=>by cases e⟩⟩ ?_ ?_
   .intro i v wA wB hf hb;split at hf
    .exact hf.keep hb
    .exact hf.keep hb
    .trivial
   .simp only[Az,Nat.reduceAdd];refine⟨?_,?_,?_,?_,?_,?_,?_,?_,?_,?_,?_,trivial⟩
    all_goals intro D sp w' hD hW hdp hg
    case refine_2=>
     have c0:=(hg.2.z (hW 10 (mq (by kernel_rfl)))).cell
     with_reducible refine Ad ?_ ?_
     all_goals simp[Region.wanted,yielded,execOp,Act.eval,Act.put,go_sem,c0]
    case refine_4=>
     have c0:w'.cell? ⟨wr.heap.size,0,none⟩=some (.slice a.1 a.2.1 a.2.2):=Ae.cell (hg.1.of List.mem_cons_self)
     with_reducible refine Ad ?_ ?_
     all_goals simp[Region.wanted,yielded,execOp,Act.eval,Act.put,go_sem,c0]
    case refine_7=>
     have hnk:¬n<=k:=Nat.not_le.2 hkn
     with_reducible refine Ad ?_ ?_
     all_goals simp[Region.wanted,yielded,execOp,Act.eval,Act.put,go_sem,hnk]
    case refine_8=>
     have c0:w'.cell? ⟨b2,off2+k,none⟩=some (.slice y.1 y.2.1 y.2.2):=(hg.1.keep.bel.cell (p:=⟨b2,off2+k,none⟩) HB2L.out).trans HCW.out
     with_reducible refine Ad ?_ ?_
     all_goals simp[Region.wanted,yielded,execOp,Act.eval,Act.put,go_sem,c0]
    case refine_9=>
     (with_reducible refine Ac (w1:=w') (f:=gt) (args:=#[pt,.agg #[.slice a.1 a.2.1 a.2.2],.agg #[.slice y.1 y.2.1 y.2.2]]) ?_ ?_ ?_)
     .simp[Region.wanted,yielded,Act.put,go_sem]
     .simp[Act.eval,Act.put,go_sem,egt]
     .refine(HT.out.out w' e 33 _ _ _ _ (HBb.out.trans hg.1.keep.bel) he (by decide) (HFA.out.keep hg.1.keep) (HFW.out.keep hg.1.keep)).mono ?_;rintro en w9 ⟨u,rfl,hu,hb⟩;exact⟨u,rfl,Am.of hb hg.1.base,hu,hg.1.later hb,by simpa [upd]using hg.2.later hb⟩
    case refine_10=>
     have k8:Fit 33 (ht A Y) (sp 8) w':=(hdp 8 (mq (by kernel_rfl))).2
     (with_reducible refine Ac (w1:=w') (f:=gp) (args:=#[pp,.agg #[.slice po no co],sp 8]) ?_ ?_ ?_)
     .simp[Region.wanted,yielded,Act.put,go_sem]
     .simp[Act.eval,Act.put,go_sem,egp]
     .refine(HPp.out.out w' 33 33 _ _ _ _ (HBb.out.trans hg.1.keep.bel) (by decide) (by decide) (HFO.out.keep hg.1.keep) k8).mono ?_;rintro en w9 ⟨u,rfl,hu,hb⟩;rw[HZ.out]at hu
      exact⟨u,rfl,Am.of hb hg.1.base,hu,hg.1.later hb,by simpa [upd]using hg.2.later hb⟩
    case refine_11=>
     have hx:∃p n c,sp 9=.agg #[.slice p n c]/\Ag w' p n c (Z)/\Z<An (33):=(hdp 9 (mq (by kernel_rfl))).2
     (with_reducible refine Av hx fun p hx1=>Av hx1 fun n hx2=>Av hx2 fun c hx3=>?_)
     have h1:=hx3.1;rw[hD]at hg
     have hp:=hg.2.put (hx3.2.1)
     (with_reducible refine Av hp fun q hy1=>Av hy1 fun m hy2=>Av hy2 fun k hy3=>?_)
     have h6:=hy3.1.cell;have h7:=hy3.1.free
     (with_reducible refine Ap (w1:=w'.setCell ⟨b11,0,none⟩ (.slice p n c)) ?_ ?_ ?_)
     .simp[Region.wanted,yielded,Act.put,go_sem]
     .simp[execOp,Act.eval,Act.put,go_sem,h1,h6,h7]
     .refine⟨Am.store hy3.1 HLE.out _,trivial,hg.1.store hy3.1 HLE.out HNE.out _,?_⟩;have h8:=hy3.2;simpa [upd]using h8
    all_goals ((with_reducible refine Ad ?_ ?_);all_goals first|(simp only[Region.wanted];done)|simp[Region.wanted,yielded,execOp,Act.eval,Act.put,go_sem])
   .intro sp w9 hsp hg;obtain⟨hg1,hg2⟩:=hg;obtain⟨pz,nz,cz,hz1,hz2⟩:=hg2.o rfl;have hl9:Fit 33 Z (sp 9) w9:=hsp 9 rfl;have HSL2:Aa (Mm hp ht O ((As.zip Ws).take (k+1))<An 33):=⟨by rw[HSN.out];exact hl9.lim⟩
    have g0:=hg1.of (List.mem_cons_of_mem _ List.mem_cons_self);have g1:=hg1.of (List.mem_cons_of_mem _ (List.mem_cons_of_mem _ List.mem_cons_self));have HS9:Aa (Ae w9 w.heap.size (.slice pv nv cv)/\Ae w9 (w.heap.size+1) (.slice none 0 0)/\Dg w9 b11 (Mm hp ht O ((As.zip Ws).take (k+1)))/\Below w.heap.size w w9):=⟨⟨g0,g1,⟨pz,nz,cz,hz1,by rw[HSN.out];exact hz2⟩,HBb.out.trans hg1.keep.bel⟩⟩
    clear hsp hg1 hg2 hz1 hz2 hl9 g0 g1;simp only[Al,Nat.reduceAdd];generalize sp 8=y8,sp 9=y9,sp 10=y10 at *
    go_simp
    go_wp2;go_roundw
    case rel=>exact⟨k+1,by omega,by go_num,HS9,HSL2⟩
    case measure=>simp[intOf];omega
  .obtain rfl:k=n:=by omega
   have hkn':¬(k:Int)<k:=by omega
   have htk:(As.zip Ws).take k=As.zip Ws:=List.take_of_length_le (by rw[List.length_zip,<-HLA.out,<-HLW.out];omega);rw[htk]at HS HSL
   obtain⟨po,no,co,hob,hon⟩:=HS.out.2.2.1;have c11:=hob.cell;have hr1:=HS.out.2.1;have k8:=hr1.cell;have f8:=hr1.free;have HF:=Ab (Fit.of (hon.store hr1 (.slice po no co)) HSL.out);have HBF:Aa (Below w.heap.size w (wr.setCell ⟨w.heap.size+1,0,none⟩ (.slice po no co))):=⟨HS.out.2.2.2.setCell (by simp) _⟩
   clear htk hob hon hr1;go_wp2;exact bodyPost_ret (v:=.agg #[.slice po no co]) (by simp[results,Tryz.results210,go_sem,k8]) rfl ⟨_,rfl,HF.out,HBF.out⟩
end Go.Proofs.YtokhckjemidbpaaGreatDoor
