/- Small numbers in a row, the field, and the chapter's example lives (law10's Nums, field, lives). -/
import Derived.Test.YtokhckjemidbpaaGreatDoorCuK
import Derived.Test.YtokhckjemidbpaaGreatDoorGqG
import Derived.Lib.SmallJoins
set_option maxRecDepth 1000000
set_option maxHeartbeats 16000000
set_option linter.all false
namespace Go.Proofs.YtokhckjemidbpaaGreatDoor
open Go Go.RowKit Go.Proofs.YtokhckjemidbpaaGreatDoor.Flow
theorem lF {w:World}{r q e ex n c X:Nat}{p:Option Addr}{As:List Nat}{v:Value}(hR:Ring w r q 33)(hA:Aq w e p n c As)(hX:Fit ex X v w)(he:e<=200)(hex:ex<=200)(hn:n<=1000000) :
  Calls Tryz.prog 102 #[.pointer (some ⟨r,0,none⟩),.slice p n c,v] w fun en w'=>∃x,en=.returned x/\Fit 33 (Be q X As) x w'/\Below w.heap.size w w':=by
 obtain⟨px,nx,cx,rfl,x1,x2⟩:=Ao hX;have hbx:=bH.mk2 w (.slice px nx cx) (.slice none 0 0);have HR:=Ab (hR.below hbx.bel);have HA:=Ab (hA.below hbx.bel);have HX:=Ab ((Fit.of x1 x2).below hbx.bel);have HBX:=Ab hbx;have c0:=hbx.b0.cell;clear hR hA hX x1 hbx;go_enter Tryz.func102,Tryz.ntmps102
 go_wp2_with fail
 refine(Cv HR.out HX.out (by omega)).mono ?_;rintro en w1 ⟨_,rfl,⟨p1,n1,c1,rfl,h1,l1⟩,hb1⟩;have HF1:=Ab (Fit.of h1 l1);have HB1:=Ab hb1;clear h1 hb1 c0
 go_wp2_with fail
 refine(Br (n:=0) w1 (by omega)).mono ?_;rintro en w2 ⟨_,rfl,⟨p2,n2,c2,rfl,h2,l2⟩,hb2⟩;have hb12:=Af HB1.out hb2;have HV:=Ab (callsIn_wide.1 (Yj w2 (enters_of Tryz.func32 (by kernel_rfl) rfl) (enters_of Tryz.func33 (by kernel_rfl) rfl) (kD (HR.out.below hb12)) (kC (HR.out.below hb12)) (HA.out.below hb12) (HF1.out.below hb2) ((Fit.of h2 l2).wide (by decide:2<=33)) he (by decide) hn));have HX2:=Ab (HBX.out.later hb12);clear h2 hb2 hb12 HB1 HBX HR HA HF1
 go_wp2_with fail
 refine HV.out.mono ?_;rintro en w3 ⟨_,rfl,⟨p3,n3,c3,rfl,h3,l3⟩,hb3⟩;rw[Yk,Sk]at h3 l3
 have hx3:=HX2.out.later hb3;have k1:=hx3.b1.cell;have f1:=hx3.b1.free;have HF:=Ab (Fit.of (h3.store hx3.b1 (.slice p3 n3 c3)) l3);have HBF:Aa (Below w.heap.size w (w3.setCell ⟨w.heap.size+1,0,none⟩ (.slice p3 n3 c3))):=⟨hx3.bel.setCell (by simp) _⟩
 clear h3 hx3 hb3 HV HX2;go_wp2;exact bodyPost_ret (v:=.agg #[.slice p3 n3 c3]) (by simp[results,Tryz.results102,go_sem,k1]) rfl ⟨_,rfl,HF.out,HBF.out⟩
theorem aJ {w:World}{b P Q G H e ex n c X:Nat}{p:Option Addr}{As:List Nat}{v:Value}(hG:Au w b P Q G H)(hA:Aq w e p n c As)(hX:Fit ex X v w)(he:e<=200)(hex:ex<=200)(hn:n<=1000000) :
  Calls Tryz.prog 233 #[.pointer (some ⟨b,0,none⟩),.slice p n c,v] w fun en w'=>∃x,en=.returned x/\Fit 33 (Md P (X%Q) As) x w'/\Below w.heap.size w w':=by
 obtain⟨px,nx,cx,rfl,x1,x2⟩:=Ao hX;have hbx:=bH.mk2 w (.slice px nx cx) (.slice none 0 0);have HG:=Ab (hG.below hbx.bel);have HA:=Ab (hA.below hbx.bel);have HX:=Ab ((Fit.of x1 x2).below hbx.bel);have HBX:=Ab hbx;clear hG hA hX x1 hbx;go_enter Tryz.func233,Tryz.ntmps233
 go_wp2_with fail
 refine(Ez HG.out).mono ?_;rintro en w0 ⟨r,rfl,hr0,hb0⟩;have HR:=Ab hr0;have HB0:=Ab hb0;have c0:=(HBX.out.later hb0).b0.cell;clear hr0 hb0
 go_wp2_with fail
 refine(Cv HR.out (HX.out.below HB0.out) (by omega)).mono ?_;rintro en w1 ⟨_,rfl,⟨p1,n1,c1,rfl,h1,l1⟩,hb1⟩;have HF1:=Ab (Fit.of h1 l1);have HB1:=Ab (Af HB0.out hb1);clear h1 hb1 c0
 go_wp2_with fail
 refine(Br (n:=1) w1 (by omega)).mono ?_;rintro en w2 ⟨_,rfl,⟨p2,n2,c2,rfl,h2,l2⟩,hb2⟩;have hb12:=Af HB1.out hb2;have HV:=Ab (callsIn_wide.1 (Yj w2 (enters_of Tryz.func124 (by kernel_rfl) rfl) (enters_of Tryz.func25 (by kernel_rfl) rfl) (nR (HG.out.below hb12)) (nS (HG.out.below hb12)) (HA.out.below hb12) (HF1.out.below hb2) ((Fit.of h2 l2).wide (by decide:2<=33)) he (by decide) hn));have HX2:=Ab (HBX.out.later hb12);clear h2 hb2 hb12 HB1 HBX HR HA HF1 HB0
 go_wp2_with fail
 refine HV.out.mono ?_;rintro en w3 ⟨_,rfl,⟨p3,n3,c3,rfl,h3,l3⟩,hb3⟩;rw[Uj]at h3 l3
 have hx3:=HX2.out.later hb3;have k1:=hx3.b1.cell;have f1:=hx3.b1.free;have HF:=Ab (Fit.of (h3.store hx3.b1 (.slice p3 n3 c3)) l3);have HBF:Aa (Below w.heap.size w (w3.setCell ⟨w.heap.size+1,0,none⟩ (.slice p3 n3 c3))):=⟨hx3.bel.setCell (by simp) _⟩
 clear h3 hx3 hb3 HV HX2;go_wp2;exact bodyPost_ret (v:=.agg #[.slice p3 n3 c3]) (by simp[results,Tryz.results233,go_sem,k1]) rfl ⟨_,rfl,HF.out,HBF.out⟩
theorem dM {q n V:Nat}{Bs:List Nat}(h:Fb q n V Bs=0):n=V:=by
 unfold Fb at h
 by_cases h0:n=0
 .rw[if_pos h0]at h;omega
 .rw[if_neg h0]at h
  by_cases h1:n=V
  .exact h1
  .rw[if_pos h1]at h;omega
structure Cy (w:World) (B:Nat) (v:Value) (us:List (Option Addr×Nat×Nat)):Prop where
 ex:(v=.slice none 0 0/\us=[]) ∨ ∃(g cap:Nat) (rest:List (Option Addr×Nat×Nat)),v=.slice (some ⟨g,0,none⟩) us.length cap/\B<=g/\Eh w g us (rest.map sv)/\us.length+rest.length=cap/\cap<=9223372036854775807
theorem Cy.nil (w:World)(B:Nat):Cy w B (.slice none 0 0) []:=⟨.inl ⟨rfl,rfl⟩⟩
theorem Cy.own {w:World}{B g:Nat}{v:Value}{us:List (Option Addr×Nat×Nat)}(h:Cy w B v us)(hg:v.ownBlock=some g):B<=g/\g<w.heap.size:=by
 rcases h.ex with ⟨rfl,_⟩|⟨g',cap,rest,rfl,h1,h2,_⟩
 .cases hg
 .obtain rfl:g'=g:=by simpa [Value.ownBlock]using hg
  exact⟨h1,h2.lt⟩
theorem Cy.keep {w w':World}{B:Nat}{v:Value}{us:List (Option Addr×Nat×Nat)}(h:Cy w B v us)(hk:∀g,v.ownBlock=some g->w'.heap[g]? = w.heap[g]?):Cy w' B v us:=by
 rcases h.ex with h1|⟨g,cap,rest,rfl,h1,h2,h3⟩
 .exact⟨.inl h1⟩
 .exact⟨.inr ⟨g,cap,rest,rfl,h1,by unfold Eh at *;rw[hk g rfl];exact h2,h3⟩⟩
theorem Cy.below {w w':World}{B:Nat}{v:Value}{us:List (Option Addr×Nat×Nat)}(h:Cy w B v us)(hb:Below w.heap.size w w'):Cy w' B v us:=h.keep fun g hg=>hb.block g (h.own hg).2
theorem Cy.slice {w:World}{B:Nat}{v:Value}{us:List (Option Addr×Nat×Nat)}(h:Cy w B v us):∃p c,v=.slice p us.length c:=by
 rcases h.ex with ⟨rfl,rfl⟩|⟨g,cap,rest,rfl,_⟩
 .exact⟨_,_,rfl⟩
 .exact⟨_,_,rfl⟩
theorem Eh.all {w:World}{g j:Nat}{us rest:List (Option Addr×Nat×Nat)}{u:Value}(h:Eh w g us (rest.map sv))(hc:w.cell? ⟨g,j,none⟩=some u):∃x:Option Addr×Nat×Nat,u=sv x:=by
 unfold Eh at h;rw[<-List.map_append]at h
 simp only[World.cell?,h,List.getElem?_toArray,List.getElem?_map]at hc
 cases hx:(us++rest)[j]? with
 | none=>rw[hx]at hc;simp at hc
 | some x=>rw[hx]at hc;simp at hc;exact⟨x,hc.symm⟩
theorem Eh.apart {w:World}{p:Option Addr}{n c N g:Nat}{us rest:List (Option Addr×Nat×Nat)}(hr:Eh w g us (rest.map sv))(h:Ag w p n c N)(h0:0<n):∀q,p=some q->q.block≠g:=by
 obtain⟨ws,r1,r2,r3,r4⟩:=h.ex;intro a ha hab;obtain⟨b',off,k1,k2,k3⟩:=r1.pos h0;rw[k1]at ha;cases ha
 have hbb:b'=g:=hab;subst hbb;have h1:=k3 0 (ws.getD 0 0) (by rw[Dn];simp[show 0<ws.length by rw[<-r1.len];exact h0]);rw[Nat.add_zero]at h1
 obtain⟨x,hx⟩:=hr.all h1;unfold sv at hx;cases hx
theorem Dx {w w':World}{p:Option Addr}{n c N:Nat}{v:Value}{us:List (Option Addr×Nat×Nat)}{B:Nat}(hr:Cy w B v us)(hg:w.grownBy w' v.ownBlock)(h:Ag w p n c N):Ag w' p n c N:=by
 rcases Nat.eq_zero_or_pos n with rfl|h0
 .obtain⟨ws,r1,r2,r3,r4⟩:=h.ex;refine⟨ws,⟨r1.len,r1.cap,r1.max,?_⟩,r2,r3,r4⟩;rcases r1.at_ with k|⟨b,off,k1,k2,k3⟩
  .exact .inl k
  .refine .inr ⟨b,off,k1,Da k2 hg.size,fun i x hx=>?_⟩;have:ws=[]:=List.eq_nil_of_length_eq_zero r1.len.symm;rw[this]at hx;cases hx
 .refine Cj.stay h hg.size fun q hq o=>World.cell?_of_block (a:=⟨q.block,o,none⟩) (hg.block q.block (Cj.lt h q hq) fun e=>?_)
  rcases hr.ex with ⟨rfl,_⟩|⟨g,cap,rest,rfl,_,h2,_⟩
  .cases e
  .have e2:q.block=g:=by simpa [Value.ownBlock]using e
   exact h2.apart h h0 q hq e2
theorem Oq (n:Nat):Builtin.zeroCells (Value.agg #[.slice none 0 0]).cells n=((List.replicate n ((none,0,0):Option Addr×Nat×Nat)).map sv).toArray:=by
 have:(Value.agg #[.slice none 0 0]).cells=#[.slice none 0 0]:=by simp[Value.cells]
 rw[this];unfold Builtin.zeroCells;rw[List.map_replicate];apply Array.ext';have h1:(fun i:Nat=>([Value.slice none 0 0]:List Value)[i%1]?.getD default)=fun _=>Value.slice none 0 0:=by funext i;simp[Nat.mod_one]
 simp[sv];rw[h1];rw[List.map_const',List.length_range]
theorem Cy.app {w:World}{B:Nat}{v:Value}{us:List (Option Addr×Nat×Nat)}(h:Cy w B v us){a:Addr}{c:Nat}{x:Option Addr×Nat×Nat}(hc:w.cell? a=some (sv x))(hB:B<=w.heap.size)(hl:us.length<=100000)(ty:TypeId) :
  ∃v' w',(Builtin.append_ #[62, 62] ty #[v,.slice (some a) 1 c]).run Tryz.prog w=.ok v' w'/\Cy w' B v' (us++[x])/\w.grownBy w' v.ownBlock/\Po w v v':=by
 obtain⟨i,hi,hz,hs,hb⟩:=info_parts Tryz.info_Nat;have hu:=Tryz.underlying62;have ha0:a.add 0=a:=by obtain⟨b,o,s⟩:=a;simp[Addr.add]
 have hnew:∀j u,([sv x]:List Value)[j]? = some u->w.cell? (a.add j)=some u:=fun j u hj=>by
  cases j with
  | zero=>simp at hj;subst hj;rw[ha0];exact hc
  | succ j=>simp at hj
 have hby:i.bytes<=1000:=by rw[hb];decide
 have hzc:∀n,Builtin.zeroCells (Value.agg #[Value.slice none 0 0]).cells n=((List.replicate n ((none,0,0):Option Addr×Nat×Nat)).map sv).toArray:=Oq;rcases h.ex with ⟨rfl,rfl⟩|⟨g,cap,rest,rfl,hbg,hx,hcap,hmx⟩
 .have hr:=run_append_nil (P:=Tryz.prog) (w:=w) 62 ty 37 i _ hu hi hz a 1 c [sv x] (by rw[hs];rfl) hnew (by decide) (by decide) (by omega);rw[hzc]at hr
  refine⟨_,_,hr,⟨.inr ⟨w.heap.size,grownCap w 1 0 37,List.replicate (grownCap w 1 0 37 - 1) (none,0,0),rfl,hB,?_,?_,?_⟩⟩,⟨rfl,rfl,rfl,by simp,fun k hk _=>((Ba w.heap.size w).drew.alloc (Aw _) _).block k hk⟩,.inr fun g hg=>?_⟩
  .unfold Eh;rw[show (w.drew.alloc (.cells ([sv x].toArray++((List.replicate (grownCap w 1 0 37 - 1) ((none,0,0):Option Addr×Nat×Nat)).map sv).toArray) 37)).heap[w.heap.size]? = some (.cells ([sv x].toArray++((List.replicate (grownCap w 1 0 37 - 1) ((none,0,0):Option Addr×Nat×Nat)).map sv).toArray) 37 (0,0)) from heap_alloc_new w.drew _];simp
  .have:=grownCap_ge w 1 0 37;simp;omega
  .have:=grownCap_le_maxLen w 1 0 37 (by decide);simpa [maxLen]using this
  .have:w.heap.size=g:=by simpa [Value.ownBlock]using hg
   omega
 .have hxb:=hx;unfold Eh at hxb
  cases rest with
  | nil=>
   have hcn:cap=us.length:=by simpa using hcap.symm
   subst hcn;have hgg:us.length<us.length+1:=by omega
   have hr:=run_append_grow (P:=Tryz.prog) (w:=w) 62 ty 37 i _ hu hi hz ⟨g,0,none⟩ us.length us.length (us.map sv) (by rw[hs];simp) (fun j u hj=>by
     rw[List.getElem?_map]at hj
     cases hy:us[j]? with
     | none=>rw[hy]at hj;cases hj
     | some y=>
      rw[hy]at hj;cases hj
      have:=hx.cell hy;rw[add_plain g 0 j,Nat.zero_add];exact this) a 1 c [sv x] (by rw[hs];rfl) hnew hgg (by omega) (growslice_fits hgg (Er (Nat.mul_le_mul (by omega:us.length+1<=100001) hby) (by decide)))
   rw[hzc]at hr
   obtain⟨C,hC⟩:∃C,grownCap w (us.length+1) us.length 37 = C:=⟨_,rfl⟩
   have h1:=grownCap_ge w (us.length+1) us.length 37;have h2:=grownCap_le_maxLen w (us.length+1) us.length 37 (by simp[maxLen];omega);rw[hC]at hr h1 h2
   refine⟨_,_,hr,⟨.inr ⟨w.heap.size,C,List.replicate (C-(us.length+1)) (none,0,0),by rw[List.length_append];rfl,hB,?_,?_,by simpa [maxLen]using h2⟩⟩,⟨rfl,rfl,rfl,by simp,fun k hk _=>((Ba w.heap.size w).drew.alloc (Aw _) _).block k hk⟩,.inr fun g' hg'=>?_⟩
   .unfold Eh;rw[show (w.drew.alloc (.cells ((us.map sv).toArray++[sv x].toArray++((List.replicate (C-(us.length+1)) ((none,0,0):Option Addr×Nat×Nat)).map sv).toArray) 37)).heap[w.heap.size]? = some (.cells ((us.map sv).toArray++[sv x].toArray++((List.replicate (C-(us.length+1)) ((none,0,0):Option Addr×Nat×Nat)).map sv).toArray) 37 (0,0)) from heap_alloc_new w.drew _];simp
   .simp;omega
   .have:w.heap.size=g':=by simpa [Value.ownBlock]using hg'
    omega
  | cons r0 rest=>
   have hr:=run_append_room (P:=Tryz.prog) (w:=w) 62 ty 37 i hu hi g us.length cap _ hxb a 1 c [sv x] (by rw[hs];rfl) hnew (fun u hu'=>by simp at hu';subst hu';rfl) (by simp at hcap;omega) (by simp[hs]);refine⟨_,_,hr,⟨.inr ⟨g,cap,rest,by rw[List.length_append];rfl,hbg,?_,by simp at hcap ⊢;omega,hmx⟩⟩,⟨rfl,rfl,rfl,by simp,fun k hk hn=>setRow_other w g k _ (fun e=>hn (by rw[e];rfl))⟩,.inl rfl⟩;unfold Eh;rw[setRow_heap w g _ _ _ _ hxb];have h9:(us.map sv++sv r0::rest.map sv).drop (us.length+1)=rest.map sv:=by
    rw[show us.map sv++sv r0::rest.map sv=(us.map sv++[sv r0])++rest.map sv by simp];exact List.drop_left' (by simp)
   simp[hs,h9]
theorem Cy.plist {w:World}{B e:Nat}{v:Value}{us:List (Option Addr×Nat×Nat)}{Ns:List Nat}(h:Cy w B v us)(ht:Cn w e us Ns):∃p c,v=.slice p Ns.length c/\Aq w e p Ns.length c Ns:=by
 rcases h.ex with ⟨rfl,rfl⟩|⟨g,cap,rest,rfl,h1,h2,h3,h4⟩
 .have:Ns=[]:=List.eq_nil_of_length_eq_zero ht.len.symm;subst this;exact⟨_,_,rfl,⟨rfl,Aw _,by omega,fun _=>rfl,fun h0=>by simp at h0⟩⟩
 .have hl:=ht.len;refine⟨some ⟨g,0,none⟩,cap,by rw[hl],⟨rfl,by omega,h4,(fun e=>by cases e),fun _=>⟨g,0,rfl,h2.lt,fun i N hN=>?_⟩⟩⟩;obtain⟨x,k1,k2,k3⟩:=ht.at_ i N hN
  exact⟨x.1,x.2.1,x.2.2,by rw[Nat.zero_add];exact h2.cell k1,k2,k3⟩
theorem Cn.grown {w w':World}{e B:Nat}{v:Value}{us us2:List (Option Addr×Nat×Nat)}{Ns:List Nat}(h:Cn w e us Ns)(hr:Cy w B v us2)(hg:w.grownBy w' v.ownBlock):Cn w' e us Ns :=
 ⟨h.len,fun i N hN=>let ⟨x,h1,h2,h3⟩:=h.at_ i N hN;⟨x,h1,Dx hr hg h2,h3⟩⟩
theorem Cn.snoc {w:World}{e N:Nat}{us:List (Option Addr×Nat×Nat)}{Ns:List Nat}{x:Option Addr×Nat×Nat}(h:Cn w e us Ns)(hx:Cw w x N)(hl:N<An e):Cn w e (us++[x]) (Ns++[N]):=by
 refine⟨by simp[h.len],fun i M hM=>?_⟩;rcases Nat.lt_or_ge i Ns.length with hi|hi
 .rw[List.getElem?_append_left hi]at hM
  obtain⟨y,h1,h2⟩:=h.at_ i M hM
  exact⟨y,by rw[List.getElem?_append_left (by rw[h.len];exact hi)];exact h1,h2⟩
 .rw[List.getElem?_append_right hi]at hM
  obtain⟨t,ht⟩:∃t,i-Ns.length=t:=⟨_,rfl⟩
  rw[ht]at hM
  cases t with
  | zero=>
   simp at hM;subst hM;exact⟨x,by rw[List.getElem?_append_right (by rw[h.len];exact hi),h.len,ht];rfl,hx,hl⟩
  | succ t=>simp at hM
theorem Cn.nil (w:World)(e:Nat):Cn w e [] []:=⟨rfl,fun i N hN=>by simp at hN⟩
structure KN (B:Nat) (w w':World):Prop where
 k:Am B w w'
 blk:∀(g:Nat) (o:Obj),w.heap[g]? = some o->(∀q m d,o≠.cells #[.slice q m d] 37 (0,0))->w'.heap[g]? = some o
theorem KN.of {B:Nat}{w w':World}(h:Below w.heap.size w w')(hB:B<=w.heap.size):KN B w w':=⟨Am.of h hB,fun g o ho _=>by rw[h.block g (Gs ho).1];exact ho⟩
theorem KN.same (B:Nat)(w:World):KN B w w:=⟨Am.same _ _,fun _ _ h _=>h⟩
theorem KN.store {B b m d:Nat}{q:Option Addr}{w:World}(hb:Ae w b (.slice q m d))(hB:B<=b)(v:Value):KN B w (w.setCell ⟨b,0,none⟩ v):=⟨Am.store hb hB v,fun g o ho hn=>by
 have hne:g≠b:=fun e=>by
  subst e;unfold Ae at hb;rw[hb]at ho
  cases ho;exact hn _ _ _ rfl
 simp[World.setCell,Array.getElem?_modify,hne.symm];exact ho⟩
theorem Fit.kn {e N B:Nat}{v:Value}{w w':World}(h:Fit e N v w)(k:KN B w w'):Fit e N v w':=h.keep k.k
theorem Gm.kn {e N B:Nat}{t v:Value}{w w':World}(h:Gm e N t v w)(k:KN B w w'):Gm e N t v w':=h.keep k.k
def oQ (Q:Nat)(v:Value)(w:World):Prop:=(∃b P G H,v=.pointer (some ⟨b,0,none⟩)/\Au w b P Q G H) ∨ (v=.pointer none/\Q=0)
theorem oQ.below {Q:Nat}{v:Value}{w w':World}(h:oQ Q v w)(hb:Below w.heap.size w w'):oQ Q v w':=by
 rcases h with ⟨b,P,G,H,h1,h2⟩|h
 .exact .inl ⟨b,P,G,H,h1,h2.below hb⟩
 .exact .inr h
theorem oQ.of {w:World}{b P Q G H:Nat}(h:Au w b P Q G H):oQ Q (.pointer (some ⟨b,0,none⟩)) w:=.inl ⟨b,P,G,H,rfl,h⟩
def RQ (Q:Nat)(v:Value)(w:World):Prop:=(∃r,v=.pointer (some ⟨r,0,none⟩)/\Ring w r Q 33) ∨ (v=.pointer none/\Q=0)
theorem cH {w:World}{Q:Nat}{g0:Value}(h:oQ Q g0 w) :
  Calls Tryz.prog 30 #[g0] w fun en w'=>∃x,en=.returned x/\RQ Q x w'/\Below w.heap.size w w':=by
 rcases h with ⟨b,P,G,H,rfl,h2⟩|⟨rfl,rfl⟩
 .refine(Ez h2).mono ?_;rintro en w' ⟨r,rfl,hr,hb⟩;exact⟨_,rfl,.inl ⟨r,rfl,hr⟩,hb⟩
 .refine(dH w).mono ?_;rintro en w' ⟨rfl,hb⟩;exact⟨_,rfl,.inr ⟨rfl,rfl⟩,hb⟩
theorem jO {w:World}{Q:Nat}{r0:Value}(h:RQ Q r0 w) :
  Calls Tryz.prog 57 #[r0] w fun en w'=>∃x,en=.returned x/\Fit 33 Q x w'/\Below w.heap.size w w':=by
 rcases h with ⟨r,rfl,h2⟩|⟨rfl,rfl⟩
 .exact Ff h2
 .refine(Qd w).mono ?_;rintro en w' ⟨rfl,hb⟩;exact⟨_,rfl,Fit.of (Ag.nil _) (by decide),hb⟩
theorem Ob {N M:Nat}:Bm N M<0 ↔ N<M:=by
 unfold Bm;split
 .simp_all
 .split<;>simp_all<;>omega
structure KT (T:TypeId) (B:Nat) (w w':World):Prop where
 k:Am B w w'
 blk:∀(g:Nat) (vs:Array Value) (U:TypeId) (m:Nat×Nat),w.heap[g]? = some (.cells vs U m)->(U≠T ∨ ∃(j:Nat) (u:Value),vs[j]? = some u/\∀q k d,u≠Value.slice q k d)->w'.heap[g]? = some (.cells vs U m)
theorem Ring.kt {T:TypeId}{B r M f:Nat}{w w':World}(h:Ring w r M f)(k:KT T B w w')(hT : 156 ≠ T):Ring w' r M f:=by
 obtain⟨p,n,c,h1,h2,h3⟩:=h.at_.ex
 exact⟨⟨p,n,c,k.blk _ _ _ _ h1 (.inl hT),k.k.nat _ _ _ _ h2,h3⟩,h.two,h.lim,h.few⟩
theorem Ag.off {w w':World}{p:Option Addr}{n c N b:Nat}{vs:Array Value}{T:TypeId}{m:Nat×Nat}(h:Ag w p n c N)(hb:w.heap[b]? = some (.cells vs T m))(hs:∀(j:Nat) (u:Value),vs[j]? = some u->∃q k d,u=.slice q k d)(hz:w.heap.size<=w'.heap.size)(ho:∀g,g≠b->w'.heap[g]? = w.heap[g]?):Ag w' p n c N:=by
 rcases Nat.eq_zero_or_pos n with rfl|h0
 .obtain⟨ws,r1,r2,r3,r4⟩:=h.ex;refine⟨ws,⟨r1.len,r1.cap,r1.max,?_⟩,r2,r3,r4⟩;rcases r1.at_ with k|⟨g,off,k1,k2,k3⟩
  .exact .inl k
  .refine .inr ⟨g,off,k1,Da k2 hz,fun i x hx=>?_⟩;have:ws=[]:=List.eq_nil_of_length_eq_zero r1.len.symm;rw[this]at hx;cases hx
 .refine Cj.stay h hz fun q hq o=>World.cell?_of_block (a:=⟨q.block,o,none⟩) (ho q.block fun e=>?_)
  obtain⟨ws,r1,r2,r3,r4⟩:=h.ex;obtain⟨b',off,k1,k2,k3⟩:=r1.pos h0;rw[k1]at hq;cases hq
  have hbb:b'=b:=e;subst hbb;have h1:=k3 0 (ws.getD 0 0) (by rw[Dn];simp[show 0<ws.length by rw[<-r1.len];exact h0]);rw[Nat.add_zero]at h1
  simp only[World.cell?,hb]at h1;obtain⟨q,k,d,hu⟩:=hs _ _ h1;cases hu
def set2 (w:World)(b:Nat)(u0 u1:Value):World:=(w.setCell ⟨b,0,none⟩ u0).setCell ⟨b,1,none⟩ u1
def nI (w:World)(b:Nat)(u0 u1 u2 u3:Value):World:=(((w.setCell ⟨b,0,none⟩ u0).setCell ⟨b,1,none⟩ u1).setCell ⟨b,2,none⟩ u2).setCell ⟨b,3,none⟩ u3
structure iV (w:World) (b:Nat) (o:Obj) (w':World):Prop where
 new:w'.heap[b]? = some o
 old:∀g,g≠b->w'.heap[g]? = w.heap[g]?
 size:w'.heap.size=w.heap.size
 bel:∀B,B<=b->Below B w w'
theorem put2 {w:World}{b:Nat}{v0 v1 u0 u1:Value}{T:TypeId}(h:w.heap[b]? = some (.cells #[v0,v1] T (0,0))):iV w b (.cells #[u0,u1] T (0,0)) (set2 w b u0 u1) :=
 ⟨by simp[set2,World.setCell,Array.getElem?_modify,h],fun g hg=>by simp[set2,World.setCell,Array.getElem?_modify,hg.symm],by simp[set2],fun B hB=>(((Ba _ _).setCell hB _).setCell hB _)⟩
theorem put4 {w:World}{b:Nat}{v0 v1 v2 v3 u0 u1 u2 u3:Value}{T:TypeId}(h:w.heap[b]? = some (.cells #[v0,v1,v2,v3] T (0,0))):iV w b (.cells #[u0,u1,u2,u3] T (0,0)) (nI w b u0 u1 u2 u3) :=
 ⟨by simp[nI,World.setCell,Array.getElem?_modify,h],fun g hg=>by simp[nI,World.setCell,Array.getElem?_modify,hg.symm],by simp[nI],fun B hB=>(((((Ba _ _).setCell hB _).setCell hB _).setCell hB _).setCell hB _)⟩
theorem iV.keep {w w':World}{b B:Nat}{o:Obj}{vs:Array Value}{T:TypeId}{m:Nat×Nat}(h:iV w b o w')(hb:w.heap[b]? = some (.cells vs T m))(hs:∀(j:Nat) (u:Value),vs[j]? = some u->∃q k d,u=.slice q k d)(hB:B<=b):Am B w w' :=
 ⟨h.bel B hB,fun _ _ _ _ k=>k.off hb hs (Nat.le_of_eq h.size.symm) h.old⟩
theorem iV.kt {w w':World}{b B:Nat}{o:Obj}{vs:Array Value}{T:TypeId}{m:Nat×Nat}(h:iV w b o w')(hb:w.heap[b]? = some (.cells vs T m))(hs:∀(j:Nat) (u:Value),vs[j]? = some u->∃q k d,u=.slice q k d)(hB:B<=b):KT T B w w' :=
 ⟨h.keep hb hs hB,fun g us U k ho hU=>by
  have:g≠b:=fun e=>by
   subst e;rw[hb]at ho
   cases ho;rcases hU with hU|⟨j,u,hj,hu⟩
   .exact hU rfl
   .obtain⟨_,_,_,hx⟩:=hs _ _ hj;exact hu _ _ _ hx
  rw[h.old g this];exact ho⟩
theorem Wl (x y:Option Addr×Nat×Nat):∀(j:Nat) (u:Value),(#[Value.slice x.1 x.2.1 x.2.2,.slice y.1 y.2.1 y.2.2]:Array Value)[j]? = some u->∃q k d,u=.slice q k d
 | 0,u,h=>by cases h;exact⟨_,_,_,rfl⟩
 | 1,u,h=>by cases h;exact⟨_,_,_,rfl⟩
 | j+2,u,h=>by simp at h
def z4 (T:TypeId):Obj:=.cells #[.slice none 0 0,.slice none 0 0,.slice none 0 0,.slice none 0 0] T (0,0)
def oW (n:Nat)(Ns:List Nat)(v:Value)(w:World):Prop:=∃g,v=.slice (some ⟨g,0,none⟩) n n/\Aq w 33 (some ⟨g,0,none⟩) n n Ns
theorem oW.below {n:Nat}{Ns:List Nat}{v:Value}{w w':World}(h:oW n Ns v w)(hb:Below w.heap.size w w'):oW n Ns v w':=let ⟨g,h1,h2⟩:=h;⟨g,h1,h2.below hb⟩
def pX (f N:Nat)(w:World)(en:Ending)(w':World):Prop :=
 (f≠0->en=.returned (.tuple #[.agg #[.slice none 0 0],.int .i64 (f:Nat)]))/\(f=0->∃x,en=.returned (.tuple #[x,.int .i64 0])/\Fit 33 N x w')/\Below w.heap.size w w'
theorem Zu {w:World}{r q e e2 ey n c V cy X:Nat}{p py:Option Addr}{Bs Ys:List Nat}{v:Value}(hq:Bl q)(hR:Ring w r q 33)(h:Aq w e p n c Bs)(hY:Aq w ey py V cy Ys)(hX:Fit e2 X v w)(he:e<=200)(he2:e2<=200)(hey:ey<=200)(hn:n<=12)(hV:V<=1000000) :
  Calls Tryz.prog 167 #[.pointer (some ⟨r,0,none⟩),.slice p n c,.slice py V cy,v] w (pX (Fb q n V Bs) (Kb q X [] Bs Ys 0) w):=by
 obtain⟨px,nx,cx,rfl,x1,x2⟩:=Ao hX;have hbx:=bH.mk2 w (.slice px nx cx) (.slice none 0 0);obtain⟨W0,hW0⟩:∃W,(w.alloc (.cells #[.slice px nx cx] 37)).alloc (.cells #[.slice none 0 0] 37)=W:=⟨_,rfl⟩
 rw[hW0]at hbx
 have HP:=Ab (h.below hbx.bel);have HY:=Ab (hY.below hbx.bel);have HX:=Ab ((Fit.of x1 x2).below hbx.bel);have HBX:=Ab hbx;have HQ:=Ab hq;have HR:=Ab (hR.below hbx.bel);have c0:=hbx.b0.cell;clear hq hR h hY hX x1 hbx
 by_cases hf:Fb q n V Bs=0
 .obtain rfl:=dM hf;have HFA:=Ab hf;have HW:=Ab (qB HQ.out HR.out HP.out HX.out he he2 hn hf);clear hf;go_enter Tryz.func167,Tryz.ntmps167
  go_wp2_with fail
  refine HW.out.mono ?_;rintro en w7 ⟨g,rfl,hp,hb7⟩;have HPW:=Ab hp;have HB7:=Ab hb7;clear hp hb7 c0 HW hW0;have hx7:=HBX.out.later HB7.out;have HX7:=Ab hx7;clear hx7
  go_wp2_with fail
  refine(Br (n:=0) w7 (by omega)).mono ?_;rintro en w2 ⟨_,rfl,⟨p2,n2,c2,rfl,h2,l2⟩,hb2⟩;have hb02:=Af HB7.out hb2;have HV:=Ab (Yi (w:=w2) (enters_of Tryz.func32 (by kernel_rfl) rfl) (enters_of Tryz.func33 (by kernel_rfl) rfl) (kD (HR.out.below hb02)) (kC (HR.out.below hb02)) (HY.out.below hb02) (HPW.out.below hb2) ((Fit.of h2 l2).wide (by decide:2<=33)) hey (by omega) ⟨_,rfl⟩ ⟨_,rfl⟩);have HX2:=Ab (HX7.out.later hb2);clear h2 hb2 hb02 HX7
  go_wp2_with fail
  refine HV.out.mono ?_;rintro en w3 ⟨_,rfl,⟨p3,n3,c3,rfl,h3,l3⟩,hb3⟩;rw[Uf]at h3 l3
  have hx3:=HX2.out.later hb3;have k1:=hx3.b1.cell;have f1:=hx3.b1.free;have HF:=Ab (Fit.of (h3.store hx3.b1 (.slice p3 n3 c3)) l3);have HBF:Aa (Below w.heap.size w (w3.setCell ⟨w.heap.size+1,0,none⟩ (.slice p3 n3 c3))):=⟨hx3.bel.setCell (by simp) _⟩
  clear h3 hx3 hb3 HV HX2;go_wp2;exact bodyPost_ret (v:=.tuple #[.agg #[.slice p3 n3 c3],.int .i64 0]) (by simp[results,Tryz.results167,go_sem,k1]) rfl ⟨fun hne=>absurd HFA.out hne,fun _=>⟨_,rfl,HF.out⟩,HBF.out⟩
 .have HFA:Aa _:=⟨hf⟩
  have HW:=Ab (pA HR.out HP.out HX.out he hn hV hf);obtain⟨E,hE⟩:∃E,Fb q n V Bs=E:=⟨_,rfl⟩
  have HEE:=Ab hE;have hne:((E:Int)!=0)=true:=by rw[bne_iff_ne];rw[hE]at hf;omega
  clear hf;go_enter Tryz.func167,Tryz.ntmps167
  go_wp2_with fail
  refine HW.out.mono ?_;rintro en w7 ⟨rfl,hb7⟩;have HB7:=Ab hb7;simp only[hE];clear hb7 c0 HW hW0 hE;have hx7:=HBX.out.later HB7.out;have k1:=hx7.b1.cell;have f1:=hx7.b1.free;have HBF:Aa (Below w.heap.size w (w7.setCell ⟨w.heap.size+1,0,none⟩ (.slice none 0 0))):=⟨hx7.bel.setCell (by simp) _⟩
  clear hx7;go_wp2;exact bodyPost_ret (v:=.tuple #[.agg #[.slice none 0 0],.int .i64 (E:Nat)]) (by simp[results,Tryz.results167,go_sem,k1]) rfl ⟨fun _=>by rw[HEE.out],fun h0=>absurd h0 HFA.out,HBF.out⟩
theorem pM (i:Nat)(hi:i<3):gP i<An 3/\gQ i<An 3/\gG i<An 3:=by
 have h:=Ip i hi;have h1:gP i<An 3:=Da h.2.2.2.2.2 (by decide);have h2:=Vi i hi;refine⟨h1,?_,by omega⟩;rcases Nat.eq_zero_or_pos (Mw i) with h0|h0
 .rw[h0,Nat.mul_zero]at h2;omega
 .have:=Nat.le_mul_of_pos_right (gQ i) h0;omega
theorem dJ:∀i,i<3->(Eo i).length<=60
 | 0,_=>by decide
 | 1,_=>by decide
 | 2,_=>by decide
 | _+3,h=>by omega
def bF (N M:Nat)(v:Value)(w:World):Prop:=∃(g:Nat) (x y:Option Addr×Nat×Nat),v=.slice (some ⟨g,0,none⟩) 2 2/\w.heap[g]? = some (.cells #[.slice x.1 x.2.1 x.2.2,.slice y.1 y.2.1 y.2.2] 37 (0,0))/\Cw w x N/\Cw w y M/\N<An 33/\M<An 33
theorem bF.kn {N M B:Nat}{v:Value}{w w':World}(h:bF N M v w)(k:KN B w w'):bF N M v w' :=
 let ⟨g,x,y,h1,h2,h3,h4,h5,h6⟩:=h
 ⟨g,x,y,h1,k.blk _ _ h2 (fun _ _ _=>by simp),k.k.nat _ _ _ _ h3,k.k.nat _ _ _ _ h4,h5,h6⟩
theorem bF.plist {N M g:Nat}{x y:Option Addr×Nat×Nat}{w:World}(h2:w.heap[g]? = some (.cells #[.slice x.1 x.2.1 x.2.2,.slice y.1 y.2.1 y.2.2] 37 (0,0)))(h3:Cw w x N)(h4:Cw w y M)(h5:N<An 33)(h6:M<An 33):Aq w 33 (some ⟨g,0,none⟩) 2 2 [N,M]:=by
 refine⟨rfl,Aw _,by decide,(fun e=>by cases e),fun _=>⟨g,0,rfl,(Gs h2).1,fun i K hK=>?_⟩⟩
 match i,hK with
 | 0,hK=>cases hK;exact⟨x.1,x.2.1,x.2.2,by simp[World.cell?,h2],h3,h5⟩
 | 1,hK=>cases hK;exact⟨y.1,y.2.1,y.2.2,by simp[World.cell?,h2],h4,h6⟩
theorem eI {x:Nat}(h:bM x):x<An 2:=by
 unfold bM at h;exact Da h (by decide)
theorem cS (w:World)(p:Option Addr)(n c:Nat)(xs:List Nat)(h:Bq w .u64 p n c xs)(h64:∀x∈xs,bM x)(hn:n<=1000) :
  Calls Tryz.prog 39 #[.slice p n c] w fun e w'=>∃q d,e=.returned (.slice q n d)/\Aq w' 2 q n d xs/\Below w.heap.size w w':=by
 have HX:=Ab h;have H6:=Ab h64;have HLn:=Ab h.len;clear h h64;go_enter Tryz.func39,Tryz.ntmps39;go_wp2
 go_loopw [3,5,8] (fun vv _ iv wr=>∃(k:Nat) (bad:Nat->Prop),k<=n/\iv=.int .i64 k/\Aa (Below w.heap.size w wr)/\Aa (∀g,bad g->g<wr.heap.size)/\Aa (Fn Ag 37 w.heap.size bad wr vv (xs.take k))/\Aa (∀g,vv.ownBlock=some g->bad g)) (fun _ _ iv _=>n-(intOf iv).toNat)
 case atStart=>exact⟨0,fun _=>False,by omega,rfl,⟨Ba _ _⟩,⟨fun _ h=>h.elim⟩,⟨Fn.nil⟩,⟨fun g h=>by cases h⟩⟩
 case round=>
  obtain⟨k,bad,hk,rfl,HB,HLT,HO,HV⟩:=hrel
  by_cases hkn:k<n
  .obtain⟨S,hSk⟩:∃s,xs[k]? = some s:=⟨xs[k]'(by rw[<-HLn.out];exact hkn),List.getElem?_eq_getElem _⟩
   obtain⟨bb,off,rfl,hb,hc⟩:=(HX.out.row (by omega)).pos (by omega);have hx:wr.cell? ⟨bb,off+k,none⟩=some (.int .u64 (S:Nat)):=(HB.out.cell (p:=⟨bb,off+k,none⟩) hb).trans (hc k S hSk);have HTk:Aa (xs.take (k+1)=xs.take k++[S]):=⟨Cz hSk⟩
   have HTl:Aa ((xs.take k).length<=1000000):=⟨by rw[List.length_take];omega⟩
   have HSU:Aa (S<18446744073709551616):=⟨H6.out S (List.mem_of_getElem? hSk)⟩
   have hkn':(k:Int)<n:=by omega
   clear hc hSk hb
   go_wp2_with fail
   refine(Cd S wr HSU.out).mono ?_;rintro en w3 ⟨q,m,d,rfl,hn3,b3,hnew⟩;have hb4:Below w3.heap.size w3 (w3.alloc (.cells #[.slice q m d] 37)):=Bt;have hx4:(w3.alloc (.cells #[.slice q m d] 37)).cell? ⟨w3.heap.size,0,none⟩=some (.slice q m d):=(Ae.made w3 (.slice q m d)).cell;obtain⟨w4,hw4⟩:∃w4,w3.alloc (.cells #[.slice q m d] 37)=w4:=⟨_,rfl⟩
   rw[hw4]at hb4 hx4
   have hb34:=Af b3 hb4;have hB4:=Af HB.out hb34;have hfirm:Gk (fun w=>Ag w q m d S) bad w4:=Cj.fresh (hn3.below hb4) hnew HLT.out;obtain⟨i1,hi1,hz1,hs1,hbb1⟩:=info_parts Tryz.info_Nat;refine(HO.out.below hb34).app2 (x:=(q,m,d)) Tryz.underlying62 hi1 hz1 hs1 hbb1 rfl (by decide) hB4.size hx4 hfirm HV.out (fun g hg=>Da (HLT.out g hg) hb34.size) HTl.out 62 (c:=1) ?_;intro v9 w9 bad9 happ ho9 hg9 m1 m2 m3 m4;have HO9:=Ab ho9;have HB9:Aa (Below w.heap.size w w9):=⟨hB4.grown hg9 hB4.size fun g hg=>(HO.out.block g hg).1⟩
   have HLT9:=Ab m4;have HV9:=Ab m3;clear hb4 hx4 hb34 hB4 hfirm hi1 hz1 hs1 hbb1 ho9 hg9 m1 m2 m3 m4 b3 hn3 hnew
   go_wp2_with (at_builtin;refine Lib.wpList_append_run _ rfl _ _ _ _ rfl _ _ rfl rfl _ _ happ ?_;refine Gn.out ?_)
   refine⟨?_⟩;clear happ;go_wp2;go_roundw
   case rel=>exact⟨k+1,bad9,by omega,by go_num,HB9,HLT9,⟨by rw[HTk.out];exact HO9.out⟩,HV9⟩
   case measure=>simp[intOf];omega
  .obtain rfl:k=n:=by omega
   have hkn':¬(k:Int)<k:=by omega
   have htk:xs.take k=xs:=List.take_of_length_le (by rw[<-HLn.out];exact Aw _);rw[htk]at HO
   obtain⟨q,d,rfl,hp⟩:=HO.out.plist (e:=2) (fun N hN=>eI (H6.out N hN));have HP:Aa (Aq wr 2 q k d xs):=⟨by have e:=HLn.out;rw[<-e]at hp;exact hp⟩
   have e9:xs.length=k:=HLn.out.symm;rw[e9];clear htk hp e9;go_wp2;go_ret;exact⟨q,d,rfl,HP.out,HB.out⟩
theorem lB (i:Nat)(hi:i<3):Bl (gQ i):=by
 rcases eQ i hi with h|⟨h1,s,hs,h2⟩
 .exact h.prime
 .rw[<-h2];exact Lh _ [] (fun x hx=>by cases hx) h1 s hs
theorem kT (A:Int):((IntKind.u64.wrap A)%3).toNat<3:=by
 have h1:=Int.emod_nonneg (IntKind.u64.wrap A) (show (3:Int)≠0 by decide);have h2:=Int.emod_lt_of_pos (IntKind.u64.wrap A) (show (0:Int)<3 by decide);omega
theorem kW {w:World}{i:Nat}{x y z:Option Addr×Nat×Nat}{pc:Option Addr}{nc cc:Nat}(hi:i<3)(hr:Tabs w)(hx:Cw w x (gP i))(hy:Cw w y (gQ i))(hz:Cw w z (gG i))(hc:Ep w 3 pc nc cc (Eo i)) :
  Calls Tryz.prog 62 #[.agg #[.slice x.1 x.2.1 x.2.2,.slice y.1 y.2.1 y.2.2,.slice z.1 z.2.1 z.2.2,.slice none 0 0],.slice pc nc cc] w fun e w'=>
   ∃b,e=.returned (.tuple #[.pointer (some ⟨b,0,none⟩),.int .i64 0])/\Au w' b (gP i) (gQ i) (gG i) (gH i)/\Below w.heap.size w w':=by
 obtain⟨l1,l2,l3⟩:=pM i hi;refine(kX (e:=3) (seed:=[]) hr hx l1 hy l2 hz l3 (Zf w) hc (by rw[hc.len];exact dJ i hi) (dK i hi) (by decide)).mono ?_;rintro en w' ⟨_,h0,_,hbl⟩;rw[fY i hi]at h0
 obtain⟨b,rfl,hg⟩:=h0 (by decide) rfl;exact⟨b,rfl,hg,hbl⟩
theorem Mk (w:World)(A:Int)(hr:Tabs w) :
  Calls Tryz.prog 14 #[.int .i64 A,.slice none 0 0] w fun e w'=>∃b,e=.returned (.pointer (some ⟨b,0,none⟩))/\Au w' b (gP ((IntKind.u64.wrap A)%3).toNat) (gQ ((IntKind.u64.wrap A)%3).toNat) (gG ((IntKind.u64.wrap A)%3).toNat) (gH ((IntKind.u64.wrap A)%3).toNat)/\Below w.heap.size w w':=by
 have HR:=Ab hr;have hi:=kT A;obtain⟨i,ei⟩:∃i,((IntKind.u64.wrap A)%3).toNat=i:=⟨_,rfl⟩
 have HN:=Ab (Tr w A none 0 0);rw[ei]at hi HN ⊢
 have HI:=Ab hi;clear hr hi ei;go_enter Tryz.func14,Tryz.ntmps14
 go_wp2_with fail
 refine HN.out.mono ?_;rintro en w1 ⟨x,y,z,pc,nc,cc,rfl,h1,h2,h3,h4,b1⟩;have HH:=Ab (kW HI.out (HR.out.below b1 HR.out.size) h1 h2 h3 h4);have B1:=Ab b1;clear h1 h2 h3 h4 b1 HN
 go_wp2_with fail
 refine HH.out.mono ?_;rintro en w2 ⟨b,rfl,hg,b2⟩;have HG:=Ab hg;have B2:=Ab (Af B1.out b2);clear hg b2 HH B1;go_wp2;go_ret;exact⟨b,rfl,HG.out,B2.out⟩
end Go.Proofs.YtokhckjemidbpaaGreatDoor
