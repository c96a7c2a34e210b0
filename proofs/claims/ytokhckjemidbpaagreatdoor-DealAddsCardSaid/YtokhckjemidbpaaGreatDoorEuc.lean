/- Euclid's steps in the program; the inverse in a ring. -/
import Derived.Test.YtokhckjemidbpaaGreatDoorCertK
import Derived.Test.YtokhckjemidbpaaGreatDoorWeqM
import Derived.Deep.LoopGhost
set_option maxRecDepth 1000000
set_option maxHeartbeats 16000000
set_option linter.all false
namespace Go.Proofs.YtokhckjemidbpaaGreatDoor
open Go Go.RowKit Go.Proofs.YtokhckjemidbpaaGreatDoor.Flow
theorem Bu.set {w:World}{b:Nat}{q:Option Addr}{m d:Nat}{p:Option Addr}{n c N:Nat}(hb:Ae w b (.slice q m d))(hN:Ag w p n c N):Bu (w.setCell ⟨b,0,none⟩ (.slice p n c)) b N :=
 ⟨p,n,c,hb.set _,hN.store hb _⟩
theorem Bu.lt {w:World}{b N:Nat}(h:Bu w b N):b<w.heap.size:=by obtain⟨_,_,_,h1,_⟩:=h;exact h1.lt
structure E1 (w w':World) (a:Option Addr×Nat×Nat) (b3 r M R:Nat) (pm:Option Addr×Nat×Nat) (d6 d7 d8 d9:Bool) (v6 v7:Value):Prop where
 bel:Below w.heap.size w w'
 size:b3+3<=w'.heap.size
 arg:Ae w' b3 (.slice a.1 a.2.1 a.2.2)
 five:Ae w' (b3+1+1) (.slice none 0 0)
 mod:Ag w' pm.1 pm.2.1 pm.2.2 M
 four0:d8=false->Ae w' (b3+1) (.slice none 0 0)
 four1:d8=true->Bu w' (b3+1) M
 six:d6=true->∃x:Option Addr×Nat×Nat,v6=.agg #[.slice x.1 x.2.1 x.2.2]/\Ag w' x.1 x.2.1 x.2.2 R
 o9:d9=true->d7=true
 sev0:d7=true->d9=false->∃b,v7=.pointer (some ⟨b,0,none⟩)/\b3+3<=b/\Ae w' b (.slice none 0 0)
 sev1:d9=true->∃b,v7=.pointer (some ⟨b,0,none⟩)/\b3+3<=b/\Bu w' b R
section
variable {w w':World} {a:Option Addr×Nat×Nat} {b3 r M R:Nat} {pm:Option Addr×Nat×Nat} {d6 d7 d8 d9:Bool} {v6 v7:Value}
theorem E1.later (h:E1 w w' a b3 r M R pm d6 d7 d8 d9 v6 v7){w1:World}(hb:Below w'.heap.size w' w1):E1 w w1 a b3 r M R pm d6 d7 d8 d9 v6 v7 :=
 ⟨Eg h.bel hb,Er h.size hb.size,h.arg.below hb h.arg.lt,h.five.below hb h.five.lt,h.mod.below hb,fun e=>(h.four0 e).below hb (h.four0 e).lt,fun e=>(h.four1 e).below hb,
 fun e=>let ⟨x,k1,k2⟩:=h.six e;⟨x,k1,k2.below hb⟩,h.o9,fun e e'=>let ⟨b,k1,k2,k3⟩:=h.sev0 e e';⟨b,k1,k2,k3.below hb k3.lt⟩,fun e=>let ⟨b,k1,k2,k3⟩:=h.sev1 e;⟨b,k1,k2,k3.below hb⟩⟩
theorem E1.put6 (h:E1 w w' a b3 r M R pm false d7 d8 d9 v6 v7){v:Value}(hv:∃x:Option Addr×Nat×Nat,v=.agg #[.slice x.1 x.2.1 x.2.2]/\Ag w' x.1 x.2.1 x.2.2 R):E1 w w' a b3 r M R pm true d7 d8 d9 v v7 :=
 ⟨h.bel,h.size,h.arg,h.five,h.mod,h.four0,h.four1,fun _=>hv,h.o9,h.sev0,h.sev1⟩
theorem E1.put7 (h:E1 w w' a b3 r M R pm d6 false d8 false v6 v7):E1 w (w'.alloc (.cells #[.slice none 0 0] 37)) a b3 r M R pm d6 true d8 false v6 (.pointer (some ⟨w'.heap.size,0,none⟩)):=by
 have k:=h.later ((Ba _ _).alloc (Aw _) (.cells #[.slice none 0 0] 37));exact⟨k.bel,k.size,k.arg,k.five,k.mod,k.four0,k.four1,k.six,(fun _=>rfl),fun _ _=>⟨_,rfl,h.size,Ae.made w' _⟩,fun e=>by cases e⟩
theorem E1.put8 (h:E1 w w' a b3 r M R pm d6 d7 false d9 v6 v7)(hB:w.heap.size<=b3+1):E1 w (w'.setCell ⟨b3+1,0,none⟩ (.slice pm.1 pm.2.1 pm.2.2)) a b3 r M R pm d6 d7 true d9 v6 v7:=by
 have hb:=h.four0 rfl;refine⟨h.bel.setCell hB _,by simpa using h.size,h.arg.other (by omega) _,h.five.other (by omega) _,h.mod.store hb _,(fun e=>by cases e),fun _=>Bu.set hb h.mod,fun e=>?_,h.o9,fun e e'=>?_,fun e=>?_⟩
 .obtain⟨x,k1,k2⟩:=h.six e;exact⟨x,k1,k2.store hb _⟩
 .obtain⟨b,k1,k2,k3⟩:=h.sev0 e e';exact⟨b,k1,k2,k3.other (by omega) _⟩
 .obtain⟨b,k1,k2,k3⟩:=h.sev1 e;exact⟨b,k1,k2,k3.other hb (by omega) _⟩
theorem E1.put9 (h:E1 w w' a b3 r M R pm d6 true d8 false v6 v7){b:Nat}{x:Option Addr×Nat×Nat}(hv:v7=.pointer (some ⟨b,0,none⟩))(hB:b3+3<=b)(hwB:w.heap.size<=b3)(hbx:Ae w' b (.slice none 0 0))(hx:Ag w' x.1 x.2.1 x.2.2 R) :
  E1 w (w'.setCell ⟨b,0,none⟩ (.slice x.1 x.2.1 x.2.2)) a b3 r M R pm d6 true d8 true v6 v7:=by
 refine⟨h.bel.setCell (show w.heap.size<=b by omega) _,by simpa using h.size,h.arg.other (by omega) _,h.five.other (by omega) _,h.mod.store hbx _,fun e=>(h.four0 e).other (by omega) _,fun e=>(h.four1 e).other hbx (by omega) _,fun e=>?_,(fun _=>rfl),(fun _ e=>by cases e),fun _=>⟨b,hv,hB,Bu.set hbx hx⟩⟩;obtain⟨x',k1,k2⟩:=h.six e;exact⟨x',k1,k2.store hbx _⟩
end
structure E4 (w:World) (b4 b7 b8:Nat) (D R O X:Nat) (wr:World):Prop where
 bel:Below w.heap.size w wr
 four:Bu wr b4 D
 five:Bu wr (b4+1) O
 sev:Bu wr b7 R
 eig:Bu wr b8 X
 low:w.heap.size<=b4
 h7:b4+2<=b7
 h8:b4+2<=b8
 ne:b7≠b8
theorem E4.below {w wr w1:World}{b4 b7 b8 D R O X:Nat}(h:E4 w b4 b7 b8 D R O X wr)(hb:Below wr.heap.size wr w1):E4 w b4 b7 b8 D R O X w1 :=
 ⟨Eg h.bel hb,h.four.below hb,h.five.below hb,h.sev.below hb,h.eig.below hb,h.low,h.h7,h.h8,h.ne⟩
structure E7 (w w':World) (b4 b7 b8 b9 D R O X Q:Nat) (o x q:Option Addr×Nat×Nat) (d4 d5 d6 d7:Bool) (v4 v5:Value):Prop where
 bel:Below w.heap.size w w'
 low:w.heap.size<=b4
 h7:b4+2<=b7
 h8:b4+2<=b8
 h9:b8<b9
 ne:b7≠b8
 ne9:b7≠b9
 four:Bu w' b4 D
 sev:Bu w' b7 R
 ox:Ag w' o.1 o.2.1 o.2.2 O
 xx:Ag w' x.1 x.2.1 x.2.2 X
 qx:Ag w' q.1 q.2.1 q.2.2 Q
 nine:Ae w' b9 (.slice q.1 q.2.1 q.2.2)
 five0:d6=false->Ae w' (b4+1) (.slice o.1 o.2.1 o.2.2)
 five1:d6=true->Bu w' (b4+1) X
 eig0:d7=false->Ae w' b8 (.slice x.1 x.2.1 x.2.2)
 eig1:d7=true->Bu w' b8 (O+Q*X)
 mul:d4=true->∃z:Option Addr×Nat×Nat,v4=.agg #[.slice z.1 z.2.1 z.2.2]/\Ag w' z.1 z.2.1 z.2.2 (Q*X)
 add:d5=true->∃z:Option Addr×Nat×Nat,v5=.agg #[.slice z.1 z.2.1 z.2.2]/\Ag w' z.1 z.2.1 z.2.2 (O+Q*X)
section
variable {w w':World} {b4 b7 b8 b9 D R O X Q:Nat} {o x q:Option Addr×Nat×Nat} {d4 d5 d6 d7:Bool} {v4 v5:Value}
theorem E7.later (h:E7 w w' b4 b7 b8 b9 D R O X Q o x q d4 d5 d6 d7 v4 v5){w1:World}(hb:Below w'.heap.size w' w1):E7 w w1 b4 b7 b8 b9 D R O X Q o x q d4 d5 d6 d7 v4 v5 :=
 ⟨Eg h.bel hb,h.low,h.h7,h.h8,h.h9,h.ne,h.ne9,h.four.below hb,h.sev.below hb,h.ox.below hb,h.xx.below hb,h.qx.below hb,h.nine.below hb h.nine.lt,fun e=>(h.five0 e).below hb (h.five0 e).lt,fun e=>(h.five1 e).below hb,
 fun e=>(h.eig0 e).below hb (h.eig0 e).lt,fun e=>(h.eig1 e).below hb,fun e=>let ⟨z,k1,k2⟩:=h.mul e;⟨z,k1,k2.below hb⟩,fun e=>let ⟨z,k1,k2⟩:=h.add e;⟨z,k1,k2.below hb⟩⟩
theorem E7.put4 (h:E7 w w' b4 b7 b8 b9 D R O X Q o x q false d5 d6 d7 v4 v5){v:Value}(hv:∃z:Option Addr×Nat×Nat,v=.agg #[.slice z.1 z.2.1 z.2.2]/\Ag w' z.1 z.2.1 z.2.2 (Q*X)):E7 w w' b4 b7 b8 b9 D R O X Q o x q true d5 d6 d7 v v5 :=
 ⟨h.bel,h.low,h.h7,h.h8,h.h9,h.ne,h.ne9,h.four,h.sev,h.ox,h.xx,h.qx,h.nine,h.five0,h.five1,h.eig0,h.eig1,fun _=>hv,h.add⟩
theorem E7.put5 (h:E7 w w' b4 b7 b8 b9 D R O X Q o x q d4 false d6 d7 v4 v5){v:Value}(hv:∃z:Option Addr×Nat×Nat,v=.agg #[.slice z.1 z.2.1 z.2.2]/\Ag w' z.1 z.2.1 z.2.2 (O+Q*X)):E7 w w' b4 b7 b8 b9 D R O X Q o x q d4 true d6 d7 v4 v :=
 ⟨h.bel,h.low,h.h7,h.h8,h.h9,h.ne,h.ne9,h.four,h.sev,h.ox,h.xx,h.qx,h.nine,h.five0,h.five1,h.eig0,h.eig1,h.mul,fun _=>hv⟩
theorem E7.put6 (h:E7 w w' b4 b7 b8 b9 D R O X Q o x q d4 d5 false d7 v4 v5):E7 w (w'.setCell ⟨b4+1,0,none⟩ (.slice x.1 x.2.1 x.2.2)) b4 b7 b8 b9 D R O X Q o x q d4 d5 true d7 v4 v5:=by
 have hb:=h.five0 rfl;have l1:=h.low;have l2:=h.h7;have l3:=h.h8;have l4:=h.h9;exact⟨h.bel.setCell (show w.heap.size<=b4+1 by omega) _,l1,l2,l3,l4,h.ne,h.ne9,h.four.other hb (by omega) _,h.sev.other hb (by omega) _,h.ox.store hb _,h.xx.store hb _,h.qx.store hb _,h.nine.other (by omega) _,(fun e=>by cases e),fun _=>Bu.set hb h.xx,
  fun e=>(h.eig0 e).other (by omega) _,fun e=>(h.eig1 e).other hb (by omega) _,fun e=>let ⟨z,k1,k2⟩:=h.mul e;⟨z,k1,k2.store hb _⟩,fun e=>let ⟨z,k1,k2⟩:=h.add e;⟨z,k1,k2.store hb _⟩⟩
theorem E7.put7 (h:E7 w w' b4 b7 b8 b9 D R O X Q o x q d4 d5 d6 false v4 v5){z:Option Addr×Nat×Nat}(hz:Ag w' z.1 z.2.1 z.2.2 (O+Q*X)):E7 w (w'.setCell ⟨b8,0,none⟩ (.slice z.1 z.2.1 z.2.2)) b4 b7 b8 b9 D R O X Q o x q d4 d5 d6 true v4 v5:=by
 have hb:=h.eig0 rfl;have l1:=h.low;have l2:=h.h7;have l3:=h.h8;have l4:=h.h9;have l5:=h.ne;exact⟨h.bel.setCell (show w.heap.size<=b8 by omega) _,l1,l2,l3,l4,h.ne,h.ne9,h.four.other hb (by omega) _,h.sev.other hb (by omega) _,h.ox.store hb _,h.xx.store hb _,h.qx.store hb _,h.nine.other (by omega) _,fun e=>(h.five0 e).other (by omega) _,fun e=>(h.five1 e).other hb (by omega) _,
  (fun e=>by cases e),fun _=>Bu.set hb hz,fun e=>let ⟨z,k1,k2⟩:=h.mul e;⟨z,k1,k2.store hb _⟩,fun e=>let ⟨z,k1,k2⟩:=h.add e;⟨z,k1,k2.store hb _⟩⟩
end
theorem Xh {w:World}{r M f e N:Nat}{v:Value}(hR:Ring w r M f)(h:Fit e N v w)(he:e<=300000) :
  Calls Tryz.prog 111 #[.pointer (some ⟨r,0,none⟩),v] w fun en w'=>∃(x y:Option Addr×Nat×Nat) (D O X:Nat) (neg:Bool),en=.returned (.tuple #[.agg #[.slice x.1 x.2.1 x.2.2],.agg #[.slice y.1 y.2.1 y.2.2],.bool neg]) /\
   Ag w' x.1 x.2.1 x.2.2 D/\Ag w' y.1 y.2.1 y.2.2 O/\Om M N D 0 O X neg/\Below w.heap.size w w':=by
 have hrl:=hR.at_.lt
 obtain⟨pm,nm,cm,hm1,hm2,_⟩:=hR.at_.ex
 obtain⟨pa,na,ca,rfl,h1,h2⟩:=Ao h;have HR:=Ab hR;have HM1:=Ab hm1;have HA:=Ab (Fit.of h1 h2);obtain⟨b3,hb3⟩:∃b,w.heap.size=b:=⟨_,rfl⟩
 have hx0:E1 w (((w.alloc (.cells #[.slice pa na ca] 37)).alloc (.cells #[.slice none 0 0] 37)).alloc (.cells #[.slice none 0 0] 37)) (pa,na,ca) b3 r M (N%M) (pm,nm,cm) false false false false undef undef:=by
  rw[<-hb3];have hbx:=Xz.mk3 w (.slice pa na ca) (.slice none 0 0) (.slice none 0 0);exact⟨hbx.bel,by simp,hbx.b0,hbx.b2,hm2.below hbx.bel,fun _=>hbx.b1,(fun e=>by cases e),(fun e=>by cases e),(fun e=>by cases e),(fun e=>by cases e),(fun e=>by cases e)⟩
 clear hR h hm1 hm2 h1 h2;go_enter Tryz.func111,Tryz.ntmps111;go_wp2;refine Aj (by kernel_rfl) (by kernel_rfl)
  [some (.pointer (some ⟨r,0,none⟩)),some (.pointer (some ⟨r,0,none⟩)),some (.pointer (some ⟨r,0,none⟩)),some (.agg #[.slice pm nm cm]),some (.pointer (some ⟨r,0,none⟩)),some (.agg #[.slice pa na ca]),none,none,none,none]
  [false,false,false,false,false,false,true,true,true,true] rfl
  (fun _ _=>True) (fun D sp w'=>E1 w w' (pa,na,ca) b3 r M (N%M) (pm,nm,cm) (D 6) (D 7) (D 8) (D 9) (sp 6) (sp 7)) (fun _ _ _=>True) (fun _ _ _ _ h _=>h)
  (hx0.later ((Ba _ _).drew)) ?_ ?_
 .simp only[Az,Nat.reduceAdd];refine⟨?_,?_,?_,?_,?_,?_,?_,?_,?_,?_,trivial⟩
  case refine_4=>
   intro D sp w' hD hW hdp hG;have hc:w'.cell? ⟨r,0,none⟩=some (.slice pm nm cm):=Lo (by rw[hG.bel.block r hrl];exact HM1.out);simp[asked,Region.wanted,Oper.gives,execOp,Act.eval,Act.put,go_sem,hc]
  case refine_6=>
   intro D sp w' hD hW hdp hG;have hc:=hG.arg.cell;simp[asked,Region.wanted,Oper.gives,execOp,Act.eval,Act.put,go_sem,hc]
  case refine_7=>
   intro D sp w' hD hW hdp hG;rw[hD]at hG
   (with_reducible refine Ac (w1:=w') (f := 31) (args:=#[.pointer (some ⟨r,0,none⟩),.agg #[.slice pa na ca]]) ?_ ?_ ?_)
   .simp only[Region.wanted]
   .simp[Act.eval,Act.put,go_sem]
   .refine(Cv (HR.out.below (hG.bel.mono (Aw _))) (HA.out.below (hG.bel.mono (Aw _))) (by omega)).mono ?_;rintro en w5 ⟨x,rfl,⟨p,n,c,rfl,hn,_⟩,hb⟩;exact⟨_,rfl,trivial,trivial,by simpa [upd]using(hG.later hb).put6 ⟨(p,n,c),rfl,hn⟩⟩
  case refine_8=>
   intro D sp w' hD hW hdp hG;have d9:D 9=false:=hW 9 (mq (by kernel_rfl));rw[hD,d9]at hG
   (with_reducible refine Ah (w1:=w'.alloc (.cells #[.slice none 0 0] 37)) (v:=.pointer (some ⟨w'.heap.size,0,none⟩)) ?_ ?_ ?_)
   .simp only[Region.wanted]
   .simp[execOp,go_sem]
   .exact⟨trivial,trivial,by simpa [upd,d9]using hG.put7⟩
  case refine_9=>
   intro D sp w' hD hW hdp hG;rw[hD]at hG
   have hc:=(hG.four0 rfl).cell;have hf:=(hG.four0 rfl).free;have hN:=hG.put8 (by omega)
   (with_reducible refine Ap (w1:=w'.setCell ⟨b3+1,0,none⟩ (.slice pm nm cm)) ?_ ?_ ?_)
   .simp only[Region.wanted]
   .simp[execOp,Act.eval,Act.put,go_sem,hc,hf]
   .exact⟨trivial,trivial,by simpa [upd]using hN⟩
  case refine_10=>
   intro D sp w' hD hW hdp hG;have d6:D 6=true:=(hdp 6 (mq (by kernel_rfl))).1;have d7:D 7=true:=(hdp 7 (mq (by kernel_rfl))).1;rw[hD,d7]at hG
   (with_reducible refine Av (hG.sev0 rfl rfl) fun b hb=>Av (hG.six d6) fun x hx3=>?_)
   have h7:=hb.1;have h6:=hx3.1;have hc:=hb.2.2.cell;have hf:=hb.2.2.free;have hN:=hG.put9 (x:=x) h7 hb.2.1 (Nat.le_of_eq hb3) hb.2.2 hx3.2
   (with_reducible refine Ap (w1:=w'.setCell ⟨b,0,none⟩ (.slice x.1 x.2.1 x.2.2)) ?_ ?_ ?_)
   .simp only[Region.wanted]
   .simp[execOp,Act.eval,Act.put,go_sem,h7,h6,hc,hf]
   .exact⟨trivial,trivial,by simpa [upd,d7]using hN⟩
  all_goals
   intro D sp w' hD hW hdp hG;simp[asked,Region.wanted,Oper.gives,execOp,Act.eval,Act.put,go_sem]
 .intro sp w1 hsp hG;simp only[Al,Nat.reduceAdd]
  (with_reducible refine Av (hG.sev1 rfl) fun b7 hb7=>?_)
  have h7:=hb7.1;have hlow7:=hb7.2.1;have hB7:=Ab hb7.2.2;have hB4:=Ab (hG.four1 rfl);have hB5:=Ab hG.five;have hBL:=Ab hG.bel;rw[h7];clear h7 hb7 hsp hG hx0;generalize sp 6=y6
  go_simp
  go_wp2_with fail
  refine(Cd 1 w1 (by omega)).mono ?_;rintro en w2 ⟨q8,m8,d8,rfl,hn8,hb2,_⟩;have bA:Below w2.heap.size w2 (w2.alloc (.cells #[.slice none 0 0] 37)):=Bt;have b2A:=Af hb2 bA;have hb5:=hB5.out.below b2A hB5.out.lt;have c5:=hb5.cell;have f5:=hb5.free;have hlt5:=(hB5.out.below hb2 hB5.out.lt).lt;have hlt7:=(hB7.out.below hb2).lt;have hlt4:=(hB4.out.below hb2).lt;have hb8:=(Ae.made w2 (.slice none 0 0)).other (show w2.heap.size≠b3+1+1 by omega) (.slice none 0 0);have c8:=hb8.cell;have f8:=hb8.free;have hn5:=(hn8.below bA).store hb5 (.slice none 0 0);have e5:Bu ((w2.alloc (.cells #[.slice none 0 0] 37)).setCell ⟨b3+1+1,0,none⟩ (.slice none 0 0)) (b3+1+1) 0:=Bu.set hb5 (Ag.nil _);have hE:Aa (E4 w (b3+1) b7 w2.heap.size M (N%M) 0 1 (((w2.alloc (.cells #[.slice none 0 0] 37)).setCell ⟨b3+1+1,0,none⟩ (.slice none 0 0)).setCell ⟨w2.heap.size,0,none⟩ (.slice q8 m8 d8))) :=
   ⟨⟨((Eg hBL.out b2A).setCell (show w.heap.size<=b3+1+1 by omega) _).setCell (show w.heap.size<=w2.heap.size by have:=(Eg hBL.out hb2).size;omega) _,
    ((hB4.out.below b2A).other hb5 (by omega) _).other hb8 (by omega) _,e5.other hb8 (by omega) _,((hB7.out.below b2A).other hb5 (by omega) _).other hb8 (by omega) _,Bu.set hb8 hn5,by omega,by omega,by omega,by omega⟩⟩
  clear hb5 hb8 hn5 e5 bA b2A hn8 hb2 hlt5 hlt7 hlt4 hB4 hB5 hB7 hBL;go_wp2;generalize (((w2.alloc (.cells #[.slice none 0 0] 37)).setCell ⟨b3+1+1,0,none⟩ (.slice none 0 0)).setCell ⟨w2.heap.size,0,none⟩ (.slice q8 m8 d8))=wl at *;generalize w2.heap.size=b8 at *;clear c5 f5 c8 f8;have HM2:Aa (2<=M/\M<An f/\f<=10000):=⟨⟨HR.out.two,HR.out.lim,HR.out.few⟩⟩
  go_loopg [6] (N%M) (fun k nv wr=>∃(D O X:Nat) (neg:Bool),nv=.bool neg/\Aa (E4 w (b3+1) b7 b8 D k O X wr)/\Aa (Om M N D k O X neg))
  case atStart=>exact⟨M,0,1,true,rfl,hE,⟨Om.start (by have:=HM2.out.1;omega)⟩⟩
  case round=>
   clear hE;obtain⟨D,O,X,neg,rfl,HE,HS⟩:=hrel;obtain⟨p7,n7,c7,g71,g72⟩:=HE.out.sev;have cc7:=g71.cell;have hz7:decide (n7=0)=decide (gk=0):=decide_eq_decide.2 g72.zero;have HZ7:=Ab hz7;have H71:=Ab g71;have H72:=Ab g72;clear g71 g72 hz7
   go_wp2_with fail
   clear cc7;refine(Dp wr p7 n7 c7).mono ?_;rintro en w3 ⟨rfl,hb3'⟩;rw[HZ7.out];have HE3:=Ab (HE.out.below hb3');rcases Nat.eq_zero_or_pos gk with h0|h0
   .rw[decide_eq_true h0];subst h0;obtain⟨p4,n4,c4,g41,g42⟩:=HE3.out.four;obtain⟨p5,n5,c5,g51,g52⟩:=HE3.out.five;have i4c:=g41.cell;have i4f:=g41.free;have i5c:=g51.cell;have i5f:=g51.free;have ne1:b3+1≠b3+1+1:=by omega
    have x4:=g41.set (.slice p4 n4 c4);have x5:=g51.other (Ne.symm ne1) (.slice p4 n4 c4);have z4:Ae ((w3.setCell ⟨b3+1,0,none⟩ (.slice p4 n4 c4)).setCell ⟨b3+1+1,0,none⟩ (.slice p5 n5 c5)).drew (b3+1) (.slice p4 n4 c4):=x4.other ne1 _;have z5:Ae ((w3.setCell ⟨b3+1,0,none⟩ (.slice p4 n4 c4)).setCell ⟨b3+1+1,0,none⟩ (.slice p5 n5 c5)).drew (b3+1+1) (.slice p5 n5 c5):=x5.set _;have st:∀ {p n c N},Ag w3 p n c N->Ag ((w3.setCell ⟨b3+1,0,none⟩ (.slice p4 n4 c4)).setCell ⟨b3+1+1,0,none⟩ (.slice p5 n5 c5)).drew p n c N:=fun h=>((h.store g41 _).store x5 _).below (Ba _ _).drew
    have llow:=HE3.out.low;have HN4:=Ab (st g42);have HN5:=Ab (st g52);have HBf:Aa (Below w.heap.size w ((w3.setCell ⟨b3+1,0,none⟩ (.slice p4 n4 c4)).setCell ⟨b3+1+1,0,none⟩ (.slice p5 n5 c5)).drew):=⟨((HE3.out.bel.setCell (show w.heap.size<=b3+1 by omega) _).setCell (show w.heap.size<=b3+1+1 by omega) _).drew⟩
    have k4:=z4.cell;have k5:=z5.cell;obtain⟨wf,hwf⟩:∃W,((w3.setCell ⟨b3+1,0,none⟩ (.slice p4 n4 c4)).setCell ⟨b3+1+1,0,none⟩ (.slice p5 n5 c5)).drew=W:=⟨_,rfl⟩
    rw[hwf]at HN4 HN5 HBf k4 k5
    have HW:=Ab hwf;clear hwf g41 g42 g51 g52 x4 x5 z4 z5 st llow hb3' HE HE3 H71 H72 HZ7;go_wp2
    go_region
    rw[HW.out];clear HW i4c i4f i5c i5f;go_wp2;refine bodyPost_ret (v:=.tuple #[.agg #[.slice p4 n4 c4],.agg #[.slice p5 n5 c5],.bool neg]) (by simp[results,Tryz.results111,go_sem,k4,k5]) rfl ⟨(p4,n4,c4),(p5,n5,c5),D,O,X,neg,rfl,HN4.out,HN5.out,HS.out,HBf.out⟩
   .rw[decide_eq_false (by omega)];have HP:=Ab h0;have HS2:=Ab (HS.out.step h0);have K71:=Ab (H71.out.below hb3' H71.out.lt);have K72:=Ab (H72.out.below hb3');obtain⟨p4,n4,c4,g41,g42⟩:=HE3.out.four;have cc4:=g41.cell;have cc7:=K71.out.cell;have H41:=Ab g41;have H42:=Ab g42;have HMl:Aa (D<An f/\gk<An f):=⟨⟨Nat.lt_of_le_of_lt HS.out.dle HM2.out.2.1,Nat.lt_of_le_of_lt HS.out.rle HM2.out.2.1⟩⟩
    clear h0 hb3' g41 g42 H71 H72 HE HZ7
    go_wp2_with fail
    clear cc4 cc7;refine(Su (Fit.of H42.out HMl.out.1) (Fit.of K72.out HMl.out.2) (by have:=HP.out;omega) (by have:=HM2.out.2.2;omega) (by have:=HM2.out.2.2;omega)).mono ?_;rintro en w5 ⟨_,rfl,⟨qp,qn,qc,rp,rn,rc,rfl,hq,hr⟩,hb5⟩;have HE5:=Ab (HE3.out.below hb5);obtain⟨p5,n5,c5,g51,g52⟩:=HE5.out.five;obtain⟨p8,n8,c8,g81,g82⟩:=HE5.out.eig;have k41:=H41.out.below hb5 H41.out.lt;have k71:=K71.out.below hb5 K71.out.lt;have k72:=K72.out.below hb5;have bA:Below w5.heap.size w5 ((w5.alloc (.cells #[.slice qp qn qc] 37)).alloc (.cells #[.slice rp rn rc] 37)):=Af ((Ba _ _).alloc (Aw _) _) ((Ba _ _).alloc (Aw _) _);have hs1:(w5.alloc (.cells #[.slice qp qn qc] 37)).heap.size=w5.heap.size+1:=by simp
    have m9:=(Ae.made w5 (.slice qp qn qc)).below (w':=(w5.alloc (.cells #[.slice qp qn qc] 37)).alloc (.cells #[.slice rp rn rc] 37)) ((Ba _ _).alloc (Aw _) _) (by simp);have m10:=Ae.made (w5.alloc (.cells #[.slice qp qn qc] 37)) (.slice rp rn rc);rw[hs1]at m10
    obtain⟨w6,hw6⟩:∃W,(w5.alloc (.cells #[.slice qp qn qc] 37)).alloc (.cells #[.slice rp rn rc] 37)=W:=⟨_,rfl⟩
    rw[hw6]at bA m9 m10
    have HW6:=Ab hw6;have l7:=HE5.out.h7;have l8:=HE5.out.h8;have lne:=HE5.out.ne;have llow:=HE5.out.low;have s4:=k41.lt;have s7:=k71.lt;have s8:=g81.lt;have s5:=g51.lt;have j41:=k41.below bA s4;have j71:=k71.below bA s7;have i4c:=j41.cell;have i4f:=j41.free;have i7c:=j71.cell;have i7f:=j71.free;have i10c:=m10.cell;have ne1:b3+1≠b7:=by omega
    have ne2:b3+1≠w5.heap.size+1:=by omega
    have ne3:b7≠w5.heap.size+1:=by omega
    have x4:=j41.set (.slice p7 n7 c7);have x7:=j71.other (Ne.symm ne1) (.slice p7 n7 c7);have st:∀ {p n c N},Ag w6 p n c N->Ag ((w6.setCell ⟨b3+1,0,none⟩ (.slice p7 n7 c7)).setCell ⟨b7,0,none⟩ (.slice rp rn rc)).drew p n c N:=fun h=>((h.store j41 _).store x7 _).below (Ba _ _).drew
    have bt:∀ {b u},Ae w6 b u->b≠b3+1->b≠b7->Ae ((w6.setCell ⟨b3+1,0,none⟩ (.slice p7 n7 c7)).setCell ⟨b7,0,none⟩ (.slice rp rn rc)).drew b u:=fun h h1 h2=>((h.other h1 _).other h2 _)
    have HE7:Aa (E7 w ((w6.setCell ⟨b3+1,0,none⟩ (.slice p7 n7 c7)).setCell ⟨b7,0,none⟩ (.slice rp rn rc)).drew (b3+1) b7 b8 w5.heap.size gk (D%gk) O X (D/gk) (p5,n5,c5) (p8,n8,c8) (qp,qn,qc) false false false false undef undef) :=
     ⟨⟨(((Af HE5.out.bel bA).setCell (show w.heap.size<=b3+1 by omega) _).setCell (show w.heap.size<=b7 by omega) _).drew,by omega,by omega,by omega,by omega,lne,by omega,
      ⟨p7,n7,c7,x4.other ne1 _,st (k72.below bA)⟩,⟨rp,rn,rc,x7.set _,st (hr.below bA)⟩,st (g52.below bA),st (g82.below bA),st (hq.below bA),bt m9 (by omega) (by omega),
      fun _=>bt (g51.below bA s5) (by omega) (by omega),(fun e=>by cases e),fun _=>bt (g81.below bA s8) (by omega) (Ne.symm lne),(fun e=>by cases e),(fun e=>by cases e),(fun e=>by cases e)⟩⟩
    clear HE3 HE5 g51 g52 g81 g82 k41 k71 k72 bA hs1 m9 m10 hw6 l7 l8 lne llow s4 s7 s8 s5 j41 j71 x4 x7 st bt hq hr hb5 H41 H42 K71 K72;go_wp2;rw[HW6.out];clear HW6
    go_region
    clear i4c i4f i7c i7f i10c;obtain⟨w7,hw7⟩:∃W,((w6.setCell ⟨b3+1,0,none⟩ (.slice p7 n7 c7)).setCell ⟨b7,0,none⟩ (.slice rp rn rc)).drew=W:=⟨_,rfl⟩
    rw[hw7]at HE7 ⊢
    clear hw7;go_wp2;have HL:Aa (D/gk<An f/\X<An f/\O<An f/\f<=10000):=⟨⟨Nat.lt_of_le_of_lt (Nat.div_le_self _ _) HMl.out.1,Nat.lt_of_le_of_lt HS.out.next_le HM2.out.2.1,Nat.lt_of_le_of_lt HS.out.le HM2.out.2.1,HM2.out.2.2⟩⟩
    obtain⟨b9,hb9⟩:∃b,w5.heap.size=b:=⟨_,rfl⟩
    rw[hb9]at HE7 ⊢
    clear hb9;refine Aj (by kernel_rfl) (by kernel_rfl)
     [some (.agg #[.slice p8 n8 c8]),some (.agg #[.slice p5 n5 c5]),some (.agg #[.slice qp qn qc]),some (.agg #[.slice p8 n8 c8]),none,none,none,none]
     [false,false,false,false,true,true,true,true] rfl
     (fun _ _=>True) (fun D' sp w'=>E7 w w' (b3+1) b7 b8 b9 gk (D%gk) O X (D/gk) (p5,n5,c5) (p8,n8,c8) (qp,qn,qc) (D' 4) (D' 5) (D' 6) (D' 7) (sp 4) (sp 5)) (fun _ _ _=>True) (fun _ _ _ _ h _=>h)
     (HE7.out.later ((Ba _ _).drew)) ?_ ?_
    .simp only[Az,Nat.reduceAdd];refine⟨?_,?_,?_,?_,?_,?_,?_,?_,trivial⟩
     case refine_5=>
      intro D' sp w' hD hW hdp hG;rw[hD]at hG
      (with_reducible refine Ac (w1:=w') (f := 95) (args:=#[.agg #[.slice qp qn qc],.agg #[.slice p8 n8 c8]]) ?_ ?_ ?_)
      .simp only[Region.wanted]
      .simp[Act.eval,Act.put,go_sem]
      .refine(Lt (Fit.of hG.qx HL.out.1) (Fit.of hG.xx HL.out.2.1) (by have:=HL.out.2.2.2;omega) (by have:=HL.out.2.2.2;omega)).mono ?_;rintro en w5 ⟨_,rfl,⟨zp,zn,zc,rfl,hz,_⟩,hb⟩;exact⟨_,rfl,trivial,trivial,by simpa [upd]using(hG.later hb).put4 ⟨(zp,zn,zc),rfl,hz⟩⟩
     case refine_6=>
      intro D' sp w' hD hW hdp hG;have d4:D' 4=true:=(hdp 4 (mq (by kernel_rfl))).1;rw[hD]at hG
      (with_reducible refine Av (hG.mul d4) fun z hz=>?_)
      have hz1:=hz.1
      (with_reducible refine Ac (w1:=w') (f := 94) (args:=#[.agg #[.slice p5 n5 c5],.agg #[.slice z.1 z.2.1 z.2.2]]) ?_ ?_ ?_)
      .simp only[Region.wanted]
      .simp[Act.eval,Act.put,go_sem,hz1]
      .have hlim:D/gk*X<An (f+f):=by rw[Rk];exact Nat.mul_lt_mul_of_lt_of_lt HL.out.1 HL.out.2.1
       refine(Ma (Fit.of hG.ox HL.out.2.2.1) (Fit.of hz.2 hlim) (by have:=HL.out.2.2.2;omega) (by have:=HL.out.2.2.2;omega)).mono ?_;rintro en w5 ⟨_,rfl,⟨zp,zn,zc,rfl,hz,_⟩,hb⟩;exact⟨_,rfl,trivial,trivial,by simpa [upd]using(hG.later hb).put5 ⟨(zp,zn,zc),rfl,hz⟩⟩
     case refine_7=>
      intro D' sp w' hD hW hdp hG;rw[hD]at hG
      have hc:=(hG.five0 rfl).cell;have hf:=(hG.five0 rfl).free;have hN:=hG.put6
      (with_reducible refine Ap (w1:=w'.setCell ⟨b3+1+1,0,none⟩ (.slice p8 n8 c8)) ?_ ?_ ?_)
      .simp only[Region.wanted]
      .simp[execOp,Act.eval,Act.put,go_sem,hc,hf]
      .exact⟨trivial,trivial,by simpa [upd]using hN⟩
     case refine_8=>
      intro D' sp w' hD hW hdp hG;have d5:D' 5=true:=(hdp 5 (mq (by kernel_rfl))).1;rw[hD]at hG
      (with_reducible refine Av (hG.add d5) fun z hz=>?_)
      have hz1:=hz.1;have hc:=(hG.eig0 rfl).cell;have hf:=(hG.eig0 rfl).free;have hN:=hG.put7 hz.2
      (with_reducible refine Ap (w1:=w'.setCell ⟨b8,0,none⟩ (.slice z.1 z.2.1 z.2.2)) ?_ ?_ ?_)
      .simp only[Region.wanted]
      .simp[execOp,Act.eval,Act.put,go_sem,hc,hf,hz1]
      .exact⟨trivial,trivial,by simpa [upd]using hN⟩
     case refine_2=>
      intro D' sp w' hD hW hdp hG;have d6:D' 6=false:=hW 6 (mq (by kernel_rfl));have hc:=(hG.five0 d6).cell;simp[asked,Region.wanted,Oper.gives,execOp,Act.eval,Act.put,go_sem,hc]
     case refine_3=>
      intro D' sp w' hD hW hdp hG;have hc:=hG.nine.cell;simp[asked,Region.wanted,Oper.gives,execOp,Act.eval,Act.put,go_sem,hc]
     all_goals
      intro D' sp w' hD hW hdp hG;have d7:D' 7=false:=hW 7 (mq (by kernel_rfl));have hc:=(hG.eig0 d7).cell;simp[asked,Region.wanted,Oper.gives,execOp,Act.eval,Act.put,go_sem,hc]
    .intro sp w8 hsp hG;simp only[Al,Nat.reduceAdd];have HEn:Aa (E4 w (b3+1) b7 b8 gk (D%gk) X (O+D/gk*X) w8):=⟨⟨hG.bel,hG.four,hG.five1 rfl,hG.sev,hG.eig1 rfl,hG.low,hG.h7,hG.h8,hG.ne⟩⟩
     clear hsp hG HE7;generalize sp 4=y4;generalize sp 5=y5;generalize sp 6=y6';generalize sp 7=y7
     go_simp
     go_wp2
     go_roundg (D%gk)
     case measure=>exact Nat.mod_lt _ HP.out
     case rel=>exact⟨gk,X,O+D/gk*X,!neg,rfl,HEn,HS2⟩
def mL (N:Nat)(v:Value)(w:World):Prop:=∃x:Option Addr×Nat×Nat,v=.agg #[.slice x.1 x.2.1 x.2.2]/\Ag w x.1 x.2.1 x.2.2 N
theorem mL.below {N:Nat}{v:Value}{w w':World}(h:mL N v w)(hb:Below w.heap.size w w'):mL N v w':=let ⟨x,h1,h2⟩:=h;⟨x,h1,h2.below hb⟩
def mR (M N f:Nat)(w:World)(en:Ending)(w':World):Prop :=
 ∃(x:Value) (X:Nat),en=.returned (.tuple #[x,.int .i64 (if Nat.gcd M N=1 then 0 else 6)])/\Fit f X x w'/\Jc M N X/\Below w.heap.size w w'
theorem oA {w:World}{r M f e N:Nat}{v:Value}(hR:Ring w r M f)(h:Fit e N v w)(he:e<=300000) :
  Calls Tryz.prog 54 #[.pointer (some ⟨r,0,none⟩),v] w (mR M N f w):=by
 have hrl:=hR.at_.lt
 obtain⟨pa,na,ca,rfl,h1,h2⟩:=Ao h;have hbx:=bH.mk2 w (.slice pa na ca) (.slice none 0 0);have HR:=Ab (hR.below hbx.bel);have HA:=Ab (Fit.of (h1.below hbx.bel) h2);have HBX:=Ab hbx;have c0:=hbx.b0.cell;clear hR h h1 h2 hbx;go_enter Tryz.func54,Tryz.ntmps54
 go_wp2_with fail
 refine(Xh HR.out HA.out (by omega)).mono ?_;rintro en w1 ⟨x,y,D,O,X,neg,rfl,hx,hy,hS,hb1⟩;have HS:=Ab hS;have bA:Below w1.heap.size w1 ((w1.alloc (.cells #[.slice x.1 x.2.1 x.2.2] 37)).alloc (.cells #[.slice y.1 y.2.1 y.2.2] 37)):=Af ((Ba _ _).alloc (Aw _) _) ((Ba _ _).alloc (Aw _) _);have hs1:(w1.alloc (.cells #[.slice x.1 x.2.1 x.2.2] 37)).heap.size=w1.heap.size+1:=by simp
 have m6:=(Ae.made w1 (.slice x.1 x.2.1 x.2.2)).below (w':=(w1.alloc (.cells #[.slice x.1 x.2.1 x.2.2] 37)).alloc (.cells #[.slice y.1 y.2.1 y.2.2] 37)) ((Ba _ _).alloc (Aw _) _) (by simp);have m7:=Ae.made (w1.alloc (.cells #[.slice x.1 x.2.1 x.2.2] 37)) (.slice y.1 y.2.1 y.2.2);rw[hs1]at m7
 obtain⟨w2,hw2⟩:∃W,(w1.alloc (.cells #[.slice x.1 x.2.1 x.2.2] 37)).alloc (.cells #[.slice y.1 y.2.1 y.2.2] 37)=W:=⟨_,rfl⟩
 rw[hw2]at bA m6 m7
 have HW2:=Ab hw2;have M6:=Ab m6;have M7:=Ab m7;have HX:=Ab (hx.below bA);have HY:=Ab (hy.below bA);have HNB:=Ab (HBX.out.later (Af hb1 bA));have HR2:=Ab (HR.out.below (Af hb1 bA));have HM2:Aa (2<=M/\M<An f/\f<=10000):=⟨⟨HR.out.two,HR.out.lim,HR.out.few⟩⟩
 clear bA hs1 m6 m7 hw2 hx hy hS hb1 HBX HR HA c0;go_wp2;rw[HW2.out];clear HW2;obtain⟨b6,hb6⟩:∃b,w1.heap.size=b:=⟨_,rfl⟩
 rw[hb6]at M6 M7
 simp only[hb6];clear hb6;refine Aj (by kernel_rfl) (by kernel_rfl)
  [some (.agg #[.slice x.1 x.2.1 x.2.2]),none,none,some (.bool (!decide (D=1))),some (.bool (!decide (D=1)))]
  [false,true,true,false,false] rfl
  (fun w1 w2=>Below w1.heap.size w1 w2) (fun D sp w'=>Below w2.heap.size w2 w') (fun i v w'=>match i with|1=>mL 1 v w'|2=>v=.int .i64 (Bm D 1)|_=>True)
  (fun i v w1 w2 h hb=>by
   split at h
   .exact mL.below h hb
   .exact h
   .trivial)
  ((Ba _ _).drew) ?_ ?_
 .simp only[Az,Nat.reduceAdd];refine⟨?_,?_,?_,?_,?_,trivial⟩
  case refine_1=>
   intro D' sp w' hD hW hdp hG;have hc:=(M6.out.below hG M6.out.lt).cell;simp[asked,Region.wanted,Oper.gives,execOp,Act.eval,go_sem,hc]
  case refine_2=>
   intro D' sp w' hD hW hdp hG
   (with_reducible refine Ac (w1:=w') (f := 17) (args:=#[.int .u64 1]) ?_ ?_ ?_)
   .simp only[Region.wanted]
   .simp[Act.eval,Act.put,go_sem]
   .refine(Cd 1 w' (by omega)).mono ?_;rintro en w5 ⟨p,n,c,rfl,hn,hb,_⟩;exact⟨_,rfl,hb,⟨(p,n,c),rfl,hn⟩,Af hG hb⟩
  case refine_3=>
   intro D' sp w' hD hW hdp hG;have hf:∃x:Option Addr×Nat×Nat,sp 1=.agg #[.slice x.1 x.2.1 x.2.2]/\Ag w' x.1 x.2.1 x.2.2 1:=(hdp 1 (mq (by kernel_rfl))).2
   (with_reducible refine Av hf fun z hz=>?_)
   have hz1:=hz.1
   (with_reducible refine Ac (w1:=w') (f := 24) (args:=#[.agg #[.slice x.1 x.2.1 x.2.2],.agg #[.slice z.1 z.2.1 z.2.2]]) ?_ ?_ ?_)
   .simp only[Region.wanted]
   .simp[Act.eval,Act.put,go_sem,hz1]
   .refine(Hs (e:=f) (f:=1) (Fit.of (HX.out.below hG) (Nat.lt_of_le_of_lt HS.out.dle HM2.out.2.1)) (Fit.of hz.2 (by decide)) (by have:=HM2.out.2.2;omega) (by omega)).mono ?_;rintro en w5 ⟨_,rfl,rfl,hb⟩;exact⟨_,rfl,hb,rfl,Af hG hb⟩
  case refine_4=>
   intro D' sp w' hD hW hdp hG;have hv:sp 2=.int .i64 (Bm D 1):=(hdp 2 (mq (by kernel_rfl))).2;have hz:(Bm D 1 != 0) = !decide (D=1):=by
    by_cases h1:D=1
    .rw[h1,Bv.2 rfl];rfl
    .have h2:Bm D 1≠0:=fun h0=>h1 (Bv.1 h0)
     rw[decide_eq_false h1,bne_iff_ne.2 h2];rfl
   simp[asked,Region.wanted,Oper.gives,execOp,Act.eval,Act.put,go_sem,hv,hz]
  all_goals
   intro D' sp w' hD hW hdp hG;simp[asked,Region.wanted,Oper.gives,execOp,Act.eval,Act.put,go_sem]
 .intro sp w3 hsp hG;simp only[Al,Nat.reduceAdd];have HNB3:=Ab (HNB.out.later hG);have k7:=M7.out.below hG M7.out.lt;have HY3:=Ab (HY.out.below hG);have HR3:=Ab (HR2.out.below hG);clear hsp hG M6 M7 HX HY HNB HR2;generalize sp 1=y1;generalize sp 2=y2
  go_simp
  have hdone:=HS.out.done HM2.out.1;have c4:=HNB3.out.b1.cell;have f4:=HNB3.out.b1.free;have c7:=k7.cell;have f0:w.heap.size<=w.heap.size+1:=by omega
  have HBL:=Ab HNB3.out.bel;clear k7
  by_cases hD1:D=1
  .have HI:Aa _:=⟨hdone.2 hD1⟩
   have HG1:Aa (Nat.gcd M N=1):=⟨by rw[<-hdone.1];exact hD1⟩
   rw[decide_eq_true hD1];clear hdone
   cases neg with
   | true=>
    go_wp2_with fail
    refine(Qe HR3.out (Fit.of HY3.out (Nat.lt_of_le_of_lt HS.out.le HM2.out.2.1)) HS.out.le (by have:=HM2.out.2.2;omega)).mono ?_;rintro en w4 ⟨_,rfl,⟨zp,zn,zc,rfl,hz,hzl⟩,hb4⟩;have g4:=HNB3.out.b1.below hb4 HNB3.out.b1.lt;have c4':=g4.cell;have f4':=g4.free;have k4:=(g4.set (.slice zp zn zc)).cell;have HZ:=Ab (Fit.of (hz.store g4 (.slice zp zn zc)) hzl);have HBf:Aa (Below w.heap.size w (w4.setCell ⟨w.heap.size+1,0,none⟩ (.slice zp zn zc))):=⟨(Af HBL.out hb4).setCell f0 _⟩
    clear hz hzl hb4 g4 c4 f4 c7;go_wp2;refine bodyPost_ret (v:=.tuple #[.agg #[.slice zp zn zc],.int .i64 0]) (by simp[results,Tryz.results54,go_sem,k4]) rfl ⟨_,_,by rw[if_pos HG1.out],HZ.out,HI.out,HBf.out⟩
   | false=>
    have k4:=(HNB3.out.b1.set (.slice y.1 y.2.1 y.2.2)).cell;have HZ:=Ab (Fit.of (HY3.out.store HNB3.out.b1 (.slice y.1 y.2.1 y.2.2)) (Nat.lt_of_le_of_lt HS.out.le HM2.out.2.1));have HBf:Aa (Below w.heap.size w (w3.setCell ⟨w.heap.size+1,0,none⟩ (.slice y.1 y.2.1 y.2.2))):=⟨HBL.out.setCell f0 _⟩
    go_wp2;refine bodyPost_ret (v:=.tuple #[.agg #[.slice y.1 y.2.1 y.2.2],.int .i64 0]) (by simp[results,Tryz.results54,go_sem,k4]) rfl ⟨_,_,by rw[if_pos HG1.out],HZ.out,by have:=HI.out;rwa [if_neg (by simp)]at this,HBf.out⟩
  .have HG1:Aa (Nat.gcd M N≠1):=⟨by rw[<-hdone.1];exact hD1⟩
   rw[decide_eq_false hD1];have k4:=(HNB3.out.b1.set (.slice none 0 0)).cell;have HBf:Aa (Below w.heap.size w (w3.setCell ⟨w.heap.size+1,0,none⟩ (.slice none 0 0))):=⟨HBL.out.setCell f0 _⟩
   clear hdone hD1;go_wp2;refine bodyPost_ret (v:=.tuple #[.agg #[.slice none 0 0],.int .i64 6]) (by simp[results,Tryz.results54,go_sem,k4]) rfl ⟨_,0,by rw[if_neg HG1.out],Fit.of (Ag.nil _) (Fo _),⟨fun hg=>absurd hg HG1.out,fun _=>rfl⟩,HBf.out⟩
end Go.Proofs.YtokhckjemidbpaaGreatDoor
