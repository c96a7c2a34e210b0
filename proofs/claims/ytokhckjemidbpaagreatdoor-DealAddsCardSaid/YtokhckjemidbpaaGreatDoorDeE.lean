/- Those pieces that count (deal.thoseThatCount and the function it hands on). -/
import Derived.Test.YtokhckjemidbpaaGreatDoorDeB
set_option maxRecDepth 1000000
set_option maxHeartbeats 16000000
set_option linter.all false
namespace Go.Proofs.YtokhckjemidbpaaGreatDoor
open Go Go.RowKit Go.Proofs.YtokhckjemidbpaaGreatDoor.Flow
theorem Vp {w:World}{b P Q GG HH e n c:Nat}{p:Option Addr}{Cs:List Nat}(hg:Au w b P Q GG HH)(h:Aq w e p n c Cs)(he:e<=200)(hn:1<=n/\n<=64)(hm:Cs.all (Qw P Q)=true) :
  Calls Tryz.prog 105 #[.pointer (some ⟨b,0,none⟩),.int .i64 (n:Nat),.slice p n c] w fun en w'=>en=.returned (.bool true)/\Below w.heap.size w w':=by
 have HG:=Ab hg;have HC:=Ab h;have HM:=Ab hm;have HJ:Aa (decide (1<=(n:Int)/\(n:Int)<=64)=true):=⟨decide_eq_true (by omega)⟩
 have he2:e<=30000:=by omega
 clear hg h hm hn;go_enter Tryz.func105,Tryz.ntmps105
 go_wp2_with fail
 refine(Dj _ HJ.out).mono ?_;rintro en w1 ⟨rfl,b1⟩;have HG1:=Ab (HG.out.below b1);have HC1:=Ab (HC.out.below b1);have HB1:=Ab b1;clear b1 HG HC
 go_wp2_with fail
 refine(Wq HG1.out HC1.out he2).mono ?_;rintro en w2 ⟨rfl,b2⟩;rw[HM.out];have HB2:=Ab (Af HB1.out b2);clear b2;go_wp2;go_ret;exact⟨rfl,HB2.out⟩
def Hy (P Q G H:Nat)(cs:List Nat)(j s r:Nat):Bool:=decide (s<Q)&&(decide (r<Q)&&decide (Du P Q G H s r=Md P (j%Q) cs))
theorem Ru {w:World}{b P Q GG HH es er e n c j S R:Nat}{p:Option Addr}{Cs:List Nat}{x y:P3}(hg:Au w b P Q GG HH)(hx:Cw w x S)(lx:S<An es)(hy:Cw w y R)(ly:R<An er)(h:Aq w e p n c Cs)(hes:es<=200)(her:er<=200)(he:e<=200)(hn:n<=1000000)(hj:1<=j/\j<=64) :
  Calls Tryz.prog 110 #[.agg #[.slice x.1 x.2.1 x.2.2,.slice y.1 y.2.1 y.2.2],.pointer (some ⟨b,0,none⟩),.slice p n c,.int .i64 (j:Nat)] w fun en w'=>en=.returned (.bool (Hy P Q GG HH Cs j S R))/\Below w.heap.size w w':=by
 have hb2:=Cx.made 75 w (.slice x.1 x.2.1 x.2.2) (.slice y.1 y.2.1 y.2.2);have hb0:Below w.heap.size w (w.alloc (.cells #[.slice x.1 x.2.1 x.2.2,.slice y.1 y.2.1 y.2.2] 75)):=Bt;obtain⟨wa,hwa⟩:∃wa,w.alloc (.cells #[.slice x.1 x.2.1 x.2.2,.slice y.1 y.2.1 y.2.2] 75)=wa:=⟨_,rfl⟩
 rw[hwa]at hb2 hb0
 have HX:=Ab hb2;have HB0:=Ab hb0;have HG:=Ab (hg.below hb0);have HC:=Ab (h.below hb0);have HS:Aa (Cw wa x S):=⟨hx.below hb0⟩
 have HR:Aa (Cw wa y R):=⟨hy.below hb0⟩
 have HLS:=Ab lx;have HLR:=Ab ly;have HJ:Aa (decide (1<=(j:Int)/\(j:Int)<=64)=true):=⟨decide_eq_true (by omega)⟩
 have HJ2:Aa (j<=1000000):=⟨by omega⟩
 obtain⟨RES,hRES⟩:∃B,Hy P Q GG HH Cs j S R=B:=⟨_,rfl⟩
 obtain⟨ANS,hANS⟩:∃B,decide (Du P Q GG HH S R=Md P (j%Q) Cs)=B:=⟨_,rfl⟩
 have HAN:=Ab hANS;rw[hRES];obtain⟨IF,hIF⟩:∃B,(decide (S<Q)&&decide (R<Q))=B:=⟨_,rfl⟩
 have HE:Aa (RES=(IF&&ANS)):=⟨by rw[<-hRES,<-hIF,<-hANS];unfold Hy;rw[Bool.and_assoc]⟩
 have HIF:=Ab hIF;clear hb2 hb0 hg h hx hy lx ly hj hRES hANS hIF;go_enter Tryz.func110,Tryz.ntmps110
 cases IF with
 | true=>
 have HET:Aa (RES=ANS):=⟨by rw[HE.out,Bool.true_and]⟩
 go_wp2;refine Ak (by kernel_rfl) (by kernel_rfl)
  [some (.int .i64 (j:Nat)),none,some (.bool true),some (.agg #[.slice x.1 x.2.1 x.2.2,.slice y.1 y.2.1 y.2.2]),some (.pointer (some ⟨b,0,none⟩)),none,some (.bool true),some (.bool true),some (.pointer (some ⟨b,0,none⟩)),some (.slice p n c),some (.int .i64 (j:Nat)),none,some (.pointer (some ⟨w.heap.size,0,none⟩)),some (.agg #[.slice x.1 x.2.1 x.2.2]),some (.pointer (some ⟨w.heap.size,1,none⟩)),some (.agg #[.slice y.1 y.2.1 y.2.2]),none,some (.bool ANS),some (.bool ANS)]
  [false,true,false,false,false,true,false,false,false,false,false,true,false,false,false,false,true,false,false] rfl
  (fun w1 w2=>Below w1.heap.size w1 w2)
  (fun _ w'=>Below wa.heap.size wa w')
  (fun i v w'=>match i with
   | 1=>v=.bool true
   | 5=>v=.bool true
   | 11=>Fit 2 j v w'
   | 16=>v=.bool ANS
   | _=>True)
  ?_ (Ba _ _).drew ?_ ?_
 .intro i v w1 w2 hf hb;split at hf
  .exact hf
  .exact hf
  .exact hf.below hb
  .exact hf
  .trivial
 .simp only[Bb,Nat.reduceAdd];refine⟨?_,?_,?_,?_,?_,?_,?_,?_,?_,?_,?_,?_,?_,?_,?_,?_,?_,?_,?_,trivial⟩
  all_goals intro D sp w' hD hW hdp hbx'
  case refine_2=>
   (with_reducible refine Ac (w1:=w') (f := 99) (args:=#[.int .i64 (j:Nat)]) ?_ ?_ ?_)
   .simp[Region.wanted,yielded,Act.put,go_sem]
   .simp[Act.eval,Act.put,go_sem]
   .refine(Dj _ HJ.out).mono ?_;rintro en w9 ⟨rfl,hb⟩;exact⟨_,rfl,hb,rfl,Af hbx' hb⟩
  case refine_3=>
   have k1:(sp 1)=.bool true:=(hdp 1 (mq (by kernel_rfl))).2
   with_reducible refine Ad ?_ ?_
   all_goals simp[Region.wanted,yielded,execOp,Act.eval,Act.put,go_sem,k1]
  case refine_4=>
   have c0:=(HX.out.below hbx' HX.out.lt).cells.1;have c1:=(HX.out.below hbx' HX.out.lt).cells.2
   with_reducible refine Ad ?_ ?_
   all_goals simp[Region.wanted,yielded,execOp,Act.eval,Act.put,go_sem,c0,c1]
  case refine_6=>
   (with_reducible refine Ac (w1:=w') (f := 120) (args:=#[.agg #[.slice x.1 x.2.1 x.2.2,.slice y.1 y.2.1 y.2.2],.pointer (some ⟨b,0,none⟩)]) ?_ ?_ ?_)
   .simp[Region.wanted,yielded,Act.put,go_sem]
   .simp[Act.eval,Act.put,go_sem]
   .refine(Qj (oQ.of (HG.out.below hbx')) (HS.out.below hbx') HLS.out (HR.out.below hbx') HLR.out hes her HIF.out).mono ?_;rintro en w9 ⟨rfl,hb⟩;exact⟨_,rfl,hb,rfl,Af hbx' hb⟩
  case refine_7=>
   have k5:(sp 5)=.bool true:=(hdp 5 (mq (by kernel_rfl))).2
   with_reducible refine Ad ?_ ?_
   all_goals simp[Region.wanted,yielded,execOp,Act.eval,Act.put,go_sem,k5]
  case refine_12=>
   (with_reducible refine Ac (w1:=w') (f := 101) (args:=#[.int .i64 (j:Nat)]) ?_ ?_ ?_)
   .simp[Region.wanted,yielded,Act.put,go_sem]
   .simp[Act.eval,Act.put,go_sem]
   .refine(Kk _ HJ2.out).mono ?_;rintro en w9 ⟨u,rfl,hu,hb⟩;exact⟨u,rfl,hb,hu,Af hbx' hb⟩
  case refine_14=>
   have c0:=(HX.out.below hbx' HX.out.lt).cells.1
   with_reducible refine Ad ?_ ?_
   all_goals simp[Region.wanted,yielded,execOp,Act.eval,Act.put,go_sem,c0]
  case refine_16=>
   have c1:=(HX.out.below hbx' HX.out.lt).cells.2
   with_reducible refine Ad ?_ ?_
   all_goals simp[Region.wanted,yielded,execOp,Act.eval,Act.put,go_sem,c1]
  case refine_17=>
   have k11:Fit 2 j (sp 11) w':=(hdp 11 (mq (by kernel_rfl))).2
   (with_reducible refine Ac (w1:=w') (f := 171) (args:=#[.pointer (some ⟨b,0,none⟩),.slice p n c,sp 11,.agg #[.slice x.1 x.2.1 x.2.2],.agg #[.slice y.1 y.2.1 y.2.2]]) ?_ ?_ ?_)
   .simp[Region.wanted,yielded,Act.put,go_sem]
   .simp[Act.eval,Act.put,go_sem]
   .refine(fX (HG.out.below hbx') (HC.out.below hbx') k11 (Fit.of (HS.out.below hbx') HLS.out) (Fit.of (HR.out.below hbx') HLR.out) he (by decide) hes her hn rfl rfl HAN.out).mono ?_;rintro en w9 ⟨_,rfl,rfl,hb⟩;exact⟨_,rfl,hb,rfl,Af hbx' hb⟩
  case refine_18=>
   have k16:(sp 16)=.bool ANS:=(hdp 16 (mq (by kernel_rfl))).2
   with_reducible refine Ad ?_ ?_
   all_goals simp[Region.wanted,yielded,execOp,Act.eval,Act.put,go_sem,k16]
  all_goals ((with_reducible refine Ad ?_ ?_);all_goals first|(simp only[Region.wanted];done)|simp[Region.wanted,yielded,execOp,Act.eval,Act.put,go_sem])
 .intro sp w9 hsp hbx';have HB9:=Ab (Af HB0.out hbx');clear hsp hbx';simp only[Al,Nat.reduceAdd];generalize sp 1=y1,sp 5=y5,sp 11=y11,sp 16=y16 at *
  go_simp
  go_wp2;go_ret;exact⟨by rw[HET.out];rfl,HB9.out⟩
 | false=>
 have HET:Aa (RES=false):=⟨by rw[HE.out,Bool.false_and]⟩
 go_wp2;refine Ak (by kernel_rfl) (by kernel_rfl)
  [some (.int .i64 (j:Nat)),none,some (.bool true),some (.agg #[.slice x.1 x.2.1 x.2.2,.slice y.1 y.2.1 y.2.2]),some (.pointer (some ⟨b,0,none⟩)),none,some (.bool false),some (.bool false),some (undef),some (undef),some (undef),some (undef),some (undef),some (undef),some (undef),some (undef),some (undef),some (.bool false),some (.bool false)]
  [false,true,false,false,false,true,false,false,false,false,false,false,false,false,false,false,false,false,false] rfl
  (fun w1 w2=>Below w1.heap.size w1 w2)
  (fun _ w'=>Below wa.heap.size wa w')
  (fun i v w'=>match i with
   | 1=>v=.bool true
   | 5=>v=.bool false
   | _=>True)
  ?_ (Ba _ _).drew ?_ ?_
 .intro i v w1 w2 hf hb;split at hf
  .exact hf
  .exact hf
  .trivial
 .simp only[Bb,Nat.reduceAdd];refine⟨?_,?_,?_,?_,?_,?_,?_,?_,?_,?_,?_,?_,?_,?_,?_,?_,?_,?_,?_,trivial⟩
  all_goals intro D sp w' hD hW hdp hbx'
  case refine_2=>
   (with_reducible refine Ac (w1:=w') (f := 99) (args:=#[.int .i64 (j:Nat)]) ?_ ?_ ?_)
   .simp[Region.wanted,yielded,Act.put,go_sem]
   .simp[Act.eval,Act.put,go_sem]
   .refine(Dj _ HJ.out).mono ?_;rintro en w9 ⟨rfl,hb⟩;exact⟨_,rfl,hb,rfl,Af hbx' hb⟩
  case refine_3=>
   have k1:(sp 1)=.bool true:=(hdp 1 (mq (by kernel_rfl))).2
   with_reducible refine Ad ?_ ?_
   all_goals simp[Region.wanted,yielded,execOp,Act.eval,Act.put,go_sem,k1]
  case refine_4=>
   have c0:=(HX.out.below hbx' HX.out.lt).cells.1;have c1:=(HX.out.below hbx' HX.out.lt).cells.2
   with_reducible refine Ad ?_ ?_
   all_goals simp[Region.wanted,yielded,execOp,Act.eval,Act.put,go_sem,c0,c1]
  case refine_6=>
   (with_reducible refine Ac (w1:=w') (f := 120) (args:=#[.agg #[.slice x.1 x.2.1 x.2.2,.slice y.1 y.2.1 y.2.2],.pointer (some ⟨b,0,none⟩)]) ?_ ?_ ?_)
   .simp[Region.wanted,yielded,Act.put,go_sem]
   .simp[Act.eval,Act.put,go_sem]
   .refine(Qj (oQ.of (HG.out.below hbx')) (HS.out.below hbx') HLS.out (HR.out.below hbx') HLR.out hes her HIF.out).mono ?_;rintro en w9 ⟨rfl,hb⟩;exact⟨_,rfl,hb,rfl,Af hbx' hb⟩
  case refine_7=>
   have k5:(sp 5)=.bool false:=(hdp 5 (mq (by kernel_rfl))).2
   with_reducible refine Ad ?_ ?_
   all_goals simp[Region.wanted,yielded,execOp,Act.eval,Act.put,go_sem,k5]
  case refine_9|refine_10|refine_11|refine_12|refine_13|refine_14|refine_15|refine_16|refine_17=>
   (with_reducible refine Fh ?_ ?_)
   ·(simp[Region.wanted,yielded,Act.put,go_sem]<;>exact fun h=>by cases h)
   .exact⟨rfl,rfl⟩
  all_goals ((with_reducible refine Ad ?_ ?_);all_goals first|(simp only[Region.wanted];done)|simp[Region.wanted,yielded,execOp,Act.eval,Act.put,go_sem])
 .intro sp w9 hsp hbx';have HB9:=Ab (Af HB0.out hbx');clear hsp hbx';simp only[Al,Nat.reduceAdd];generalize sp 1=y1,sp 5=y5 at *
  go_simp
  go_wp2;go_ret;exact⟨by rw[HET.out];rfl,HB9.out⟩
theorem aS {w:World}{b P Q GG HH es er e n c j S R:Nat}{p:Option Addr}{Cs:List Nat}{x y:P3}(hg:Au w b P Q GG HH)(hx:Cw w x S)(lx:S<An es)(hy:Cw w y R)(ly:R<An er)(h:Aq w e p n c Cs)(hes:es<=200)(her:er<=200)(he:e<=200)(hn:1<=n/\n<=64)(hm:Cs.all (Qw P Q)=true)(hj:1<=j/\j<=64) :
  Calls Tryz.prog 52 #[.pointer (some ⟨b,0,none⟩),.int .i64 (n:Nat),.slice p n c,.int .i64 (j:Nat),.agg #[.slice x.1 x.2.1 x.2.2,.slice y.1 y.2.1 y.2.2]] w fun en w'=>en=.returned (.bool (Hy P Q GG HH Cs j S R))/\Below w.heap.size w w':=by
 have hb2:=Cx.made 75 w (.slice x.1 x.2.1 x.2.2) (.slice y.1 y.2.1 y.2.2);have hb0:Below w.heap.size w (w.alloc (.cells #[.slice x.1 x.2.1 x.2.2,.slice y.1 y.2.1 y.2.2] 75)):=Bt;obtain⟨wa,hwa⟩:∃wa,w.alloc (.cells #[.slice x.1 x.2.1 x.2.2,.slice y.1 y.2.1 y.2.2] 75)=wa:=⟨_,rfl⟩
 rw[hwa]at hb2 hb0
 have HX:=Ab hb2;have HB0:=Ab hb0;have HG:=Ab (hg.below hb0);have HC:=Ab (h.below hb0);have HS:Aa (Cw wa x S):=⟨hx.below hb0⟩
 have HR:Aa (Cw wa y R):=⟨hy.below hb0⟩
 have HLS:=Ab lx;have HLR:=Ab ly;have HJ:=Ab hj;have HM:=Ab hm;have HN:=Ab hn;obtain⟨RES,hRES⟩:∃B,Hy P Q GG HH Cs j S R=B:=⟨_,rfl⟩
 have HRES:=Ab hRES;rw[hRES];clear hb2 hb0 hg h hx hy lx ly hj hn hm hRES;go_enter Tryz.func52,Tryz.ntmps52
 go_wp2_with fail
 refine(Vp HG.out HC.out he HN.out HM.out).mono ?_;rintro en w1 ⟨rfl,b1⟩;have HX1:=Ab (HX.out.later b1);have HG1:=Ab (HG.out.below b1);have HC1:=Ab (HC.out.below b1);have HS1:Aa (Cw w1 x S):=⟨HS.out.below b1⟩
 have HR1:Aa (Cw w1 y R):=⟨HR.out.below b1⟩
 have HB1:=Ab (Af HB0.out b1);obtain⟨c0,c1⟩:=HX1.out.cells;clear b1 HX HG HC HS HR HB0 hwa
 go_wp2_with fail
 refine(Ru HG1.out HS1.out HLS.out HR1.out HLR.out HC1.out hes her he (by have:=HN.out;omega) HJ.out).mono ?_;rintro en w2 ⟨rfl,b2⟩;rw[HRES.out];have HB2:=Ab (Af HB1.out b2);clear b2 c0 c1;go_wp2;go_ret;exact⟨rfl,HB2.out⟩
structure qN (e:Nat) (s:Fi) (v:Value) (w:World):Prop where
 ex:∃x y:Option Addr×Nat×Nat,v=.agg #[.int .i64 s.1,.slice x.1 x.2.1 x.2.2,.slice y.1 y.2.1 y.2.2]/\Pn e s x y w
structure oZ (g:Nat) (lb:Array Value) (w:World) (e:Nat) (l:List Fi) (p:Fi->Bool):Prop where
 out:∀(W:World) (s:Fi) (v:Value),Below w.heap.size w W->s∈l->qN e s v W->Calls Tryz.prog g (#[v]++lb) W fun en w'=>en=.returned (.bool (p s))/\Below W.heap.size W w'
theorem aI {α:Type}{p:α->Bool}:∀ {l:List α} {k:Nat} {X:α},l[k]? = some X->p X=true->(∀i Y,i<k->l[i]? = some Y->p Y=false)->l.find? p=some X
 | [],_,_,h,_,_=>by simp at h
 | a::l,0,X,h,hp,_=>by
  simp at h;subst h;rw[List.find?_cons_of_pos hp]
 | a::l,k+1,X,h,hp,hj=>by
  have h0:=hj 0 a (by omega) rfl;rw[List.find?_cons_of_neg (by rw[h0];exact Bool.false_ne_true)];exact aI (k:=k) (by simpa using h) hp fun i Y hi hY=>hj (i+1) Y (by omega) (by simpa using hY)
theorem gZ {α:Type}{p:α->Bool}{l:List α}(h:∀(i:Nat) (Y:α),l[i]? = some Y->p Y=false):l.find? p=none:=by
 rw[List.find?_eq_none];intro x hx;obtain⟨i,hi⟩:=List.getElem?_of_mem hx;rw[h i x hi];exact Bool.false_ne_true
def oS (l:List Fi)(p:Fi->Bool)(w:World)(en:Ending)(w':World):Prop :=
 ((l.find? p=none/\en=.returned (.int .i64 (-1))) ∨ ∃(k:Nat) (X:Fi),l.find? p=some X/\l[k]? = some X/\en=.returned (.int .i64 k))/\Below w.heap.size w w'
theorem Ze (w:World)(e:Nat)(p0:Option Addr)(n c:Nat)(l:List Fi)(g:Nat)(lb:Array Value)(eg:∀args w,(callFunc g args).run Tryz.prog w=.ok (.enter g args) w)(p:Fi->Bool)(h:Ua w e p0 n c l)(hp:oZ g lb w e l p) :
  Calls Tryz.prog 165 #[.slice p0 n c,.func (.func g) #[] lb] w (oS l p w):=by
 have HH:=Ab h;have hn:=h.len;have hmax:n<=9223372036854775807:=Er h.cap h.max;have HLN:=Ab hn;clear h hn;go_enter Tryz.func165,Tryz.ntmps165;go_wp2
 go_loopw [5,8] (fun _ iv wr=>∃k:Nat,k<=n/\iv=.int .i64 k/\Aa (∀i X,i<k->l[i]? = some X->p X=false)/\Aa (Below w.heap.size w wr)) (fun _ iv _=>n-(intOf iv).toNat)
 case atStart=>exact⟨0,by omega,rfl,⟨fun i X h=>by omega⟩,⟨Ba _ _⟩⟩
 case round=>
  obtain⟨k,hk,rfl,HJ,HB⟩:=hrel
  by_cases hkn:k<n
  .obtain⟨X,hXk⟩:∃X,l[k]? = some X:=⟨l[k]'(by rw[<-HLN.out];exact hkn),List.getElem?_eq_getElem _⟩
   obtain⟨b,off,rfl,hb,hc⟩:=(HH.out.below HB.out).at_ (by omega)
   obtain⟨x,y,x0,x1,x2,x3⟩:=hc k X hXk;have HC:=Ab (hp.out wr X _ HB.out (List.mem_of_getElem? hXk) ⟨x,y,rfl,x3⟩);have HX:=Ab hXk;have hkn':(k:Int)<n:=by omega
   clear hc x3 hXk hp;obtain⟨P,hP⟩:∃P,p X=P:=⟨_,rfl⟩
   rw[hP]at HC
   have HP:=Ab hP;clear hP
   cases P with
   | true=>
    go_wp2_with (go_at_fn g;refine HC.out.mono ?_;rintro en w1 ⟨rfl,hb1⟩)
    go_ret;exact⟨.inr ⟨k,X,aI HX.out HP.out HJ.out,HX.out,rfl⟩,Af HB.out hb1⟩
   | false=>
    have HJ':Aa (∀i Y,i<k+1->l[i]? = some Y->p Y=false):=⟨fun i Y hi hY=>by
     rcases(by omega:i<k ∨ i=k) with h|rfl
     .exact HJ.out i Y h hY
     .have:=HX.out;rw[hY]at this
      cases this;exact HP.out⟩
    go_wp2_with (go_at_fn g;refine HC.out.mono ?_;rintro en w1 ⟨rfl,hb1⟩)
    go_roundw
    case rel=>exact⟨k+1,by omega,by go_num,HJ',⟨Af HB.out hb1⟩⟩
    case measure=>simp[intOf];omega
  .obtain rfl:k=n:=by omega
   have hkn':¬(k:Int)<k:=by omega
   go_wp2;go_ret;exact⟨.inl ⟨gZ fun i X hX=>HJ.out i X (by rw[HLN.out];exact(List.getElem?_eq_some_iff.1 hX).1) hX,rfl⟩,HB.out⟩
structure Ca (w:World) (b:Nat) (n:Int):Prop where
 at_:w.heap[b]? = some (.cells #[.int .i64 n] 3 (0,0))
theorem Ca.lt {w:World}{b:Nat}{n:Int}(h:Ca w b n):b<w.heap.size:=(Gs h.at_).1
theorem Ca.below {w w':World}{B b:Nat}{n:Int}(h:Ca w b n)(hb:Below B w w')(hB:b<B):Ca w' b n:=⟨by rw[hb.block b hB];exact h.at_⟩
theorem Ca.later {w w':World}{b:Nat}{n:Int}(h:Ca w b n)(hb:Below w.heap.size w w'):Ca w' b n:=h.below hb h.lt
theorem Ca.cell {w:World}{b:Nat}{n:Int}(h:Ca w b n):w.cell? ⟨b,0,none⟩=some (.int .i64 n):=by
 have:=h.at_
 simp[World.cell?,this]
theorem Ca.free {w:World}{b:Nat}{n:Int}(h:Ca w b n):w.frozen? ⟨b,0,none⟩=false:=by
 have:=h.at_
 simp[World.frozen?,this]
theorem Ca.made (w:World)(n:Int):Ca (w.alloc (.cells #[.int .i64 n] 3)) w.heap.size n:=⟨heap_alloc_new w _⟩
theorem Ca.set {w:World}{b:Nat}{n:Int}(h:Ca w b n)(m:Int):Ca (w.setCell ⟨b,0,none⟩ (.int .i64 m)) b m:=⟨by
 have:=h.at_
 simp[World.setCell,Array.getElem?_modify,this]⟩
def boxI (v:Value)(w:World):Nat:=match v with | .pointer (some a)=>(match w.cell? a with|some (.int _ n)=>n.toNat|_=>0)|_=>0
theorem Ca.boxI {w:World}{b:Nat}{n:Int}(h:Ca w b n):boxI (.pointer (some ⟨b,0,none⟩)) w=n.toNat:=by
 have:=h.cell;simp[Go.Proofs.YtokhckjemidbpaaGreatDoor.boxI,this]
theorem dS {w:World}{b P Q GG HH e n c j bp bg bc:Nat}{p:Option Addr}{Cs:List Nat}(l:List Fi)(hp:Ca w bp j)(hgc:w.cell? ⟨bg,0,none⟩=some (.pointer (some ⟨b,0,none⟩)))(hgl:bg<w.heap.size)(hcc:w.cell? ⟨bc,0,none⟩=some (.slice p n c))(hcl:bc<w.heap.size)(hg:Au w b P Q GG HH)(h:Aq w e p n c Cs)(he:e<=200)(hn:n<=1000000)(hj:1<=j/\j<=64) :
  oZ 166 #[.pointer (some ⟨bp,0,none⟩),.pointer (some ⟨bg,0,none⟩),.pointer (some ⟨bc,0,none⟩)] w 33 l (Pb P Q GG HH Cs j):=by
 refine⟨fun W s u hbw _ hu=>?_⟩;obtain⟨x,y,rfl,hxy⟩:=hu.ex;have hx3:=If.made 92 W (.int .i64 s.1) (.slice x.1 x.2.1 x.2.2) (.slice y.1 y.2.1 y.2.2);have hb0:Below W.heap.size W (W.alloc (.cells #[.int .i64 s.1,.slice x.1 x.2.1 x.2.2,.slice y.1 y.2.1 y.2.2] 92)):=Bt;obtain⟨wa,hwa⟩:∃wa,W.alloc (.cells #[.int .i64 s.1,.slice x.1 x.2.1 x.2.2,.slice y.1 y.2.1 y.2.2] 92)=wa:=⟨_,rfl⟩
 rw[hwa]at hx3 hb0
 have hba:=Af hbw hb0;have c0:=hx3.cells.1;have c1:=hx3.cells.2.1;have c2:=hx3.cells.2.2;have cp:=(hp.later hba).cell;have cg:wa.cell? ⟨bg,0,none⟩=some (.pointer (some ⟨b,0,none⟩)):=(hba.cell (p:=⟨bg,0,none⟩) hgl).trans hgc;have cc:wa.cell? ⟨bc,0,none⟩=some (.slice p n c):=(hba.cell (p:=⟨bc,0,none⟩) hcl).trans hcc;have HG:=Ab (hg.below hba);have HC:=Ab (h.below hba);have HXY:=Ab (hxy.below hb0);have HB0:=Ab hb0;obtain⟨RES,hRES⟩:∃B,Pb P Q GG HH Cs j s=B:=⟨_,rfl⟩
 have HRES:Aa (RES=(decide (s.1=(j:Int))&&Hy P Q GG HH Cs j s.2.1 s.2.2)):=⟨by rw[<-hRES];rfl⟩
 obtain⟨ANS,hANS⟩:∃B,Hy P Q GG HH Cs j s.2.1 s.2.2=B:=⟨_,rfl⟩
 have HANS:=Ab hANS;rw[hRES];obtain⟨sj,hsj⟩:∃z,s.1=z:=⟨_,rfl⟩
 rw[hsj]at c0 HRES hwa ⊢
 clear hx3 hb0 hba hbw hp hgc hcc hg h hxy hu hRES hANS
 by_cases hjj:sj=(j:Int)
 .subst hjj;have HR2:Aa (RES=ANS):=⟨by rw[HRES.out,HANS.out,decide_eq_true rfl,Bool.true_and]⟩
  clear hsj;go_enter Tryz.func166,Tryz.ntmps166
  go_wp2_with fail
  refine(Ru HG.out HXY.out.n HXY.out.ln HXY.out.r HXY.out.lr HC.out (by decide) (by decide) he hn hj).mono ?_;rintro en w1 ⟨rfl,b1⟩;rw[HANS.out];have HB1:=Ab (Af HB0.out b1);clear b1 c0 c1 c2 cp cg cc hwa;go_wp2;go_ret;exact⟨by rw[HR2.out];rfl,HB1.out⟩
 .have HR2:Aa (RES=false):=⟨by rw[HRES.out,decide_eq_false hjj,Bool.false_and]⟩
  clear hsj;go_enter Tryz.func166,Tryz.ntmps166;go_wp2;go_ret;exact⟨by rw[HR2.out];rfl,HB0.out⟩
theorem Tryz.info_Piece:(Tryz.prog.info? 92).map (fun i=>(i.zero,i.size,i.bytes))=some (some (.agg #[.int .i64 0,.slice none 0 0,.slice none 0 0]),3,56):=by kernel_rfl
def mP (L:List Fi)(w:World)(en:Ending)(w':World):Prop:=∃p c,en=.returned (.slice p L.length c)/\Ua w' 33 p L.length c L/\Below w.heap.size w w'
theorem aU {P Q G H T:Nat}{cs:List Nat}{l:List Fi}{k:Nat}(hk:k<=64)(h:k=64 ∨ ¬(Cg P Q G H T cs l k).length<T):Cg P Q G H T cs l 64=Cg P Q G H T cs l k:=by
 rcases h with rfl|h
 .rfl
 .exact Vr h 64 hk
theorem Xo {w:World}{b P Q GG HH e n c T pn pc:Nat}{p pl:Option Addr}{Cs:List Nat}{l:List Fi}(hg:Au w b P Q GG HH)(hC:Aq w e p n c Cs)(hL:Ua w 33 pl pn pc l)(he:e<=200)(hn:n<=1000000)(hT:T<=64) :
  Calls Tryz.prog 106 #[.pointer (some ⟨b,0,none⟩),.int .i64 (T:Nat),.slice p n c,.slice pl pn pc] w (mP (Cg P Q GG HH T Cs l 64) w):=by
 have hbx0:=Dw.mk1 w (.pointer (some ⟨b,0,none⟩)) 25;have hbx1:=Dw.mk1 (w.alloc (.cells #[.pointer (some ⟨b,0,none⟩)] 25)) (.slice p n c) 62;have hz:(w.alloc (.cells #[.pointer (some ⟨b,0,none⟩)] 25)).heap.size=w.heap.size+1:=by simp
 have cg:=(hbx1.bel.cell (p:=⟨w.heap.size,0,none⟩) (by show w.heap.size<_;rw[hz];omega)).trans hbx0.c0;have cc:=hbx1.c0;have hba:=Af hbx0.bel hbx1.bel;have hsz:=hbx1.size;rw[hz]at cc hsz
 obtain⟨wa,hwa⟩:∃wa,((w.alloc (.cells #[.pointer (some ⟨b,0,none⟩)] 25)).alloc (.cells #[.slice p n c] 62))=wa:=⟨_,rfl⟩
 rw[hwa]at cg cc hba hsz
 have HCG:=Ab cg;have HCC:=Ab cc;have HSZ:Aa (w.heap.size<wa.heap.size/\w.heap.size+1<wa.heap.size):=⟨by omega⟩
 have HG:=Ab (hg.below hba);have HC:=Ab (hC.below hba);have HL:=Ab (hL.below hba);have HB:=Ab hba;have HLn:=Ab hL.len;have hcap:=hL.cap;have hmax:=hL.max;have hpb:=Ca.made wa 1;have hb1:Below wa.heap.size wa (wa.alloc (.cells #[.int .i64 1] 3)):=Bt;obtain⟨w1,hw1⟩:∃w1,wa.alloc (.cells #[.int .i64 1] 3)=w1:=⟨_,rfl⟩
 obtain⟨g1,hg1⟩:∃x,wa.heap.size=x:=⟨_,rfl⟩
 rw[hw1]at hpb hb1
 rw[hg1]at hpb
 have HPB:=Ab hpb;have HB1:=Ab hb1;have HG1:Aa (wa.heap.size<=g1):=⟨by rw[hg1];exact Aw _⟩
 clear hg hC hL hbx0 hbx1 hz cg cc hba hsz hpb hb1;go_enter Tryz.func106,Tryz.ntmps106;go_wp2
 go_loopw [9,10,11] (fun vc pb _ wr=>∃(k g:Nat) (bad:Nat->Prop),k<=64/\pb=.pointer (some ⟨g,0,none⟩)/\Aa (Below wa.heap.size wa wr)/\Aa (Ca wr g ((k:Int)+1))/\Aa (wa.heap.size<=g)/\Aa (Fz (Pn 33) 92 wa.heap.size bad wr vc (Cg P Q GG HH T Cs l k))/\Aa (∀g,bad g->wa.heap.size<=g/\g<wr.heap.size)/\Aa (∀g,vc.ownBlock=some g->bad g)) (fun _ pb _ wr=>66-boxI pb wr)
 case atStart=>exact⟨0,g1,fun _=>False,by omega,rfl,HB1,HPB,HG1,⟨by rw[show Cg P Q GG HH T Cs l 0=[] from iE _ _];exact Fz.nil⟩,⟨fun _ h=>h.elim⟩,⟨fun g h=>by cases h⟩⟩
 case round=>
  clear HPB HB1 HG1 hw1 hg1 hwa;obtain⟨k,g,bad,hk,rfl,HBr,HP,HGr,HO,HLT,HV⟩:=hrel;have HMz:Aa (boxI (.pointer (some ⟨g,0,none⟩)) wr=k+1):=⟨by rw[HP.out.boxI];omega⟩
  obtain⟨L,hL⟩:∃L,Cg P Q GG HH T Cs l k=L:=⟨_,rfl⟩
  rw[hL]at HO
  obtain⟨pv,cv,hv,hlc,hcm,hpn,-⟩:=HO.out.elim;obtain⟨n1,hn1⟩:∃x,L.length=x:=⟨_,rfl⟩
  rw[hn1]at hv hlc
  subst hv;obtain⟨K1,hK1⟩:∃K,k+1=K:=⟨_,rfl⟩
  obtain⟨K2,hK2⟩:∃K,K1+1=K:=⟨_,rfl⟩
  have HP':Aa (Ca wr g (K1:Int)):=⟨by rw[<-hK1];exact HP.out⟩
  have HK1:=Ab hK1;have HK2:=Ab hK2;have HLL:=Ab hL;have HN1:=Ab hn1;have cp:=HP'.out.cell;have fp:=HP'.out.free
  by_cases hgo:k<64/\n1<T
  .have hi1:(K1:Int)<=64:=by omega
   have hi2:(n1:Int)<T:=by omega
   have hk1:(K1:Int)+1=K2:=by omega
   have hkl:k<64:=hgo.1;have HJ:Aa (1<=K1/\K1<=64):=⟨by omega⟩
   have HLE:Aa (L.length<=1000000):=⟨by rw[hn1];omega⟩
   have HLT2:Aa (L.length<T):=⟨by rw[hn1];omega⟩
   have HAS:=Ab (dS l HP'.out ((HBr.out.cell (p:=⟨w.heap.size,0,none⟩) HSZ.out.1).trans HCG.out) (Da HSZ.out.1 HBr.out.size) ((HBr.out.cell (p:=⟨w.heap.size+1,0,none⟩) HSZ.out.2).trans HCC.out) (Da HSZ.out.2 HBr.out.size) (HG.out.below HBr.out) (HC.out.below HBr.out) he hn HJ.out);have HPL:=Ab (HL.out.below HBr.out);clear hK1 hK2 hL hn1 hgo HP
   go_wp2_with fail
   refine(Ze _ 33 pl pn pc l _ _ (enters_of Tryz.func166 (by kernel_rfl) rfl) _ HPL.out HAS.out).mono ?_;rintro en w5 ⟨hor,b5⟩;have HB5:=Ab (Af HBr.out b5);have HP5:=Ab (HP'.out.later b5);have HO5:=Ab (HO.out.below b5);have HLT5:Aa (∀g,bad g->wa.heap.size<=g/\g<w5.heap.size):=⟨fun g hg=>⟨(HLT.out g hg).1,Da (HLT.out g hg).2 b5.size⟩⟩
   clear b5 HBr HP' HO HLT HAS HPL cp fp;rcases hor with ⟨hnone,rfl⟩|⟨i,X,hfind,hat,rfl⟩
   .have HCk:Aa (Cg P Q GG HH T Cs l (k+1)=L):=⟨by rw[<-HLL.out];exact iG (by rw[show k+1=K1 from HK1.out];exact hnone)⟩
    have cp5:=HP5.out.cell;have fp5:=HP5.out.free;obtain⟨w9,hw9⟩:∃w9,w5=w9:=⟨_,rfl⟩
    subst hw9;obtain⟨bad9,hbad9⟩:∃x,bad=x:=⟨_,rfl⟩
    subst hbad9;have HB9:=Ab HB5.out;have HO9:=Ab HO5.out;have HL9:=Ab HLT5.out;have HV9:=Ab HV.out;have HP9:=Ab HP5.out;clear hnone HB5 HO5 HLT5 HV HP5 cp5 fp5;have hnb:=Ca.made w5 (K1:Int);have hbn:Below w5.heap.size w5 (w5.alloc (.cells #[.int .i64 (K1:Int)] 3)):=Bt;obtain⟨gn,hgn⟩:∃x,w5.heap.size=x:=⟨_,rfl⟩
    rw[hgn]at hnb
    obtain⟨wn,hwn⟩:∃wn,w5.alloc (.cells #[.int .i64 (K1:Int)] 3)=wn:=⟨_,rfl⟩
    rw[hwn]at hnb hbn
    have cn:=hnb.cell;have fn:=hnb.free;have HNB:Aa (Ca (wn.setCell ⟨gn,0,none⟩ (.int .i64 (K2:Int))) gn (K2:Int)):=⟨hnb.set _⟩
    have hbz:Below w5.heap.size w5 (wn.setCell ⟨gn,0,none⟩ (.int .i64 (K2:Int))):=hbn.setCell (by rw[hgn];exact Aw _) _;have HBz:Aa (Below wa.heap.size wa (wn.setCell ⟨gn,0,none⟩ (.int .i64 (K2:Int)))):=⟨Af HB9.out hbz⟩
    have HOz:=Ab (HO9.out.below hbz);have HLz:Aa (∀g,bad g->wa.heap.size<=g/\g<(wn.setCell ⟨gn,0,none⟩ (.int .i64 (K2:Int))).heap.size):=⟨fun g hg=>⟨(HL9.out g hg).1,Da (HL9.out g hg).2 hbz.size⟩⟩
    have HGz:Aa (wa.heap.size<=gn):=⟨by rw[<-hgn];exact HB9.out.size⟩
    clear hbz hnb hbn;have cp9:=HP9.out.cell;go_wp2;clear cp9 cn fn hwn hgn;go_roundw
    case rel=>exact⟨k+1,gn,bad,by omega,rfl,HBz,⟨by rw[show (((k+1:Nat):Int)+1)=(K2:Int) by have:=HK1.out;have:=HK2.out;omega];exact HNB.out⟩,HGz,⟨by rw[HCk.out];exact HOz.out⟩,HLz,HV9⟩
    case measure=>
     rw[HMz.out,HNB.out.boxI];have:=HK1.out;have:=HK2.out;omega
   .have HCk:Aa (Cg P Q GG HH T Cs l (k+1)=L++[X]):=⟨by
     rw[<-HLL.out];exact iF (by have:=HLT2.out;rw[<-HLL.out]at this;exact this) (by rw[show k+1=K1 from HK1.out];exact hfind)⟩
    have hil:i<pn:=by rw[HLn.out];exact(List.getElem?_eq_some_iff.1 hat).1
    obtain⟨bb,off,rfl,hbl,Bg⟩:=HL.out.at_ (by omega)
    obtain⟨x,y,x0,x1,x2,x3⟩:=Bg i X hat;have HLX:Aa (∀q,x.1=some q->q.block<wa.heap.size):=⟨Cj.lt x3.n⟩
    have HLY:Aa (∀q,y.1=some q->q.block<wa.heap.size):=⟨Cj.lt x3.r⟩
    have c0:w5.cell? ⟨bb,off+i*3,none⟩=some (.int .i64 X.1):=(HB5.out.cell (p:=⟨bb,off+i*3,none⟩) hbl).trans x0;have c1:w5.cell? ⟨bb,off+i*3+1,none⟩=some (.slice x.1 x.2.1 x.2.2):=(HB5.out.cell (p:=⟨bb,off+i*3+1,none⟩) hbl).trans x1;have c2:w5.cell? ⟨bb,off+i*3+2,none⟩=some (.slice y.1 y.2.1 y.2.2):=(HB5.out.cell (p:=⟨bb,off+i*3+2,none⟩) hbl).trans x2;have hi':(i:Int)<pn:=by omega
    have hb6:Below w5.heap.size w5 (w5.alloc (.cells #[.int .i64 X.1,.slice x.1 x.2.1 x.2.2,.slice y.1 y.2.1 y.2.2] 92)):=Bt;have hx6:=If.made 92 w5 (.int .i64 X.1) (.slice x.1 x.2.1 x.2.2) (.slice y.1 y.2.1 y.2.2);obtain⟨w6,hw6⟩:∃w6,w5.alloc (.cells #[.int .i64 X.1,.slice x.1 x.2.1 x.2.2,.slice y.1 y.2.1 y.2.2] 92)=w6:=⟨_,rfl⟩
    rw[hw6]at hb6 hx6
    have hB6:=Af HB5.out hb6;have hfirm:Gk (Pn 33 X x y) bad w6:=Pn.firm (Cj.firm (x3.n.below hB6) fun q hq hbad=>by have:=HLX.out q hq;have:=(HLT5.out _ hbad).1;omega) (Cj.firm (x3.r.below hB6) fun q hq hbad=>by have:=HLY.out q hq;have:=(HLT5.out _ hbad).1;omega) x3.ln x3.lr;obtain⟨i1,hi1,hz1,hs1,hbb1⟩:=info_parts Tryz.info_Piece;obtain⟨v9,w9,bad9,happ,ho9,hg9,m1,m2,m3,m4⟩:=(HO5.out.below hb6).app2 Tryz.underlying88 hi1 hz1 hs1 hbb1 rfl (by decide) hB6.size (g:=w5.heap.size) (c:=1) hx6.cells.1 hx6.cells.2.1 hx6.cells.2.2 hfirm HV.out (fun g hg=>Da (HLT5.out g hg).2 hb6.size) HLE.out 88;have HO9:=Ab ho9;have HB9:Aa (Below wa.heap.size wa w9):=⟨hB6.grown hg9 hB6.size fun g hg=>(HO5.out.block g hg).1⟩
    have HL9:Aa (∀g,bad9 g->wa.heap.size<=g/\g<w9.heap.size):=⟨fun g hg=>⟨by
     rcases Nat.lt_or_ge g w6.heap.size with h|h
     .exact(HLT5.out g (m2 g h hg)).1
     .exact Er hB6.size h,m4 g hg⟩⟩
    have HV9:=Ab m3;have HP9:Aa (Ca w9 g (K1:Int)):=⟨by
     have h6:=HP5.out.later hb6;refine⟨?_⟩;rw[hg9.block g h6.lt fun e=>?_]
     .exact h6.at_
     .obtain⟨cur,hcur⟩:=(HO5.out.below hb6).ty g e.symm;rw[h6.at_]at hcur
      injection hcur with h3
      injection h3 with _ h4
      exact absurd h4 (by decide)⟩
    have fp5:=HP5.out.free;clear hbl Bg x0 x1 x2 x3 hb6 hx6 hB6 hfirm hi1 hz1 hs1 hbb1 ho9 hg9 m1 m2 m3 m4 hfind hat HO5 HLT5 HV HP5 HLX HLY
    go_wp2_with (at_builtin;refine Lib.wpList_append_run _ rfl _ _ _ _ rfl _ _ rfl rfl _ _ happ ?_;refine Gn.out ?_)
    refine⟨?_⟩;clear happ c0 c1 c2 hw6 fp5;have hnb:=Ca.made w9 (K1:Int);have hbn:Below w9.heap.size w9 (w9.alloc (.cells #[.int .i64 (K1:Int)] 3)):=Bt;obtain⟨gn,hgn⟩:∃x,w9.heap.size=x:=⟨_,rfl⟩
    rw[hgn]at hnb
    obtain⟨wn,hwn⟩:∃wn,w9.alloc (.cells #[.int .i64 (K1:Int)] 3)=wn:=⟨_,rfl⟩
    rw[hwn]at hnb hbn
    have cn:=hnb.cell;have fn:=hnb.free;have HNB:Aa (Ca (wn.setCell ⟨gn,0,none⟩ (.int .i64 (K2:Int))) gn (K2:Int)):=⟨hnb.set _⟩
    have hbz:Below w9.heap.size w9 (wn.setCell ⟨gn,0,none⟩ (.int .i64 (K2:Int))):=hbn.setCell (by rw[hgn];exact Aw _) _;have HBz:Aa (Below wa.heap.size wa (wn.setCell ⟨gn,0,none⟩ (.int .i64 (K2:Int)))):=⟨Af HB9.out hbz⟩
    have HOz:=Ab (HO9.out.below hbz);have HLz:Aa (∀g,bad9 g->wa.heap.size<=g/\g<(wn.setCell ⟨gn,0,none⟩ (.int .i64 (K2:Int))).heap.size):=⟨fun g hg=>⟨(HL9.out g hg).1,Da (HL9.out g hg).2 hbz.size⟩⟩
    have HGz:Aa (wa.heap.size<=gn):=⟨by rw[<-hgn];exact HB9.out.size⟩
    clear hbz hnb hbn;have cp9:=HP9.out.cell;go_wp2;clear cp9 cn fn hwn hgn;go_roundw
    case rel=>exact⟨k+1,gn,bad9,by omega,rfl,HBz,⟨by rw[show (((k+1:Nat):Int)+1)=(K2:Int) by have:=HK1.out;have:=HK2.out;omega];exact HNB.out⟩,HGz,⟨by rw[HCk.out];exact HOz.out⟩,HLz,HV9⟩
    case measure=>
     rw[HMz.out,HNB.out.boxI];have:=HK1.out;have:=HK2.out;omega
  .have HEND:Aa (Cg P Q GG HH T Cs l 64=L):=⟨by
    rw[<-hL];refine aU hk ?_;rw[hL,hn1];omega⟩
   obtain⟨p9,c9,e9,hpp⟩:=HO.out.ppcs;rw[hn1]at e9
   cases e9;have HPP:=Ab hpp;have HBf:=Ab (HB.out.trans (HBr.out.mono HB.out.size));clear hpp hL hn1 HO
   by_cases hk64:k<64
   .have hi1:(K1:Int)<=64:=by omega
    have hi2:¬(n1:Int)<T:=by omega
    go_wp2;go_ret;exact⟨pv,cv,by rw[HEND.out,HN1.out];rfl,by rw[HEND.out];exact HPP.out,HBf.out⟩
   .have hi1:¬(K1:Int)<=64:=by omega
    go_wp2;go_ret;exact⟨pv,cv,by rw[HEND.out,HN1.out];rfl,by rw[HEND.out];exact HPP.out,HBf.out⟩
end Go.Proofs.YtokhckjemidbpaaGreatDoor
