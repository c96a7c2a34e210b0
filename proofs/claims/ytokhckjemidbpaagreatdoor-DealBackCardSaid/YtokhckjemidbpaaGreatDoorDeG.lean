/- The statements of stage 14: the chapter's example, and the dealing that they make. -/
import Derived.Test.YtokhckjemidbpaaGreatDoorDeN
set_option maxRecDepth 1000000
set_option maxHeartbeats 16000000
set_option linter.all false
namespace Go.Proofs.YtokhckjemidbpaaGreatDoor
open Go Go.RowKit Go.Proofs.YtokhckjemidbpaaGreatDoor.Flow
structure qJ (e:Nat) (s:Fj) (v:Value) (w:World):Prop where
 ex:∃x y:Option Addr×Nat×Nat,v=.agg #[.int .i64 s.1,.slice x.1 x.2.1 x.2.2,.slice y.1 y.2.1 y.2.2]/\Vt e s x y w
structure oU (g:Nat) (lb:Array Value) (w:World) (e:Nat) (l:List Fj) (p:Fj->Bool):Prop where
 out:∀(W:World) (s:Fj) (v:Value),Below w.heap.size w W->s∈l->qJ e s v W->Calls Tryz.prog g (#[v]++lb) W fun en w'=>en=.returned (.bool (p s))/\Below W.heap.size W w'
theorem aD {α:Type}{p:α->Bool}:∀ {l:List α} {k:Nat} {X:α},l[k]? = some X->p X=true->(∀i Y,i<k->l[i]? = some Y->p Y=false)->l.find? p=some X
 | [],_,_,h,_,_=>by simp at h
 | a::l,0,X,h,hp,_=>by
  simp at h;subst h;rw[List.find?_cons_of_pos hp]
 | a::l,k+1,X,h,hp,hj=>by
  have h0:=hj 0 a (by omega) rfl;rw[List.find?_cons_of_neg (by rw[h0];exact Bool.false_ne_true)];exact aD (k:=k) (by simpa using h) hp fun i Y hi hY=>hj (i+1) Y (by omega) (by simpa using hY)
theorem gN {α:Type}{p:α->Bool}{l:List α}(h:∀(i:Nat) (Y:α),l[i]? = some Y->p Y=false):l.find? p=none:=by
 rw[List.find?_eq_none];intro x hx;obtain⟨i,hi⟩:=List.getElem?_of_mem hx;rw[h i x hi];exact Bool.false_ne_true
def oO (l:List Fj)(p:Fj->Bool)(w:World)(en:Ending)(w':World):Prop :=
 ((l.find? p=none/\en=.returned (.int .i64 (-1))) ∨ ∃(k:Nat) (X:Fj),l.find? p=some X/\l[k]? = some X/\en=.returned (.int .i64 k))/\Below w.heap.size w w'
theorem Za (w:World)(e:Nat)(p0:Option Addr)(n c:Nat)(l:List Fj)(g:Nat)(lb:Array Value)(eg:∀args w,(callFunc g args).run Tryz.prog w=.ok (.enter g args) w)(p:Fj->Bool)(h:Tr w e p0 n c l)(hp:oU g lb w e l p) :
  Calls Tryz.prog 165 #[.slice p0 n c,.func (.func g) #[] lb] w (oO l p w):=by
 have HH:=Ab h;have hn:=h.len;have hmax:n<=9223372036854775807:=Ee h.cap h.max;have HLN:=Ab hn;clear h hn;go_enter Tryz.func165,Tryz.ntmps165;go_wp2
 go_loopw [5,8] (fun _ iv wr=>∃k:Nat,k<=n/\iv=.int .i64 k/\Aa (∀i X,i<k->l[i]? = some X->p X=false)/\Aa (Below w.heap.size w wr)) (fun _ iv _=>n-(intOf iv).toNat)
 case atStart=>exact⟨0,by omega,rfl,⟨fun i X h=>by omega⟩,⟨Ba _ _⟩⟩
 case round=>
  obtain⟨k,hk,rfl,HJ,HB⟩:=hrel
  by_cases hkn:k<n
  .obtain⟨X,hXk⟩:∃X,l[k]? = some X:=⟨l[k]'(by rw[<-HLN.out];exact hkn),List.getElem?_eq_getElem _⟩
   obtain⟨b,off,rfl,hb,hc⟩:=(HH.out.below HB.out).at_ (by omega)
   obtain⟨x,y,x0,x1,x2,x3⟩:=hc k X hXk;have HC:=Ab (hp.out wr X _ HB.out (List.mem_of_getElem? hXk) ⟨x,y,rfl,x3⟩);have HX:=Ab hXk;have hkn':(k:Int)<n:=by omega
   clear hc x3 hXk hp;obtain⟨P,hP⟩:∃P,p X=P:=⟨_,rfl⟩
   rw[hP]at HC
   have HP:=Ab hP;clear hP
   cases P with
   | true=>
    go_wp2_with (go_at_fn g;refine HC.out.mono ?_;rintro en w1 ⟨rfl,hb1⟩)
    go_ret;exact⟨.inr ⟨k,X,aD HX.out HP.out HJ.out,HX.out,rfl⟩,Ae HB.out hb1⟩
   | false=>
    have HJ':Aa (∀i Y,i<k+1->l[i]? = some Y->p Y=false):=⟨fun i Y hi hY=>by
     rcases(by omega:i<k ∨ i=k) with h|rfl
     .exact HJ.out i Y h hY
     .have:=HX.out;rw[hY]at this
      cases this;exact HP.out⟩
    go_wp2_with (go_at_fn g;refine HC.out.mono ?_;rintro en w1 ⟨rfl,hb1⟩)
    go_roundw
    case rel=>exact⟨k+1,by omega,by go_num,HJ',⟨Ae HB.out hb1⟩⟩
    case measure=>simp[intOf];omega
  .obtain rfl:k=n:=by omega
   have hkn':¬(k:Int)<k:=by omega
   go_wp2;go_ret;exact⟨.inl ⟨gN fun i X hX=>HJ.out i X (by rw[HLN.out];exact(List.getElem?_eq_some_iff.1 hX).1) hX,rfl⟩,HB.out⟩
structure Ca (w:World) (b:Nat) (n:Int):Prop where
 at_:w.heap[b]? = some (.cells #[.int .i64 n] 3 (0,0))
theorem Ca.lt {w:World}{b:Nat}{n:Int}(h:Ca w b n):b<w.heap.size:=(Gg h.at_).1
theorem Ca.below {w w':World}{B b:Nat}{n:Int}(h:Ca w b n)(hb:Below B w w')(hB:b<B):Ca w' b n:=⟨by rw[hb.block b hB];exact h.at_⟩
theorem Ca.later {w w':World}{b:Nat}{n:Int}(h:Ca w b n)(hb:Below w.heap.size w w'):Ca w' b n:=h.below hb h.lt
theorem Ca.cell {w:World}{b:Nat}{n:Int}(h:Ca w b n):w.cell? ⟨b,0,none⟩=some (.int .i64 n):=by
 have:=h.at_
 simp[World.cell?,this]
theorem Ca.free {w:World}{b:Nat}{n:Int}(h:Ca w b n):w.frozen? ⟨b,0,none⟩=false:=by
 have:=h.at_
 simp[World.frozen?,this]
theorem Ca.made (w:World)(n:Int):Ca (w.alloc (.cells #[.int .i64 n] 3)) w.heap.size n:=⟨heap_alloc_new w _⟩
theorem Ca.set {w:World}{b:Nat}{n:Int}(h:Ca w b n)(m:Int):Ca (w.setCell ⟨b,0,none⟩ (.int .i64 m)) b m:=⟨by
 have:=h.at_
 simp[World.setCell,Array.getElem?_modify,this]⟩
def boxI (v:Value)(w:World):Nat:=match v with | .pointer (some a)=>(match w.cell? a with|some (.int _ n)=>n.toNat|_=>0)|_=>0
theorem Ca.boxI {w:World}{b:Nat}{n:Int}(h:Ca w b n):boxI (.pointer (some ⟨b,0,none⟩)) w=n.toNat:=by
 have:=h.cell;simp[Go.Proofs.YtokhckjemidbpaaGreatDoor.boxI,this]
theorem dK {w:World}{b P Q GG HH e n c j bp bg bc:Nat}{p:Option Addr}{Cs:List Nat}(l:List Fj)(hp:Ca w bp j)(hgc:w.cell? ⟨bg,0,none⟩=some (.pointer (some ⟨b,0,none⟩)))(hgl:bg<w.heap.size)(hcc:w.cell? ⟨bc,0,none⟩=some (.slice p n c))(hcl:bc<w.heap.size)(hg:Au w b P Q GG HH)(h:Aq w e p n c Cs)(he:e<=200)(hn:n<=1000000)(hj:1<=j/\j<=64) :
  oU 166 #[.pointer (some ⟨bp,0,none⟩),.pointer (some ⟨bg,0,none⟩),.pointer (some ⟨bc,0,none⟩)] w 33 l (Lz P Q GG HH Cs j):=by
 refine⟨fun W s u hbw _ hu=>?_⟩;obtain⟨x,y,rfl,hxy⟩:=hu.ex;have hx3:=Jn.made 92 W (.int .i64 s.1) (.slice x.1 x.2.1 x.2.2) (.slice y.1 y.2.1 y.2.2);have hb0:Below W.heap.size W (W.alloc (.cells #[.int .i64 s.1,.slice x.1 x.2.1 x.2.2,.slice y.1 y.2.1 y.2.2] 92)):=Bq;obtain⟨wa,hwa⟩:∃wa,W.alloc (.cells #[.int .i64 s.1,.slice x.1 x.2.1 x.2.2,.slice y.1 y.2.1 y.2.2] 92)=wa:=⟨_,rfl⟩
 rw[hwa]at hx3 hb0
 have hba:=Ae hbw hb0;have c0:=hx3.cells.1;have c1:=hx3.cells.2.1;have c2:=hx3.cells.2.2;have cp:=(hp.later hba).cell;have cg:wa.cell? ⟨bg,0,none⟩=some (.pointer (some ⟨b,0,none⟩)):=(hba.cell (p:=⟨bg,0,none⟩) hgl).trans hgc;have cc:wa.cell? ⟨bc,0,none⟩=some (.slice p n c):=(hba.cell (p:=⟨bc,0,none⟩) hcl).trans hcc;have HG:=Ab (hg.below hba);have HC:=Ab (h.below hba);have HXY:=Ab (hxy.below hb0);have HB0:=Ab hb0;obtain⟨RES,hRES⟩:∃B,Lz P Q GG HH Cs j s=B:=⟨_,rfl⟩
 have HRES:Aa (RES=(decide (s.1=(j:Int))&&Ht P Q GG HH Cs j s.2.1 s.2.2)):=⟨by rw[<-hRES];rfl⟩
 obtain⟨ANS,hANS⟩:∃B,Ht P Q GG HH Cs j s.2.1 s.2.2=B:=⟨_,rfl⟩
 have HANS:=Ab hANS;rw[hRES];obtain⟨sj,hsj⟩:∃z,s.1=z:=⟨_,rfl⟩
 rw[hsj]at c0 HRES hwa ⊢
 clear hx3 hb0 hba hbw hp hgc hcc hg h hxy hu hRES hANS
 by_cases hjj:sj=(j:Int)
 .subst hjj;have HR2:Aa (RES=ANS):=⟨by rw[HRES.out,HANS.out,decide_eq_true rfl,Bool.true_and]⟩
  clear hsj;go_enter Tryz.func166,Tryz.ntmps166
  go_wp2_with fail
  refine(Rl HG.out HXY.out.n HXY.out.ln HXY.out.r HXY.out.lr HC.out (by decide) (by decide) he hn hj).mono ?_;rintro en w1 ⟨rfl,b1⟩;rw[HANS.out];have HB1:=Ab (Ae HB0.out b1);clear b1 c0 c1 c2 cp cg cc hwa;go_wp2;go_ret;exact⟨by rw[HR2.out];rfl,HB1.out⟩
 .have HR2:Aa (RES=false):=⟨by rw[HRES.out,decide_eq_false hjj,Bool.false_and]⟩
  clear hsj;go_enter Tryz.func166,Tryz.ntmps166;go_wp2;go_ret;exact⟨by rw[HR2.out];rfl,HB0.out⟩
theorem Tryz.info_Piece:(Tryz.prog.info? 92).map (fun i=>(i.zero,i.size,i.bytes))=some (some (.agg #[.int .i64 0,.slice none 0 0,.slice none 0 0]),3,56):=by kernel_rfl
def bE (L:List Fj)(w:World)(en:Ending)(w':World):Prop:=∃p c,en=.returned (.slice p L.length c)/\Tr w' 33 p L.length c L/\Below w.heap.size w w'
theorem aP {P Q G H T:Nat}{cs:List Nat}{l:List Fj}{k:Nat}(hk:k<=64)(h:k=64 ∨ ¬(Bz P Q G H T cs l k).length<T):Bz P Q G H T cs l 64=Bz P Q G H T cs l k:=by
 rcases h with rfl|h
 .rfl
 .exact Vj h 64 hk
theorem Xi {w:World}{b P Q GG HH e n c T pn pc:Nat}{p pl:Option Addr}{Cs:List Nat}{l:List Fj}(hg:Au w b P Q GG HH)(hC:Aq w e p n c Cs)(hL:Tr w 33 pl pn pc l)(he:e<=200)(hn:n<=1000000)(hT:T<=64) :
  Calls Tryz.prog 106 #[.pointer (some ⟨b,0,none⟩),.int .i64 (T:Nat),.slice p n c,.slice pl pn pc] w (bE (Bz P Q GG HH T Cs l 64) w):=by
 have hbx0:=Dp.mk1 w (.pointer (some ⟨b,0,none⟩)) 25;have hbx1:=Dp.mk1 (w.alloc (.cells #[.pointer (some ⟨b,0,none⟩)] 25)) (.slice p n c) 62;have hz:(w.alloc (.cells #[.pointer (some ⟨b,0,none⟩)] 25)).heap.size=w.heap.size+1:=by simp
 have cg:=(hbx1.bel.cell (p:=⟨w.heap.size,0,none⟩) (by show w.heap.size<_;rw[hz];omega)).trans hbx0.c0;have cc:=hbx1.c0;have hba:=Ae hbx0.bel hbx1.bel;have hsz:=hbx1.size;rw[hz]at cc hsz
 obtain⟨wa,hwa⟩:∃wa,((w.alloc (.cells #[.pointer (some ⟨b,0,none⟩)] 25)).alloc (.cells #[.slice p n c] 62))=wa:=⟨_,rfl⟩
 rw[hwa]at cg cc hba hsz
 have HCG:=Ab cg;have HCC:=Ab cc;have HSZ:Aa (w.heap.size<wa.heap.size/\w.heap.size+1<wa.heap.size):=⟨by omega⟩
 have HG:=Ab (hg.below hba);have HC:=Ab (hC.below hba);have HL:=Ab (hL.below hba);have HB:=Ab hba;have HLn:=Ab hL.len;have hcap:=hL.cap;have hmax:=hL.max;have hpb:=Ca.made wa 1;have hb1:Below wa.heap.size wa (wa.alloc (.cells #[.int .i64 1] 3)):=Bq;obtain⟨w1,hw1⟩:∃w1,wa.alloc (.cells #[.int .i64 1] 3)=w1:=⟨_,rfl⟩
 obtain⟨g1,hg1⟩:∃x,wa.heap.size=x:=⟨_,rfl⟩
 rw[hw1]at hpb hb1
 rw[hg1]at hpb
 have HPB:=Ab hpb;have HB1:=Ab hb1;have HG1:Aa (wa.heap.size<=g1):=⟨by rw[hg1];exact Av _⟩
 clear hg hC hL hbx0 hbx1 hz cg cc hba hsz hpb hb1;go_enter Tryz.func106,Tryz.ntmps106;go_wp2
 go_loopw [9,10,11] (fun vc pb _ wr=>∃(k g:Nat) (bad:Nat->Prop),k<=64/\pb=.pointer (some ⟨g,0,none⟩)/\Aa (Below wa.heap.size wa wr)/\Aa (Ca wr g ((k:Int)+1))/\Aa (wa.heap.size<=g)/\Aa (Ft (Vt 33) 92 wa.heap.size bad wr vc (Bz P Q GG HH T Cs l k))/\Aa (∀g,bad g->wa.heap.size<=g/\g<wr.heap.size)/\Aa (∀g,vc.ownBlock=some g->bad g)) (fun _ pb _ wr=>66-boxI pb wr)
 case atStart=>exact⟨0,g1,fun _=>False,by omega,rfl,HB1,HPB,HG1,⟨by rw[show Bz P Q GG HH T Cs l 0=[] from gV _ _];exact Ft.nil⟩,⟨fun _ h=>h.elim⟩,⟨fun g h=>by cases h⟩⟩
 case round=>
  clear HPB HB1 HG1 hw1 hg1 hwa;obtain⟨k,g,bad,hk,rfl,HBr,HP,HGr,HO,HLT,HV⟩:=hrel;have HMz:Aa (boxI (.pointer (some ⟨g,0,none⟩)) wr=k+1):=⟨by rw[HP.out.boxI];omega⟩
  obtain⟨L,hL⟩:∃L,Bz P Q GG HH T Cs l k=L:=⟨_,rfl⟩
  rw[hL]at HO
  obtain⟨pv,cv,hv,hlc,hcm,hpn,-⟩:=HO.out.elim;obtain⟨n1,hn1⟩:∃x,L.length=x:=⟨_,rfl⟩
  rw[hn1]at hv hlc
  subst hv;obtain⟨K1,hK1⟩:∃K,k+1=K:=⟨_,rfl⟩
  obtain⟨K2,hK2⟩:∃K,K1+1=K:=⟨_,rfl⟩
  have HP':Aa (Ca wr g (K1:Int)):=⟨by rw[<-hK1];exact HP.out⟩
  have HK1:=Ab hK1;have HK2:=Ab hK2;have HLL:=Ab hL;have HN1:=Ab hn1;have cp:=HP'.out.cell;have fp:=HP'.out.free
  by_cases hgo:k<64/\n1<T
  .have hi1:(K1:Int)<=64:=by omega
   have hi2:(n1:Int)<T:=by omega
   have hk1:(K1:Int)+1=K2:=by omega
   have hkl:k<64:=hgo.1;have HJ:Aa (1<=K1/\K1<=64):=⟨by omega⟩
   have HLE:Aa (L.length<=1000000):=⟨by rw[hn1];omega⟩
   have HLT2:Aa (L.length<T):=⟨by rw[hn1];omega⟩
   have HAS:=Ab (dK l HP'.out ((HBr.out.cell (p:=⟨w.heap.size,0,none⟩) HSZ.out.1).trans HCG.out) (Da HSZ.out.1 HBr.out.size) ((HBr.out.cell (p:=⟨w.heap.size+1,0,none⟩) HSZ.out.2).trans HCC.out) (Da HSZ.out.2 HBr.out.size) (HG.out.below HBr.out) (HC.out.below HBr.out) he hn HJ.out);have HPL:=Ab (HL.out.below HBr.out);clear hK1 hK2 hL hn1 hgo HP
   go_wp2_with fail
   refine(Za _ 33 pl pn pc l _ _ (enters_of Tryz.func166 (by kernel_rfl) rfl) _ HPL.out HAS.out).mono ?_;rintro en w5 ⟨hor,b5⟩;have HB5:=Ab (Ae HBr.out b5);have HP5:=Ab (HP'.out.later b5);have HO5:=Ab (HO.out.below b5);have HLT5:Aa (∀g,bad g->wa.heap.size<=g/\g<w5.heap.size):=⟨fun g hg=>⟨(HLT.out g hg).1,Da (HLT.out g hg).2 b5.size⟩⟩
   clear b5 HBr HP' HO HLT HAS HPL cp fp;rcases hor with ⟨hnone,rfl⟩|⟨i,X,hfind,hat,rfl⟩
   .have HCk:Aa (Bz P Q GG HH T Cs l (k+1)=L):=⟨by rw[<-HLL.out];exact gX (by rw[show k+1=K1 from HK1.out];exact hnone)⟩
    have cp5:=HP5.out.cell;have fp5:=HP5.out.free;obtain⟨w9,hw9⟩:∃w9,w5=w9:=⟨_,rfl⟩
    subst hw9;obtain⟨bad9,hbad9⟩:∃x,bad=x:=⟨_,rfl⟩
    subst hbad9;have HB9:=Ab HB5.out;have HO9:=Ab HO5.out;have HL9:=Ab HLT5.out;have HV9:=Ab HV.out;have HP9:=Ab HP5.out;clear hnone HB5 HO5 HLT5 HV HP5 cp5 fp5;have hnb:=Ca.made w5 (K1:Int);have hbn:Below w5.heap.size w5 (w5.alloc (.cells #[.int .i64 (K1:Int)] 3)):=Bq;obtain⟨gn,hgn⟩:∃x,w5.heap.size=x:=⟨_,rfl⟩
    rw[hgn]at hnb
    obtain⟨wn,hwn⟩:∃wn,w5.alloc (.cells #[.int .i64 (K1:Int)] 3)=wn:=⟨_,rfl⟩
    rw[hwn]at hnb hbn
    have cn:=hnb.cell;have fn:=hnb.free;have HNB:Aa (Ca (wn.setCell ⟨gn,0,none⟩ (.int .i64 (K2:Int))) gn (K2:Int)):=⟨hnb.set _⟩
    have hbz:Below w5.heap.size w5 (wn.setCell ⟨gn,0,none⟩ (.int .i64 (K2:Int))):=hbn.setCell (by rw[hgn];exact Av _) _;have HBz:Aa (Below wa.heap.size wa (wn.setCell ⟨gn,0,none⟩ (.int .i64 (K2:Int)))):=⟨Ae HB9.out hbz⟩
    have HOz:=Ab (HO9.out.below hbz);have HLz:Aa (∀g,bad g->wa.heap.size<=g/\g<(wn.setCell ⟨gn,0,none⟩ (.int .i64 (K2:Int))).heap.size):=⟨fun g hg=>⟨(HL9.out g hg).1,Da (HL9.out g hg).2 hbz.size⟩⟩
    have HGz:Aa (wa.heap.size<=gn):=⟨by rw[<-hgn];exact HB9.out.size⟩
    clear hbz hnb hbn;have cp9:=HP9.out.cell;go_wp2;clear cp9 cn fn hwn hgn;go_roundw
    case rel=>exact⟨k+1,gn,bad,by omega,rfl,HBz,⟨by rw[show (((k+1:Nat):Int)+1)=(K2:Int) by have:=HK1.out;have:=HK2.out;omega];exact HNB.out⟩,HGz,⟨by rw[HCk.out];exact HOz.out⟩,HLz,HV9⟩
    case measure=>
     rw[HMz.out,HNB.out.boxI];have:=HK1.out;have:=HK2.out;omega
   .have HCk:Aa (Bz P Q GG HH T Cs l (k+1)=L++[X]):=⟨by
     rw[<-HLL.out];exact gW (by have:=HLT2.out;rw[<-HLL.out]at this;exact this) (by rw[show k+1=K1 from HK1.out];exact hfind)⟩
    have hil:i<pn:=by rw[HLn.out];exact(List.getElem?_eq_some_iff.1 hat).1
    obtain⟨bb,off,rfl,hbl,Bb⟩:=HL.out.at_ (by omega)
    obtain⟨x,y,x0,x1,x2,x3⟩:=Bb i X hat;have HLX:Aa (∀q,x.1=some q->q.block<wa.heap.size):=⟨Cj.lt x3.n⟩
    have HLY:Aa (∀q,y.1=some q->q.block<wa.heap.size):=⟨Cj.lt x3.r⟩
    have c0:w5.cell? ⟨bb,off+i*3,none⟩=some (.int .i64 X.1):=(HB5.out.cell (p:=⟨bb,off+i*3,none⟩) hbl).trans x0;have c1:w5.cell? ⟨bb,off+i*3+1,none⟩=some (.slice x.1 x.2.1 x.2.2):=(HB5.out.cell (p:=⟨bb,off+i*3+1,none⟩) hbl).trans x1;have c2:w5.cell? ⟨bb,off+i*3+2,none⟩=some (.slice y.1 y.2.1 y.2.2):=(HB5.out.cell (p:=⟨bb,off+i*3+2,none⟩) hbl).trans x2;have hi':(i:Int)<pn:=by omega
    have hb6:Below w5.heap.size w5 (w5.alloc (.cells #[.int .i64 X.1,.slice x.1 x.2.1 x.2.2,.slice y.1 y.2.1 y.2.2] 92)):=Bq;have hx6:=Jn.made 92 w5 (.int .i64 X.1) (.slice x.1 x.2.1 x.2.2) (.slice y.1 y.2.1 y.2.2);obtain⟨w6,hw6⟩:∃w6,w5.alloc (.cells #[.int .i64 X.1,.slice x.1 x.2.1 x.2.2,.slice y.1 y.2.1 y.2.2] 92)=w6:=⟨_,rfl⟩
    rw[hw6]at hb6 hx6
    have hB6:=Ae HB5.out hb6;have hfirm:Gc (Vt 33 X x y) bad w6:=Vt.firm (Cj.firm (x3.n.below hB6) fun q hq hbad=>by have:=HLX.out q hq;have:=(HLT5.out _ hbad).1;omega) (Cj.firm (x3.r.below hB6) fun q hq hbad=>by have:=HLY.out q hq;have:=(HLT5.out _ hbad).1;omega) x3.ln x3.lr;obtain⟨i1,hi1,hz1,hs1,hbb1⟩:=info_parts Tryz.info_Piece;obtain⟨v9,w9,bad9,happ,ho9,hg9,m1,m2,m3,m4⟩:=(HO5.out.below hb6).app2 Tryz.underlying88 hi1 hz1 hs1 hbb1 rfl (by decide) hB6.size (g:=w5.heap.size) (c:=1) hx6.cells.1 hx6.cells.2.1 hx6.cells.2.2 hfirm HV.out (fun g hg=>Da (HLT5.out g hg).2 hb6.size) HLE.out 88;have HO9:=Ab ho9;have HB9:Aa (Below wa.heap.size wa w9):=⟨hB6.grown hg9 hB6.size fun g hg=>(HO5.out.block g hg).1⟩
    have HL9:Aa (∀g,bad9 g->wa.heap.size<=g/\g<w9.heap.size):=⟨fun g hg=>⟨by
     rcases Nat.lt_or_ge g w6.heap.size with h|h
     .exact(HLT5.out g (m2 g h hg)).1
     .exact Ee hB6.size h,m4 g hg⟩⟩
    have HV9:=Ab m3;have HP9:Aa (Ca w9 g (K1:Int)):=⟨by
     have h6:=HP5.out.later hb6;refine⟨?_⟩;rw[hg9.block g h6.lt fun e=>?_]
     .exact h6.at_
     .obtain⟨cur,hcur⟩:=(HO5.out.below hb6).ty g e.symm;rw[h6.at_]at hcur
      injection hcur with h3
      injection h3 with _ h4
      exact absurd h4 (by decide)⟩
    have fp5:=HP5.out.free;clear hbl Bb x0 x1 x2 x3 hb6 hx6 hB6 hfirm hi1 hz1 hs1 hbb1 ho9 hg9 m1 m2 m3 m4 hfind hat HO5 HLT5 HV HP5 HLX HLY
    go_wp2_with (at_builtin;refine Lib.wpList_append_run _ rfl _ _ _ _ rfl _ _ rfl rfl _ _ happ ?_;refine Fd.out ?_)
    refine⟨?_⟩;clear happ c0 c1 c2 hw6 fp5;have hnb:=Ca.made w9 (K1:Int);have hbn:Below w9.heap.size w9 (w9.alloc (.cells #[.int .i64 (K1:Int)] 3)):=Bq;obtain⟨gn,hgn⟩:∃x,w9.heap.size=x:=⟨_,rfl⟩
    rw[hgn]at hnb
    obtain⟨wn,hwn⟩:∃wn,w9.alloc (.cells #[.int .i64 (K1:Int)] 3)=wn:=⟨_,rfl⟩
    rw[hwn]at hnb hbn
    have cn:=hnb.cell;have fn:=hnb.free;have HNB:Aa (Ca (wn.setCell ⟨gn,0,none⟩ (.int .i64 (K2:Int))) gn (K2:Int)):=⟨hnb.set _⟩
    have hbz:Below w9.heap.size w9 (wn.setCell ⟨gn,0,none⟩ (.int .i64 (K2:Int))):=hbn.setCell (by rw[hgn];exact Av _) _;have HBz:Aa (Below wa.heap.size wa (wn.setCell ⟨gn,0,none⟩ (.int .i64 (K2:Int)))):=⟨Ae HB9.out hbz⟩
    have HOz:=Ab (HO9.out.below hbz);have HLz:Aa (∀g,bad9 g->wa.heap.size<=g/\g<(wn.setCell ⟨gn,0,none⟩ (.int .i64 (K2:Int))).heap.size):=⟨fun g hg=>⟨(HL9.out g hg).1,Da (HL9.out g hg).2 hbz.size⟩⟩
    have HGz:Aa (wa.heap.size<=gn):=⟨by rw[<-hgn];exact HB9.out.size⟩
    clear hbz hnb hbn;have cp9:=HP9.out.cell;go_wp2;clear cp9 cn fn hwn hgn;go_roundw
    case rel=>exact⟨k+1,gn,bad9,by omega,rfl,HBz,⟨by rw[show (((k+1:Nat):Int)+1)=(K2:Int) by have:=HK1.out;have:=HK2.out;omega];exact HNB.out⟩,HGz,⟨by rw[HCk.out];exact HOz.out⟩,HLz,HV9⟩
    case measure=>
     rw[HMz.out,HNB.out.boxI];have:=HK1.out;have:=HK2.out;omega
  .have HEND:Aa (Bz P Q GG HH T Cs l 64=L):=⟨by
    rw[<-hL];refine aP hk ?_;rw[hL,hn1];omega⟩
   obtain⟨p9,c9,e9,hpp⟩:=HO.out.ppcs;rw[hn1]at e9
   cases e9;have HPP:=Ab hpp;have HBf:=Ab (HB.out.trans (HBr.out.mono HB.out.size));clear hpp hL hn1 HO
   by_cases hk64:k<64
   .have hi1:(K1:Int)<=64:=by omega
    have hi2:¬(n1:Int)<T:=by omega
    go_wp2;go_ret;exact⟨pv,cv,by rw[HEND.out,HN1.out];rfl,by rw[HEND.out];exact HPP.out,HBf.out⟩
   .have hi1:¬(K1:Int)<=64:=by omega
    go_wp2;go_ret;exact⟨pv,cv,by rw[HEND.out,HN1.out];rfl,by rw[HEND.out];exact HPP.out,HBf.out⟩
theorem Up {w1:World}{v v':Value}(h:Pf w1 v v'){g:Nat}(hg:g<w1.heap.size)(hn:v.ownBlock≠some g):v'.ownBlock≠some g:=fun e=>by
 rcases h with h|h
 .rw[h]at e;exact hn e
 .have:=h g e;omega
structure R3 (w:World) (B:Nat) (v1 v2 v3:Value) (us1 us2 us3:List P3):Prop where
 r1:En w B v1 us1
 r2:En w B v2 us2
 r3:En w B v3 us3
 s12:∀g,v1.ownBlock=some g->v2.ownBlock≠some g
 s13:∀g,v1.ownBlock=some g->v3.ownBlock≠some g
 s23:∀g,v2.ownBlock=some g->v3.ownBlock≠some g
section
variable {w:World} {B:Nat} {v1 v2 v3:Value} {us1 us2 us3:List P3}
theorem R3.start (w:World)(B:Nat):R3 w B (.slice none 0 0) (.slice none 0 0) (.slice none 0 0) [] [] []:=⟨En.nil _ _,En.nil _ _,En.nil _ _,(fun _ h=>by cases h),(fun _ h=>by cases h),fun _ h=>by cases h⟩
theorem R3.below {w':World}(h:R3 w B v1 v2 v3 us1 us2 us3)(hb:Below w.heap.size w w'):R3 w' B v1 v2 v3 us1 us2 us3:=⟨h.r1.below hb,h.r2.below hb,h.r3.below hb,h.s12,h.s13,h.s23⟩
theorem R3.rot (h:R3 w B v1 v2 v3 us1 us2 us3):R3 w B v2 v3 v1 us2 us3 us1:=⟨h.r2,h.r3,h.r1,h.s23,fun g h1 h2=>h.s12 g h2 h1,fun g h1 h2=>h.s13 g h2 h1⟩
theorem R3.app1 (h:R3 w B v1 v2 v3 us1 us2 us3){a:Addr}{c:Nat}{x:P3}(hc:w.cell? a=some (sv x))(hB:B<=w.heap.size)(hl:us1.length<=100000)(ty:TypeId) :
  ∃v' w',(Builtin.append_ #[62, 62] ty #[v1,.slice (some a) 1 c]).run Tryz.prog w=.ok v' w'/\R3 w' B v' v2 v3 (us1++[x]) us2 us3/\w.grownBy w' v1.ownBlock:=by
 obtain⟨v',w',k1,k2,k3,k4⟩:=h.r1.app (c:=c) hc hB hl ty;refine⟨v',w',k1,⟨k2,h.r2.keep fun g hg=>k3.block g (h.r2.own hg).2 fun e=>h.s12 g e.symm hg,h.r3.keep fun g hg=>k3.block g (h.r3.own hg).2 fun e=>h.s13 g e.symm hg,?_,?_,h.s23⟩,k3⟩
 .intro g hg hg2;exact Up k4 (h.r2.own hg2).2 (fun e=>h.s12 g e hg2) hg
 .intro g hg hg2;exact Up k4 (h.r3.own hg2).2 (fun e=>h.s13 g e hg2) hg
theorem R3.app2 (h:R3 w B v1 v2 v3 us1 us2 us3){a:Addr}{c:Nat}{x:P3}(hc:w.cell? a=some (sv x))(hB:B<=w.heap.size)(hl:us2.length<=100000)(ty:TypeId) :
  ∃v' w',(Builtin.append_ #[62, 62] ty #[v2,.slice (some a) 1 c]).run Tryz.prog w=.ok v' w'/\R3 w' B v1 v' v3 us1 (us2++[x]) us3/\w.grownBy w' v2.ownBlock :=
 let ⟨v',w',k1,k2,k3⟩:=h.rot.app1 (c:=c) hc hB hl ty
 ⟨v',w',k1,k2.rot.rot,k3⟩
theorem R3.app3 (h:R3 w B v1 v2 v3 us1 us2 us3){a:Addr}{c:Nat}{x:P3}(hc:w.cell? a=some (sv x))(hB:B<=w.heap.size)(hl:us3.length<=100000)(ty:TypeId) :
  ∃v' w',(Builtin.append_ #[62, 62] ty #[v3,.slice (some a) 1 c]).run Tryz.prog w=.ok v' w'/\R3 w' B v1 v2 v' us1 us2 (us3++[x])/\w.grownBy w' v3.ownBlock :=
 let ⟨v',w',k1,k2,k3⟩:=h.rot.rot.app1 (c:=c) hc hB hl ty
 ⟨v',w',k1,k2.rot,k3⟩
end
theorem Mn {w w':World}{B b:Nat}{v0 v1 v2 v:Value}{us:List P3}{T:TypeId}(h:Jn T w b v0 v1 v2)(hr:En w B v us)(hg:w.grownBy w' v.ownBlock)(hT:T ≠ 37):Jn T w' b v0 v1 v2:=⟨by
 rw[hg.block b h.lt fun e=>?_]
 .exact h.at_
 .rcases hr.ex with ⟨rfl,_⟩|⟨g,cap,rest,rfl,_,h2,_⟩
  .cases e
  .have e2:b=g:=by simpa [Value.ownBlock]using e
   subst e2;have h3:=h.at_
   unfold Ej at h2;rw[h2]at h3
   injection h3 with h4
   injection h4 with _ h5
   exact absurd h5.symm hT⟩
def mH (A B:Nat)(w:World)(en:Ending)(w':World):Prop:=∃x y:P3,en=.returned (.agg #[.slice x.1 x.2.1 x.2.2,.slice y.1 y.2.1 y.2.2])/\(Cr w' x A/\A<An 33)/\(Cr w' y B/\B<An 33)/\Below w.heap.size w w'
theorem dG {q n:Nat}{xs:List Nat}(hn:n≠0)(h:(xs.map fun x=>x%q).Nodup):Eu q n n xs=0:=by
 unfold Eu;rw[if_neg hn,if_neg (fun h=>h rfl),if_pos h]
theorem cV {w:World}{b P Q GG HH e n c X A1 A2:Nat}{p:Option Addr}{l:List Fj}{v:Value}(hq:Bf Q)(hg:Au w b P Q GG HH)(hl:Tr w 33 p n c l)(hX:Fit e X v w)(he:e<=200)(hn:0<n/\n<=12)(hpe:∀s∈l,∃j:Nat,s.1=(j:Int)/\j<=64)(hu:((l.map fun p=>p.1.toNat).map fun x=>x%Q).Nodup)(hA1:Po Q X (fun p=>p.2.1) l=A1)(hA2:Po Q X (fun p=>p.2.2) l=A2) :
  Calls Tryz.prog 107 #[.pointer (some ⟨b,0,none⟩),.slice p n c,v] w (mH A1 A2 w):=by
 obtain⟨px,nx,cx,rfl,x1,x2⟩:=Ao hX;have hxb:=Af.made w (.slice px nx cx);have hz:(w.alloc (.cells #[.slice px nx cx] 37)).heap.size=w.heap.size+1:=by simp
 have hb0:Below w.heap.size w (w.alloc (.cells #[.slice px nx cx] 37)):=Bq;have hs:=Bx.made 75 (w.alloc (.cells #[.slice px nx cx] 37)) (.slice none 0 0) (.slice none 0 0);have hb2:Below (w.alloc (.cells #[.slice px nx cx] 37)).heap.size (w.alloc (.cells #[.slice px nx cx] 37)) ((w.alloc (.cells #[.slice px nx cx] 37)).alloc (.cells #[.slice none 0 0,.slice none 0 0] 75)):=Bq;have hxb2:=hxb.below hb2 hxb.lt;have hba:=Ae hb0 hb2;rw[hz]at hs
 obtain⟨wa,hwa⟩:∃wa,((w.alloc (.cells #[.slice px nx cx] 37)).alloc (.cells #[.slice none 0 0,.slice none 0 0] 75))=wa:=⟨_,rfl⟩
 rw[hwa]at hs hxb2 hba
 have HXB:=Ab hxb2;have HXS:=Ab hs;have HB:=Ab hba;have HG:=Ab (hg.below hba);have HL:=Ab (hl.below hba);have HX:=Ab ((Fit.of x1 x2).below hba);have HLn:=Ab hl.len;have hcap:=hl.cap;have hmax:=hl.max;have HPE:=Ab hpe;have HQ:=Ab hq;have HNN:=Ab hn;have HFN:=Ab (dG (q:=Q) (n:=n) (by omega) hu);have HA1:=Ab hA1;have HA2:=Ab hA2;clear hg hl hX x1 x2 hxb hz hb0 hs hb2 hxb2 hba hpe hq hn hu hA1 hA2;go_enter Tryz.func107,Tryz.ntmps107;go_wp2
 go_loopw [7,8,9,11,19] (fun v1 v2 v3 _ iv wr=>∃(k:Nat) (us1 us2 us3:List P3),k<=n/\iv=.int .i64 k/\Aa (Below wa.heap.size wa wr)/\Aa (R3 wr wa.heap.size v1 v2 v3 us1 us2 us3)/\Aa (Ea wr 2 us1 ((l.take k).map fun p=>p.1.toNat))/\Aa (Ea wr 33 us2 ((l.take k).map fun p=>p.2.1))/\Aa (Ea wr 33 us3 ((l.take k).map fun p=>p.2.2))) (fun _ _ _ _ iv _=>n-(intOf iv).toNat)
 case atStart=>exact⟨0,[],[],[],by omega,rfl,⟨Ba _ _⟩,⟨R3.start _ _⟩,⟨Ea.nil _ _⟩,⟨Ea.nil _ _⟩,⟨Ea.nil _ _⟩⟩
 case round=>
  clear hwa;obtain⟨k,us1,us2,us3,hk,rfl,HBr,HR,HT1,HT2,HT3⟩:=hrel
  by_cases hkn:k<n
  .obtain⟨S,hSk⟩:∃s,l[k]? = some s:=⟨l[k]'(by rw[<-HLn.out];exact hkn),List.getElem?_eq_getElem _⟩
   obtain⟨J,hJ,hJ64⟩:=HPE.out S (List.mem_of_getElem? hSk);obtain⟨bb,off,rfl,hbl,Bb⟩:=HL.out.at_ (by omega)
   obtain⟨x,y,x0,x1,x2,x3⟩:=Bb k S hSk;rw[hJ]at x0
   have c0:wr.cell? ⟨bb,off+k*3,none⟩=some (.int .i64 (J:Int)):=(HBr.out.cell (p:=⟨bb,off+k*3,none⟩) hbl).trans x0;have c1:wr.cell? ⟨bb,off+k*3+1,none⟩=some (.slice x.1 x.2.1 x.2.2):=(HBr.out.cell (p:=⟨bb,off+k*3+1,none⟩) hbl).trans x1;have c2:wr.cell? ⟨bb,off+k*3+2,none⟩=some (.slice y.1 y.2.1 y.2.2):=(HBr.out.cell (p:=⟨bb,off+k*3+2,none⟩) hbl).trans x2;have hb1:Below wr.heap.size wr (wr.alloc (.cells #[.int .i64 (J:Int),.slice x.1 x.2.1 x.2.2,.slice y.1 y.2.1 y.2.2] 92)):=Bq;have hx1:=Jn.made 92 wr (.int .i64 (J:Int)) (.slice x.1 x.2.1 x.2.2) (.slice y.1 y.2.1 y.2.2);obtain⟨bp,hbp⟩:∃x,wr.heap.size=x:=⟨_,rfl⟩
   obtain⟨w1,hw1⟩:∃w1,wr.alloc (.cells #[.int .i64 (J:Int),.slice x.1 x.2.1 x.2.2,.slice y.1 y.2.1 y.2.2] 92)=w1:=⟨_,rfl⟩
   rw[hw1]at hb1 hx1
   rw[hbp]at hx1
   have HX1:=Ab hx1;have HB1:=Ab (Ae HBr.out hb1);have HR1:=Ab (HR.out.below hb1);have HT11:=Ab (HT1.out.below hb1);have HT21:=Ab (HT2.out.below hb1);have HT31:=Ab (HT3.out.below hb1);have HTK:Aa (l.take (k+1)=l.take k++[S]):=⟨Cx hSk⟩
   have HSJ:Aa (S.1.toNat=J):=⟨by rw[hJ];rfl⟩
   have HL1:Aa (us1.length<=100000):=⟨by rw[HT1.out.len,List.length_map,List.length_take];have:=HNN.out;omega⟩
   have HL2:Aa (us2.length<=100000):=⟨by rw[HT2.out.len,List.length_map,List.length_take];have:=HNN.out;omega⟩
   have HL3:Aa (us3.length<=100000):=⟨by rw[HT3.out.len,List.length_map,List.length_take];have:=HNN.out;omega⟩
   have HNXY:Aa (Vt 33 S x y wa):=⟨x3⟩
   have HJL:Aa (J<=1000000):=⟨by omega⟩
   have hkn':(k:Int)<n:=by omega
   have d0:=HX1.out.cells.1;clear hSk hJ hbl Bb x0 x1 x2 x3 hb1 hx1 HBr HR HT1 HT2 HT3
   go_wp2_with fail
   refine(Jz _ HJL.out).mono ?_;rintro en w3 ⟨_,rfl,⟨po,no,co,rfl,o1,o2⟩,b3⟩;have HXw3:=Ab (HX1.out.below b3 HX1.out.lt);have HBw3:=Ab (Ae HB1.out b3);have HRw3:=Ab (HR1.out.below b3);have HT1w3:=Ab (HT11.out.below b3);have HT2w3:=Ab (HT21.out.below b3);have HT3w3:=Ab (HT31.out.below b3);clear b3 HX1 HB1 HR1 HT11 HT21 HT31 d0 c0 c1 c2 hw1 hbp;have hbw3a:Below w3.heap.size w3 (w3.alloc (.cells #[.slice po no co] 37)):=Bq;have hcw3a:(w3.alloc (.cells #[.slice po no co] 37)).cell? ⟨w3.heap.size,0,none⟩=some (.slice po no co):=(Af.made w3 (.slice po no co)).cell;obtain⟨w3a,hw3a⟩:∃zz,w3.alloc (.cells #[.slice po no co] 37)=zz:=⟨_,rfl⟩
   rw[hw3a]at hbw3a hcw3a
   have hBw3a:=Ae HBw3.out hbw3a;have hrw3a:=HRw3.out.below hbw3a;obtain⟨vw4,w4,happ,hrw4,hgw4⟩:=hrw3a.app1 (x:=(po,no,co)) hcw3a hBw3a.size HL1.out 62 (c:=1);have HRw4:=Ab hrw4;have HBw4:Aa (Below wa.heap.size wa w4):=⟨hBw3a.grown hgw4 hBw3a.size fun g hg=>(hrw3a.r1.own hg).1⟩
   have HXw4:=Ab (Mn (HXw3.out.below hbw3a HXw3.out.lt) hrw3a.r1 hgw4 (by decide));have HT2w4:=Ab ((HT2w3.out.below hbw3a).grown hrw3a.r1 hgw4);have HT3w4:=Ab ((HT3w3.out.below hbw3a).grown hrw3a.r1 hgw4);have HT1w4:=Ab (((HT1w3.out.below hbw3a).grown hrw3a.r1 hgw4).snoc (x:=(po,no,co)) (Fp hrw3a.r1 hgw4 (o1.below hbw3a)) o2);clear hbw3a hcw3a hBw3a hrw3a hrw4 hgw4 o1 o2
   go_wp2_with (at_builtin;refine Lib.wpList_append_run _ rfl _ _ _ _ rfl _ _ rfl rfl _ _ happ ?_;refine Fd.out ?_)
   refine⟨?_⟩;clear happ;have HNX4:Aa (Cr w4 x S.2.1/\S.2.1<An 33):=⟨HNXY.out.n.below HBw4.out,HNXY.out.ln⟩
   have d1:=HXw4.out.cells.2.1;have hbw4a:Below w4.heap.size w4 (w4.alloc (.cells #[.slice x.1 x.2.1 x.2.2] 37)):=Bq;have hcw4a:(w4.alloc (.cells #[.slice x.1 x.2.1 x.2.2] 37)).cell? ⟨w4.heap.size,0,none⟩=some (.slice x.1 x.2.1 x.2.2):=(Af.made w4 (.slice x.1 x.2.1 x.2.2)).cell;obtain⟨w4a,hw4a⟩:∃zz,w4.alloc (.cells #[.slice x.1 x.2.1 x.2.2] 37)=zz:=⟨_,rfl⟩
   rw[hw4a]at hbw4a hcw4a
   have hBw4a:=Ae HBw4.out hbw4a;have hrw4a:=HRw4.out.below hbw4a;obtain⟨vw5,w5,happ,hrw5,hgw5⟩:=hrw4a.app2 (x:=x) hcw4a hBw4a.size HL2.out 62 (c:=1);have HRw5:=Ab hrw5;have HBw5:Aa (Below wa.heap.size wa w5):=⟨hBw4a.grown hgw5 hBw4a.size fun g hg=>(hrw4a.r2.own hg).1⟩
   have HXw5:=Ab (Mn (HXw4.out.below hbw4a HXw4.out.lt) hrw4a.r2 hgw5 (by decide));have HT1w5:=Ab ((HT1w4.out.below hbw4a).grown hrw4a.r2 hgw5);have HT3w5:=Ab ((HT3w4.out.below hbw4a).grown hrw4a.r2 hgw5);have HT2w5:=Ab (((HT2w4.out.below hbw4a).grown hrw4a.r2 hgw5).snoc (x:=x) (Fp hrw4a.r2 hgw5 (HNX4.out.1.below hbw4a)) HNX4.out.2);clear hbw4a hcw4a hBw4a hrw4a hrw5 hgw5
   go_wp2_with (at_builtin;refine Lib.wpList_append_run _ rfl _ _ _ _ rfl _ _ rfl rfl _ _ happ ?_;refine Fd.out ?_)
   refine⟨?_⟩;clear happ;have HNY5:Aa (Cr w5 y S.2.2/\S.2.2<An 33):=⟨HNXY.out.r.below HBw5.out,HNXY.out.lr⟩
   have d2:=HXw5.out.cells.2.2;clear d1;have hbw5a:Below w5.heap.size w5 (w5.alloc (.cells #[.slice y.1 y.2.1 y.2.2] 37)):=Bq;have hcw5a:(w5.alloc (.cells #[.slice y.1 y.2.1 y.2.2] 37)).cell? ⟨w5.heap.size,0,none⟩=some (.slice y.1 y.2.1 y.2.2):=(Af.made w5 (.slice y.1 y.2.1 y.2.2)).cell;obtain⟨w5a,hw5a⟩:∃zz,w5.alloc (.cells #[.slice y.1 y.2.1 y.2.2] 37)=zz:=⟨_,rfl⟩
   rw[hw5a]at hbw5a hcw5a
   have hBw5a:=Ae HBw5.out hbw5a;have hrw5a:=HRw5.out.below hbw5a;obtain⟨vw6,w6,happ,hrw6,hgw6⟩:=hrw5a.app3 (x:=y) hcw5a hBw5a.size HL3.out 62 (c:=1);have HRw6:=Ab hrw6;have HBw6:Aa (Below wa.heap.size wa w6):=⟨hBw5a.grown hgw6 hBw5a.size fun g hg=>(hrw5a.r3.own hg).1⟩
   have HXw6:=Ab (Mn (HXw5.out.below hbw5a HXw5.out.lt) hrw5a.r3 hgw6 (by decide));have HT1w6:=Ab ((HT1w5.out.below hbw5a).grown hrw5a.r3 hgw6);have HT2w6:=Ab ((HT2w5.out.below hbw5a).grown hrw5a.r3 hgw6);have HT3w6:=Ab (((HT3w5.out.below hbw5a).grown hrw5a.r3 hgw6).snoc (x:=y) (Fp hrw5a.r3 hgw6 (HNY5.out.1.below hbw5a)) HNY5.out.2);clear hbw5a hcw5a hBw5a hrw5a hrw6 hgw6
   go_wp2_with (at_builtin;refine Lib.wpList_append_run _ rfl _ _ _ _ rfl _ _ rfl rfl _ _ happ ?_;refine Fd.out ?_)
   refine⟨?_⟩;clear happ;clear d2;go_wp2;go_roundw
   case rel=>exact⟨k+1,_,_,_,by omega,by go_num,HBw6,HRw6,⟨by rw[HTK.out,List.map_append,List.map_singleton,HSJ.out];exact HT1w6.out⟩,⟨by rw[HTK.out,List.map_append,List.map_singleton];exact HT2w6.out⟩,⟨by rw[HTK.out,List.map_append,List.map_singleton];exact HT3w6.out⟩⟩
   case measure=>simp[intOf];omega
  .obtain rfl:k=n:=by omega
   have hkn':¬(k:Int)<k:=by omega
   have htk:l.take k=l:=List.take_of_length_le (by rw[<-HLn.out];exact Av _);rw[htk]at HT1 HT2 HT3
   obtain⟨q1,d1,rfl,hp1⟩:=HR.out.r1.plist HT1.out;obtain⟨q2,d2,rfl,hp2⟩:=HR.out.r2.plist HT2.out;obtain⟨q3,d3,rfl,hp3⟩:=HR.out.r3.plist HT3.out;rw[List.length_map,<-HLn.out]at hp1 hp2 hp3 ⊢
   rw[List.length_map,<-HLn.out,List.length_map,<-HLn.out];have HP1:=Ab hp1;have HP2:=Ab hp2;have HP3:=Ab hp3;clear htk hp1 hp2 hp3 HR HT1 HT2 HT3
   go_wp2_with fail
   refine(Dx (HG.out.below HBr.out)).mono ?_;rintro en w1 ⟨r,rfl,hr,b1⟩;have HR1:=Ab hr;have HP11:=Ab (HP1.out.below b1);have HP21:=Ab (HP2.out.below b1);have HP31:=Ab (HP3.out.below b1);have HB1:=Ab (Ae HBr.out b1);have cx:=(HXB.out.below HB1.out HXB.out.lt).cell;clear hr b1 HP1 HP2 HP3 HBr
   go_wp2_with fail
   refine(Zp HQ.out HR1.out HP11.out HP21.out (HX.out.below HB1.out) (by decide) he (by decide) HNN.out.2 (by have:=HNN.out;omega)).mono ?_;rintro en w2 ⟨-,hok,b2⟩;obtain⟨_,rfl,⟨pa,na,ca,rfl,a1,a2⟩⟩:=hok HFN.out;rw[show Jr Q X [] (l.map fun p=>p.1.toNat) (l.map fun p=>p.2.1) 0=A1 from HA1.out]at a1 a2
   have hb3:Below w2.heap.size w2 (w2.alloc (.cells #[.slice pa na ca] 37)):=Bq;have hx3:=Af.made w2 (.slice pa na ca);obtain⟨b3,hb3'⟩:∃x,w2.heap.size=x:=⟨_,rfl⟩
   obtain⟨w3,hw3⟩:∃w3,w2.alloc (.cells #[.slice pa na ca] 37)=w3:=⟨_,rfl⟩
   rw[hw3]at hb3 hx3
   rw[hb3']at hx3
   have hb23:=Ae b2 hb3;have HXA:=Ab hx3;have HA:=Ab ((Fit.of a1 a2).below hb3);have HR3:=Ab (HR1.out.below hb23);have HP13:=Ab (HP11.out.below hb23);have HP33:=Ab (HP31.out.below hb23);have HB3:=Ab (Ae HB1.out hb23);have cx3:=(HXB.out.below HB3.out HXB.out.lt).cell;clear hok b2 a1 a2 hb3 hx3 hb23 HR1 HP11 HP21 HP31 HB1 cx
   go_wp2_with fail
   clear hw3 hb3';refine(Zp HQ.out HR3.out HP13.out HP33.out (HX.out.below HB3.out) (by decide) he (by decide) HNN.out.2 (by have:=HNN.out;omega)).mono ?_;rintro en w4 ⟨-,hok,b4⟩;obtain⟨_,rfl,⟨pm,nm,cm,rfl,m1,m2⟩⟩:=hok HFN.out;rw[show Jr Q X [] (l.map fun p=>p.1.toNat) (l.map fun p=>p.2.2) 0=A2 from HA2.out]at m1 m2
   have hb5:Below w4.heap.size w4 (w4.alloc (.cells #[.slice pm nm cm] 37)):=Bq;have hx5:=Af.made w4 (.slice pm nm cm);obtain⟨w5,hw5⟩:∃w5,w4.alloc (.cells #[.slice pm nm cm] 37)=w5:=⟨_,rfl⟩
   rw[hw5]at hb5 hx5
   have hb45:=Ae b4 hb5;have HB5:=Ab (Ae HB3.out hb45);have hxs5:=HXS.out.below HB5.out HXS.out.lt;have ca5:=(HXA.out.below hb45 HXA.out.lt).cell;have cm5:=hx5.cell;obtain⟨k0,k5⟩:=hxs5.cells;have f0:=hxs5.free 0;have f1:=hxs5.free 1;have hz2:=hxs5.set (.slice pa na ca) (.slice pm nm cm);obtain⟨z0,z1⟩:=hz2.cells;have HN1:Aa (Cr ((w5.setCell ⟨w.heap.size+1,0,none⟩ (.slice pa na ca)).setCell ⟨w.heap.size+1,1,none⟩ (.slice pm nm cm)) (pa,na,ca) A1):=⟨Ii (q:=(pa,na,ca)) (x:=(none,0,0)) (y:=(none,0,0)) ((Hm HA.out).below hb45) hxs5.at_⟩
   have HN2:Aa (Cr ((w5.setCell ⟨w.heap.size+1,0,none⟩ (.slice pa na ca)).setCell ⟨w.heap.size+1,1,none⟩ (.slice pm nm cm)) (pm,nm,cm) A2):=⟨Ii (q:=(pm,nm,cm)) (x:=(none,0,0)) (y:=(none,0,0)) (m1.below hb5) hxs5.at_⟩
   have HLI:Aa (A1<An 33/\A2<An 33):=⟨HA.out.lim,m2⟩
   have HBF:Aa (Below w.heap.size w ((w5.setCell ⟨w.heap.size+1,0,none⟩ (.slice pa na ca)).setCell ⟨w.heap.size+1,1,none⟩ (.slice pm nm cm))):=⟨((HB.out.trans (HB5.out.mono HB.out.size)).setCell (by simp) _).setCell (by simp) _⟩
   clear hok b4 m1 m2 hb5 hx5 hb45 hxs5 hz2 HA HXA HR3 HP13 HP33 HB3 cx3 HB5;go_wp2;exact bodyPost_ret (v:=.agg #[.slice pa na ca,.slice pm nm cm]) (by simp[results,Tryz.results107,go_sem,z0,z1]) rfl ⟨(pa,na,ca),(pm,nm,cm),rfl,⟨HN1.out,HLI.out.1⟩,⟨HN2.out,HLI.out.2⟩,HBF.out⟩
def mJ (A B:Nat)(w:World)(en:Ending)(w':World):Prop:=∃x y:P3,en=.returned (.tuple #[.agg #[.slice x.1 x.2.1 x.2.2,.slice y.1 y.2.1 y.2.2],.int .i64 0])/\(Cr w' x A/\A<An 33)/\(Cr w' y B/\B<An 33)/\Below w.heap.size w w'
theorem Rq {w:World}{b P Q GG HH e ex n c pn pc X:Nat}{p pl:Option Addr}{Cs:List Nat}{l:List Fj}{v:Value}{A1 A2:Nat}(hq:Bf Q)(hQ:64<Q)(hg:Au w b P Q GG HH)(hC:Aq w e p n c Cs)(hL:Tr w 33 pl pn pc l)(hX:Fit ex X v w)(he:e<=200)(hex:ex<=200)(hn:1<=n/\n<=12)(hm:Cs.all (Ov P Q)=true)(hlen:(Bz P Q GG HH n Cs l 64).length=n)(hA1:Po Q X (fun p=>p.2.1) (Bz P Q GG HH n Cs l 64)=A1)(hA2:Po Q X (fun p=>p.2.2) (Bz P Q GG HH n Cs l 64)=A2) :
  Calls Tryz.prog 50 #[.pointer (some ⟨b,0,none⟩),.int .i64 (n:Nat),.slice p n c,.slice pl pn pc,v] w (mJ A1 A2 w):=by
 obtain⟨px,nx,cx,rfl,x1,x2⟩:=Ao hX;have hxb:=Af.made w (.slice px nx cx);have hz:(w.alloc (.cells #[.slice px nx cx] 37)).heap.size=w.heap.size+1:=by simp
 have hb0:Below w.heap.size w (w.alloc (.cells #[.slice px nx cx] 37)):=Bq;have hs:=Bx.made 75 (w.alloc (.cells #[.slice px nx cx] 37)) (.slice none 0 0) (.slice none 0 0);have hb2:Below (w.alloc (.cells #[.slice px nx cx] 37)).heap.size (w.alloc (.cells #[.slice px nx cx] 37)) ((w.alloc (.cells #[.slice px nx cx] 37)).alloc (.cells #[.slice none 0 0,.slice none 0 0] 75)):=Bq;have hxb2:=hxb.below hb2 hxb.lt;have hba:=Ae hb0 hb2;rw[hz]at hs
 obtain⟨wa,hwa⟩:∃wa,((w.alloc (.cells #[.slice px nx cx] 37)).alloc (.cells #[.slice none 0 0,.slice none 0 0] 75))=wa:=⟨_,rfl⟩
 rw[hwa]at hs hxb2 hba
 have HXB:=Ab hxb2;have HXS:=Ab hs;have HB:=Ab hba;have HG:=Ab (hg.below hba);have HC:=Ab (hC.below hba);have HL:=Ab (hL.below hba);have HX:=Ab ((Fit.of x1 x2).below hba);have HJ:Aa (decide (1<=(n:Int)/\(n:Int)<=64)=true):=⟨decide_eq_true (by omega)⟩
 have HM:=Ab hm;have HNN:=Ab hn;have HPE:Aa (∀s∈Bz P Q GG HH n Cs l 64,∃j:Nat,s.1=(j:Int)/\j<=64):=⟨fun s hs=>by
  obtain⟨i,hi,he⟩:=Sm hs;exact⟨i+1,(Ki he).2.1,by omega⟩⟩
 have HU:=Ab ((Gv _).1 (Lv (P:=P) (G:=GG) (H:=HH) (t:=n) (cs:=Cs) (l:=l) hQ));have HA1:=Ab hA1;have HA2:=Ab hA2;have HQ:=Ab hq;obtain⟨LL,hLL⟩:∃L,Bz P Q GG HH n Cs l 64=L:=⟨_,rfl⟩
 obtain⟨N1,hN1⟩:∃L,LL.length=L:=⟨_,rfl⟩
 rw[hLL,hN1]at hlen
 have HLL:=Ab hLL;have HN1:=Ab hN1;have HLE:=Ab hlen;clear hlen hg hC hL hX x1 x2 hxb hz hb0 hs hb2 hxb2 hba hm hq hA1 hA2 hLL hN1;go_enter Tryz.func50,Tryz.ntmps50
 go_wp2_with fail
 refine(Ct _ HJ.out).mono ?_;rintro en w1 ⟨rfl,b1⟩;have HG1:=Ab (HG.out.below b1);have HC1:=Ab (HC.out.below b1);have HB1:=Ab b1;clear b1 hwa
 go_wp2_with fail
 refine(Vh HG1.out HC1.out he (by have:=HNN.out;omega) HM.out).mono ?_;rintro en w2 ⟨rfl,b2⟩;have HG2:=Ab (HG1.out.below b2);have HC2:=Ab (HC1.out.below b2);have HB2:=Ab (Ae HB1.out b2);have HL2:=Ab (HL.out.below HB2.out);clear b2 HG1 HC1 HB1
 go_wp2_with fail
 refine(Xi (T:=n) HG2.out HC2.out HL2.out he (by have:=HNN.out;omega) (by have:=HNN.out;omega)).mono ?_;rintro en w3 ⟨q3,d3,rfl,hp3,b3⟩;rw[HLL.out,HN1.out]at hp3 ⊢
 have HP3:=Ab hp3;have HB3a:=Ab (Ae HB2.out b3);have HBw3:=Ab (Ae HB.out HB3a.out);have HXSw3:=Ab (HXS.out.later HB3a.out);have HG3:=Ab (HG2.out.below b3);have HX3:=Ab (HX.out.below HB3a.out);have HXB3:=Ab (HXB.out.below HB3a.out HXB.out.lt);clear b3 hp3 HG2 HC2 HB2 HL2 HG HC HL HX HXB HXS;have hlt:¬(N1:Int)<n:=by have:=HLE.out;omega
 have cx:=HXB3.out.cell
 go_wp2_with fail
 refine(cV (A1:=A1) (A2:=A2) HQ.out HG3.out HP3.out HX3.out hex (by have:=HLE.out;have:=HNN.out;omega) (by rw[<-HLL.out];exact HPE.out) (by rw[<-HLL.out];exact HU.out) (by rw[<-HLL.out];exact HA1.out) (by rw[<-HLL.out];exact HA2.out)).mono ?_;rintro en w4 ⟨x,y,rfl,⟨h1,h2⟩,⟨h3,h4⟩,b4⟩;have hxs:=HXSw3.out.later b4;obtain⟨k0,k5⟩:=hxs.cells;have f0:=hxs.free 0;have f1:=hxs.free 1;have hz2:=hxs.set (.slice x.1 x.2.1 x.2.2) (.slice y.1 y.2.1 y.2.2);obtain⟨z0,z1⟩:=hz2.cells;have HN1':Aa (Cr ((w4.setCell ⟨w.heap.size+1,0,none⟩ (.slice x.1 x.2.1 x.2.2)).setCell ⟨w.heap.size+1,1,none⟩ (.slice y.1 y.2.1 y.2.2)) x A1):=⟨Ii (q:=x) (x:=(none,0,0)) (y:=(none,0,0)) h1 hxs.at_⟩
 have HN2':Aa (Cr ((w4.setCell ⟨w.heap.size+1,0,none⟩ (.slice x.1 x.2.1 x.2.2)).setCell ⟨w.heap.size+1,1,none⟩ (.slice y.1 y.2.1 y.2.2)) y A2):=⟨Ii (q:=y) (x:=(none,0,0)) (y:=(none,0,0)) h3 hxs.at_⟩
 have HLI:Aa (A1<An 33/\A2<An 33):=⟨h2,h4⟩
 have HBF:Aa (Below w.heap.size w ((w4.setCell ⟨w.heap.size+1,0,none⟩ (.slice x.1 x.2.1 x.2.2)).setCell ⟨w.heap.size+1,1,none⟩ (.slice y.1 y.2.1 y.2.2))):=⟨((Ae HBw3.out b4).setCell (by simp) _).setCell (by simp) _⟩
 clear h1 h2 h3 h4 b4 hxs hz2 cx HXB3 HXSw3 HG3 HP3 HX3;go_wp2;exact bodyPost_ret (v:=.tuple #[.agg #[.slice x.1 x.2.1 x.2.2,.slice y.1 y.2.1 y.2.2],.int .i64 0]) (by simp[results,Tryz.results50,go_sem,z0,z1]) rfl ⟨x,y,rfl,⟨HN1'.out,HLI.out.1⟩,⟨HN2'.out,HLI.out.2⟩,HBF.out⟩
theorem nQ {w:World}{b P Q GG HH es er ed nd cd T M S R:Nat}{pd:Option Addr}{ds:List Nat}{vs vr:Value}(hG:Au w b P Q GG HH)(hs:Fit es S vs w)(hr:Fit er R vr w)(hdl:Aq w ed pd nd cd ds)(hes:es<=200)(her:er<=200)(hed:ed<=200)(hn:nd<=1000)(hT:T=M+1)(hM:T<=64)(hl:2*M<=nd) :
  Calls Tryz.prog 38 #[.pointer (some ⟨b,0,none⟩),.int .i64 (T:Nat),vs,vr,.slice pd nd cd] w (mO T (Gf Q S (ds.take M)) (Gf Q R ((ds.drop M).take M)) w):=by
 subst hT;exact kC hG hs hr hdl hes her hed hn rfl hM hl
theorem Tj (w:World)(hr:Tabs w) :
  Calls Tryz.prog 37 #[] w fun e w'=>e=.returned (.bool true)/\Below w.heap.size w w':=by
 have HGR:=Ab (Lu w 0 hr);clear hr;go_enter Tryz.func37,Tryz.ntmps37
 go_wp2_with fail
 refine HGR.out.mono ?_;rintro en w1 ⟨b,rfl,hg,b1⟩;have hi:((IntKind.u64.wrap 0)%3).toNat=0:=by decide
 rw[hi]at hg
 have HNA:Aa (Bp (gQ 0) 4 (Gf (gQ 0) 3 (([2,7]:List Nat).take 1))=11):=⟨by decide⟩
 have HNB:Aa (Bp (gQ 0) 4 (Gf (gQ 0) 5 ((([2,7]:List Nat).drop 1).take 1))=33):=⟨by decide⟩
 obtain⟨P,hP⟩:∃q,gP 0=q:=⟨_,rfl⟩
 obtain⟨Q,hq⟩:∃q,gQ 0=q:=⟨_,rfl⟩
 obtain⟨GG,hgg⟩:∃q,gG 0=q:=⟨_,rfl⟩
 obtain⟨HH,hhh⟩:∃q,gH 0=q:=⟨_,rfl⟩
 rw[hP,hq,hgg,hhh]at hg
 rw[hq]at HNA HNB
 have HG:=Ab hg;have HB1:=Ab b1;clear hg b1 hi hP hq hgg hhh HGR
 go_wp2_with fail
 refine(Bi (n:=3) w1 (by decide)).mono ?_;rintro en w2 ⟨_,rfl,⟨ps,ns,cs,rfl,s1,s2⟩,b2⟩;have HFS:=Ab (Fit.of s1 s2);have HB2:=Ab (Ae HB1.out b2);have HG2:=Ab (HG.out.below b2);clear s1 s2 b2 HG HB1
 go_wp2_with fail
 refine(Bi (n:=5) w2 (by decide)).mono ?_;rintro en w3 ⟨_,rfl,⟨pr,nr,cr,rfl,r1,r2⟩,b3⟩;obtain⟨W1,hW1⟩:∃W,w3.alloc (.cells #[.int .u64 2,.int .u64 7] 22)=W:=⟨_,rfl⟩
 have hbw:Below w3.heap.size w3 W1:=by rw[<-hW1];exact(Ba _ _).alloc (Av _) _
 have hnew:W1.heap[w3.heap.size]? = some (.cells #[.int .u64 2,.int .u64 7] 22 (0,0)):=by rw[<-hW1];exact heap_alloc_new w3 _
 have hrow:Br W1 .u64 (some ⟨w3.heap.size,0,none⟩) 2 2 [2,7]:=⟨rfl,Av _,by decide,fun _=>⟨rfl,Av _,by decide,.inr ⟨w3.heap.size,0,rfl,(Gg hnew).1,fun i x hx=>by
  match i,hx with
  | 0,hx=>simp at hx;subst hx;simp[World.cell?,hnew]
  | 1,hx=>simp at hx;subst hx;simp[World.cell?,hnew]
  | i+2,hx=>simp at hx⟩⟩⟩
 have hb34:=Ae b3 hbw;have HN:=Ab (cL W1 _ 2 2 [2,7] hrow (fun x hx=>by simp at hx;unfold Su;omega) (by decide));have HFR:=Ab ((Fit.of r1 r2).below hbw);have HFS3:=Ab (HFS.out.below hb34);have HG3:=Ab (HG2.out.below hb34);have HB3:=Ab (Ae HB2.out hb34);clear r1 r2 b3 hbw hnew hrow hb34 HFS HG2 HB2
 go_wp2_with fail
 refine HN.out.mono ?_;rintro en w4 ⟨pd,cd,rfl,hp,b4⟩;have HD:=Ab (kC (T:=2) (M:=1) (HG3.out.below b4) (HFS3.out.below b4) (HFR.out.below b4) hp (by decide) (by decide) (by decide) (by decide) rfl (by decide) (by decide));have HG4:=Ab (HG3.out.below b4);have HB4:=Ab (Ae HB3.out b4);clear hp b4 HN HFR HFS3 HG3 HB3 hW1
 go_wp2_with fail
 refine HD.out.mono ?_;rintro en w5 ⟨p1,c1,p2,c2,rfl,h1,h2,-,b5⟩;have hb6:Below w5.heap.size w5 (w5.alloc (.cells #[.slice p1 2 c1,.slice p2 2 c2] 64)):=Bq;have hx6:=Bx.made 64 w5 (.slice p1 2 c1) (.slice p2 2 c2);obtain⟨bd,hbd⟩:∃x,w5.heap.size=x:=⟨_,rfl⟩
 obtain⟨w6,hw6⟩:∃z,w5.alloc (.cells #[.slice p1 2 c1,.slice p2 2 c2] 64)=z:=⟨_,rfl⟩
 rw[hw6]at hb6 hx6
 rw[hbd]at hx6
 have hb56:=Ae b5 hb6;have HS:=Ab (My (n:=2) (m:=2) (j:=4) (HG4.out.below hb56) (h1.below hb6) (h2.below hb6) (by decide) (by decide) (by decide) (by decide) (by decide) HNA.out HNB.out);have HG6:=Ab (HG4.out.below hb56);have HB6:=Ab (Ae HB4.out hb56);have d0:=hx6.cells.1;have d1:=hx6.cells.2;clear h1 h2 b5 hb6 hx6 hb56 HD HG4 HB4
 go_wp2_with fail
 refine HS.out.mono ?_;rintro en w7 ⟨x,y,rfl,h1,h2,b7⟩;have hb8:Below w7.heap.size w7 (w7.alloc (.cells #[.slice x.1 x.2.1 x.2.2,.slice y.1 y.2.1 y.2.2] 75)):=Bq;have hx8:=Bx.made 75 w7 (.slice x.1 x.2.1 x.2.2) (.slice y.1 y.2.1 y.2.2);obtain⟨bs,hbs⟩:∃z,w7.heap.size=z:=⟨_,rfl⟩
 obtain⟨w8,hw8⟩:∃z,w7.alloc (.cells #[.slice x.1 x.2.1 x.2.2,.slice y.1 y.2.1 y.2.2] 75)=z:=⟨_,rfl⟩
 rw[hw8]at hb8 hx8
 rw[hbs]at hx8
 have HSB:=Ab hx8;have HX:=Ab ((Fit.of (e:=1) h1 (by decide)).below hb8);have HY:=Ab ((Fit.of (e:=1) h2 (by decide)).below hb8);have HB8:=Ab (Ae HB6.out (Ae b7 hb8));clear h1 h2 b7 hb8 hx8 d0 d1 HS HG6 HB6 hw6 hbd;go_wp2;refine Ak (by kernel_rfl) (by kernel_rfl)
  [some (.pointer (some ⟨b,0,none⟩)),some (.bool true),some (.bool true),some (.int .i64 0),some (.bool true),some (.bool true),some (.bool true),some (.int .i64 0),some (.bool true),some (.bool true),some (.bool true),some (.pointer (some ⟨bs,0,none⟩)),some (.agg #[.slice x.1 x.2.1 x.2.2]),none,none,some (.bool true),some (.bool true),some (.bool true),some (.pointer (some ⟨bs,1,none⟩)),some (.agg #[.slice y.1 y.2.1 y.2.2]),none,none,some (.bool true),some (.bool true),some (.bool true)]
  [false,false,false,false,false,false,false,false,false,false,false,false,false,true,true,false,false,false,false,false,true,true,false,false,false] rfl
  (fun w1 w2=>Below w1.heap.size w1 w2)
  (fun _ w'=>Below w8.heap.size w8 w')
  (fun i v w'=>match i with
   | 13=>Fit 2 11 v w'
   | 14=>v=.int .i64 0
   | 20=>Fit 2 33 v w'
   | 21=>v=.int .i64 0
   | _=>True)
  ?_ (Ba _ _).drew ?_ ?_
 .intro i v w1 w2 hf hb;split at hf
  .exact hf.below hb
  .exact hf
  .exact hf.below hb
  .exact hf
  .trivial
 .simp only[Be,Nat.reduceAdd];refine⟨?_,?_,?_,?_,?_,?_,?_,?_,?_,?_,?_,?_,?_,?_,?_,?_,?_,?_,?_,?_,?_,?_,?_,?_,?_,trivial⟩
  all_goals intro D sp w' hD hW hdp hbx'
  case refine_13=>
   have c0:=(HSB.out.below hbx' HSB.out.lt).cells.1
   with_reducible refine Ad ?_ ?_
   all_goals simp[Region.wanted,yielded,execOp,Act.eval,Act.put,go_sem,c0]
  case refine_14=>
   (with_reducible refine Ac (w1:=w') (f := 17) (args:=#[.int .u64 11]) ?_ ?_ ?_)
   .simp[Region.wanted,yielded,Act.put,go_sem]
   .simp[Act.eval,Act.put,go_sem]
   .refine(Bi (n:=11) _ (by decide)).mono ?_;rintro en w9 ⟨u,rfl,hu,hb⟩;exact⟨u,rfl,hb,hu,Ae hbx' hb⟩
  case refine_15=>
   have k13:Fit 2 11 (sp 13) w':=(hdp 13 (mq (by kernel_rfl))).2
   (with_reducible refine Ac (w1:=w') (f := 24) (args:=#[.agg #[.slice x.1 x.2.1 x.2.2],sp 13]) ?_ ?_ ?_)
   .simp[Region.wanted,yielded,Act.put,go_sem]
   .simp[Act.eval,Act.put,go_sem]
   .refine(Bc (HX.out.below hbx') k13 (by decide) (by decide) (Bn.2 rfl)).mono ?_;rintro en w9 ⟨_,rfl,rfl,hb⟩;exact⟨_,rfl,hb,rfl,Ae hbx' hb⟩
  case refine_16=>
   have k14:(sp 14)=.int .i64 0:=(hdp 14 (mq (by kernel_rfl))).2
   with_reducible refine Ad ?_ ?_
   all_goals simp[Region.wanted,yielded,execOp,Act.eval,Act.put,go_sem,k14]
  case refine_20=>
   have c1:=(HSB.out.below hbx' HSB.out.lt).cells.2
   with_reducible refine Ad ?_ ?_
   all_goals simp[Region.wanted,yielded,execOp,Act.eval,Act.put,go_sem,c1]
  case refine_21=>
   (with_reducible refine Ac (w1:=w') (f := 17) (args:=#[.int .u64 33]) ?_ ?_ ?_)
   .simp[Region.wanted,yielded,Act.put,go_sem]
   .simp[Act.eval,Act.put,go_sem]
   .refine(Bi (n:=33) _ (by decide)).mono ?_;rintro en w9 ⟨u,rfl,hu,hb⟩;exact⟨u,rfl,hb,hu,Ae hbx' hb⟩
  case refine_22=>
   have k20:Fit 2 33 (sp 20) w':=(hdp 20 (mq (by kernel_rfl))).2
   (with_reducible refine Ac (w1:=w') (f := 24) (args:=#[.agg #[.slice y.1 y.2.1 y.2.2],sp 20]) ?_ ?_ ?_)
   .simp[Region.wanted,yielded,Act.put,go_sem]
   .simp[Act.eval,Act.put,go_sem]
   .refine(Bc (HY.out.below hbx') k20 (by decide) (by decide) (Bn.2 rfl)).mono ?_;rintro en w9 ⟨_,rfl,rfl,hb⟩;exact⟨_,rfl,hb,rfl,Ae hbx' hb⟩
  case refine_23=>
   have k21:(sp 21)=.int .i64 0:=(hdp 21 (mq (by kernel_rfl))).2
   with_reducible refine Ad ?_ ?_
   all_goals simp[Region.wanted,yielded,execOp,Act.eval,Act.put,go_sem,k21]
  all_goals ((with_reducible refine Ad ?_ ?_);all_goals first|(simp only[Region.wanted];done)|simp[Region.wanted,yielded,execOp,Act.eval,Act.put,go_sem])
 .intro sp w9 hsp hbx';have HB9:=Ab (Ae HB8.out hbx');clear hsp hbx';simp only[Al,Nat.reduceAdd];generalize sp 13=y13,sp 14=y14,sp 20=y20,sp 21=y21 at *
  go_simp
  go_wp2;go_ret;exact⟨rfl,HB9.out⟩
def Uv (t:Int):Nat:=(IntKind.u64.wrap t%6).toNat
theorem Zl (t:Int):IntKind.u64.wrap t%6=(Uv t:Int)/\Uv t<=5:=by
 unfold Uv;omega
def lenV:Value->Nat | .slice _ n _=>n|_=>0
def iS (i M S R:Nat)(w:World)(en:Ending)(w':World):Prop:=∃(b:Nat) (p:Option Addr) (c:Nat) (q:Option Addr) (d:Nat) (aa bb:List Nat),en=.returned (.tuple #[.pointer (some ⟨b,0,none⟩),.int .i64 ((M+1:Nat):Int),.agg #[.slice p (M+1) c,.slice q (M+1) d],.bool true])/\aa.length=M/\bb.length=M/\Au w' b (gP i) (gQ i) (gG i) (gH i)/\Aq w' 33 p (M+1) c (Gf (gQ i) S aa)/\Aq w' 33 q (M+1) d (Gf (gQ i) R bb)/\Below w.heap.size w w'
end Go.Proofs.YtokhckjemidbpaaGreatDoor
