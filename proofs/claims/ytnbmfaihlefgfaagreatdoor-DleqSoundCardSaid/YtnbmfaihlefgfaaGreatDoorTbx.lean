/- How a region stands that makes two numbers, each with the help of another one, and two boxes for them. -/
import Derived.Test.YtnbmfaihlefgfaaGreatDoorGqF
import Derived.Test.YtnbmfaihlefgfaaGreatDoorGqI
import Derived.Test.YtnbmfaihlefgfaaGreatDoorEuc
import Derived.OwnWalkIn
import Derived.TacticsInMore
import Derived.LoopNIn
import Derived.LoopIn
import Derived.RangeFuncNested
import Derived.RangeFuncBound
import Derived.RangeFuncCalls
import Derived.RangeFuncLeaves
import Derived.OrdersIn
import Derived.BigRegion
import Derived.Deep.Slices
import Derived.ChangeSame
import Derived.ChangeSlices
import Derived.ChangeArms
set_option maxRecDepth 1000000
set_option maxHeartbeats 16000000
set_option linter.all false
namespace Go.Proofs.YtnbmfaihlefgfaaGreatDoor
open Go Go.RowKit Go.Proofs.YtnbmfaihlefgfaaGreatDoor.Flow
theorem bP (w:World)(e:Nat)(Ns:List Nat)(he:e<=32):Asks 188 #[] w e Ns (fun _=>false):=by
 refine⟨fun W M u _ _ hu=>?_⟩;rw[Array.append_empty];obtain⟨p,n,c,rfl,h1,h2⟩:=hu;have hb1:=Af.made W (.slice p n c);have hbel:Below W.heap.size W (W.alloc (.cells #[.slice p n c] 36)):=By;obtain⟨wa,hwa⟩:∃wa,W.alloc (.cells #[.slice p n c] 36)=wa:=⟨_,rfl⟩
 rw[hwa]at hb1 hbel
 have HF:=Aa ((Fit.of h1 h2).below hbel);have HB:=Aa hbel;have hs:=Vj he h2;have c0:=hb1.cell;clear h1 h2 hb1 hbel;go_enter Tryz.func188,Tryz.ntmps188
 go_wp2_with fail
 refine(Lu HF.out (by omega)).mono ?_;rintro en w1 ⟨rfl,hb1⟩;have HB1:=Aa (Ae HB.out hb1);obtain⟨sz,hsz⟩:∃s,Al M=s:=⟨_,rfl⟩
 rw[hsz]at hs ⊢
 have hn:decide ((128:Int)<(sz:Int))=false:=decide_eq_false (by omega);have HN:=Aa hn;clear hb1 c0 hsz hn;go_wp2;go_ret;exact⟨by rw[<-HN.out];rfl,HB1.out⟩
theorem pU {w:World}{e b P Q G:Nat}{x y z:Option Addr×Nat×Nat}(hb:w.heap[b]? = some (.cells #[.slice x.1 x.2.1 x.2.2,.slice y.1 y.2.1 y.2.2,.slice z.1 z.2.1 z.2.2] 36 (0,0)))(hP:Dh w x P)(lP:P<Ap e)(hQ:Dh w y Q)(lQ:Q<Ap e)(hG:Dh w z G)(lG:G<Ap e) :
  Cd w e (some ⟨b,0,none⟩) 3 3 [P,Q,G]:=by
 refine⟨rfl,As _,by decide,(fun h=>by cases h),fun _=>⟨b,0,rfl,(Gn hb).1,fun i N hN=>?_⟩⟩
 match i,hN with
 | 0,hN=>cases hN;exact⟨x.1,x.2.1,x.2.2,by simp[World.cell?,hb],hP,lP⟩
 | 1,hN=>cases hN;exact⟨y.1,y.2.1,y.2.2,by simp[World.cell?,hb],hQ,lQ⟩
 | 2,hN=>cases hN;exact⟨z.1,z.2.1,z.2.2,by simp[World.cell?,hb],hG,lG⟩
 | i+3,hN=>simp at hN
theorem fH {w:World}{e P Q G:Nat}{x y z:Option Addr×Nat×Nat}{ps:Option Addr}{ns cs:Nat}(hP:Dh w x P)(lP:P<Ap e)(hQ:Dh w y Q)(lQ:Q<Ap e)(hG:Dh w z G)(lG:G<Ap e)(he:e<=32) :
  Calls Tryz.prog 140 #[.agg #[.slice x.1 x.2.1 x.2.2,.slice y.1 y.2.1 y.2.2,.slice z.1 z.2.1 z.2.2,.slice ps ns cs]] w fun en w'=>en=.returned (.bool (decide (128<ns)))/\Below w.heap.size w w':=by
 have hX0:=Cm.made 118 w (.slice x.1 x.2.1 x.2.2) (.slice y.1 y.2.1 y.2.2) (.slice z.1 z.2.1 z.2.2) (.slice ps ns cs);have hba:Below w.heap.size w (w.alloc (.cells #[.slice x.1 x.2.1 x.2.2,.slice y.1 y.2.1 y.2.2,.slice z.1 z.2.1 z.2.2,.slice ps ns cs] 118)):=By;obtain⟨wa,hwa⟩:∃wa,w.alloc (.cells #[.slice x.1 x.2.1 x.2.2,.slice y.1 y.2.1 y.2.2,.slice z.1 z.2.1 z.2.2,.slice ps ns cs] 118)=wa:=⟨_,rfl⟩
 rw[hwa]at hX0 hba
 have hb2:Below wa.heap.size wa (wa.alloc (.cells #[.slice x.1 x.2.1 x.2.2,.slice y.1 y.2.1 y.2.2,.slice z.1 z.2.1 z.2.2] 36)):=By;have hl:(wa.alloc (.cells #[.slice x.1 x.2.1 x.2.2,.slice y.1 y.2.1 y.2.2,.slice z.1 z.2.1 z.2.2] 36)).heap[wa.heap.size]? = some (.cells #[.slice x.1 x.2.1 x.2.2,.slice y.1 y.2.1 y.2.2,.slice z.1 z.2.1 z.2.2] 36 (0,0)):=heap_alloc_new wa _;obtain⟨w2,hw2⟩:∃w2,wa.alloc (.cells #[.slice x.1 x.2.1 x.2.2,.slice y.1 y.2.1 y.2.2,.slice z.1 z.2.1 z.2.2] 36)=w2:=⟨_,rfl⟩
 rw[hw2]at hb2 hl
 have hb02:=Ae hba hb2;have HL:=Aa (pU hl (Aj.below hP hb02) lP (Aj.below hQ hb02) lQ (Aj.below hG hb02) lG);have HB2:=Aa hb02;have HX2:=Aa (hX0.below hb2 hX0.lt);have HA:=Aa (bP w2 e [P,Q,G] he);have cw:=hX0.cells.1;have cx:=hX0.cells.2.1;have cy:=hX0.cells.2.2.1;clear hP hQ hG lP lQ lG hX0 hba hb2 hl hb02;go_enter Tryz.func140,Tryz.ntmps140
 go_wp2_with fail
 refine(Jw _ e _ 3 3 [P,Q,G] _ _ (enters_of Tryz.func188 (by kernel_rfl) rfl) _ HL.out HA.out).mono ?_;rintro en w3 ⟨rfl,hb3⟩;have HB3:=Aa (Ae HB2.out hb3);have c3:=(HX2.out.below hb3 HX2.out.lt).cells.2.2.2;clear hb3 cw cx cy;rw[show ([P,Q,G].any fun _=>false)=false from rfl]
 by_cases hn:128<ns
 .have HN:Ad (decide (128<ns)=true):=⟨decide_eq_true hn⟩
  have HD:Ad (decide ((128:Int)<(ns:Int))=true):=⟨decide_eq_true (by omega)⟩
  clear hn;go_wp2;go_ret;exact⟨by rw[HN.out,<-HD.out];rfl,HB3.out⟩
 .have HN:Ad (decide (128<ns)=false):=⟨decide_eq_false hn⟩
  have HD:Ad (decide ((128:Int)<(ns:Int))=false):=⟨decide_eq_false (by omega)⟩
  clear hn;go_wp2;go_ret;exact⟨by rw[HN.out,<-HD.out];rfl,HB3.out⟩
structure mR (r1 r2:Nat) (pz:Option Addr) (nz cz G:Nat) (v:Value) (w:World):Prop where
 ex:∃pg ng cg,v=.agg #[.pointer (some ⟨r1,0,none⟩),.pointer (some ⟨r2,0,none⟩),.slice pg ng cg,.slice pz nz cz]/\Aj w pg ng cg G
theorem mR.below {r1 r2:Nat}{pz:Option Addr}{nz cz G:Nat}{v:Value}{w w':World}(h:mR r1 r2 pz nz cz G v w)(hb:Below w.heap.size w w'):mR r1 r2 pz nz cz G v w' :=
 let ⟨pg,ng,cg,h1,h2⟩:=h.ex
 ⟨pg,ng,cg,h1,h2.below hb⟩
structure dM (r1 r2:Nat) (pz:Option Addr) (nz cz G:Nat) (v:Value) (w:World):Prop where
 ex:∃b pg ng cg,v=.pointer (some ⟨b,0,none⟩)/\w.heap[b]? = some (.cells #[.pointer (some ⟨r1,0,none⟩),.pointer (some ⟨r2,0,none⟩),.slice pg ng cg,.slice pz nz cz] 127 (0,0))/\Aj w pg ng cg G
theorem dM.below {r1 r2:Nat}{pz:Option Addr}{nz cz G:Nat}{v:Value}{w w':World}(h:dM r1 r2 pz nz cz G v w)(hb:Below w.heap.size w w'):dM r1 r2 pz nz cz G v w' :=
 let ⟨b,pg,ng,cg,h1,h2,h3⟩:=h.ex
 ⟨b,pg,ng,cg,h1,by rw[hb.block b (Gn h2).1];exact h2,h3.below hb⟩
open Classical in
theorem kM {w:World}{e P Q G:Nat}{x y z:Option Addr×Nat×Nat}{ps:Option Addr}{ns cs:Nat}{seed:List Nat}{pc:Option Addr}{nc cc:Nat}{l:List Bx}(hT:Tabs w)(hP:Dh w x P)(lP:P<Ap e)(hQ:Dh w y Q)(lQ:Q<Ap e)(hG:Dh w z G)(lG:G<Ap e)(hS:Au w ⟨ps,ns,cs,seed⟩)(hC:Ey w e pc nc cc l)(hn:nc<=60)(hps:∀s∈l,s.ps.length<=1000)(he:e<=32) :
  Calls Tryz.prog 80 #[.agg #[.slice x.1 x.2.1 x.2.2,.slice y.1 y.2.1 y.2.2,.slice z.1 z.2.1 z.2.2,.slice ps ns cs],.slice pc nc cc] w fun en w'=>
   (128<ns->en=.returned (.tuple #[.pointer none,.int .i64 4])) /\
   (ns<=128->(newSpec P Q G seed l).1=0->∃b,en=.returned (.tuple #[.pointer (some ⟨b,0,none⟩),.int .i64 0])/\Bb w' b P Q G (newSpec P Q G seed l).2) /\
   (ns<=128->(newSpec P Q G seed l).1≠0->en=.returned (.tuple #[.pointer none,.int .i64 ((newSpec P Q G seed l).1:Nat)]))/\Below w.heap.size w w':=by
 have hX0:=Cm.made 118 w (.slice x.1 x.2.1 x.2.2) (.slice y.1 y.2.1 y.2.2) (.slice z.1 z.2.1 z.2.2) (.slice ps ns cs);have hba:Below w.heap.size w (w.alloc (.cells #[.slice x.1 x.2.1 x.2.2,.slice y.1 y.2.1 y.2.2,.slice z.1 z.2.1 z.2.2,.slice ps ns cs] 118)):=By;obtain⟨wa,hwa⟩:∃wa,w.alloc (.cells #[.slice x.1 x.2.1 x.2.2,.slice y.1 y.2.1 y.2.2,.slice z.1 z.2.1 z.2.2,.slice ps ns cs] 118)=wa:=⟨_,rfl⟩
 rw[hwa]at hX0 hba
 obtain⟨SP,hSP⟩:∃X,newSpec P Q G seed l=X:=⟨_,rfl⟩
 rw[hSP];have HSP:=Aa hSP;obtain⟨TP,hTP⟩:∃X,decide (Told P l)=X:=⟨_,rfl⟩
 obtain⟨TQ,hTQ⟩:∃X,decide (Told Q l)=X:=⟨_,rfl⟩
 obtain⟨RI,hRI⟩:∃X,decide (Tj P Q G)=X:=⟨_,rfl⟩
 have HTP:=Aa hTP;have HTQ:=Aa hTQ;have HRI:=Aa hRI;have HX:=Aa hX0;have HB:=Aa hba;have HP:Ad (Fit e P (.agg #[.slice x.1 x.2.1 x.2.2]) w):=⟨Fit.of hP lP⟩
 have HQ:Ad (Fit e Q (.agg #[.slice y.1 y.2.1 y.2.2]) w):=⟨Fit.of hQ lQ⟩
 have HG:Ad (Fit e G (.agg #[.slice z.1 z.2.1 z.2.2]) w):=⟨Fit.of hG lG⟩
 have HC:=Aa hC;have HT:=Aa hT;have HS:=Aa hS;have HPS:=Aa hps;have cw:=hX0.cells.1;have cx:=hX0.cells.2.1;have cy:=hX0.cells.2.2.1;have cz:=hX0.cells.2.2.2;clear hSP hTP hTQ hRI hX0 hba hC hps hT hS;go_enter Tryz.func80,Tryz.ntmps80
 go_wp2_with fail
 refine(fH (x:=x) (y:=y) (z:=z) (Aj.below hP HB.out) lP (Aj.below hQ HB.out) lQ (Aj.below hG HB.out) lG he).mono ?_;rintro en w1 ⟨rfl,hb1⟩;have HB1:=Aa (Ae HB.out hb1);have HX1:=Aa (HX.out.below hb1 HX.out.lt);clear hb1 cw cx cy cz HX
 by_cases hl:128<ns
 .rw[decide_eq_true hl];have HL:=Aa hl;clear hl;go_wp2;refine bodyPost_ret (v:=.tuple #[.pointer none,.int .i64 4]) (by simp[results,Tryz.results80,go_sem]) rfl ?_;exact⟨fun _=>rfl,fun h=>absurd HL.out (by omega),fun h=>absurd HL.out (by omega),HB1.out⟩
 rw[decide_eq_false hl];have HL:=Aa hl;clear hl;have cw:=HX1.out.cells.1;have cx:=HX1.out.cells.2.1
 go_wp2_with fail
 refine(dU e he w1 P _ pc nc cc l (HP.out.below HB1.out) (HC.out.below HB1.out) hn HPS.out).mono ?_;rintro en w2 ⟨rfl,hb2⟩;rw[show decide (Cq P ∨ (Cg [] l/\∃s∈l,s.n=P))=TP from (decide_eq_decide.2 (show (Cq P ∨ (Cg [] l/\∃s∈l,s.n=P)) ↔ Told P l from Iff.rfl)).trans HTP.out];have HB2:=Aa (Ae HB1.out hb2);have HX2:=Aa (HX1.out.below hb2 HX1.out.lt);clear hb2 cw cx HX1
 cases TP with
 | false=>
  have hS0:SP=(8,0):=by rw[<-HSP.out];exact if_neg fun h=>of_decide_eq_false HTP.out h.1
  have HS0:=Aa hS0;clear hS0;go_wp2;refine bodyPost_ret (v:=.tuple #[.pointer none,.int .i64 8]) (by simp[results,Tryz.results80,go_sem]) rfl ?_;exact⟨fun h=>absurd h HL.out,(fun _ h=>by rw[HS0.out]at h;cases h),(fun _ _=>by rw[HS0.out];rfl),HB2.out⟩
 | true=>
  have cx:=HX2.out.cells.2.1
  go_wp2_with fail
  refine(dU e he w2 Q _ pc nc cc l (HQ.out.below HB2.out) (HC.out.below HB2.out) hn HPS.out).mono ?_;rintro en w3 ⟨rfl,hb3⟩;rw[show decide (Cq Q ∨ (Cg [] l/\∃s∈l,s.n=Q))=TQ from (decide_eq_decide.2 (show (Cq Q ∨ (Cg [] l/\∃s∈l,s.n=Q)) ↔ Told Q l from Iff.rfl)).trans HTQ.out];have HB3:=Aa (Ae HB2.out hb3);have HX3:=Aa (HX2.out.below hb3 HX2.out.lt);clear hb3 cx HX2
  cases TQ with
  | false=>
   have hS0:SP=(8,0):=by rw[<-HSP.out];exact if_neg fun h=>of_decide_eq_false HTQ.out h.2
   have HS0:=Aa hS0;clear hS0;go_wp2;refine bodyPost_ret (v:=.tuple #[.pointer none,.int .i64 8]) (by simp[results,Tryz.results80,go_sem]) rfl ?_;exact⟨fun h=>absurd h HL.out,(fun _ h=>by rw[HS0.out]at h;cases h),(fun _ _=>by rw[HS0.out];rfl),HB3.out⟩
  | true=>
   have hTo:Told P l/\Told Q l:=⟨of_decide_eq_true HTP.out,of_decide_eq_true HTQ.out⟩
   have h2P:=(Ru hTo.1).two;have h2Q:=(Ru hTo.2).two;have HTo:=Aa hTo;clear hTo;have cw:=HX3.out.cells.1;have cx:=HX3.out.cells.2.1
   go_wp2_with fail
   refine(Hu (HP.out.below HB3.out) (by omega)).mono ?_;rintro en w4 ⟨hb4,hh⟩;rcases hh with ⟨hlt,_⟩|⟨_,r1,rfl,hr1,_⟩
   .omega
   have HR1:=Aa hr1;have HB4:=Aa (Ae HB3.out hb4);have HX4:=Aa (HX3.out.below hb4 HX3.out.lt);clear hb4 hr1 cw cx HX3;have cx:=HX4.out.cells.2.1
   go_wp2_with fail
   refine(Hu (HQ.out.below HB4.out) (by omega)).mono ?_;rintro en w5 ⟨hb5,hh⟩;rcases hh with ⟨hlt,_⟩|⟨_,r2,rfl,hr2,_⟩
   .omega
   have HR2:=Aa hr2;have HR15:=Aa (HR1.out.below hb5);have HB5:=Aa (Ae HB4.out hb5);have HX5:=Aa (HX4.out.below hb5 HX4.out.lt);clear hb5 hr2 cx HX4 HR1;have cw:=HX5.out.cells.1;have cx:=HX5.out.cells.2.1;have cy:=HX5.out.cells.2.2.1;have cz:=HX5.out.cells.2.2.2
   go_wp2_with fail
   refine(fD (x:=x) (y:=y) (z:=z) HR15.out (Aj.below hP HB5.out) lP (Aj.below hQ HB5.out) lQ (Aj.below hG HB5.out) lG (by omega) (by omega) he (by omega)).mono ?_;rintro en w6 ⟨rfl,hb6⟩;rw[HRI.out];have HR16:=Aa (HR15.out.below hb6);have HR26:=Aa (HR2.out.below hb6);have HB6:=Aa (Ae HB5.out hb6);have HX6:=Aa (HX5.out.below hb6 HX5.out.lt);clear hb6 cw cx cy cz HX5 HR15 HR2
   cases RI with
   | false=>
    have hS0:SP=(1,0):=by rw[<-HSP.out,newSpec,if_pos HTo.out,if_neg (of_decide_eq_false HRI.out)]
    have HS0:=Aa hS0;clear hS0;go_wp2;refine bodyPost_ret (v:=.tuple #[.pointer none,.int .i64 1]) (by simp[results,Tryz.results80,go_sem]) rfl ?_;exact⟨fun h=>absurd h HL.out,(fun _ h=>by rw[HS0.out]at h;cases h),(fun _ _=>by rw[HS0.out];rfl),HB6.out⟩
   | true=>
    have cw:=HX6.out.cells.1;have cx:=HX6.out.cells.2.1;have cy:=HX6.out.cells.2.2.1;have cz:=HX6.out.cells.2.2.2
    go_wp2_with fail
    refine(bF (x:=x) (y:=y) (z:=z) (HT.out.below HB6.out HT.out.size) HR16.out he (Aj.below hP HB6.out) lP (Aj.below hQ HB6.out) lQ (by omega) (by omega) (HS.out.below HB6.out) he).mono ?_;rintro en w7 ⟨pz,nz,cz,k,rfl,hb7,hyes,hno⟩;obtain⟨FH,hFH⟩:∃X,Fl (fun c=>Fz seed P c^((P-1)/Q)%P) 256 0=X:=⟨_,rfl⟩
    rw[hFH]at hyes hno
    have HFH:=Aa hFH;have hb8:Below w7.heap.size w7 (w7.alloc (.cells #[.slice pz nz cz] 36)):=By;have hX10:=Af.made w7 (.slice pz nz cz);obtain⟨w8,hw8⟩:∃w8,w7.alloc (.cells #[.slice pz nz cz] 36)=w8:=⟨_,rfl⟩
    rw[hw8]at hb8 hX10
    have hb68:=Ae hb7 hb8;have HX8:=Aa (HX6.out.below hb68 HX6.out.lt);have HX10:=Aa hX10;have HR18:=Aa (HR16.out.below hb68);have HR28:=Aa (HR26.out.below hb68);have HB8:=Aa (Ae HB6.out hb68);have HG8:=Aa (HG.out.below HB8.out)
    cases FH with
    | none=>
     obtain rfl:=hno rfl;have hS0:SP=(6,0):=by rw[<-HSP.out,newSpec,if_pos HTo.out,if_pos (of_decide_eq_true HRI.out),HFH.out]
     have HS0:=Aa hS0;clear hS0 hyes hno hFH hb7 hb8 hX10 hb68 cw cx cy;go_wp2;refine bodyPost_ret (v:=.tuple #[.pointer none,.int .i64 6]) (by simp[results,Tryz.results80,go_sem]) rfl ?_;exact⟨fun h=>absurd h HL.out,(fun _ h=>by rw[HS0.out]at h;cases h),(fun _ _=>by rw[HS0.out];rfl),HB8.out⟩
    | some H=>
     obtain⟨rfl,hnz,lH⟩:=hyes H rfl;have hS0:SP=(0,H):=by rw[<-HSP.out,newSpec,if_pos HTo.out,if_pos (of_decide_eq_true HRI.out),HFH.out]
     have HS0:=Aa hS0;have HNZ:=Aa (Aj.below hnz hb8);have HLH:Ad (H<Ap 33):=⟨De lH (Cw (by omega))⟩
     have HGM:Ad (G%P=G):=⟨Nat.mod_eq_of_lt (of_decide_eq_true HRI.out).2.2.2.1⟩
     have HLG:Ad (G<Ap 33):=⟨De lG (Cw (by omega))⟩
     have HBL:Ad (w.heap.size<w8.heap.size):=⟨HX8.out.lt⟩
     clear hS0 hyes hno hFH hb7 hb8 hX10 hb68 hnz lH cw cx cy;go_wp2;refine Ai (by kernel_rfl) (by kernel_rfl)
      [some (.pointer (some ⟨r1,0,none⟩)),some (.pointer (some ⟨r2,0,none⟩)),some (.pointer (some ⟨r1,0,none⟩)),some (.pointer (some ⟨w.heap.size,2,none⟩)),some (.agg #[.slice z.1 z.2.1 z.2.2]),none,some (.agg #[.slice pz nz cz]),none,none,none,some (.int .i64 0)]
      [false,false,false,false,false,true,false,true,true,true,false] rfl
      (fun w1 w2=>Below w1.heap.size w1 w2)
      (fun _ w'=>Below w8.heap.size w8 w')
      (fun i v w'=>match i with
       | 5=>Fit e G v w'
       | 7=>mR r1 r2 pz nz cz G v w'
       | 8=>dM r1 r2 pz nz cz G v w'
       | 9=>dM r1 r2 pz nz cz G v w'
       | _=>True)
      ?_ (Bd _ _).drew ?_ ?_
     .intro i v w1 w2 hf hb;split at hf
      .exact hf.below hb
      .exact hf.below hb
      .exact hf.below hb
      .exact hf.below hb
      .trivial
     .simp only[Ba,Nat.reduceAdd];refine⟨?_,?_,?_,?_,?_,?_,?_,?_,?_,?_,?_,trivial⟩
      all_goals intro D sp w' hD hW hdp hbx'
      case refine_5=>
       have c2:=(Cm.cells ⟨(hbx'.block w.heap.size HBL.out).trans HX8.out.at_⟩).2.2.1
       with_reducible refine Ac ?_ ?_
       all_goals simp[Region.wanted,yielded,execOp,Act.eval,Act.put,go_sem,c2]
      case refine_6=>
       (with_reducible refine Ab (w1:=w') (f := 32) (args:=#[.pointer (some ⟨r1,0,none⟩),.agg #[.slice z.1 z.2.1 z.2.2]]) ?_ ?_ ?_)
       .simp[Region.wanted,yielded,Act.put,go_sem]
       .simp[Act.eval,Act.put,go_sem]
       .refine(Dc (HR18.out.below hbx') (HG8.out.below hbx') (by omega)).mono ?_;rintro en w9 ⟨u,rfl,hu,hb⟩;rw[HGM.out]at hu
        exact⟨u,rfl,hb,hu,Ae hbx' hb⟩
      case refine_7=>
       have c0:w'.cell? ⟨w7.heap.size,0,none⟩=some (.slice pz nz cz):=Af.cell (HX10.out.below hbx' HX10.out.lt)
       with_reducible refine Ac ?_ ?_
       all_goals simp[Region.wanted,yielded,execOp,Act.eval,Act.put,go_sem,c0]
      case refine_8=>
       have k5:Fit e G (sp 5) w':=(hdp 5 (mq (by kernel_rfl))).2;have hx:∃pg ng cg,sp 5=.agg #[.slice pg ng cg]/\Aj w' pg ng cg G/\G<Ap e:=k5
       (with_reducible refine Aq hx fun pg hx1=>Aq hx1 fun ng hx2=>Aq hx2 fun cg hx3=>?_)
       have h1:=hx3.1
       (with_reducible refine Ag (w1:=w') (v:=.agg #[.pointer (some ⟨r1,0,none⟩),.pointer (some ⟨r2,0,none⟩),.slice pg ng cg,.slice pz nz cz]) ?_ ?_ ?_)
       .simp only[Region.wanted]
       .simp[execOp,Act.eval,Act.put,go_sem,h1]
       .exact⟨Bd _ _,⟨pg,ng,cg,rfl,hx3.2.1⟩,hbx'⟩
      case refine_9=>
       have k7:mR r1 r2 pz nz cz G (sp 7) w':=(hdp 7 (mq (by kernel_rfl))).2
       (with_reducible refine Aq k7.ex fun pg hx1=>Aq hx1 fun ng hx2=>Aq hx2 fun cg hx3=>?_)
       have h1:=hx3.1
       (with_reducible refine Ag (w1:=w'.alloc (.cells #[.pointer (some ⟨r1,0,none⟩),.pointer (some ⟨r2,0,none⟩),.slice pg ng cg,.slice pz nz cz] 127)) (v:=.pointer (some ⟨w'.heap.size,0,none⟩)) ?_ ?_ ?_)
       .simp only[Region.wanted]
       .simp[execOp,Act.eval,Act.put,go_sem,h1]
       .have hb:Below w'.heap.size w' (w'.alloc (.cells #[.pointer (some ⟨r1,0,none⟩),.pointer (some ⟨r2,0,none⟩),.slice pg ng cg,.slice pz nz cz] 127)):=By;exact⟨hb,⟨w'.heap.size,pg,ng,cg,rfl,heap_alloc_new w' _,hx3.2.below hb⟩,Ae hbx' hb⟩
      case refine_10=>
       have k8:dM r1 r2 pz nz cz G (sp 8) w':=(hdp 8 (mq (by kernel_rfl))).2
       (with_reducible refine Ag (w1:=w') (v:=sp 8) ?_ ?_ ?_)
       .simp only[Region.wanted]
       .simp[execOp,Act.eval,Act.put,go_sem]
       .exact⟨Bd _ _,k8,hbx'⟩
      all_goals ((with_reducible refine Ac ?_ ?_);all_goals first|(simp only[Region.wanted];done)|simp[Region.wanted,yielded,execOp,Act.eval,Act.put,go_sem])
     .intro sp w9 hsp hbx';have hg:dM r1 r2 pz nz cz G (sp 9) w9:=hsp 9 rfl;obtain⟨b,pg,ng,cg,he9,hh,hng⟩:=hg.ex;have HH:=Aa hh;have HNG:=Aa hng;have HNZ9:=Aa (Aj.below HNZ.out hbx');have HR19:=Aa ((HR18.out.below hbx').wide (f:=33) (by omega) (by decide));have HR29:=Aa ((HR28.out.below hbx').wide (f:=33) (by omega) (by decide));have HB9:=Aa (Ae HB8.out hbx');clear hsp hbx' hg hh hng;simp only[Am,Nat.reduceAdd];rw[he9];clear he9;generalize sp 5=y5,sp 7=y7,sp 8=y8 at *
      go_simp
      go_wp2;refine bodyPost_ret (v:=.tuple #[.pointer (some ⟨b,0,none⟩),.int .i64 0]) (by simp[results,Tryz.results80,go_sem]) rfl ?_;refine⟨fun h=>absurd h HL.out,fun _ _=>⟨b,rfl,?_⟩,fun _ h=>absurd (by rw[HS0.out]) h,HB9.out⟩;rw[HS0.out];exact⟨r1,r2,pg,ng,cg,pz,nz,cz,HH.out,HR19.out,HR29.out,HNG.out,HLG.out,HNZ9.out,HLH.out⟩
theorem Wx {q a:Int}(h:q ∣ a)(b:Int):q ∣ a*b:=let ⟨k,hk⟩:=h;⟨k*b,by rw[hk,Int.mul_assoc]⟩
theorem Ww {q a:Int}(h:q ∣ a)(b:Int):q ∣ b*a:=by rw[Int.mul_comm];exact Wx h b
structure Is (q N:Nat) (z:Int):Prop where
 lt:N<q
 dvd:(q:Int) ∣ (N:Int)-z
theorem Is.of {q:Nat}(hq:0<q)(N:Nat):Is q (N%q) N:=⟨Nat.mod_lt _ hq,by
 have h:=Nat.div_add_mod N q;refine⟨-((N/q:Nat):Int),?_⟩;have h2:(N:Int)=(q:Int)*(N/q:Nat)+(N%q:Nat):=by rw[<-Int.natCast_mul,<-Int.natCast_add,h]
 rw[Int.mul_neg];omega⟩
theorem Is.alike {q N:Nat}{x y:Int}(h:Is q N x)(hxy:(q:Int) ∣ x-y):Is q N y:=⟨h.lt,by
 have:=Int.dvd_add h.dvd hxy
 rwa [show (N:Int)-x+(x-y)=N-y by omega]at this⟩
theorem Is.uniq {q a b:Nat}{x y:Int}(h:Is q a x)(k:Is q b y)(hxy:(q:Int) ∣ x-y):a=b:=by
 have h1:=Int.dvd_sub (h.alike hxy).dvd k.dvd;rw[show (a:Int)-y-((b:Int)-y)=(a:Int)-b by omega]at h1
 have h2:=Hv h1
 rwa [Nat.mod_eq_of_lt h.lt,Nat.mod_eq_of_lt k.lt]at h2
theorem Is.diff {q a b:Nat}{x y:Int}(h:Is q a x)(k:Is q b y)(hab:a=b):(q:Int) ∣ x-y:=by
 subst hab;have h1:=Int.dvd_sub k.dvd h.dvd
 rwa [show (a:Int)-y-((a:Int)-x)=x-y by omega]at h1
theorem Is.rest {q N:Nat}{z:Int}(hq:0<q)(h:(q:Int) ∣ (N:Int)-z):Is q (N%q) z:=(Is.of hq N).alike h
theorem Is.add {q a b:Nat}{x y:Int}(h:Is q a x)(k:Is q b y):Is q ((a+b)%q) (x+y):=Is.rest (Nat.lt_of_le_of_lt (Nat.zero_le _) h.lt) (by
 have:=Int.dvd_add h.dvd k.dvd
 rwa [show (a:Int)-x+((b:Int)-y)=((a+b:Nat):Int)-(x+y) by omega]at this)
theorem Is.mul {q a b:Nat}{x y:Int}(h:Is q a x)(k:Is q b y):Is q (a*b%q) (x*y):=Is.rest (Nat.lt_of_le_of_lt (Nat.zero_le _) h.lt) (by
 have h1:=Int.dvd_add (Wx h.dvd (b:Int)) (Ww k.dvd x)
 rwa [show ((a:Int)-x)*b+x*((b:Int)-y)=((a*b:Nat):Int)-x*y by rw[Int.sub_mul,Int.mul_sub,Int.natCast_mul];omega]at h1)
theorem Is.sub {q a b:Nat}{x y:Int}(hq:2<=q)(h:Is q a x)(k:Is q b y):Is q (Fw a b q) (x-y):=⟨Vx hq,by
 have h1:=Int.dvd_sub h.dvd k.dvd;unfold Fw;rw[Nat.mod_eq_of_lt h.lt,Nat.mod_eq_of_lt k.lt];split
 .rwa [show (a:Int)-x-((b:Int)-y)=((a-b:Nat):Int)-(x-y) by omega]at h1
 .have h2:=Int.dvd_add h1 (Int.dvd_refl (q:Int));have:=k.lt
  rwa [show (a:Int)-x-((b:Int)-y)+q=((q-b+a:Nat):Int)-(x-y) by omega]at h2⟩
theorem Is.inv {q N X:Nat}{z:Int}(hq:Cs q)(h:Is q (N%q) z)(hX:Jq q N X)(hz:¬(q:Int) ∣ z):(q:Int) ∣ z*X-1/\X<q:=by
 have hg:Nat.gcd q N=1:=hq.coprime fun hd=>hz (by
  have h1:N%q=0:=Nat.mod_eq_zero_of_dvd hd;have h2:=h.dvd;rw[h1]at h2
  have:=Int.dvd_neg.2 h2
  rwa [show -(((0:Nat):Int)-z)=z by omega]at this)
 obtain⟨h1,h2⟩:=hX.1 hg;refine⟨?_,h1⟩;have h3:(q:Int) ∣ ((X*N:Nat):Int)-(1:Nat):=Nh h2;have h4:(q:Int) ∣ (N:Int)-z:=by
  have h5:=Int.dvd_sub (Is.of (by have:=hq.two;omega) N).dvd h.dvd;have h6:=Int.dvd_neg.2 h5
  rwa [show -(((N%q:Nat):Int)-N-(((N%q:Nat):Int)-z))=N-z by omega]at h6
 have h7:=Int.dvd_sub h3 (Ww h4 (X:Int))
 rwa [show ((X*N:Nat):Int)-(1:Nat)-X*((N:Int)-z)=z*X-1 by rw[Int.natCast_mul,Int.mul_sub,Int.mul_comm z X];omega]at h7
theorem kH {M N:Nat}(hM:2<=M):∀(R D O X:Nat) (neg:Bool),Pc M N D R O X neg->∃Y,Jq M N Y:=by
 intro R
 induction R using Nat.strongRecOn with
 | _ R ih=>
  intro D O X neg h;rcases Nat.eq_zero_or_pos R with h0|h0
  .subst h0;have h1:=h.done hM
   by_cases hD:D=1
   .exact⟨_,h1.2 hD⟩
   .exact⟨0,fun hg=>absurd (h1.1.trans hg) hD,fun _=>rfl⟩
  .exact ih (D%R) (Nat.mod_lt _ h0) _ _ _ _ (h.step h0)
theorem cI {M:Nat}(hM:2<=M)(N:Nat):∃Y,Jq M N Y:=kH hM _ _ _ _ _ (Pc.start (M:=M) (N:=N) (by omega))
noncomputable def cJ (M N:Nat):Nat:=Classical.epsilon fun Y=>Jq M N Y
theorem Wv {M:Nat}(hM:2<=M)(N:Nat):Jq M N (cJ M N):=Classical.epsilon_spec (cI hM N)
theorem oD {M N X:Nat}(hM:2<=M)(h:Jq M N X):X=cJ M N:=h.uniq (Wv hM N)
attribute [local go_sem] Oper.semAt_some
structure Pt (w:World) (e:Nat) (us:List (Option Addr×Nat×Nat)) (Ns:List Nat):Prop where
 len:us.length=Ns.length
 at_:∀(i N:Nat),Ns[i]? = some N->∃x,us[i]? = some x/\Dh w x N/\N<Ap e
theorem Ut {P Q g:Nat}(h:g^Q%P=1%P)(a:Nat):g^a%P=g^(a%Q)%P:=by
 have h1:a=Q*(a/Q)+a%Q:=(Nat.div_add_mod a Q).symm;have h2:g^(Q*(a/Q))%P=1%P:=by
  rw[Nat.pow_mul,Nat.pow_mod,h,<-Nat.pow_mod,Nat.one_pow]
 rw[show g^a=g^(Q*(a/Q))*g^(a%Q) by rw[<-Nat.pow_add,<-h1],Nat.mul_mod,h2,<-Nat.mul_mod,Nat.one_mul]
theorem fG {P Q g a b:Nat}(h:g^Q%P=1%P)(hab:a%Q=b%Q):g^a%P=g^b%P:=by
 rw[Ut h a,Ut h b,hab]
theorem Pt.snoc {w:World}{e N:Nat}{us:List (Option Addr×Nat×Nat)}{Ns:List Nat}{x:Option Addr×Nat×Nat}(h:Pt w e us Ns)(hx:Dh w x N)(hl:N<Ap e):Pt w e (us++[x]) (Ns++[N]):=by
 refine⟨by simp[h.len],fun i M hM=>?_⟩;rcases Nat.lt_or_ge i Ns.length with hi|hi
 .rw[List.getElem?_append_left hi]at hM
  obtain⟨y,h1,h2⟩:=h.at_ i M hM
  exact⟨y,by rw[List.getElem?_append_left (by rw[h.len];exact hi)];exact h1,h2⟩
 .rw[List.getElem?_append_right hi]at hM
  obtain⟨t,ht⟩:∃t,i-Ns.length=t:=⟨_,rfl⟩
  rw[ht]at hM
  cases t with
  | zero=>
   simp at hM;subst hM;exact⟨x,by rw[List.getElem?_append_right (by rw[h.len];exact hi),h.len,ht];rfl,hx,hl⟩
  | succ t=>simp at hM
theorem Pt.nil (w:World)(e:Nat):Pt w e [] []:=⟨rfl,fun i N hN=>by simp at hN⟩
theorem qB (i:Nat)(hi:i<3):gP i<Ap 3/\gQ i<Ap 3/\gG i<Ap 3:=by
 have h:=Ol i hi;have h1:gP i<Ap 3:=De h.2.2.2.2.2 (by decide);have h2:=Vf i hi;refine⟨h1,?_,by omega⟩;rcases Nat.eq_zero_or_pos (Nf i) with h0|h0
 .rw[h0,Nat.mul_zero]at h2;omega
 .have:=Nat.le_mul_of_pos_right (gQ i) h0;omega
theorem cN:∀i,i<3->(Ex i).length<=60
 | 0,_=>by decide
 | 1,_=>by decide
 | 2,_=>by decide
 | _+3,h=>by omega
theorem kP (i:Nat)(hi:i<3):Cs (gQ i):=by
 rcases dX i hi with h|⟨h1,s,hs,h2⟩
 .exact h.prime
 .rw[<-h2];exact Lt _ [] (fun x hx=>by cases hx) h1 s hs
theorem kI (A:Int):((IntKind.u64.wrap A)%3).toNat<3:=by
 have h1:=Int.emod_nonneg (IntKind.u64.wrap A) (show (3:Int)≠0 by decide);have h2:=Int.emod_lt_of_pos (IntKind.u64.wrap A) (show (0:Int)<3 by decide);omega
theorem kL {w:World}{i:Nat}{x y z:Option Addr×Nat×Nat}{pc:Option Addr}{nc cc:Nat}(hi:i<3)(hr:Tabs w)(hx:Dh w x (gP i))(hy:Dh w y (gQ i))(hz:Dh w z (gG i))(hc:Ey w 3 pc nc cc (Ex i)) :
  Calls Tryz.prog 80 #[.agg #[.slice x.1 x.2.1 x.2.2,.slice y.1 y.2.1 y.2.2,.slice z.1 z.2.1 z.2.2,.slice none 0 0],.slice pc nc cc] w fun e w'=>
   ∃b,e=.returned (.tuple #[.pointer (some ⟨b,0,none⟩),.int .i64 0])/\Bb w' b (gP i) (gQ i) (gG i) (gH i)/\Below w.heap.size w w':=by
 obtain⟨l1,l2,l3⟩:=qB i hi;refine(kM (e:=3) (seed:=[]) hr hx l1 hy l2 hz l3 (Yw w) hc (by rw[hc.len];exact cN i hi) (cO i hi) (by decide)).mono ?_;rintro en w' ⟨_,h0,_,hbl⟩;rw[fM i hi]at h0
 obtain⟨b,rfl,hg⟩:=h0 (by decide) rfl;exact⟨b,rfl,hg,hbl⟩
theorem Mw (w:World)(A:Int)(hr:Tabs w) :
  Calls Tryz.prog 16 #[.int .i64 A,.slice none 0 0] w fun e w'=>∃b,e=.returned (.pointer (some ⟨b,0,none⟩))/\Bb w' b (gP ((IntKind.u64.wrap A)%3).toNat) (gQ ((IntKind.u64.wrap A)%3).toNat) (gG ((IntKind.u64.wrap A)%3).toNat) (gH ((IntKind.u64.wrap A)%3).toNat)/\Below w.heap.size w w':=by
 have HR:=Aa hr;have hi:=kI A;obtain⟨i,ei⟩:∃i,((IntKind.u64.wrap A)%3).toNat=i:=⟨_,rfl⟩
 have HN:=Aa (Tv w A none 0 0);rw[ei]at hi HN ⊢
 have HI:=Aa hi;clear hr hi ei;go_enter Tryz.func16,Tryz.ntmps16
 go_wp2_with fail
 refine HN.out.mono ?_;rintro en w1 ⟨x,y,z,pc,nc,cc,rfl,h1,h2,h3,h4,b1⟩;have HH:=Aa (kL HI.out (HR.out.below b1 HR.out.size) h1 h2 h3 h4);have B1:=Aa b1;clear h1 h2 h3 h4 b1 HN
 go_wp2_with fail
 refine HH.out.mono ?_;rintro en w2 ⟨b,rfl,hg,b2⟩;have HG:=Aa hg;have B2:=Aa (Ae B1.out b2);clear hg b2 HH B1;go_wp2;go_ret;exact⟨b,rfl,HG.out,B2.out⟩
structure TB (W:World) (N1 N2:Nat) (d3 d7 d8 d9 d10 d11:Bool) (v3 v7 v8 v9:Value) (w:World):Prop where
 bel:Below W.heap.size W w
 p3:d3=true->Fit 33 N1 v3 w
 p7:d7=true->Fit 33 N2 v7 w
 b8:d8=true->∃b,v8=.pointer (some ⟨b,0,none⟩)/\W.heap.size<=b/\Pu d10 b N1 w/\(d9=true->v9≠v8)
 b9:d9=true->∃b,v9=.pointer (some ⟨b,0,none⟩)/\W.heap.size<=b/\Pu d11 b N2 w/\(d8=true->v8≠v9)
 o10:d10=true->d8=true
 o11:d11=true->d9=true
section
variable {W:World} {N1 N2:Nat} {d3 d7 d8 d9 d10 d11:Bool} {v3 v7 v8 v9:Value} {w:World}
theorem TB.start:TB W N1 N2 false false false false false false v3 v7 v8 v9 W.drew :=
 ⟨(Bd _ _).drew,(fun e=>by cases e),(fun e=>by cases e),(fun e=>by cases e),(fun e=>by cases e),(fun e=>by cases e),fun e=>by cases e⟩
theorem TB.later {w':World}(h:TB W N1 N2 d3 d7 d8 d9 d10 d11 v3 v7 v8 v9 w)(hb:Below w.heap.size w w'):TB W N1 N2 d3 d7 d8 d9 d10 d11 v3 v7 v8 v9 w' :=
 ⟨Ae h.bel hb,fun e=>(h.p3 e).below hb,fun e=>(h.p7 e).below hb,fun e=>let ⟨b,h1,h2,h3,h4⟩:=h.b8 e;⟨b,h1,h2,h3.later hb,h4⟩,fun e=>let ⟨b,h1,h2,h3,h4⟩:=h.b9 e;⟨b,h1,h2,h3.later hb,h4⟩,h.o10,h.o11⟩
theorem TB.put3 (h:TB W N1 N2 d3 d7 d8 d9 d10 d11 v3 v7 v8 v9 w){u:Value}(hu:Fit 33 N1 u w):TB W N1 N2 true d7 d8 d9 d10 d11 u v7 v8 v9 w:=⟨h.bel,fun _=>hu,h.p7,h.b8,h.b9,h.o10,h.o11⟩
theorem TB.put7 (h:TB W N1 N2 d3 d7 d8 d9 d10 d11 v3 v7 v8 v9 w){u:Value}(hu:Fit 33 N2 u w):TB W N1 N2 d3 true d8 d9 d10 d11 v3 u v8 v9 w:=⟨h.bel,h.p3,fun _=>hu,h.b8,h.b9,h.o10,h.o11⟩
theorem TB.lt8 (h:TB W N1 N2 d3 d7 true d9 d10 d11 v3 v7 v8 v9 w):v8≠.pointer (some ⟨w.heap.size,0,none⟩):=by
 obtain⟨b,h1,h2,⟨p,n,c,h3,_⟩,h4⟩:=h.b8 rfl;have:=h3.lt;rw[h1];intro e;simp only[Value.pointer.injEq,Option.some.injEq,Addr.mk.injEq,and_true]at e;omega
theorem TB.lt9 (h:TB W N1 N2 d3 d7 d8 true d10 d11 v3 v7 v8 v9 w):v9≠.pointer (some ⟨w.heap.size,0,none⟩):=by
 obtain⟨b,h1,h2,⟨p,n,c,h3,_⟩,h4⟩:=h.b9 rfl;have:=h3.lt;rw[h1];intro e;simp only[Value.pointer.injEq,Option.some.injEq,Addr.mk.injEq,and_true]at e;omega
theorem TB.no10 (h:TB W N1 N2 d3 d7 false d9 d10 d11 v3 v7 v8 v9 w):d10=false:=by
 cases d10 with
 | false=>rfl
 | true=>have:=h.o10 rfl;cases this
theorem TB.no11 (h:TB W N1 N2 d3 d7 d8 false d10 d11 v3 v7 v8 v9 w):d11=false:=by
 cases d11 with
 | false=>rfl
 | true=>have:=h.o11 rfl;cases this
theorem TB.put8 (h:TB W N1 N2 d3 d7 false d9 false d11 v3 v7 v8 v9 w):TB W N1 N2 d3 d7 true d9 false d11 v3 v7 (.pointer (some ⟨w.heap.size,0,none⟩)) v9 (w.alloc (.cells #[.slice none 0 0] 36)):=by
 have hb:Below w.heap.size w (w.alloc (.cells #[.slice none 0 0] 36)):=By;have hk:=h.later hb;refine⟨hk.bel,hk.p3,hk.p7,fun _=>⟨w.heap.size,rfl,h.bel.size,Pu.fresh (Af.made _ _),fun e=>by subst e;exact h.lt9⟩,fun e=>?_,(fun e=>by cases e),h.o11⟩;obtain⟨b,h1,h2,h3,h4⟩:=hk.b9 e;exact⟨b,h1,h2,h3,fun _=>by subst e;exact fun k=>h.lt9 k.symm⟩
theorem TB.put9 (h:TB W N1 N2 d3 d7 d8 false d10 false v3 v7 v8 v9 w):TB W N1 N2 d3 d7 d8 true d10 false v3 v7 v8 (.pointer (some ⟨w.heap.size,0,none⟩)) (w.alloc (.cells #[.slice none 0 0] 36)):=by
 have hb:Below w.heap.size w (w.alloc (.cells #[.slice none 0 0] 36)):=By;have hk:=h.later hb;refine⟨hk.bel,hk.p3,hk.p7,fun e=>?_,fun _=>⟨w.heap.size,rfl,h.bel.size,Pu.fresh (Af.made _ _),fun e=>by subst e;exact h.lt8⟩,h.o10,fun e=>by cases e⟩;obtain⟨b,h1,h2,h3,h4⟩:=hk.b8 e;exact⟨b,h1,h2,h3,fun _=>by subst e;exact fun k=>h.lt8 k.symm⟩
theorem TB.put10 (h:TB W N1 N2 true d7 true d9 false d11 v3 v7 v8 v9 w):∃(b m d:Nat) (q p:Option Addr) (n c:Nat),v8=.pointer (some ⟨b,0,none⟩)/\v3=.agg #[.slice p n c]/\Af w b (.slice q m d)/\TB W N1 N2 true d7 true d9 true d11 v3 v7 v8 v9 (w.setCell ⟨b,0,none⟩ (.slice p n c)):=by
 obtain⟨b,h1,h2,h3,h4⟩:=h.b8 rfl;obtain⟨p,n,c,e3,k1,k2⟩:=h.p3 rfl;obtain⟨q,m,d,k3,k4⟩:=h3.put k1;refine⟨b,m,d,q,p,n,c,h1,e3,k3,h.bel.setCell h2 _,fun _=>(show Fit 33 N1 v3 w from ⟨p,n,c,e3,k1,k2⟩).keep (Ao.store k3 h2 _),fun e=>(h.p7 e).keep (Ao.store k3 h2 _),fun _=>⟨b,h1,h2,k4,h4⟩,fun e=>?_,fun _=>rfl,h.o11⟩;obtain⟨b',g1,g2,g3,g4⟩:=h.b9 e;exact⟨b',g1,g2,g3.other k3 (fun x=>g4 rfl (by rw[h1,g1,x])) _,g4⟩
theorem TB.put11 (h:TB W N1 N2 d3 true d8 true d10 false v3 v7 v8 v9 w):∃(b m d:Nat) (q p:Option Addr) (n c:Nat),v9=.pointer (some ⟨b,0,none⟩)/\v7=.agg #[.slice p n c]/\Af w b (.slice q m d)/\TB W N1 N2 d3 true d8 true d10 true v3 v7 v8 v9 (w.setCell ⟨b,0,none⟩ (.slice p n c)):=by
 obtain⟨b,h1,h2,h3,h4⟩:=h.b9 rfl;obtain⟨p,n,c,e3,k1,k2⟩:=h.p7 rfl;obtain⟨q,m,d,k3,k4⟩:=h3.put k1;refine⟨b,m,d,q,p,n,c,h1,e3,k3,h.bel.setCell h2 _,fun e=>(h.p3 e).keep (Ao.store k3 h2 _),fun _=>(show Fit 33 N2 v7 w from ⟨p,n,c,e3,k1,k2⟩).keep (Ao.store k3 h2 _),fun e=>?_,fun _=>⟨b,h1,h2,k4,h4⟩,h.o10,fun _=>rfl⟩;obtain⟨b',g1,g2,g3,g4⟩:=h.b8 e;exact⟨b',g1,g2,g3.other k3 (fun x=>g4 rfl (by rw[h1,g1,x])) _,g4⟩
end
structure Kk (W:World) (N1 N2 M1 M2:Nat) (d3 d7 d8 d9 d10 d11 e1 e2:Bool) (v3 v7 v8 v9 u1 u2:Value) (w:World):Prop where
 tb:TB W N1 N2 d3 d7 d8 d9 d10 d11 v3 v7 v8 v9 w
 q1:e1=true->Fit 33 M1 u1 w
 q2:e2=true->Fit 33 M2 u2 w
section
variable {W:World} {N1 N2 M1 M2:Nat} {d3 d7 d8 d9 d10 d11 e1 e2:Bool} {v3 v7 v8 v9 u1 u2:Value} {w:World}
theorem Kk.start:Kk W N1 N2 M1 M2 false false false false false false false false v3 v7 v8 v9 u1 u2 W.drew:=⟨TB.start,(fun e=>by cases e),fun e=>by cases e⟩
theorem Kk.bel (h:Kk W N1 N2 M1 M2 d3 d7 d8 d9 d10 d11 e1 e2 v3 v7 v8 v9 u1 u2 w):Below W.heap.size W w:=h.tb.bel
theorem Kk.later {w':World}(h:Kk W N1 N2 M1 M2 d3 d7 d8 d9 d10 d11 e1 e2 v3 v7 v8 v9 u1 u2 w)(hb:Below w.heap.size w w'):Kk W N1 N2 M1 M2 d3 d7 d8 d9 d10 d11 e1 e2 v3 v7 v8 v9 u1 u2 w' :=
 ⟨h.tb.later hb,fun e=>(h.q1 e).below hb,fun e=>(h.q2 e).below hb⟩
theorem Kk.set1 (h:Kk W N1 N2 M1 M2 d3 d7 d8 d9 d10 d11 e1 e2 v3 v7 v8 v9 u1 u2 w){u:Value}(hu:Fit 33 M1 u w):Kk W N1 N2 M1 M2 d3 d7 d8 d9 d10 d11 true e2 v3 v7 v8 v9 u u2 w:=⟨h.tb,fun _=>hu,h.q2⟩
theorem Kk.set2 (h:Kk W N1 N2 M1 M2 d3 d7 d8 d9 d10 d11 e1 e2 v3 v7 v8 v9 u1 u2 w){u:Value}(hu:Fit 33 M2 u w):Kk W N1 N2 M1 M2 d3 d7 d8 d9 d10 d11 e1 true v3 v7 v8 v9 u1 u w:=⟨h.tb,h.q1,fun _=>hu⟩
theorem Kk.put3 (h:Kk W N1 N2 M1 M2 d3 d7 d8 d9 d10 d11 e1 e2 v3 v7 v8 v9 u1 u2 w){u:Value}(hu:Fit 33 N1 u w):Kk W N1 N2 M1 M2 true d7 d8 d9 d10 d11 e1 e2 u v7 v8 v9 u1 u2 w:=⟨h.tb.put3 hu,h.q1,h.q2⟩
theorem Kk.put7 (h:Kk W N1 N2 M1 M2 d3 d7 d8 d9 d10 d11 e1 e2 v3 v7 v8 v9 u1 u2 w){u:Value}(hu:Fit 33 N2 u w):Kk W N1 N2 M1 M2 d3 true d8 d9 d10 d11 e1 e2 v3 u v8 v9 u1 u2 w:=⟨h.tb.put7 hu,h.q1,h.q2⟩
theorem Kk.no10 (h:Kk W N1 N2 M1 M2 d3 d7 false d9 d10 d11 e1 e2 v3 v7 v8 v9 u1 u2 w):d10=false:=h.tb.no10
theorem Kk.no11 (h:Kk W N1 N2 M1 M2 d3 d7 d8 false d10 d11 e1 e2 v3 v7 v8 v9 u1 u2 w):d11=false:=h.tb.no11
theorem Kk.put8 (h:Kk W N1 N2 M1 M2 d3 d7 false d9 false d11 e1 e2 v3 v7 v8 v9 u1 u2 w):Kk W N1 N2 M1 M2 d3 d7 true d9 false d11 e1 e2 v3 v7 (.pointer (some ⟨w.heap.size,0,none⟩)) v9 u1 u2 (w.alloc (.cells #[.slice none 0 0] 36)):=by
 have hb:Below w.heap.size w (w.alloc (.cells #[.slice none 0 0] 36)):=By;exact⟨h.tb.put8,fun e=>(h.q1 e).below hb,fun e=>(h.q2 e).below hb⟩
theorem Kk.put9 (h:Kk W N1 N2 M1 M2 d3 d7 d8 false d10 false e1 e2 v3 v7 v8 v9 u1 u2 w):Kk W N1 N2 M1 M2 d3 d7 d8 true d10 false e1 e2 v3 v7 v8 (.pointer (some ⟨w.heap.size,0,none⟩)) u1 u2 (w.alloc (.cells #[.slice none 0 0] 36)):=by
 have hb:Below w.heap.size w (w.alloc (.cells #[.slice none 0 0] 36)):=By;exact⟨h.tb.put9,fun e=>(h.q1 e).below hb,fun e=>(h.q2 e).below hb⟩
theorem Kk.put10 (h:Kk W N1 N2 M1 M2 true d7 true d9 false d11 e1 e2 v3 v7 v8 v9 u1 u2 w):∃(b m d:Nat) (q p:Option Addr) (n c:Nat),v8=.pointer (some ⟨b,0,none⟩)/\v3=.agg #[.slice p n c]/\Af w b (.slice q m d)/\Kk W N1 N2 M1 M2 true d7 true d9 true d11 e1 e2 v3 v7 v8 v9 u1 u2 (w.setCell ⟨b,0,none⟩ (.slice p n c)):=by
 obtain⟨b,m,d,q,p,n,c,h1,h2,h3,h4⟩:=h.tb.put10;exact⟨b,m,d,q,p,n,c,h1,h2,h3,h4,fun e=>(h.q1 e).keep (Ao.store h3 (Nat.zero_le b) _),fun e=>(h.q2 e).keep (Ao.store h3 (Nat.zero_le b) _)⟩
theorem Kk.put11 (h:Kk W N1 N2 M1 M2 d3 true d8 true d10 false e1 e2 v3 v7 v8 v9 u1 u2 w):∃(b m d:Nat) (q p:Option Addr) (n c:Nat),v9=.pointer (some ⟨b,0,none⟩)/\v7=.agg #[.slice p n c]/\Af w b (.slice q m d)/\Kk W N1 N2 M1 M2 d3 true d8 true d10 true e1 e2 v3 v7 v8 v9 u1 u2 (w.setCell ⟨b,0,none⟩ (.slice p n c)):=by
 obtain⟨b,m,d,q,p,n,c,h1,h2,h3,h4⟩:=h.tb.put11;exact⟨b,m,d,q,p,n,c,h1,h2,h3,h4,fun e=>(h.q1 e).keep (Ao.store h3 (Nat.zero_le b) _),fun e=>(h.q2 e).keep (Ao.store h3 (Nat.zero_le b) _)⟩
end
end Go.Proofs.YtnbmfaihlefgfaaGreatDoor
