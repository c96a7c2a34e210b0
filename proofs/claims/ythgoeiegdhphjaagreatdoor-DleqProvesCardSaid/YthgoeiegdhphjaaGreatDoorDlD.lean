/- Does a proof verify (dleq.Verify)? A claim's challenge as it is asked for (Answer). -/
import Derived.Test.YthgoeiegdhphjaaGreatDoorGqF
import Derived.BigRegion
import Derived.Deep.Slices
import Derived.ChangeSame
import Derived.ChangeSlices
import Derived.ChangeArms
import Derived.Test.YthgoeiegdhphjaaGreatDoorDlC
import Derived.Test.YthgoeiegdhphjaaGreatDoorSgD
set_option maxRecDepth 1000000
set_option maxHeartbeats 16000000
set_option linter.all false
namespace Go.Proofs.YthgoeiegdhphjaaGreatDoor
open Go Go.RowKit Go.Proofs.YthgoeiegdhphjaaGreatDoor.Flow
theorem dC (w:World)(e:Nat)(Ns:List Nat)(he:e<=32):Asks 166 #[] w e Ns (fun _=>false):=by
 refine⟨fun W M u _ _ hu=>?_⟩;rw[Array.append_empty];obtain⟨p,n,c,rfl,h1,h2⟩:=hu;have hb1:=Ag.made W (.slice p n c);have hbel:Below W.heap.size W (W.alloc (.cells #[.slice p n c] 36)):=Bw;obtain⟨wa,hwa⟩:∃wa,W.alloc (.cells #[.slice p n c] 36)=wa:=⟨_,rfl⟩
 rw[hwa]at hb1 hbel
 have HF:=Ab ((Fit.of h1 h2).below hbel);have HB:=Ab hbel;have hs:=Wv he h2;have c0:=hb1.cell;clear h1 h2 hb1 hbel;go_enter Tryz.func166,Tryz.ntmps166
 go_wp2_with fail
 refine(Ml HF.out (by omega)).mono ?_;rintro en w1 ⟨rfl,hb1⟩;have HB1:=Ab (Ae HB.out hb1);obtain⟨sz,hsz⟩:∃s,Ak M=s:=⟨_,rfl⟩
 rw[hsz]at hs ⊢
 have hn:decide ((128:Int)<(sz:Int))=false:=decide_eq_false (by omega);have HN:=Ab hn;clear hb1 c0 hsz hn;go_wp2;go_ret;exact⟨by rw[<-HN.out];rfl,HB1.out⟩
theorem rA {w:World}{e b P Q G:Nat}{x y z:Option Addr×Nat×Nat}(hb:w.heap[b]? = some (.cells #[.slice x.1 x.2.1 x.2.2,.slice y.1 y.2.1 y.2.2,.slice z.1 z.2.1 z.2.2] 36 (0,0)))(hP:Er w x P)(lP:P<Au e)(hQ:Er w y Q)(lQ:Q<Au e)(hG:Er w z G)(lG:G<Au e) :
  Ch w e (some ⟨b,0,none⟩) 3 3 [P,Q,G]:=by
 refine⟨rfl,Av _,by decide,(fun h=>by cases h),fun _=>⟨b,0,rfl,(Ep hb).1,fun i N hN=>?_⟩⟩
 match i,hN with
 | 0,hN=>cases hN;exact⟨x.1,x.2.1,x.2.2,by simp[World.cell?,hb],hP,lP⟩
 | 1,hN=>cases hN;exact⟨y.1,y.2.1,y.2.2,by simp[World.cell?,hb],hQ,lQ⟩
 | 2,hN=>cases hN;exact⟨z.1,z.2.1,z.2.2,by simp[World.cell?,hb],hG,lG⟩
 | i+3,hN=>simp at hN
theorem gW {w:World}{e P Q G:Nat}{x y z:Option Addr×Nat×Nat}{ps:Option Addr}{ns cs:Nat}(hP:Er w x P)(lP:P<Au e)(hQ:Er w y Q)(lQ:Q<Au e)(hG:Er w z G)(lG:G<Au e)(he:e<=32) :
  Calls Tryz.prog 121 #[.agg #[.slice x.1 x.2.1 x.2.2,.slice y.1 y.2.1 y.2.2,.slice z.1 z.2.1 z.2.2,.slice ps ns cs]] w fun en w'=>en=.returned (.bool (decide (128<ns)))/\Below w.heap.size w w':=by
 have hX0:=Cp.made 105 w (.slice x.1 x.2.1 x.2.2) (.slice y.1 y.2.1 y.2.2) (.slice z.1 z.2.1 z.2.2) (.slice ps ns cs);have hba:Below w.heap.size w (w.alloc (.cells #[.slice x.1 x.2.1 x.2.2,.slice y.1 y.2.1 y.2.2,.slice z.1 z.2.1 z.2.2,.slice ps ns cs] 105)):=Bw;obtain⟨wa,hwa⟩:∃wa,w.alloc (.cells #[.slice x.1 x.2.1 x.2.2,.slice y.1 y.2.1 y.2.2,.slice z.1 z.2.1 z.2.2,.slice ps ns cs] 105)=wa:=⟨_,rfl⟩
 rw[hwa]at hX0 hba
 have hb2:Below wa.heap.size wa (wa.alloc (.cells #[.slice x.1 x.2.1 x.2.2,.slice y.1 y.2.1 y.2.2,.slice z.1 z.2.1 z.2.2] 36)):=Bw;have hl:(wa.alloc (.cells #[.slice x.1 x.2.1 x.2.2,.slice y.1 y.2.1 y.2.2,.slice z.1 z.2.1 z.2.2] 36)).heap[wa.heap.size]? = some (.cells #[.slice x.1 x.2.1 x.2.2,.slice y.1 y.2.1 y.2.2,.slice z.1 z.2.1 z.2.2] 36 (0,0)):=heap_alloc_new wa _;obtain⟨w2,hw2⟩:∃w2,wa.alloc (.cells #[.slice x.1 x.2.1 x.2.2,.slice y.1 y.2.1 y.2.2,.slice z.1 z.2.1 z.2.2] 36)=w2:=⟨_,rfl⟩
 rw[hw2]at hb2 hl
 have hb02:=Ae hba hb2;have HL:=Ab (rA hl (Ai.below hP hb02) lP (Ai.below hQ hb02) lQ (Ai.below hG hb02) lG);have HB2:=Ab hb02;have HX2:=Ab (hX0.below hb2 hX0.lt);have HA:=Ab (dC w2 e [P,Q,G] he);have cw:=hX0.cells.1;have cx:=hX0.cells.2.1;have cy:=hX0.cells.2.2.1;clear hP hQ hG lP lQ lG hX0 hba hb2 hl hb02;go_enter Tryz.func121,Tryz.ntmps121
 go_wp2_with fail
 refine(Ko _ e _ 3 3 [P,Q,G] _ _ (enters_of Tryz.func166 (by kernel_rfl) rfl) _ HL.out HA.out).mono ?_;rintro en w3 ⟨rfl,hb3⟩;have HB3:=Ab (Ae HB2.out hb3);have c3:=(HX2.out.below hb3 HX2.out.lt).cells.2.2.2;clear hb3 cw cx cy;rw[show ([P,Q,G].any fun _=>false)=false from rfl]
 by_cases hn:128<ns
 .have HN:Aa (decide (128<ns)=true):=⟨decide_eq_true hn⟩
  have HD:Aa (decide ((128:Int)<(ns:Int))=true):=⟨decide_eq_true (by omega)⟩
  clear hn;go_wp2;go_ret;exact⟨by rw[HN.out,<-HD.out];rfl,HB3.out⟩
 .have HN:Aa (decide (128<ns)=false):=⟨decide_eq_false hn⟩
  have HD:Aa (decide ((128:Int)<(ns:Int))=false):=⟨decide_eq_false (by omega)⟩
  clear hn;go_wp2;go_ret;exact⟨by rw[HN.out,<-HD.out];rfl,HB3.out⟩
structure oH (r1 r2:Nat) (pz:Option Addr) (nz cz G:Nat) (v:Value) (w:World):Prop where
 ex:∃pg ng cg,v=.agg #[.pointer (some ⟨r1,0,none⟩),.pointer (some ⟨r2,0,none⟩),.slice pg ng cg,.slice pz nz cz]/\Ai w pg ng cg G
theorem oH.below {r1 r2:Nat}{pz:Option Addr}{nz cz G:Nat}{v:Value}{w w':World}(h:oH r1 r2 pz nz cz G v w)(hb:Below w.heap.size w w'):oH r1 r2 pz nz cz G v w' :=
 let ⟨pg,ng,cg,h1,h2⟩:=h.ex
 ⟨pg,ng,cg,h1,h2.below hb⟩
structure fD (r1 r2:Nat) (pz:Option Addr) (nz cz G:Nat) (v:Value) (w:World):Prop where
 ex:∃b pg ng cg,v=.pointer (some ⟨b,0,none⟩)/\w.heap[b]? = some (.cells #[.pointer (some ⟨r1,0,none⟩),.pointer (some ⟨r2,0,none⟩),.slice pg ng cg,.slice pz nz cz] 114 (0,0))/\Ai w pg ng cg G
theorem fD.below {r1 r2:Nat}{pz:Option Addr}{nz cz G:Nat}{v:Value}{w w':World}(h:fD r1 r2 pz nz cz G v w)(hb:Below w.heap.size w w'):fD r1 r2 pz nz cz G v w' :=
 let ⟨b,pg,ng,cg,h1,h2,h3⟩:=h.ex
 ⟨b,pg,ng,cg,h1,by rw[hb.block b (Ep h2).1];exact h2,h3.below hb⟩
open Classical in
theorem mR {w:World}{e P Q G:Nat}{x y z:Option Addr×Nat×Nat}{ps:Option Addr}{ns cs:Nat}{seed:List Nat}{pc:Option Addr}{nc cc:Nat}{l:List Ca}(hT:Tabs w)(hP:Er w x P)(lP:P<Au e)(hQ:Er w y Q)(lQ:Q<Au e)(hG:Er w z G)(lG:G<Au e)(hS:Aq w ⟨ps,ns,cs,seed⟩)(hC:Fr w e pc nc cc l)(hn:nc<=60)(hps:∀s∈l,s.ps.length<=1000)(he:e<=32) :
  Calls Tryz.prog 65 #[.agg #[.slice x.1 x.2.1 x.2.2,.slice y.1 y.2.1 y.2.2,.slice z.1 z.2.1 z.2.2,.slice ps ns cs],.slice pc nc cc] w fun en w'=>
   (128<ns->en=.returned (.tuple #[.pointer none,.int .i64 4])) /\
   (ns<=128->(newSpec P Q G seed l).1=0->∃b,en=.returned (.tuple #[.pointer (some ⟨b,0,none⟩),.int .i64 0])/\Ba w' b P Q G (newSpec P Q G seed l).2) /\
   (ns<=128->(newSpec P Q G seed l).1≠0->en=.returned (.tuple #[.pointer none,.int .i64 ((newSpec P Q G seed l).1:Nat)]))/\Below w.heap.size w w':=by
 have hX0:=Cp.made 105 w (.slice x.1 x.2.1 x.2.2) (.slice y.1 y.2.1 y.2.2) (.slice z.1 z.2.1 z.2.2) (.slice ps ns cs);have hba:Below w.heap.size w (w.alloc (.cells #[.slice x.1 x.2.1 x.2.2,.slice y.1 y.2.1 y.2.2,.slice z.1 z.2.1 z.2.2,.slice ps ns cs] 105)):=Bw;obtain⟨wa,hwa⟩:∃wa,w.alloc (.cells #[.slice x.1 x.2.1 x.2.2,.slice y.1 y.2.1 y.2.2,.slice z.1 z.2.1 z.2.2,.slice ps ns cs] 105)=wa:=⟨_,rfl⟩
 rw[hwa]at hX0 hba
 obtain⟨SP,hSP⟩:∃X,newSpec P Q G seed l=X:=⟨_,rfl⟩
 rw[hSP];have HSP:=Ab hSP;obtain⟨TP,hTP⟩:∃X,decide (Told P l)=X:=⟨_,rfl⟩
 obtain⟨TQ,hTQ⟩:∃X,decide (Told Q l)=X:=⟨_,rfl⟩
 obtain⟨RI,hRI⟩:∃X,decide (Uq P Q G)=X:=⟨_,rfl⟩
 have HTP:=Ab hTP;have HTQ:=Ab hTQ;have HRI:=Ab hRI;have HX:=Ab hX0;have HB:=Ab hba;have HP:Aa (Fit e P (.agg #[.slice x.1 x.2.1 x.2.2]) w):=⟨Fit.of hP lP⟩
 have HQ:Aa (Fit e Q (.agg #[.slice y.1 y.2.1 y.2.2]) w):=⟨Fit.of hQ lQ⟩
 have HG:Aa (Fit e G (.agg #[.slice z.1 z.2.1 z.2.2]) w):=⟨Fit.of hG lG⟩
 have HC:=Ab hC;have HT:=Ab hT;have HS:=Ab hS;have HPS:=Ab hps;have cw:=hX0.cells.1;have cx:=hX0.cells.2.1;have cy:=hX0.cells.2.2.1;have cz:=hX0.cells.2.2.2;clear hSP hTP hTQ hRI hX0 hba hC hps hT hS;go_enter Tryz.func65,Tryz.ntmps65
 go_wp2_with fail
 refine(gW (x:=x) (y:=y) (z:=z) (Ai.below hP HB.out) lP (Ai.below hQ HB.out) lQ (Ai.below hG HB.out) lG he).mono ?_;rintro en w1 ⟨rfl,hb1⟩;have HB1:=Ab (Ae HB.out hb1);have HX1:=Ab (HX.out.below hb1 HX.out.lt);clear hb1 cw cx cy cz HX
 by_cases hl:128<ns
 .rw[decide_eq_true hl];have HL:=Ab hl;clear hl;go_wp2;refine bodyPost_ret (v:=.tuple #[.pointer none,.int .i64 4]) (by simp[results,Tryz.results65,go_sem]) rfl ?_;exact⟨fun _=>rfl,fun h=>absurd HL.out (by omega),fun h=>absurd HL.out (by omega),HB1.out⟩
 rw[decide_eq_false hl];have HL:=Ab hl;clear hl;have cw:=HX1.out.cells.1;have cx:=HX1.out.cells.2.1
 go_wp2_with fail
 refine(fM e he w1 P _ pc nc cc l (HP.out.below HB1.out) (HC.out.below HB1.out) hn HPS.out).mono ?_;rintro en w2 ⟨rfl,hb2⟩;rw[show decide (Cx P ∨ (Cl [] l/\∃s∈l,s.n=P))=TP from (decide_eq_decide.2 (show (Cx P ∨ (Cl [] l/\∃s∈l,s.n=P)) ↔ Told P l from Iff.rfl)).trans HTP.out];have HB2:=Ab (Ae HB1.out hb2);have HX2:=Ab (HX1.out.below hb2 HX1.out.lt);clear hb2 cw cx HX1
 cases TP with
 | false=>
  have hS0:SP=(8,0):=by rw[<-HSP.out];exact if_neg fun h=>of_decide_eq_false HTP.out h.1
  have HS0:=Ab hS0;clear hS0;go_wp2;refine bodyPost_ret (v:=.tuple #[.pointer none,.int .i64 8]) (by simp[results,Tryz.results65,go_sem]) rfl ?_;exact⟨fun h=>absurd h HL.out,(fun _ h=>by rw[HS0.out]at h;cases h),(fun _ _=>by rw[HS0.out];rfl),HB2.out⟩
 | true=>
  have cx:=HX2.out.cells.2.1
  go_wp2_with fail
  refine(fM e he w2 Q _ pc nc cc l (HQ.out.below HB2.out) (HC.out.below HB2.out) hn HPS.out).mono ?_;rintro en w3 ⟨rfl,hb3⟩;rw[show decide (Cx Q ∨ (Cl [] l/\∃s∈l,s.n=Q))=TQ from (decide_eq_decide.2 (show (Cx Q ∨ (Cl [] l/\∃s∈l,s.n=Q)) ↔ Told Q l from Iff.rfl)).trans HTQ.out];have HB3:=Ab (Ae HB2.out hb3);have HX3:=Ab (HX2.out.below hb3 HX2.out.lt);clear hb3 cx HX2
  cases TQ with
  | false=>
   have hS0:SP=(8,0):=by rw[<-HSP.out];exact if_neg fun h=>of_decide_eq_false HTQ.out h.2
   have HS0:=Ab hS0;clear hS0;go_wp2;refine bodyPost_ret (v:=.tuple #[.pointer none,.int .i64 8]) (by simp[results,Tryz.results65,go_sem]) rfl ?_;exact⟨fun h=>absurd h HL.out,(fun _ h=>by rw[HS0.out]at h;cases h),(fun _ _=>by rw[HS0.out];rfl),HB3.out⟩
  | true=>
   have hTo:Told P l/\Told Q l:=⟨of_decide_eq_true HTP.out,of_decide_eq_true HTQ.out⟩
   have h2P:=(Su hTo.1).two;have h2Q:=(Su hTo.2).two;have HTo:=Ab hTo;clear hTo;have cw:=HX3.out.cells.1;have cx:=HX3.out.cells.2.1
   go_wp2_with fail
   refine(Iq (HP.out.below HB3.out) (by omega)).mono ?_;rintro en w4 ⟨hb4,hh⟩;rcases hh with ⟨hlt,_⟩|⟨_,r1,rfl,hr1,_⟩
   .omega
   have HR1:=Ab hr1;have HB4:=Ab (Ae HB3.out hb4);have HX4:=Ab (HX3.out.below hb4 HX3.out.lt);clear hb4 hr1 cw cx HX3;have cx:=HX4.out.cells.2.1
   go_wp2_with fail
   refine(Iq (HQ.out.below HB4.out) (by omega)).mono ?_;rintro en w5 ⟨hb5,hh⟩;rcases hh with ⟨hlt,_⟩|⟨_,r2,rfl,hr2,_⟩
   .omega
   have HR2:=Ab hr2;have HR15:=Ab (HR1.out.below hb5);have HB5:=Ab (Ae HB4.out hb5);have HX5:=Ab (HX4.out.below hb5 HX4.out.lt);clear hb5 hr2 cx HX4 HR1;have cw:=HX5.out.cells.1;have cx:=HX5.out.cells.2.1;have cy:=HX5.out.cells.2.2.1;have cz:=HX5.out.cells.2.2.2
   go_wp2_with fail
   refine(gO (x:=x) (y:=y) (z:=z) HR15.out (Ai.below hP HB5.out) lP (Ai.below hQ HB5.out) lQ (Ai.below hG HB5.out) lG (by omega) (by omega) he (by omega)).mono ?_;rintro en w6 ⟨rfl,hb6⟩;rw[HRI.out];have HR16:=Ab (HR15.out.below hb6);have HR26:=Ab (HR2.out.below hb6);have HB6:=Ab (Ae HB5.out hb6);have HX6:=Ab (HX5.out.below hb6 HX5.out.lt);clear hb6 cw cx cy cz HX5 HR15 HR2
   cases RI with
   | false=>
    have hS0:SP=(1,0):=by rw[<-HSP.out,newSpec,if_pos HTo.out,if_neg (of_decide_eq_false HRI.out)]
    have HS0:=Ab hS0;clear hS0;go_wp2;refine bodyPost_ret (v:=.tuple #[.pointer none,.int .i64 1]) (by simp[results,Tryz.results65,go_sem]) rfl ?_;exact⟨fun h=>absurd h HL.out,(fun _ h=>by rw[HS0.out]at h;cases h),(fun _ _=>by rw[HS0.out];rfl),HB6.out⟩
   | true=>
    have cw:=HX6.out.cells.1;have cx:=HX6.out.cells.2.1;have cy:=HX6.out.cells.2.2.1;have cz:=HX6.out.cells.2.2.2
    go_wp2_with fail
    refine(cM (x:=x) (y:=y) (z:=z) (HT.out.below HB6.out HT.out.size) HR16.out he (Ai.below hP HB6.out) lP (Ai.below hQ HB6.out) lQ (by omega) (by omega) (HS.out.below HB6.out) he).mono ?_;rintro en w7 ⟨pz,nz,cz,k,rfl,hb7,hyes,hno⟩;obtain⟨FH,hFH⟩:∃X,Gd (fun c=>Gv seed P c^((P-1)/Q)%P) 256 0=X:=⟨_,rfl⟩
    rw[hFH]at hyes hno
    have HFH:=Ab hFH;have hb8:Below w7.heap.size w7 (w7.alloc (.cells #[.slice pz nz cz] 36)):=Bw;have hX10:=Ag.made w7 (.slice pz nz cz);obtain⟨w8,hw8⟩:∃w8,w7.alloc (.cells #[.slice pz nz cz] 36)=w8:=⟨_,rfl⟩
    rw[hw8]at hb8 hX10
    have hb68:=Ae hb7 hb8;have HX8:=Ab (HX6.out.below hb68 HX6.out.lt);have HX10:=Ab hX10;have HR18:=Ab (HR16.out.below hb68);have HR28:=Ab (HR26.out.below hb68);have HB8:=Ab (Ae HB6.out hb68);have HG8:=Ab (HG.out.below HB8.out)
    cases FH with
    | none=>
     obtain rfl:=hno rfl;have hS0:SP=(6,0):=by rw[<-HSP.out,newSpec,if_pos HTo.out,if_pos (of_decide_eq_true HRI.out),HFH.out]
     have HS0:=Ab hS0;clear hS0 hyes hno hFH hb7 hb8 hX10 hb68 cw cx cy;go_wp2;refine bodyPost_ret (v:=.tuple #[.pointer none,.int .i64 6]) (by simp[results,Tryz.results65,go_sem]) rfl ?_;exact⟨fun h=>absurd h HL.out,(fun _ h=>by rw[HS0.out]at h;cases h),(fun _ _=>by rw[HS0.out];rfl),HB8.out⟩
    | some H=>
     obtain⟨rfl,hnz,lH⟩:=hyes H rfl;have hS0:SP=(0,H):=by rw[<-HSP.out,newSpec,if_pos HTo.out,if_pos (of_decide_eq_true HRI.out),HFH.out]
     have HS0:=Ab hS0;have HNZ:=Ab (Ai.below hnz hb8);have HLH:Aa (H<Au 33):=⟨Dj lH (De (by omega))⟩
     have HGM:Aa (G%P=G):=⟨Nat.mod_eq_of_lt (of_decide_eq_true HRI.out).2.2.2.1⟩
     have HLG:Aa (G<Au 33):=⟨Dj lG (De (by omega))⟩
     have HBL:Aa (w.heap.size<w8.heap.size):=⟨HX8.out.lt⟩
     clear hS0 hyes hno hFH hb7 hb8 hX10 hb68 hnz lH cw cx cy;go_wp2;refine Aj (by kernel_rfl) (by kernel_rfl)
      [some (.pointer (some ⟨r1,0,none⟩)),some (.pointer (some ⟨r2,0,none⟩)),some (.pointer (some ⟨r1,0,none⟩)),some (.pointer (some ⟨w.heap.size,2,none⟩)),some (.agg #[.slice z.1 z.2.1 z.2.2]),none,some (.agg #[.slice pz nz cz]),none,none,none,some (.int .i64 0)]
      [false,false,false,false,false,true,false,true,true,true,false] rfl
      (fun w1 w2=>Below w1.heap.size w1 w2)
      (fun _ w'=>Below w8.heap.size w8 w')
      (fun i v w'=>match i with
       | 5=>Fit e G v w'
       | 7=>oH r1 r2 pz nz cz G v w'
       | 8=>fD r1 r2 pz nz cz G v w'
       | 9=>fD r1 r2 pz nz cz G v w'
       | _=>True)
      ?_ (Bg _ _).drew ?_ ?_
     .intro i v w1 w2 hf hb;split at hf
      .exact hf.below hb
      .exact hf.below hb
      .exact hf.below hb
      .exact hf.below hb
      .trivial
     .simp only[Bc,Nat.reduceAdd];refine⟨?_,?_,?_,?_,?_,?_,?_,?_,?_,?_,?_,trivial⟩
      all_goals intro D sp w' hD hW hdp hbx'
      case refine_5=>
       have c2:=(Cp.cells ⟨(hbx'.block w.heap.size HBL.out).trans HX8.out.at_⟩).2.2.1
       with_reducible refine Ad ?_ ?_
       all_goals simp[Region.wanted,yielded,execOp,Act.eval,Act.put,go_sem,c2]
      case refine_6=>
       (with_reducible refine Ac (w1:=w') (f := 31) (args:=#[.pointer (some ⟨r1,0,none⟩),.agg #[.slice z.1 z.2.1 z.2.2]]) ?_ ?_ ?_)
       .simp[Region.wanted,yielded,Act.put,go_sem]
       .simp[Act.eval,Act.put,go_sem]
       .refine(Fy (HR18.out.below hbx') (HG8.out.below hbx') (by omega)).mono ?_;rintro en w9 ⟨u,rfl,hu,hb⟩;rw[HGM.out]at hu
        exact⟨u,rfl,hb,hu,Ae hbx' hb⟩
      case refine_7=>
       have c0:w'.cell? ⟨w7.heap.size,0,none⟩=some (.slice pz nz cz):=Ag.cell (HX10.out.below hbx' HX10.out.lt)
       with_reducible refine Ad ?_ ?_
       all_goals simp[Region.wanted,yielded,execOp,Act.eval,Act.put,go_sem,c0]
      case refine_8=>
       have k5:Fit e G (sp 5) w':=(hdp 5 (mq (by kernel_rfl))).2;have hx:∃pg ng cg,sp 5=.agg #[.slice pg ng cg]/\Ai w' pg ng cg G/\G<Au e:=k5
       (with_reducible refine Aw hx fun pg hx1=>Aw hx1 fun ng hx2=>Aw hx2 fun cg hx3=>?_)
       have h1:=hx3.1
       (with_reducible refine Af (w1:=w') (v:=.agg #[.pointer (some ⟨r1,0,none⟩),.pointer (some ⟨r2,0,none⟩),.slice pg ng cg,.slice pz nz cz]) ?_ ?_ ?_)
       .simp only[Region.wanted]
       .simp[execOp,Act.eval,Act.put,go_sem,h1]
       .exact⟨Bg _ _,⟨pg,ng,cg,rfl,hx3.2.1⟩,hbx'⟩
      case refine_9=>
       have k7:oH r1 r2 pz nz cz G (sp 7) w':=(hdp 7 (mq (by kernel_rfl))).2
       (with_reducible refine Aw k7.ex fun pg hx1=>Aw hx1 fun ng hx2=>Aw hx2 fun cg hx3=>?_)
       have h1:=hx3.1
       (with_reducible refine Af (w1:=w'.alloc (.cells #[.pointer (some ⟨r1,0,none⟩),.pointer (some ⟨r2,0,none⟩),.slice pg ng cg,.slice pz nz cz] 114)) (v:=.pointer (some ⟨w'.heap.size,0,none⟩)) ?_ ?_ ?_)
       .simp only[Region.wanted]
       .simp[execOp,Act.eval,Act.put,go_sem,h1]
       .have hb:Below w'.heap.size w' (w'.alloc (.cells #[.pointer (some ⟨r1,0,none⟩),.pointer (some ⟨r2,0,none⟩),.slice pg ng cg,.slice pz nz cz] 114)):=Bw;exact⟨hb,⟨w'.heap.size,pg,ng,cg,rfl,heap_alloc_new w' _,hx3.2.below hb⟩,Ae hbx' hb⟩
      case refine_10=>
       have k8:fD r1 r2 pz nz cz G (sp 8) w':=(hdp 8 (mq (by kernel_rfl))).2
       (with_reducible refine Af (w1:=w') (v:=sp 8) ?_ ?_ ?_)
       .simp only[Region.wanted]
       .simp[execOp,Act.eval,Act.put,go_sem]
       .exact⟨Bg _ _,k8,hbx'⟩
      all_goals ((with_reducible refine Ad ?_ ?_);all_goals first|(simp only[Region.wanted];done)|simp[Region.wanted,yielded,execOp,Act.eval,Act.put,go_sem])
     .intro sp w9 hsp hbx';have hg:fD r1 r2 pz nz cz G (sp 9) w9:=hsp 9 rfl;obtain⟨b,pg,ng,cg,he9,hh,hng⟩:=hg.ex;have HH:=Ab hh;have HNG:=Ab hng;have HNZ9:=Ab (Ai.below HNZ.out hbx');have HR19:=Ab ((HR18.out.below hbx').wide (f:=33) (by omega) (by decide));have HR29:=Ab ((HR28.out.below hbx').wide (f:=33) (by omega) (by decide));have HB9:=Ab (Ae HB8.out hbx');clear hsp hbx' hg hh hng;simp only[Am,Nat.reduceAdd];rw[he9];clear he9;generalize sp 5=y5,sp 7=y7,sp 8=y8 at *
      go_simp
      go_wp2;refine bodyPost_ret (v:=.tuple #[.pointer (some ⟨b,0,none⟩),.int .i64 0]) (by simp[results,Tryz.results65,go_sem]) rfl ?_;refine⟨fun h=>absurd h HL.out,fun _ _=>⟨b,rfl,?_⟩,fun _ h=>absurd (by rw[HS0.out]) h,HB9.out⟩;rw[HS0.out];exact⟨r1,r2,pg,ng,cg,pz,nz,cz,HH.out,HR19.out,HR29.out,HNG.out,HLG.out,HNZ9.out,HLH.out⟩
theorem rF (i:Nat)(hi:i<3):gP i<Au 3/\gQ i<Au 3/\gG i<Au 3:=by
 have h:=Oz i hi;have h1:gP i<Au 3:=Dj h.2.2.2.2.2 (by decide);have h2:=Wq i hi;refine⟨h1,?_,by omega⟩;rcases Nat.eq_zero_or_pos (Nw i) with h0|h0
 .rw[h0,Nat.mul_zero]at h2;omega
 .have:=Nat.le_mul_of_pos_right (gQ i) h0;omega
theorem dW:∀i,i<3->(Fq i).length<=60
 | 0,_=>by decide
 | 1,_=>by decide
 | 2,_=>by decide
 | _+3,h=>by omega
theorem mN (A:Int):((IntKind.u64.wrap A)%3).toNat<3:=by
 have h1:=Int.emod_nonneg (IntKind.u64.wrap A) (show (3:Int)≠0 by decide);have h2:=Int.emod_lt_of_pos (IntKind.u64.wrap A) (show (0:Int)<3 by decide);omega
theorem mQ {w:World}{i:Nat}{x y z:Option Addr×Nat×Nat}{pc:Option Addr}{nc cc:Nat}(hi:i<3)(hr:Tabs w)(hx:Er w x (gP i))(hy:Er w y (gQ i))(hz:Er w z (gG i))(hc:Fr w 3 pc nc cc (Fq i)) :
  Calls Tryz.prog 65 #[.agg #[.slice x.1 x.2.1 x.2.2,.slice y.1 y.2.1 y.2.2,.slice z.1 z.2.1 z.2.2,.slice none 0 0],.slice pc nc cc] w fun e w'=>
   ∃b,e=.returned (.tuple #[.pointer (some ⟨b,0,none⟩),.int .i64 0])/\Ba w' b (gP i) (gQ i) (gG i) (gH i)/\Below w.heap.size w w':=by
 obtain⟨l1,l2,l3⟩:=rF i hi;refine(mR (e:=3) (seed:=[]) hr hx l1 hy l2 hz l3 (aA w) hc (by rw[hc.len];exact dW i hi) (dX i hi) (by decide)).mono ?_;rintro en w' ⟨_,h0,_,hbl⟩;rw[iA i hi]at h0
 obtain⟨b,rfl,hg⟩:=h0 (by decide) rfl;exact⟨b,rfl,hg,hbl⟩
theorem Nm (w:World)(A:Int)(hr:Tabs w) :
  Calls Tryz.prog 15 #[.int .i64 A,.slice none 0 0] w fun e w'=>∃b,e=.returned (.pointer (some ⟨b,0,none⟩))/\Ba w' b (gP ((IntKind.u64.wrap A)%3).toNat) (gQ ((IntKind.u64.wrap A)%3).toNat) (gG ((IntKind.u64.wrap A)%3).toNat) (gH ((IntKind.u64.wrap A)%3).toNat)/\Below w.heap.size w w':=by
 have HR:=Ab hr;have hi:=mN A;obtain⟨i,ei⟩:∃i,((IntKind.u64.wrap A)%3).toNat=i:=⟨_,rfl⟩
 have HN:=Ab (Ve w A none 0 0);rw[ei]at hi HN ⊢
 have HI:=Ab hi;clear hr hi ei;go_enter Tryz.func15,Tryz.ntmps15
 go_wp2_with fail
 refine HN.out.mono ?_;rintro en w1 ⟨x,y,z,pc,nc,cc,rfl,h1,h2,h3,h4,b1⟩;have HH:=Ab (mQ HI.out (HR.out.below b1 HR.out.size) h1 h2 h3 h4);have B1:=Ab b1;clear h1 h2 h3 h4 b1 HN
 go_wp2_with fail
 refine HH.out.mono ?_;rintro en w2 ⟨b,rfl,hg,b2⟩;have HG:=Ab hg;have B2:=Ab (Ae B1.out b2);clear hg b2 HH B1;go_wp2;go_ret;exact⟨b,rfl,HG.out,B2.out⟩
def bT (N M:Nat)(v:Value)(w:World):Prop:=∃(g:Nat) (x y:Option Addr×Nat×Nat),v=.slice (some ⟨g,0,none⟩) 2 2/\w.heap[g]? = some (.cells #[.slice x.1 x.2.1 x.2.2,.slice y.1 y.2.1 y.2.2] 36 (0,0))/\Er w x N/\Er w y M/\N<Au 33/\M<Au 33
theorem bT.kn {N M B:Nat}{v:Value}{w w':World}(h:bT N M v w)(k:KN B w w'):bT N M v w' :=
 let ⟨g,x,y,h1,h2,h3,h4,h5,h6⟩:=h
 ⟨g,x,y,h1,k.blk _ _ h2 (fun _ _ _=>by simp),k.k.nat _ _ _ _ h3,k.k.nat _ _ _ _ h4,h5,h6⟩
theorem bT.plist {N M g:Nat}{x y:Option Addr×Nat×Nat}{w:World}(h2:w.heap[g]? = some (.cells #[.slice x.1 x.2.1 x.2.2,.slice y.1 y.2.1 y.2.2] 36 (0,0)))(h3:Er w x N)(h4:Er w y M)(h5:N<Au 33)(h6:M<Au 33):Ch w 33 (some ⟨g,0,none⟩) 2 2 [N,M]:=by
 refine⟨rfl,Av _,by decide,(fun e=>by cases e),fun _=>⟨g,0,rfl,(Ep h2).1,fun i K hK=>?_⟩⟩
 match i,hK with
 | 0,hK=>cases hK;exact⟨x.1,x.2.1,x.2.2,by simp[World.cell?,h2],h3,h5⟩
 | 1,hK=>cases hK;exact⟨y.1,y.2.1,y.2.2,by simp[World.cell?,h2],h4,h6⟩
theorem gY {P G S Z C:Nat}:Lt P 1 ([G,Z].zip [S,C])=(1*(G^S%P)%P)*(Z^C%P)%P:=rfl
theorem Wr {w:World}{b P Q G H ea ey A Y CC SS:Nat}{va vy:Value}{x y:Option Addr×Nat×Nat}(hg:Ba w b P Q G H)(ha:Fit ea A va w)(hv:Fit ey Y vy w)(hea:ea<=33)(hey:ey<=33)(hC:Er w x CC)(hS:Er w y SS)(lC:CC<Au 33)(lS:SS<Au 33) :
  Calls Tryz.prog 103 #[.agg #[.slice x.1 x.2.1 x.2.2,.slice y.1 y.2.1 y.2.2],.pointer (some ⟨b,0,none⟩),va,vy] w fun en w'=>∃u,en=.returned u/\Fit 33 (Pv P A Y CC SS) u w'/\Below w.heap.size w w':=by
 obtain⟨pa,na,ca,rfl,h1,h2⟩:=Ax (ha.wide hea);obtain⟨py,ny,cy,rfl,h3,h4⟩:=Ax (hv.wide hey);have hs:=Ez.made w (.slice x.1 x.2.1 x.2.2) (.slice y.1 y.2.1 y.2.2);have hb0:Below w.heap.size w (w.alloc (.cells #[.slice x.1 x.2.1 x.2.2,.slice y.1 y.2.1 y.2.2] 142)):=Bw;have hz0:(w.alloc (.cells #[.slice x.1 x.2.1 x.2.2,.slice y.1 y.2.1 y.2.2] 142)).heap.size=w.heap.size+1:=by simp
 have hbx:=Vq.mk3 (w.alloc (.cells #[.slice x.1 x.2.1 x.2.2,.slice y.1 y.2.1 y.2.2] 142)) (.slice pa na ca) (.slice py ny cy) (.slice none 0 0);have q0:=hbx.b0;have q1:=hbx.b1;have q2:=hbx.b2;have hbl:=Ae hb0 hbx.bel;have hs2:=hs.below hbx.bel hs.lt;rw[hz0]at q0 q1 q2
 obtain⟨wa,hwa⟩:∃wa,((((w.alloc (.cells #[.slice x.1 x.2.1 x.2.2,.slice y.1 y.2.1 y.2.2] 142)).alloc (.cells #[.slice pa na ca] 36)).alloc (.cells #[.slice py ny cy] 36)).alloc (.cells #[.slice none 0 0] 36))=wa:=⟨_,rfl⟩
 rw[hwa]at q0 q1 q2 hbl hs2
 have HS9:=Ab hs2;have HXA:=Ab q0;have HXY:=Ab q1;have HZ0:=Ab q2;have HB3:=Ab hbl;have HA:=Ab ((Fit.of h1 h2).below hbl);have HAb:=Ab h2;have HY:=Ab ((Fit.of h3 h4).below hbl);have HCN:Aa (Er wa x CC):=⟨hC.below hbl⟩
 have HSN:Aa (Er wa y SS):=⟨hS.below hbl⟩
 have HCL:=Ab lC;have HSL:=Ab lS;have HG:=Ab (hg.below hbl);have HL:=Ab hg.lims;obtain⟨ZZ,hZZ⟩:∃Z,dQ P Y=Z:=⟨_,rfl⟩
 obtain⟨AA,hAA⟩:∃K,Lt P 1 ([A,ZZ].zip [SS,CC])=K:=⟨_,rfl⟩
 have HZZ:=Ab hZZ;have HAA:=Ab hAA;have hAE:Pv P A Y CC SS=AA:=by
  unfold Pv;rw[hZZ,<-hAA,gY,Nat.one_mul,Nat.mod_mod]
 have hAAl:AA<P:=by rw[<-hAE];exact Nat.mod_lt _ (by have:=HL.out.1;omega)
 have HAAb:Aa (AA<Au 33):=⟨Nat.lt_trans hAAl HL.out.2.1⟩
 rw[hAE];clear hAE hAAl hZZ hAA h1 h2 h3 h4 hs hb0 hz0 hbx q0 q1 q2 hbl hs2 hg ha hv hC hS;go_enter Tryz.func103,Tryz.ntmps103;go_wp2;refine Al (by kernel_rfl) (by kernel_rfl)
  [some (.pointer (some ⟨b,0,none⟩)),some (.agg #[.slice pa na ca]),some (.pointer (some ⟨b,0,none⟩)),some (.agg #[.slice py ny cy]),none,none,some (.pointer (some ⟨w.heap.size,1,none⟩)),some (.agg #[.slice y.1 y.2.1 y.2.2]),some (.pointer (some ⟨w.heap.size,0,none⟩)),some (.agg #[.slice x.1 x.2.1 x.2.2]),none,none,none,none,some (.int .i64 0),none,none,some (.int .i64 0)]
  [false,false,false,false,true,true,false,false,false,false,true,true,true,true,false,true,true,false] rfl
  (fun wA wB=>KN (wa.heap.size) wA wB)
  (fun D sp w'=>RG (wa.heap.size) wa [] w'/\Ry (D 15) (D 16) (sp 15) (wa.heap.size) (AA) w')
  (fun i v w'=>match i with
   | 4=>Fit 33 (ZZ) v w'
   | 5=>bT A ZZ v w'
   | 10=>bT SS CC v w'
   | 11=>Ge 33 AA (.int .i64 0) v w'
   | 12=>Ge 33 AA (.int .i64 0) v w'
   | 13=>Fit (33) (AA) v w'
   | _=>True)
  ?_ ⟨RG.start (Av _) (fun x hx=>by cases hx),Ry.start (Av _)⟩ ?_ ?_
 .intro i v wA wB hf hb;split at hf
  .exact hf.kn hb
  .exact hf.kn hb
  .exact hf.kn hb
  .exact hf.kn hb
  .exact hf.kn hb
  .exact hf.kn hb
  .trivial
 .simp only[Bb,Nat.reduceAdd];refine⟨?_,?_,?_,?_,?_,?_,?_,?_,?_,?_,?_,?_,?_,?_,?_,?_,?_,?_,trivial⟩
  all_goals intro D sp w' hD hW hdp hg
  case refine_2=>
   have c0:=(HXA.out.below hg.1.keep.bel HXA.out.lt).cell
   with_reducible refine Ad ?_ ?_
   all_goals simp[Region.wanted,yielded,execOp,Act.eval,Act.put,go_sem,c0]
  case refine_4=>
   have c0:=(HXY.out.below hg.1.keep.bel HXY.out.lt).cell
   with_reducible refine Ad ?_ ?_
   all_goals simp[Region.wanted,yielded,execOp,Act.eval,Act.put,go_sem,c0]
  case refine_5=>
   (with_reducible refine Ac (w1:=w') (f := 156) (args:=#[.pointer (some ⟨b,0,none⟩),.agg #[.slice py ny cy]]) ?_ ?_ ?_)
   .simp[Region.wanted,yielded,Act.put,go_sem]
   .simp[Act.eval,Act.put,go_sem]
   .refine(mS (HG.out.below hg.1.keep.bel) (HY.out.below hg.1.keep.bel) (by omega)).mono ?_;rintro en w9 ⟨u,rfl,hu,hb⟩;rw[HZZ.out]at hu
    exact⟨u,rfl,KN.of hb hg.1.base,hu,hg.1.later hb,by simpa [upd]using hg.2.later hb⟩
  case refine_6=>
   have hxb:∃p n c,sp 4=.agg #[.slice p n c]/\Ai w' p n c (ZZ)/\ZZ<Au (33):=(hdp 4 (mq (by kernel_rfl))).2
   (with_reducible refine Aw hxb fun pb hxb1=>Aw hxb1 fun nb hxb2=>Aw hxb2 fun cb hxb3=>?_)
   have hb:=hxb3.1
   (with_reducible refine Af (w1:=w'.alloc (.cells #[.slice pa na ca,.slice pb nb cb] 36)) (v:=.slice (some ⟨w'.heap.size,0,none⟩) 2 2) ?_ ?_ ?_)
   .simp only[Region.wanted]
   .simp[execOp,Act.eval,Act.put,go_sem,hb]
   .have hbl:Below w'.heap.size w' (w'.alloc (.cells #[.slice pa na ca,.slice pb nb cb] 36)):=Bw;exact⟨KN.of hbl hg.1.base,⟨w'.heap.size,(pa,na,ca),(pb,nb,cb),rfl,heap_alloc_new w' _,Fa ((HA.out.below hg.1.keep.bel).below hbl),hxb3.2.1.below hbl,HAb.out,hxb3.2.2⟩,hg.1.later hbl,by simpa [upd]using hg.2.later hbl⟩
  case refine_8=>
   have c0:=(HS9.out.below hg.1.keep.bel HS9.out.lt).cells.2
   with_reducible refine Ad ?_ ?_
   all_goals simp[Region.wanted,yielded,execOp,Act.eval,Act.put,go_sem,c0]
  case refine_10=>
   have c0:=(HS9.out.below hg.1.keep.bel HS9.out.lt).cells.1
   with_reducible refine Ad ?_ ?_
   all_goals simp[Region.wanted,yielded,execOp,Act.eval,Act.put,go_sem,c0]
  case refine_11=>
   (with_reducible refine Af (w1:=w'.alloc (.cells #[.slice y.1 y.2.1 y.2.2,.slice x.1 x.2.1 x.2.2] 36)) (v:=.slice (some ⟨w'.heap.size,0,none⟩) 2 2) ?_ ?_ ?_)
   .simp only[Region.wanted]
   .simp[execOp,Act.eval,Act.put,go_sem]
   .have hbl:Below w'.heap.size w' (w'.alloc (.cells #[.slice y.1 y.2.1 y.2.2,.slice x.1 x.2.1 x.2.2] 36)):=Bw;exact⟨KN.of hbl hg.1.base,⟨w'.heap.size,y,x,rfl,heap_alloc_new w' _,(HSN.out.below hg.1.keep.bel).below hbl,(HCN.out.below hg.1.keep.bel).below hbl,HSL.out,HCL.out⟩,hg.1.later hbl,by simpa [upd]using hg.2.later hbl⟩
  case refine_12=>
   have hr:∃(g:Nat) (x y:Option Addr×Nat×Nat),sp 5=.slice (some ⟨g,0,none⟩) 2 2/\w'.heap[g]? = some (.cells #[.slice x.1 x.2.1 x.2.2,.slice y.1 y.2.1 y.2.2] 36 (0,0))/\Er w' x A/\Er w' y ZZ/\A<Au 33/\ZZ<Au 33:=(hdp 5 (mq (by kernel_rfl))).2
   (with_reducible refine Aw hr fun ga ha1=>Aw ha1 fun ua ha2=>Aw ha2 fun ta ha3=>?_)
   have hr:∃(g:Nat) (x y:Option Addr×Nat×Nat),sp 10=.slice (some ⟨g,0,none⟩) 2 2/\w'.heap[g]? = some (.cells #[.slice x.1 x.2.1 x.2.2,.slice y.1 y.2.1 y.2.2] 36 (0,0))/\Er w' x SS/\Er w' y CC/\SS<Au 33/\CC<Au 33:=(hdp 10 (mq (by kernel_rfl))).2
   (with_reducible refine Aw hr fun gb hb1=>Aw hb1 fun ub hb2=>Aw hb2 fun tb hb3=>?_)
   have ea:=ha3.1;have eb:=hb3.1
   (with_reducible refine Ac (w1:=w') (f := 155) (args:=#[.pointer (some ⟨b,0,none⟩),.slice (some ⟨ga,0,none⟩) 2 2,.slice (some ⟨gb,0,none⟩) 2 2]) ?_ ?_ ?_)
   .simp only[Region.wanted]
   .simp[Act.eval,Act.put,go_sem,ea,eb]
   .refine(iB (HG.out.below hg.1.keep.bel) (bT.plist ha3.2.1 ha3.2.2.1 ha3.2.2.2.1 ha3.2.2.2.2.1 ha3.2.2.2.2.2) (bT.plist hb3.2.1 hb3.2.2.1 hb3.2.2.2.1 hb3.2.2.2.2.1 hb3.2.2.2.2.2) (by decide) (by decide) (by decide) (by decide)).mono ?_;rintro en w9 ⟨_,rfl,⟨p9,n9,c9,rfl,u1,u2⟩,hb⟩;rw[if_pos rfl,HAA.out]at u1 u2
    exact⟨_,rfl,KN.of hb hg.1.base,⟨p9,n9,c9,rfl,u1,u2⟩,hg.1.later hb,by simpa [upd]using hg.2.later hb⟩
  case refine_13=>
   have k11:Ge 33 AA (.int .i64 0) (sp 11) w':=(hdp 11 (mq (by kernel_rfl))).2
   (with_reducible refine Af (w1:=w') (v:=sp 11) ?_ ?_ ?_)
   .simp[Region.wanted,yielded,Act.put,go_sem]
   .simp[execOp,Act.eval,Act.put,go_sem]
   .exact⟨KN.same _ _,k11,hg.1,by simpa [upd]using hg.2⟩
  case refine_14=>
   have hx:∃p n c,sp 12=.tuple #[.agg #[.slice p n c],.int .i64 0]/\Ai w' p n c (AA)/\AA<Au (33):=(hdp 12 (mq (by kernel_rfl))).2
   (with_reducible refine Aw hx fun p hx1=>Aw hx1 fun n hx2=>Aw hx2 fun c hx3=>?_)
   have h1:=hx3.1
   (with_reducible refine Af (w1:=w') (v:=.agg #[.slice p n c]) ?_ ?_ ?_)
   .simp[Region.wanted,yielded,Act.put,go_sem]
   .simp[execOp,Act.eval,Act.put,go_sem,h1]
   .exact⟨KN.same _ _,⟨p,n,c,rfl,hx3.2⟩,hg.1,by simpa [upd]using hg.2⟩
  case refine_15=>
   have hx:∃p n c,sp 12=.tuple #[.agg #[.slice p n c],.int .i64 0]/\Ai w' p n c (AA)/\AA<Au (33):=(hdp 12 (mq (by kernel_rfl))).2
   (with_reducible refine Aw hx fun p hx1=>Aw hx1 fun n hx2=>Aw hx2 fun c hx3=>?_)
   have h1:=hx3.1
   with_reducible refine Ad ?_ ?_
   all_goals simp[Region.wanted,yielded,execOp,Act.eval,Act.put,go_sem,h1]
  case refine_16=>
   have h9:D 16=false:=hW 16 (mq (by kernel_rfl));rw[hD,h9]at hg
   (with_reducible refine Af (w1:=w'.alloc (.cells #[.slice none 0 0] 36)) (v:=.pointer (some ⟨w'.heap.size,0,none⟩)) ?_ ?_ ?_)
   .simp[Region.wanted,yielded,Act.put,go_sem]
   .simp[execOp,go_sem]
   .have hb:Below w'.heap.size w' (w'.alloc (.cells #[.slice none 0 0] 36)):=Bw;refine⟨KN.of hb hg.1.base,trivial,hg.1.later hb,?_⟩;have h8:=hg.2.made;simpa [upd,h9]using h8
  case refine_17=>
   have hx:∃p n c,sp 13=.agg #[.slice p n c]/\Ai w' p n c (AA)/\AA<Au (33):=(hdp 13 (mq (by kernel_rfl))).2
   (with_reducible refine Aw hx fun p hx1=>Aw hx1 fun n hx2=>Aw hx2 fun c hx3=>?_)
   have h1:=hx3.1;have h9:D 15=true:=(hdp 15 (mq (by kernel_rfl))).1;rw[h9]at hg
   have hp:=hg.2.put (hx3.2.1)
   (with_reducible refine Aw hp fun b hy0=>Aw hy0 fun q hy1=>Aw hy1 fun m hy2=>Aw hy2 fun k hy3=>?_)
   have h3:=hy3.1;have h6:=hy3.2.2.1.cell;have h7:=hy3.2.2.1.free
   (with_reducible refine An (w1:=w'.setCell ⟨b,0,none⟩ (.slice p n c)) ?_ ?_ ?_)
   .simp[Region.wanted,yielded,Act.put,go_sem]
   .simp[execOp,Act.eval,Act.put,go_sem,h1,h3,h6,h7]
   .refine⟨KN.store hy3.2.2.1 (Dx (Av _) hy3.2.1) _,trivial,hg.1.store_over hy3.2.2.1 (Av _) hy3.2.1 (fun x hx=>by cases hx) _,?_⟩;have h8:=hy3.2.2.2;simpa [upd,h9]using h8
  all_goals ((with_reducible refine Ad ?_ ?_);all_goals first|(simp only[Region.wanted];done)|simp[Region.wanted,yielded,execOp,Act.eval,Act.put,go_sem])
 .intro sp w4 hsp hg;obtain⟨hg1,_,hmk⟩:=hg;obtain⟨b11,e11,hb11,pz,nz,cz,hxz,hnz⟩:=hmk rfl;replace hnz:=hnz rfl;have hbel:=hg1.keep.bel;have hz:=HZ0.out.below hbel HZ0.out.lt;have kx:=hxz.cell;have fz:=hz.free;have k8:=hz.cell;have kz:=(hz.set (.slice pz nz cz)).cell;have HN:=Ab (Fit.of (hnz.store hz (.slice pz nz cz)) HAAb.out);have HBf:Aa (Below w.heap.size w (w4.setCell ⟨w.heap.size+1+1+1,0,none⟩ (.slice pz nz cz))):=⟨(Ae HB3.out hbel).setCell (show w.heap.size<=w.heap.size+1+1+1 by omega) _⟩
  clear hsp hg1 hmk hxz hnz hb11 hbel hz hwa;simp only[Am,Nat.reduceAdd];rw[e11];clear e11;generalize sp 4=y4,sp 5=y5,sp 10=y10,sp 11=y11,sp 12=y12,sp 13=y13,sp 16=y16 at *
  go_simp
  go_wp2;exact bodyPost_ret (v:=.agg #[.slice pz nz cz]) (by simp[results,Tryz.results103,go_sem,kz]) rfl ⟨_,rfl,HN.out,HBf.out⟩
theorem rW {w:World}{e A B Y Z:Nat}{xa xb xy xz:Option Addr×Nat×Nat}(h:AtC A B Y Z xa xb xy xz w)(lA:A<Au e)(lB:B<Au e)(lY:Y<Au e)(lZ:Z<Au e):Rw w e [xa,xb,xy,xz] [A,B,Y,Z] :=
 (((((Rw.nil w e).snoc h.1 lA)).snoc h.2.1 lB).snoc h.2.2.1 lY).snoc h.2.2.2 lZ
theorem sK {P Q A B Y Z:Nat}:[A,B,Y,Z].all (Vf P Q)=true ↔ fQ P Q A B Y Z:=by
 simp only[List.all_cons,List.all_nil,Bool.and_true,Bool.and_eq_true,Lv];exact Iff.rfl
theorem Yl {w:World}{b P Q G H A B Y Z nm cm ns cs:Nat}{xa xb xy xz:Option Addr×Nat×Nat}{pm ps:Option Addr}{msg sig:List Nat}(hg:Ba w b P Q G H)(hT:Tabs w)(hC:AtC A B Y Z xa xb xy xz w)(lA:A<Au 33)(lB:B<Au 33)(lY:Y<Au 33)(lZ:Z<Au 33)(hP:Ak P<=16)(hQ:Ak Q<=16)(hm:Aq w ⟨pm,nm,cm,msg⟩)(hs:Aq w ⟨ps,ns,cs,sig⟩) :
  Calls Tryz.prog 58 #[.pointer (some ⟨b,0,none⟩),.agg #[.slice xa.1 xa.2.1 xa.2.2,.slice xb.1 xb.2.1 xb.2.2,.slice xy.1 xy.2.1 xy.2.2,.slice xz.1 xz.2.1 xz.2.2],.slice pm nm cm,.slice ps ns cs] w fun en w'=>∃X,en=.returned (.bool X)/\(X=true ↔ Uf P Q A B Y Z msg sig)/\Below w.heap.size w w':=by
 have hb0:Below w.heap.size w (w.alloc (.cells #[.slice xa.1 xa.2.1 xa.2.2,.slice xb.1 xb.2.1 xb.2.2,.slice xy.1 xy.2.1 xy.2.2,.slice xz.1 xz.2.1 xz.2.2] 83)):=Bw;have hx0:=Cp.made 83 w (.slice xa.1 xa.2.1 xa.2.2) (.slice xb.1 xb.2.1 xb.2.2) (.slice xy.1 xy.2.1 xy.2.2) (.slice xz.1 xz.2.1 xz.2.2);obtain⟨wa,hwa⟩:∃wa,w.alloc (.cells #[.slice xa.1 xa.2.1 xa.2.2,.slice xb.1 xb.2.1 xb.2.2,.slice xy.1 xy.2.1 xy.2.2,.slice xz.1 xz.2.1 xz.2.2] 83)=wa:=⟨_,rfl⟩
 rw[hwa]at hb0 hx0
 have HC0:=Ab hx0;have HBL:=Ab hb0;have HCA0:=Ab (hC.below hb0);have HLA:=Ab lA;have HLB:=Ab lB;have HLY:=Ab lY;have HLZ:=Ab lZ;have HGA:=Ab hg;have HT:=Ab hT;have HM:=Ab hm;have HPs:=Ab hP;have HSG:=Ab (gJ (Uz.of (hg.below hb0)) hQ (hs.below hb0));have HL:=Ab hg.lims;clear hb0 hx0 hC lA lB lY lZ hg hT hm hP hs;go_enter Tryz.func58,Tryz.ntmps58
 go_wp2_with fail
 refine HSG.out.mono ?_;rintro en w1 ⟨x,y,X,rfl,hX,hN,hb1⟩;have hb2:Below w1.heap.size w1 (w1.alloc (.cells #[.slice x.1 x.2.1 x.2.2,.slice y.1 y.2.1 y.2.2] 142)):=Bw;have hS2:=Ez.made w1 (.slice x.1 x.2.1 x.2.2) (.slice y.1 y.2.1 y.2.2);obtain⟨b9,hb9⟩:∃b,w1.heap.size=b:=⟨_,rfl⟩
 obtain⟨w2,hw2⟩:∃W,w1.alloc (.cells #[.slice x.1 x.2.1 x.2.2,.slice y.1 y.2.1 y.2.2] 142)=W:=⟨_,rfl⟩
 rw[hw2]at hb2 hS2
 rw[hb9]at hS2
 have hb12:=Ae hb1 hb2;have HS2:=Ab hS2;have HN2:Aa (Hs Q sig->Er w2 x (be (sig.take (Ak Q)))/\Er w2 y (be (sig.drop (Ak Q)))):=⟨fun h=>⟨(hN h).1.below hb2,(hN h).2.below hb2⟩⟩
 have HC2:=Ab (HC0.out.below hb12 HC0.out.lt);have HCA2:=Ab (HCA0.out.below hb12);have HB2:=Ab (Ae HBL.out hb12);have HXI:=Ab hX;clear hX hN hb1 hb2 hS2 hb12 HC0 HCA0 HBL HSG hwa
 cases X with
 | false=>
  have HF:Aa (false=true ↔ Uf P Q A B Y Z msg sig):=⟨⟨(fun h=>by cases h),fun h=>HXI.out.2 h.1⟩⟩
  go_wp2;go_ret;exact⟨false,rfl,HF.out,HB2.out⟩
 | true=>
  have hin:=HXI.out.1 rfl;have HIN:=Ab hin;have hn:=HN2.out hin;have HCN2:=Ab hn.1;have HSN2:=Ab hn.2;obtain⟨g0,g1,g2,g3⟩:=(cells4 HC2.out.at_).1;obtain⟨CC,hCC⟩:∃C,be (sig.take (Ak Q))=C:=⟨_,rfl⟩
  obtain⟨SS,hSS⟩:∃C,be (sig.drop (Ak Q))=C:=⟨_,rfl⟩
  rw[hCC]at HCN2
  rw[hSS]at HSN2
  have HCL:Aa (CC<Au 33):=⟨by rw[<-hCC];exact Nat.lt_trans hin.2.1 HL.out.2.2.2⟩
  have HSL:Aa (SS<Au 33):=⟨by rw[<-hSS];exact Nat.lt_trans hin.2.2 HL.out.2.2.2⟩
  have HOK:Aa (Uf P Q A B Y Z msg sig ↔ fQ P Q A B Y Z/\Ny P Q A B Y Z (Pv P A Y CC SS) (Pv P B Z CC SS) msg=CC):=⟨by
   unfold Uf;rw[hCC,hSS];exact⟨fun h=>h.2,fun h=>⟨hin,h⟩⟩⟩
  have hb3:Below w2.heap.size w2 (w2.alloc (.cells #[.slice xa.1 xa.2.1 xa.2.2,.slice xb.1 xb.2.1 xb.2.2,.slice xy.1 xy.2.1 xy.2.2,.slice xz.1 xz.2.1 xz.2.2] 36)):=Bw;have hr3:(w2.alloc (.cells #[.slice xa.1 xa.2.1 xa.2.2,.slice xb.1 xb.2.1 xb.2.2,.slice xy.1 xy.2.1 xy.2.2,.slice xz.1 xz.2.1 xz.2.2] 36)).heap[w2.heap.size]? = some (.cells #[.slice xa.1 xa.2.1 xa.2.2,.slice xb.1 xb.2.1 xb.2.2,.slice xy.1 xy.2.1 xy.2.2,.slice xz.1 xz.2.1 xz.2.2] 36 (0,0)):=heap_alloc_new w2 _;obtain⟨w3,hw3⟩:∃W,w2.alloc (.cells #[.slice xa.1 xa.2.1 xa.2.2,.slice xb.1 xb.2.1 xb.2.2,.slice xy.1 xy.2.1 xy.2.2,.slice xz.1 xz.2.1 xz.2.2] 36)=W:=⟨_,rfl⟩
  rw[hw3]at hb3 hr3
  have HB3:=Ab (Ae HB2.out hb3);have HPL:=Ab (Pw (us:=[xa,xb,xy,xz]) (Ns:=[A,B,Y,Z]) hr3 (rW (HCA2.out.below hb3) HLA.out HLB.out HLY.out HLZ.out) (show 4<=1000000 by decide));have HC3:=Ab (HC2.out.below hb3 HC2.out.lt);have HCA3:=Ab (HCA2.out.below hb3);have HS3:=Ab (HS2.out.below hb3 HS2.out.lt);have HCN3:Aa (Er w3 x CC):=⟨HCN2.out.below hb3⟩
  have HSN3:Aa (Er w3 y SS):=⟨HSN2.out.below hb3⟩
  clear hCC hSS hin hn HN2 HXI hb3 hr3 HC2 HCA2 HS2 HCN2 HSN2 HB2
  by_cases hmm:fQ P Q A B Y Z
  .have HMT:Aa _:=⟨sK.2 hmm⟩
   have HMM:=Ab hmm;clear hmm
   go_wp2_with fail
   refine(Lb (HGA.out.below HB3.out) HPL.out (by decide)).mono ?_;rintro en w4 ⟨rfl,hb4⟩;rw[HMT.out];have HB4:=Ab (Ae HB3.out hb4);have HC4:=Ab (HC3.out.below hb4 HC3.out.lt);have HCA:=Ab (HCA3.out.below hb4);have HS9:=Ab (HS3.out.below hb4 HS3.out.lt);have HCN:Aa (Er w4 x CC):=⟨HCN3.out.below hb4⟩
   have HSN:Aa (Er w4 y SS):=⟨HSN3.out.below hb4⟩
   have HG:=Ab (HGA.out.below HB4.out);obtain⟨UU,hUU⟩:∃C,Pv P A Y CC SS=C:=⟨_,rfl⟩
   obtain⟨VV,hVV⟩:∃C,Pv P B Z CC SS=C:=⟨_,rfl⟩
   have HUE:=Ab hUU;have HVE:=Ab hVV;have HUl:Aa (UU<P):=⟨by rw[<-hUU];exact Nat.mod_lt _ (by have:=HL.out.1;omega)⟩
   have HVl:Aa (VV<P):=⟨by rw[<-hVV];exact Nat.mod_lt _ (by have:=HL.out.1;omega)⟩
   clear hUU hVV hb4 g0 g1 g2 g3 HC3 HCA3 HS3 HCN3 HSN3 HB3 HPL;go_wp2;clear hw2 hw3 hb9;refine Al (by kernel_rfl) (by kernel_rfl)
    [some (.agg #[.slice x.1 x.2.1 x.2.2,.slice y.1 y.2.1 y.2.2]),some (.pointer (some ⟨b,0,none⟩)),some (.pointer (some ⟨w.heap.size,0,none⟩)),some (.agg #[.slice xa.1 xa.2.1 xa.2.2]),some (.pointer (some ⟨w.heap.size,2,none⟩)),some (.agg #[.slice xy.1 xy.2.1 xy.2.2]),none,some (.agg #[.slice x.1 x.2.1 x.2.2,.slice y.1 y.2.1 y.2.2]),some (.pointer (some ⟨b,0,none⟩)),some (.pointer (some ⟨w.heap.size,1,none⟩)),some (.agg #[.slice xb.1 xb.2.1 xb.2.2]),some (.pointer (some ⟨w.heap.size,3,none⟩)),some (.agg #[.slice xz.1 xz.2.1 xz.2.2]),none,none,none,none,none]
    [false,false,false,false,false,false,true,false,false,false,false,false,false,true,true,true,true,true] rfl
    (fun _ _=>True) (fun D sp w'=>TB w4 UU VV (D 6) (D 13) (D 14) (D 15) (D 16) (D 17) (sp 6) (sp 13) (sp 14) (sp 15) w') (fun _ _ _=>True) (fun _ _ _ _ _ _=>trivial)
    TB.start ?_ ?_
   .simp only[Bb,Nat.reduceAdd];refine⟨?_,?_,?_,?_,?_,?_,?_,?_,?_,?_,?_,?_,?_,?_,?_,?_,?_,?_,trivial⟩
    case refine_7=>
     intro D sp w' hD hW hdp hg;rw[hD]at hg
     (with_reducible refine Ac (w1:=w') (f := 103) (args:=#[.agg #[.slice x.1 x.2.1 x.2.2,.slice y.1 y.2.1 y.2.2],.pointer (some ⟨b,0,none⟩),.agg #[.slice xa.1 xa.2.1 xa.2.2],.agg #[.slice xy.1 xy.2.1 xy.2.2]]) ?_ ?_ ?_)
     .simp only[Region.wanted]
     .simp[Act.eval,Act.put,go_sem]
     .refine(Wr (HG.out.below hg.bel) (Fit.of (HCA.out.below hg.bel).1 HLA.out) (Fit.of (HCA.out.below hg.bel).2.2.1 HLY.out) (by decide) (by decide) (HCN.out.below hg.bel) (HSN.out.below hg.bel) HCL.out HSL.out).mono ?_;rintro en w9 ⟨u,rfl,hu,hb⟩;rw[HUE.out]at hu
      exact⟨u,rfl,trivial,trivial,by simpa [upd]using(hg.later hb).put3 hu⟩
    case refine_14=>
     intro D sp w' hD hW hdp hg;rw[hD]at hg
     (with_reducible refine Ac (w1:=w') (f := 103) (args:=#[.agg #[.slice x.1 x.2.1 x.2.2,.slice y.1 y.2.1 y.2.2],.pointer (some ⟨b,0,none⟩),.agg #[.slice xb.1 xb.2.1 xb.2.2],.agg #[.slice xz.1 xz.2.1 xz.2.2]]) ?_ ?_ ?_)
     .simp only[Region.wanted]
     .simp[Act.eval,Act.put,go_sem]
     .refine(Wr (HG.out.below hg.bel) (Fit.of (HCA.out.below hg.bel).2.1 HLB.out) (Fit.of (HCA.out.below hg.bel).2.2.2 HLZ.out) (by decide) (by decide) (HCN.out.below hg.bel) (HSN.out.below hg.bel) HCL.out HSL.out).mono ?_;rintro en w9 ⟨u,rfl,hu,hb⟩;rw[HVE.out]at hu
      exact⟨u,rfl,trivial,trivial,by simpa [upd]using(hg.later hb).put7 hu⟩
    case refine_15=>
     intro D sp w' hD hW hdp hg;rw[hD]at hg
     have d0:=hg.no10;rw[d0]at hg
     (with_reducible refine Af (w1:=w'.alloc (.cells #[.slice none 0 0] 36)) (v:=.pointer (some ⟨w'.heap.size,0,none⟩)) ?_ ?_ ?_)
     .simp only[Region.wanted]
     .simp[execOp,go_sem]
     .exact⟨trivial,trivial,by simpa [upd,d0]using hg.put8⟩
    case refine_16=>
     intro D sp w' hD hW hdp hg;rw[hD]at hg
     have d0:=hg.no11;rw[d0]at hg
     (with_reducible refine Af (w1:=w'.alloc (.cells #[.slice none 0 0] 36)) (v:=.pointer (some ⟨w'.heap.size,0,none⟩)) ?_ ?_ ?_)
     .simp only[Region.wanted]
     .simp[execOp,go_sem]
     .exact⟨trivial,trivial,by simpa [upd,d0]using hg.put9⟩
    case refine_17=>
     intro D sp w' hD hW hdp hg;have d3:D 6=true:=(hdp 6 (mq (by kernel_rfl))).1;have d8:D 14=true:=(hdp 14 (mq (by kernel_rfl))).1;rw[hD,d3,d8]at hg
     (with_reducible refine Aw (hg.put10) fun b g0=>Aw (g0) fun m g1=>Aw (g1) fun d g2=>Aw (g2) fun q g3=>Aw (g3) fun p g4=>Aw (g4) fun n9 g5=>Aw (g5) fun c9 g6=>?_)
     have e8:=g6.1;have e3:=g6.2.1;have h6:=g6.2.2.1.cell;have h7:=g6.2.2.1.free
     (with_reducible refine An (w1:=w'.setCell ⟨b,0,none⟩ (.slice p n9 c9)) ?_ ?_ ?_)
     .simp only[Region.wanted]
     .simp[execOp,Act.eval,Act.put,go_sem,e8,e3,h6,h7]
     .exact⟨trivial,trivial,by simpa [upd,d3,d8]using g6.2.2.2⟩
    case refine_18=>
     intro D sp w' hD hW hdp hg;have d3:D 13=true:=(hdp 13 (mq (by kernel_rfl))).1;have d8:D 15=true:=(hdp 15 (mq (by kernel_rfl))).1;rw[hD,d3,d8]at hg
     (with_reducible refine Aw (hg.put11) fun b g0=>Aw (g0) fun m g1=>Aw (g1) fun d g2=>Aw (g2) fun q g3=>Aw (g3) fun p g4=>Aw (g4) fun n9 g5=>Aw (g5) fun c9 g6=>?_)
     have e8:=g6.1;have e3:=g6.2.1;have h6:=g6.2.2.1.cell;have h7:=g6.2.2.1.free
     (with_reducible refine An (w1:=w'.setCell ⟨b,0,none⟩ (.slice p n9 c9)) ?_ ?_ ?_)
     .simp only[Region.wanted]
     .simp[execOp,Act.eval,Act.put,go_sem,e8,e3,h6,h7]
     .exact⟨trivial,trivial,by simpa [upd,d3,d8]using g6.2.2.2⟩
    all_goals
     intro D sp w' hD hW hdp hg;have g0:=(cells4 (HC4.out.below hg.bel HC4.out.lt).at_).1;have s0:=(HS9.out.below hg.bel HS9.out.lt).cells;simp[asked,Region.wanted,Oper.gives,execOp,Act.eval,Act.put,go_sem,g0.1,g0.2.1,g0.2.2.1,g0.2.2.2,s0.1,s0.2]
   .intro sp w5 hsp hg;obtain⟨b11,e14,_,⟨pu,nu,cu,hxu,hnu⟩,_⟩:=hg.b8 rfl;obtain⟨b12,e15,_,⟨pv,nv,cv,hxv,hnv⟩,_⟩:=hg.b9 rfl;replace hnu:=hnu rfl;replace hnv:=hnv rfl;have hbel:=hg.bel;have HXU:=Ab hxu;have HXV:=Ab hxv;have HNU:Aa (Er w5 (pu,nu,cu) UU):=⟨hnu⟩
    have HNV:Aa (Er w5 (pv,nv,cv) VV):=⟨hnv⟩
    have HB5:=Ab (Ae HB4.out hbel);have HC5:=Ab (HC4.out.below hbel HC4.out.lt);have HCA5:=Ab (HCA.out.below hbel);have HS5:=Ab (HS9.out.below hbel HS9.out.lt);have HCN5:=Ab (HCN.out.below hbel);have HG5:=Ab (HGA.out.below HB5.out);have HT5:=Ab (HT.out.below HB5.out HT.out.size);have HM5:=Ab (HM.out.below HB5.out);obtain⟨CH,hCH⟩:∃C,Ny P Q A B Y Z UU VV msg=C:=⟨_,rfl⟩
    obtain⟨KC,hKC⟩:∃K,Bp CH CC=K:=⟨_,rfl⟩
    obtain⟨ANS,hANS⟩:∃A,((KC:Int)==0)=A:=⟨_,rfl⟩
    have hE:=hANS;have HCH:=Ab hCH;have HKc:=Ab hKC;have HF:Aa (ANS=true ↔ Uf P Q A B Y Z msg sig):=⟨by
     rw[HOK.out,HUE.out,HVE.out,hCH,<-hANS,<-hKC,beq_iff_eq,Di];exact⟨fun h=>⟨HMM.out,h⟩,fun h=>h.2⟩⟩
    clear hsp hg hxu hnu hxv hnv hbel hCH hKC hANS HC4 HCA HS9 HCN HSN HG;simp only[Am,Nat.reduceAdd];rw[e14,e15];clear e14 e15;generalize sp 6=y6,sp 13=y13,sp 16=y16,sp 17=y17 at *
    go_simp
    go_wp2;refine Aj (by kernel_rfl) (by kernel_rfl)
     [some (.agg #[.slice xa.1 xa.2.1 xa.2.2,.slice xb.1 xb.2.1 xb.2.2,.slice xy.1 xy.2.1 xy.2.2,.slice xz.1 xz.2.1 xz.2.2]),some (.pointer (some ⟨b,0,none⟩)),some (.agg #[.slice pu nu cu]),some (.agg #[.slice pv nv cv]),some (.slice pm nm cm),none,some (.pointer (some ⟨b9,0,none⟩)),some (.agg #[.slice x.1 x.2.1 x.2.2]),none,some (.bool ANS),some (.bool ANS)]
     [false,false,false,false,false,true,false,false,true,false,false] rfl
     (fun w1 w2=>Below w1.heap.size w1 w2)
     (fun _ w'=>Below w5.heap.size w5 w')
     (fun i v w'=>match i with
      | 5=>Fit 33 (CH) v w'
      | 8=>v=.int .i64 KC
      | _=>True)
     ?_ (Bg _ _).drew ?_ ?_
    .intro i v w1 w2 hf hb;split at hf
     .exact hf.below hb
     .exact hf
     .trivial
    .simp only[Bc,Nat.reduceAdd];refine⟨?_,?_,?_,?_,?_,?_,?_,?_,?_,?_,?_,trivial⟩
     all_goals intro D sp w' hD hW hdp hbx'
     case refine_1=>
      have g0:=(cells4 (HC5.out.below hbx' HC5.out.lt).at_).1
      with_reducible refine Ad ?_ ?_
      all_goals simp[Region.wanted,yielded,execOp,Act.eval,Act.put,go_sem,g0.1,g0.2.1,g0.2.2.1,g0.2.2.2]
     case refine_3=>
      have c0:=(HXU.out.below hbx' HXU.out.lt).cell
      with_reducible refine Ad ?_ ?_
      all_goals simp[Region.wanted,yielded,execOp,Act.eval,Act.put,go_sem,c0]
     case refine_4=>
      have c0:=(HXV.out.below hbx' HXV.out.lt).cell
      with_reducible refine Ad ?_ ?_
      all_goals simp[Region.wanted,yielded,execOp,Act.eval,Act.put,go_sem,c0]
     case refine_6=>
      (with_reducible refine Ac (w1:=w') (f := 115) (args:=#[.agg #[.slice xa.1 xa.2.1 xa.2.2,.slice xb.1 xb.2.1 xb.2.2,.slice xy.1 xy.2.1 xy.2.2,.slice xz.1 xz.2.1 xz.2.2],.pointer (some ⟨b,0,none⟩),.agg #[.slice pu nu cu],.agg #[.slice pv nv cv],.slice pm nm cm]) ?_ ?_ ?_)
      .simp[Region.wanted,yielded,Act.put,go_sem]
      .simp[Act.eval,Act.put,go_sem]
      .refine(Ue (HG5.out.below hbx') (HT5.out.below hbx' HT5.out.size) (HCA5.out.below hbx') (xu:=(pu,nu,cu)) (xv:=(pv,nv,cv)) (HNU.out.below hbx') (HNV.out.below hbx') HMM.out.1.2.1 HMM.out.2.1.2.1 HMM.out.2.2.1.2.1 HMM.out.2.2.2.2.1 HUl.out HVl.out HPs.out (HM5.out.below hbx')).mono ?_;rintro en w9 ⟨u,rfl,hu,hb⟩;rw[HCH.out]at hu
       exact⟨u,rfl,hb,hu,Ae hbx' hb⟩
     case refine_8=>
      have c0:=(HS5.out.below hbx' HS5.out.lt).cells.1
      with_reducible refine Ad ?_ ?_
      all_goals simp[Region.wanted,yielded,execOp,Act.eval,Act.put,go_sem,c0]
     case refine_9=>
      have k5:Fit 33 (CH) (sp 5) w':=(hdp 5 (mq (by kernel_rfl))).2
      (with_reducible refine Ac (w1:=w') (f := 33) (args:=#[sp 5,.agg #[.slice x.1 x.2.1 x.2.2]]) ?_ ?_ ?_)
      .simp[Region.wanted,yielded,Act.put,go_sem]
      .simp[Act.eval,Act.put,go_sem]
      .refine(Bt k5 (Fit.of (HCN5.out.below hbx') HCL.out) (by decide) (by decide) HKc.out).mono ?_;rintro en w9 ⟨u,rfl,rfl,hb⟩;exact⟨_,rfl,hb,rfl,Ae hbx' hb⟩
     case refine_10=>
      have k8:(sp 8)=.int .i64 KC:=(hdp 8 (mq (by kernel_rfl))).2
      with_reducible refine Ad ?_ ?_
      all_goals simp[Region.wanted,yielded,execOp,Act.eval,Act.put,go_sem,k8,hE]
     all_goals ((with_reducible refine Ad ?_ ?_);all_goals first|(simp only[Region.wanted];done)|simp[Region.wanted,yielded,execOp,Act.eval,Act.put,go_sem])
    .intro sp w8 hsp hb8;have HBf:=Ab (Ae HB5.out hb8);clear hsp hb8 hE;simp only[Am,Nat.reduceAdd];generalize sp 5=y5,sp 8=y8 at *
     go_simp
     go_wp2;go_ret;exact⟨ANS,rfl,HF.out,HBf.out⟩
  .have HMT:Aa ([A,B,Y,Z].all (Vf P Q)=false):=⟨Bool.eq_false_iff.2 fun h=>hmm (sK.1 h)⟩
   have HF:Aa (false=true ↔ Uf P Q A B Y Z msg sig):=⟨⟨(fun h=>by cases h),fun h=>absurd (HOK.out.1 h).1 hmm⟩⟩
   clear hmm
   go_wp2_with fail
   refine(Lb (HGA.out.below HB3.out) HPL.out (by decide)).mono ?_;rintro en w4 ⟨rfl,hb4⟩;rw[HMT.out];have HB4:=Ab (Ae HB3.out hb4);clear hb4 g0 g1 g2 g3;go_wp2;go_ret;exact⟨false,rfl,HF.out,HB4.out⟩
end Go.Proofs.YthgoeiegdhphjaaGreatDoor
