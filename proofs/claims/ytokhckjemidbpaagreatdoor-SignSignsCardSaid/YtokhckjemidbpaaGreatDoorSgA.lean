/- How a region stands that stores into boxes of one number alone; sign's small calls. -/
import Derived.Test.YtokhckjemidbpaaGreatDoorGqF
import Derived.Test.YtokhckjemidbpaaGreatDoorGqI
import Derived.Test.YtokhckjemidbpaaGreatDoorEuc
import Derived.BigRegion
import Derived.OwnWalkIn
import Derived.TacticsInMore
import Derived.LoopNIn
import Derived.LoopIn
import Derived.RangeFuncNested
import Derived.RangeFuncBound
import Derived.RangeFuncCalls
import Derived.RangeFuncLeaves
import Derived.OrdersIn
set_option maxRecDepth 1000000
set_option maxHeartbeats 16000000
set_option linter.all false
namespace Go.Proofs.YtokhckjemidbpaaGreatDoor
open Go Go.RowKit Go.Proofs.YtokhckjemidbpaaGreatDoor.Flow
theorem cM (w:World)(e:Nat)(Ns:List Nat)(he:e<=32):Asks 175 #[] w e Ns (fun _=>false):=by
 refine⟨fun W M u _ _ hu=>?_⟩;rw[Array.append_empty];obtain⟨p,n,c,rfl,h1,h2⟩:=hu;have hb1:=Af.made W (.slice p n c);have hbel:Below W.heap.size W (W.alloc (.cells #[.slice p n c] 37)):=Bx;obtain⟨wa,hwa⟩:∃wa,W.alloc (.cells #[.slice p n c] 37)=wa:=⟨_,rfl⟩
 rw[hwa]at hb1 hbel
 have HF:=Ab ((Fit.of h1 h2).below hbel);have HB:=Ab hbel;have hs:=Wj he h2;have c0:=hb1.cell;clear h1 h2 hb1 hbel;go_enter Tryz.func175,Tryz.ntmps175
 go_wp2_with fail
 refine(Mu HF.out (by omega)).mono ?_;rintro en w1 ⟨rfl,hb1⟩;have HB1:=Ab (Ae HB.out hb1);obtain⟨sz,hsz⟩:∃s,Ak M=s:=⟨_,rfl⟩
 rw[hsz]at hs ⊢
 have hn:decide ((128:Int)<(sz:Int))=false:=decide_eq_false (by omega);have HN:=Ab hn;clear hb1 c0 hsz hn;go_wp2;go_ret;exact⟨by rw[<-HN.out];rfl,HB1.out⟩
theorem pW {w:World}{e b P Q G:Nat}{x y z:Option Addr×Nat×Nat}(hb:w.heap[b]? = some (.cells #[.slice x.1 x.2.1 x.2.2,.slice y.1 y.2.1 y.2.2,.slice z.1 z.2.1 z.2.2] 37 (0,0)))(hP:Gq w x P)(lP:P<Ar e)(hQ:Gq w y Q)(lQ:Q<Ar e)(hG:Gq w z G)(lG:G<Ar e) :
  Cp w e (some ⟨b,0,none⟩) 3 3 [P,Q,G]:=by
 refine⟨rfl,As _,by decide,(fun h=>by cases h),fun _=>⟨b,0,rfl,(Kv hb).1,fun i N hN=>?_⟩⟩
 match i,hN with
 | 0,hN=>cases hN;exact⟨x.1,x.2.1,x.2.2,by simp[World.cell?,hb],hP,lP⟩
 | 1,hN=>cases hN;exact⟨y.1,y.2.1,y.2.2,by simp[World.cell?,hb],hQ,lQ⟩
 | 2,hN=>cases hN;exact⟨z.1,z.2.1,z.2.2,by simp[World.cell?,hb],hG,lG⟩
 | i+3,hN=>simp at hN
theorem fS {w:World}{e P Q G:Nat}{x y z:Option Addr×Nat×Nat}{ps:Option Addr}{ns cs:Nat}(hP:Gq w x P)(lP:P<Ar e)(hQ:Gq w y Q)(lQ:Q<Ar e)(hG:Gq w z G)(lG:G<Ar e)(he:e<=32) :
  Calls Tryz.prog 125 #[.agg #[.slice x.1 x.2.1 x.2.2,.slice y.1 y.2.1 y.2.2,.slice z.1 z.2.1 z.2.2,.slice ps ns cs]] w fun en w'=>en=.returned (.bool (decide (128<ns)))/\Below w.heap.size w w':=by
 have hX0:=Cu.made 118 w (.slice x.1 x.2.1 x.2.2) (.slice y.1 y.2.1 y.2.2) (.slice z.1 z.2.1 z.2.2) (.slice ps ns cs);have hba:Below w.heap.size w (w.alloc (.cells #[.slice x.1 x.2.1 x.2.2,.slice y.1 y.2.1 y.2.2,.slice z.1 z.2.1 z.2.2,.slice ps ns cs] 118)):=Bx;obtain⟨wa,hwa⟩:∃wa,w.alloc (.cells #[.slice x.1 x.2.1 x.2.2,.slice y.1 y.2.1 y.2.2,.slice z.1 z.2.1 z.2.2,.slice ps ns cs] 118)=wa:=⟨_,rfl⟩
 rw[hwa]at hX0 hba
 have hb2:Below wa.heap.size wa (wa.alloc (.cells #[.slice x.1 x.2.1 x.2.2,.slice y.1 y.2.1 y.2.2,.slice z.1 z.2.1 z.2.2] 37)):=Bx;have hl:(wa.alloc (.cells #[.slice x.1 x.2.1 x.2.2,.slice y.1 y.2.1 y.2.2,.slice z.1 z.2.1 z.2.2] 37)).heap[wa.heap.size]? = some (.cells #[.slice x.1 x.2.1 x.2.2,.slice y.1 y.2.1 y.2.2,.slice z.1 z.2.1 z.2.2] 37 (0,0)):=heap_alloc_new wa _;obtain⟨w2,hw2⟩:∃w2,wa.alloc (.cells #[.slice x.1 x.2.1 x.2.2,.slice y.1 y.2.1 y.2.2,.slice z.1 z.2.1 z.2.2] 37)=w2:=⟨_,rfl⟩
 rw[hw2]at hb2 hl
 have hb02:=Ae hba hb2;have HL:=Ab (pW hl (Aj.below hP hb02) lP (Aj.below hQ hb02) lQ (Aj.below hG hb02) lG);have HB2:=Ab hb02;have HX2:=Ab (hX0.below hb2 hX0.lt);have HA:=Ab (cM w2 e [P,Q,G] he);have cw:=hX0.cells.1;have cx:=hX0.cells.2.1;have cy:=hX0.cells.2.2.1;clear hP hQ hG lP lQ lG hX0 hba hb2 hl hb02;go_enter Tryz.func125,Tryz.ntmps125
 go_wp2_with fail
 refine(Oi _ e _ 3 3 [P,Q,G] _ _ (enters_of Tryz.func175 (by kernel_rfl) rfl) _ HL.out HA.out).mono ?_;rintro en w3 ⟨rfl,hb3⟩;have HB3:=Ab (Ae HB2.out hb3);have c3:=(HX2.out.below hb3 HX2.out.lt).cells.2.2.2;clear hb3 cw cx cy;rw[show ([P,Q,G].any fun _=>false)=false from rfl]
 by_cases hn:128<ns
 .have HN:Aa (decide (128<ns)=true):=⟨decide_eq_true hn⟩
  have HD:Aa (decide ((128:Int)<(ns:Int))=true):=⟨decide_eq_true (by omega)⟩
  clear hn;go_wp2;go_ret;exact⟨by rw[HN.out,<-HD.out];rfl,HB3.out⟩
 .have HN:Aa (decide (128<ns)=false):=⟨decide_eq_false hn⟩
  have HD:Aa (decide ((128:Int)<(ns:Int))=false):=⟨decide_eq_false (by omega)⟩
  clear hn;go_wp2;go_ret;exact⟨by rw[HN.out,<-HD.out];rfl,HB3.out⟩
structure nD (r1 r2:Nat) (pz:Option Addr) (nz cz G:Nat) (v:Value) (w:World):Prop where
 ex:∃pg ng cg,v=.agg #[.pointer (some ⟨r1,0,none⟩),.pointer (some ⟨r2,0,none⟩),.slice pg ng cg,.slice pz nz cz]/\Aj w pg ng cg G
theorem nD.below {r1 r2:Nat}{pz:Option Addr}{nz cz G:Nat}{v:Value}{w w':World}(h:nD r1 r2 pz nz cz G v w)(hb:Below w.heap.size w w'):nD r1 r2 pz nz cz G v w' :=
 let ⟨pg,ng,cg,h1,h2⟩:=h.ex
 ⟨pg,ng,cg,h1,h2.below hb⟩
structure eA (r1 r2:Nat) (pz:Option Addr) (nz cz G:Nat) (v:Value) (w:World):Prop where
 ex:∃b pg ng cg,v=.pointer (some ⟨b,0,none⟩)/\w.heap[b]? = some (.cells #[.pointer (some ⟨r1,0,none⟩),.pointer (some ⟨r2,0,none⟩),.slice pg ng cg,.slice pz nz cz] 141 (0,0))/\Aj w pg ng cg G
theorem eA.below {r1 r2:Nat}{pz:Option Addr}{nz cz G:Nat}{v:Value}{w w':World}(h:eA r1 r2 pz nz cz G v w)(hb:Below w.heap.size w w'):eA r1 r2 pz nz cz G v w' :=
 let ⟨b,pg,ng,cg,h1,h2,h3⟩:=h.ex
 ⟨b,pg,ng,cg,h1,by rw[hb.block b (Kv h2).1];exact h2,h3.below hb⟩
open Classical in
theorem lD {w:World}{e P Q G:Nat}{x y z:Option Addr×Nat×Nat}{ps:Option Addr}{ns cs:Nat}{seed:List Nat}{pc:Option Addr}{nc cc:Nat}{l:List Bz}(hT:Tabs w)(hP:Gq w x P)(lP:P<Ar e)(hQ:Gq w y Q)(lQ:Q<Ar e)(hG:Gq w z G)(lG:G<Ar e)(hS:Ax w ⟨ps,ns,cs,seed⟩)(hC:Fv w e pc nc cc l)(hn:nc<=60)(hps:∀s∈l,s.ps.length<=1000)(he:e<=32) :
  Calls Tryz.prog 62 #[.agg #[.slice x.1 x.2.1 x.2.2,.slice y.1 y.2.1 y.2.2,.slice z.1 z.2.1 z.2.2,.slice ps ns cs],.slice pc nc cc] w fun en w'=>
   (128<ns->en=.returned (.tuple #[.pointer none,.int .i64 4])) /\
   (ns<=128->(newSpec P Q G seed l).1=0->∃b,en=.returned (.tuple #[.pointer (some ⟨b,0,none⟩),.int .i64 0])/\Bc w' b P Q G (newSpec P Q G seed l).2) /\
   (ns<=128->(newSpec P Q G seed l).1≠0->en=.returned (.tuple #[.pointer none,.int .i64 ((newSpec P Q G seed l).1:Nat)]))/\Below w.heap.size w w':=by
 have hX0:=Cu.made 118 w (.slice x.1 x.2.1 x.2.2) (.slice y.1 y.2.1 y.2.2) (.slice z.1 z.2.1 z.2.2) (.slice ps ns cs);have hba:Below w.heap.size w (w.alloc (.cells #[.slice x.1 x.2.1 x.2.2,.slice y.1 y.2.1 y.2.2,.slice z.1 z.2.1 z.2.2,.slice ps ns cs] 118)):=Bx;obtain⟨wa,hwa⟩:∃wa,w.alloc (.cells #[.slice x.1 x.2.1 x.2.2,.slice y.1 y.2.1 y.2.2,.slice z.1 z.2.1 z.2.2,.slice ps ns cs] 118)=wa:=⟨_,rfl⟩
 rw[hwa]at hX0 hba
 obtain⟨SP,hSP⟩:∃X,newSpec P Q G seed l=X:=⟨_,rfl⟩
 rw[hSP];have HSP:=Ab hSP;obtain⟨TP,hTP⟩:∃X,decide (Told P l)=X:=⟨_,rfl⟩
 obtain⟨TQ,hTQ⟩:∃X,decide (Told Q l)=X:=⟨_,rfl⟩
 obtain⟨RI,hRI⟩:∃X,decide (Um P Q G)=X:=⟨_,rfl⟩
 have HTP:=Ab hTP;have HTQ:=Ab hTQ;have HRI:=Ab hRI;have HX:=Ab hX0;have HB:=Ab hba;have HP:Aa (Fit e P (.agg #[.slice x.1 x.2.1 x.2.2]) w):=⟨Fit.of hP lP⟩
 have HQ:Aa (Fit e Q (.agg #[.slice y.1 y.2.1 y.2.2]) w):=⟨Fit.of hQ lQ⟩
 have HG:Aa (Fit e G (.agg #[.slice z.1 z.2.1 z.2.2]) w):=⟨Fit.of hG lG⟩
 have HC:=Ab hC;have HT:=Ab hT;have HS:=Ab hS;have HPS:=Ab hps;have cw:=hX0.cells.1;have cx:=hX0.cells.2.1;have cy:=hX0.cells.2.2.1;have cz:=hX0.cells.2.2.2;clear hSP hTP hTQ hRI hX0 hba hC hps hT hS;go_enter Tryz.func62,Tryz.ntmps62
 go_wp2_with fail
 refine(fS (x:=x) (y:=y) (z:=z) (Aj.below hP HB.out) lP (Aj.below hQ HB.out) lQ (Aj.below hG HB.out) lG he).mono ?_;rintro en w1 ⟨rfl,hb1⟩;have HB1:=Ab (Ae HB.out hb1);have HX1:=Ab (HX.out.below hb1 HX.out.lt);clear hb1 cw cx cy cz HX
 by_cases hl:128<ns
 .rw[decide_eq_true hl];have HL:=Ab hl;clear hl;go_wp2;refine bodyPost_ret (v:=.tuple #[.pointer none,.int .i64 4]) (by simp[results,Tryz.results62,go_sem]) rfl ?_;exact⟨fun _=>rfl,fun h=>absurd HL.out (by omega),fun h=>absurd HL.out (by omega),HB1.out⟩
 rw[decide_eq_false hl];have HL:=Ab hl;clear hl;have cw:=HX1.out.cells.1;have cx:=HX1.out.cells.2.1
 go_wp2_with fail
 refine(eJ e he w1 P _ pc nc cc l (HP.out.below HB1.out) (HC.out.below HB1.out) hn HPS.out).mono ?_;rintro en w2 ⟨rfl,hb2⟩;rw[show decide (Dd P ∨ (Cq [] l/\∃s∈l,s.n=P))=TP from (decide_eq_decide.2 (show (Dd P ∨ (Cq [] l/\∃s∈l,s.n=P)) ↔ Told P l from Iff.rfl)).trans HTP.out];have HB2:=Ab (Ae HB1.out hb2);have HX2:=Ab (HX1.out.below hb2 HX1.out.lt);clear hb2 cw cx HX1
 cases TP with
 | false=>
  have hS0:SP=(8,0):=by rw[<-HSP.out];exact if_neg fun h=>of_decide_eq_false HTP.out h.1
  have HS0:=Ab hS0;clear hS0;go_wp2;refine bodyPost_ret (v:=.tuple #[.pointer none,.int .i64 8]) (by simp[results,Tryz.results62,go_sem]) rfl ?_;exact⟨fun h=>absurd h HL.out,(fun _ h=>by rw[HS0.out]at h;cases h),(fun _ _=>by rw[HS0.out];rfl),HB2.out⟩
 | true=>
  have cx:=HX2.out.cells.2.1
  go_wp2_with fail
  refine(eJ e he w2 Q _ pc nc cc l (HQ.out.below HB2.out) (HC.out.below HB2.out) hn HPS.out).mono ?_;rintro en w3 ⟨rfl,hb3⟩;rw[show decide (Dd Q ∨ (Cq [] l/\∃s∈l,s.n=Q))=TQ from (decide_eq_decide.2 (show (Dd Q ∨ (Cq [] l/\∃s∈l,s.n=Q)) ↔ Told Q l from Iff.rfl)).trans HTQ.out];have HB3:=Ab (Ae HB2.out hb3);have HX3:=Ab (HX2.out.below hb3 HX2.out.lt);clear hb3 cx HX2
  cases TQ with
  | false=>
   have hS0:SP=(8,0):=by rw[<-HSP.out];exact if_neg fun h=>of_decide_eq_false HTQ.out h.2
   have HS0:=Ab hS0;clear hS0;go_wp2;refine bodyPost_ret (v:=.tuple #[.pointer none,.int .i64 8]) (by simp[results,Tryz.results62,go_sem]) rfl ?_;exact⟨fun h=>absurd h HL.out,(fun _ h=>by rw[HS0.out]at h;cases h),(fun _ _=>by rw[HS0.out];rfl),HB3.out⟩
  | true=>
   have hTo:Told P l/\Told Q l:=⟨of_decide_eq_true HTP.out,of_decide_eq_true HTQ.out⟩
   have h2P:=(Sr hTo.1).two;have h2Q:=(Sr hTo.2).two;have HTo:=Ab hTo;clear hTo;have cw:=HX3.out.cells.1;have cx:=HX3.out.cells.2.1
   go_wp2_with fail
   refine(Ix (HP.out.below HB3.out) (by omega)).mono ?_;rintro en w4 ⟨hb4,hh⟩;rcases hh with ⟨hlt,_⟩|⟨_,r1,rfl,hr1,_⟩
   .omega
   have HR1:=Ab hr1;have HB4:=Ab (Ae HB3.out hb4);have HX4:=Ab (HX3.out.below hb4 HX3.out.lt);clear hb4 hr1 cw cx HX3;have cx:=HX4.out.cells.2.1
   go_wp2_with fail
   refine(Ix (HQ.out.below HB4.out) (by omega)).mono ?_;rintro en w5 ⟨hb5,hh⟩;rcases hh with ⟨hlt,_⟩|⟨_,r2,rfl,hr2,_⟩
   .omega
   have HR2:=Ab hr2;have HR15:=Ab (HR1.out.below hb5);have HB5:=Ab (Ae HB4.out hb5);have HX5:=Ab (HX4.out.below hb5 HX4.out.lt);clear hb5 hr2 cx HX4 HR1;have cw:=HX5.out.cells.1;have cx:=HX5.out.cells.2.1;have cy:=HX5.out.cells.2.2.1;have cz:=HX5.out.cells.2.2.2
   go_wp2_with fail
   refine(fO (x:=x) (y:=y) (z:=z) HR15.out (Aj.below hP HB5.out) lP (Aj.below hQ HB5.out) lQ (Aj.below hG HB5.out) lG (by omega) (by omega) he (by omega)).mono ?_;rintro en w6 ⟨rfl,hb6⟩;rw[HRI.out];have HR16:=Ab (HR15.out.below hb6);have HR26:=Ab (HR2.out.below hb6);have HB6:=Ab (Ae HB5.out hb6);have HX6:=Ab (HX5.out.below hb6 HX5.out.lt);clear hb6 cw cx cy cz HX5 HR15 HR2
   cases RI with
   | false=>
    have hS0:SP=(1,0):=by rw[<-HSP.out,newSpec,if_pos HTo.out,if_neg (of_decide_eq_false HRI.out)]
    have HS0:=Ab hS0;clear hS0;go_wp2;refine bodyPost_ret (v:=.tuple #[.pointer none,.int .i64 1]) (by simp[results,Tryz.results62,go_sem]) rfl ?_;exact⟨fun h=>absurd h HL.out,(fun _ h=>by rw[HS0.out]at h;cases h),(fun _ _=>by rw[HS0.out];rfl),HB6.out⟩
   | true=>
    have cw:=HX6.out.cells.1;have cx:=HX6.out.cells.2.1;have cy:=HX6.out.cells.2.2.1;have cz:=HX6.out.cells.2.2.2
    go_wp2_with fail
    refine(bV (x:=x) (y:=y) (z:=z) (HT.out.below HB6.out HT.out.size) HR16.out he (Aj.below hP HB6.out) lP (Aj.below hQ HB6.out) lQ (by omega) (by omega) (HS.out.below HB6.out) he).mono ?_;rintro en w7 ⟨pz,nz,cz,k,rfl,hb7,hyes,hno⟩;obtain⟨FH,hFH⟩:∃X,Gg (fun c=>Ha seed P c^((P-1)/Q)%P) 256 0=X:=⟨_,rfl⟩
    rw[hFH]at hyes hno
    have HFH:=Ab hFH;have hb8:Below w7.heap.size w7 (w7.alloc (.cells #[.slice pz nz cz] 37)):=Bx;have hX10:=Af.made w7 (.slice pz nz cz);obtain⟨w8,hw8⟩:∃w8,w7.alloc (.cells #[.slice pz nz cz] 37)=w8:=⟨_,rfl⟩
    rw[hw8]at hb8 hX10
    have hb68:=Ae hb7 hb8;have HX8:=Ab (HX6.out.below hb68 HX6.out.lt);have HX10:=Ab hX10;have HR18:=Ab (HR16.out.below hb68);have HR28:=Ab (HR26.out.below hb68);have HB8:=Ab (Ae HB6.out hb68);have HG8:=Ab (HG.out.below HB8.out)
    cases FH with
    | none=>
     obtain rfl:=hno rfl;have hS0:SP=(6,0):=by rw[<-HSP.out,newSpec,if_pos HTo.out,if_pos (of_decide_eq_true HRI.out),HFH.out]
     have HS0:=Ab hS0;clear hS0 hyes hno hFH hb7 hb8 hX10 hb68 cw cx cy;go_wp2;refine bodyPost_ret (v:=.tuple #[.pointer none,.int .i64 6]) (by simp[results,Tryz.results62,go_sem]) rfl ?_;exact⟨fun h=>absurd h HL.out,(fun _ h=>by rw[HS0.out]at h;cases h),(fun _ _=>by rw[HS0.out];rfl),HB8.out⟩
    | some H=>
     obtain⟨rfl,hnz,lH⟩:=hyes H rfl;have hS0:SP=(0,H):=by rw[<-HSP.out,newSpec,if_pos HTo.out,if_pos (of_decide_eq_true HRI.out),HFH.out]
     have HS0:=Ab hS0;have HNZ:=Ab (Aj.below hnz hb8);have HLH:Aa (H<Ar 33):=⟨Ej lH (Dk (by omega))⟩
     have HGM:Aa (G%P=G):=⟨Nat.mod_eq_of_lt (of_decide_eq_true HRI.out).2.2.2.1⟩
     have HLG:Aa (G<Ar 33):=⟨Ej lG (Dk (by omega))⟩
     have HBL:Aa (w.heap.size<w8.heap.size):=⟨HX8.out.lt⟩
     clear hS0 hyes hno hFH hb7 hb8 hX10 hb68 hnz lH cw cx cy;go_wp2;refine Ah (by kernel_rfl) (by kernel_rfl)
      [some (.pointer (some ⟨r1,0,none⟩)),some (.pointer (some ⟨r2,0,none⟩)),some (.pointer (some ⟨r1,0,none⟩)),some (.pointer (some ⟨w.heap.size,2,none⟩)),some (.agg #[.slice z.1 z.2.1 z.2.2]),none,some (.agg #[.slice pz nz cz]),none,none,none,some (.int .i64 0)]
      [false,false,false,false,false,true,false,true,true,true,false] rfl
      (fun w1 w2=>Below w1.heap.size w1 w2)
      (fun _ w'=>Below w8.heap.size w8 w')
      (fun i v w'=>match i with
       | 5=>Fit e G v w'
       | 7=>nD r1 r2 pz nz cz G v w'
       | 8=>eA r1 r2 pz nz cz G v w'
       | 9=>eA r1 r2 pz nz cz G v w'
       | _=>True)
      ?_ (Bb _ _).drew ?_ ?_
     .intro i v w1 w2 hf hb;split at hf
      .exact hf.below hb
      .exact hf.below hb
      .exact hf.below hb
      .exact hf.below hb
      .trivial
     .simp only[Ba,Nat.reduceAdd];refine⟨?_,?_,?_,?_,?_,?_,?_,?_,?_,?_,?_,trivial⟩
      all_goals intro D sp w' hD hW hdp hbx'
      case refine_5=>
       have c2:=(Cu.cells ⟨(hbx'.block w.heap.size HBL.out).trans HX8.out.at_⟩).2.2.1
       with_reducible refine Ad ?_ ?_
       all_goals simp[Region.wanted,yielded,execOp,Act.eval,Act.put,go_sem,c2]
      case refine_6=>
       (with_reducible refine Ac (w1:=w') (f := 31) (args:=#[.pointer (some ⟨r1,0,none⟩),.agg #[.slice z.1 z.2.1 z.2.2]]) ?_ ?_ ?_)
       .simp[Region.wanted,yielded,Act.put,go_sem]
       .simp[Act.eval,Act.put,go_sem]
       .refine(Eb (HR18.out.below hbx') (HG8.out.below hbx') (by omega)).mono ?_;rintro en w9 ⟨u,rfl,hu,hb⟩;rw[HGM.out]at hu
        exact⟨u,rfl,hb,hu,Ae hbx' hb⟩
      case refine_7=>
       have c0:w'.cell? ⟨w7.heap.size,0,none⟩=some (.slice pz nz cz):=Af.cell (HX10.out.below hbx' HX10.out.lt)
       with_reducible refine Ad ?_ ?_
       all_goals simp[Region.wanted,yielded,execOp,Act.eval,Act.put,go_sem,c0]
      case refine_8=>
       have k5:Fit e G (sp 5) w':=(hdp 5 (mq (by kernel_rfl))).2;have hx:∃pg ng cg,sp 5=.agg #[.slice pg ng cg]/\Aj w' pg ng cg G/\G<Ar e:=k5
       (with_reducible refine Ay hx fun pg hx1=>Ay hx1 fun ng hx2=>Ay hx2 fun cg hx3=>?_)
       have h1:=hx3.1
       (with_reducible refine Ai (w1:=w') (v:=.agg #[.pointer (some ⟨r1,0,none⟩),.pointer (some ⟨r2,0,none⟩),.slice pg ng cg,.slice pz nz cz]) ?_ ?_ ?_)
       .simp only[Region.wanted]
       .simp[execOp,Act.eval,Act.put,go_sem,h1]
       .exact⟨Bb _ _,⟨pg,ng,cg,rfl,hx3.2.1⟩,hbx'⟩
      case refine_9=>
       have k7:nD r1 r2 pz nz cz G (sp 7) w':=(hdp 7 (mq (by kernel_rfl))).2
       (with_reducible refine Ay k7.ex fun pg hx1=>Ay hx1 fun ng hx2=>Ay hx2 fun cg hx3=>?_)
       have h1:=hx3.1
       (with_reducible refine Ai (w1:=w'.alloc (.cells #[.pointer (some ⟨r1,0,none⟩),.pointer (some ⟨r2,0,none⟩),.slice pg ng cg,.slice pz nz cz] 141)) (v:=.pointer (some ⟨w'.heap.size,0,none⟩)) ?_ ?_ ?_)
       .simp only[Region.wanted]
       .simp[execOp,Act.eval,Act.put,go_sem,h1]
       .have hb:Below w'.heap.size w' (w'.alloc (.cells #[.pointer (some ⟨r1,0,none⟩),.pointer (some ⟨r2,0,none⟩),.slice pg ng cg,.slice pz nz cz] 141)):=Bx;exact⟨hb,⟨w'.heap.size,pg,ng,cg,rfl,heap_alloc_new w' _,hx3.2.below hb⟩,Ae hbx' hb⟩
      case refine_10=>
       have k8:eA r1 r2 pz nz cz G (sp 8) w':=(hdp 8 (mq (by kernel_rfl))).2
       (with_reducible refine Ai (w1:=w') (v:=sp 8) ?_ ?_ ?_)
       .simp only[Region.wanted]
       .simp[execOp,Act.eval,Act.put,go_sem]
       .exact⟨Bb _ _,k8,hbx'⟩
      all_goals ((with_reducible refine Ad ?_ ?_);all_goals first|(simp only[Region.wanted];done)|simp[Region.wanted,yielded,execOp,Act.eval,Act.put,go_sem])
     .intro sp w9 hsp hbx';have hg:eA r1 r2 pz nz cz G (sp 9) w9:=hsp 9 rfl;obtain⟨b,pg,ng,cg,he9,hh,hng⟩:=hg.ex;have HH:=Ab hh;have HNG:=Ab hng;have HNZ9:=Ab (Aj.below HNZ.out hbx');have HR19:=Ab ((HR18.out.below hbx').wide (f:=33) (by omega) (by decide));have HR29:=Ab ((HR28.out.below hbx').wide (f:=33) (by omega) (by decide));have HB9:=Ab (Ae HB8.out hbx');clear hsp hbx' hg hh hng;simp only[An,Nat.reduceAdd];rw[he9];clear he9;generalize sp 5=y5,sp 7=y7,sp 8=y8 at *
      go_simp
      go_wp2;refine bodyPost_ret (v:=.tuple #[.pointer (some ⟨b,0,none⟩),.int .i64 0]) (by simp[results,Tryz.results62,go_sem]) rfl ?_;refine⟨fun h=>absurd h HL.out,fun _ _=>⟨b,rfl,?_⟩,fun _ h=>absurd (by rw[HS0.out]) h,HB9.out⟩;rw[HS0.out];exact⟨r1,r2,pg,ng,cg,pz,nz,cz,HH.out,HR19.out,HR29.out,HNG.out,HLG.out,HNZ9.out,HLH.out⟩
theorem oK {n j:Nat}(h:j<8):(Se n)[j]? = some (n/256^j%256):=by
 unfold Se;rw[List.getElem?_map,List.getElem?_range h];rfl
theorem cX {w:World}{p:Option Addr}{n c:Nat}(hn:n<9223372036854775808) :
  Calls Tryz.prog 189 #[.slice p n c] w fun en w'=>∃g,en=.returned (.slice (some ⟨g,0,none⟩) 8 8)/\Bm w' g 5 .u8 (Se n)/\w.heap.size<=g/\Below w.heap.size w w':=by
 have hmk:∀w,(Instr.makeSlice 23 (.int .i64 8) (.int .i64 8)).run Tryz.prog w=.ok (.slice (some ⟨w.heap.size,0,none⟩) 8 8) (w.alloc (.cells (zeros .u8 8) 5)):=fun w=>Sc 8 (by decide) w
 obtain⟨w0,hw0⟩:∃w0,w.alloc (.cells (zeros .u8 8) 5)=w0:=⟨_,rfl⟩
 have hb0:Below w.heap.size w w0:=by rw[<-hw0];exact(Bb _ _).alloc (As _) _
 have hk0:Bm w0 w.heap.size 5 .u8 (List.replicate 8 0):=by rw[<-hw0];exact heap_alloc_new w _
 have HB0:=Ab hb0;have HK0:=Ab hk0;clear hb0 hk0;go_enter Tryz.func189,Tryz.ntmps189;go_wp2
 go_loopw [4,8] (fun _ iv wr=>∃(k:Nat) (xs:List Nat),k<=8/\iv=.int .i64 k/\xs.length=8/\Aa (Bm wr w.heap.size 5 .u8 xs)/\Aa (∀j,j<k->xs[j]? = some (n/256^j%256))/\Aa (Below w.heap.size w wr)) (fun _ iv _=>8-(intOf iv).toNat)
 case atStart=>exact⟨0,List.replicate 8 0,by omega,rfl,rfl,HK0,⟨fun j hj=>by omega⟩,HB0⟩
 case round=>
  obtain⟨k,xs,hk,rfl,hxs,HKr,HVr,HBr⟩:=hrel
  by_cases hkn:k<8
  .have hkn':(k:Int)<8:=by omega
   have c0:=HKr.out.cell (i:=k) (List.getElem?_eq_getElem (by omega));have f0:=HKr.out.free k;have hv:((n:Int)/2^(8*k)%256)=((n/256^k%256:Nat):Int):=by
    rw[Int.natCast_emod,Int.natCast_ediv,show (256:Nat)^k=2^(8*k) from Ih k,Int.natCast_pow];rfl
   have HV:=Ab hv;have HKn:Aa (Bm (wr.setCell ⟨w.heap.size,k,none⟩ (.int .u8 (n/256^k%256:Nat))) w.heap.size 5 .u8 (xs.set k (n/256^k%256))):=⟨HKr.out.set k _⟩
   have HBn:Aa (Below w.heap.size w (wr.setCell ⟨w.heap.size,k,none⟩ (.int .u8 (n/256^k%256:Nat)))):=⟨HBr.out.setCell (As _) _⟩
   have HVn:Aa (∀j,j<k+1->(xs.set k (n/256^k%256))[j]? = some (n/256^j%256)):=⟨fun j hj=>by
    rcases Nat.lt_or_ge j k with h|h
    .rw[List.getElem?_set_ne (by omega)];exact HVr.out j h
    .obtain rfl:j=k:=by omega
     exact List.getElem?_set_self (by omega)⟩
   have HXL:Aa ((xs.set k (n/256^k%256)).length=8):=⟨by rw[List.length_set];exact hxs⟩
   clear hv;go_wp2;go_roundw
   case rel=>
    rw[HV.out];exact⟨k+1,_,by omega,by go_num,HXL.out,HKn,HVn,HBn⟩
   case measure=>simp[intOf];omega
  .obtain rfl:k=8:=by omega
   have hkn':¬(8:Int)<8:=by omega
   go_wp2;go_ret;have hx:xs=Se n:=List.ext_getElem? fun j=>by
    rcases Nat.lt_or_ge j 8 with h|h
    .rw[HVr.out j h,oK h]
    .rw[List.getElem?_eq_none (by omega),List.getElem?_eq_none (by rw[Fe];exact h)]
   exact⟨w.heap.size,rfl,by rw[<-hx];exact HKr.out,As _,HBr.out⟩
theorem mC {w:World}{b P Q G H n c:Nat}{p:Option Addr}{L:List Part}(hg:Bc w b P Q G H)(hT:Tabs w)(hL:Ck w p n c L) :
  Calls Tryz.prog 132 #[.pointer (some ⟨b,0,none⟩),.slice p n c] w fun e w'=>∃x,e=.returned x/\Fit 33 (be (Ie (Cg (L.map (·.bs))))%Q) x w'/\Below w.heap.size w w':=by
 have hb4:=Af.made w (.slice none 0 0);have hbel:Below w.heap.size w (w.alloc (.cells #[.slice none 0 0] 37)):=Bx;obtain⟨wa,hwa⟩:∃wa,w.alloc (.cells #[.slice none 0 0] 37)=wa:=⟨_,rfl⟩
 rw[hwa]at hb4 hbel
 have HBX:=Ab hb4;have HB:=Ab hbel;have HT:=Ab hT;have hTs:=hT.size;have HL:=Ab hL;have HLN:=Ab hL.len;have hcap:=hL.cap;have hmax:=hL.max;obtain⟨rp,rq,pg,ng,cg,ph,nh,ch,g1,_,g3,_⟩:=hg.ex;have HL2:Aa (b<w.heap.size/\rq<w.heap.size):=⟨hg.lt,g3.at_.lt⟩
 have HGA:=Ab g1;have HRQ:=Ab g3;clear hL hg g1 g3;clear hT hb4 hbel;go_enter Tryz.func132,Tryz.ntmps132
 go_wp2_with fail
 refine(La wa (HT.out.below HB.out HT.out.size)).mono ?_;rintro en w1 ⟨g,rfl,hg1,hb1,hh1⟩;have HB1:=Ab (Ae HB.out hb1);have HBX1:=Ab (HBX.out.below hb1 HBX.out.lt);have HGL:Aa (w.heap.size<g):=⟨Ej HBX.out.lt hg1⟩
 have HH1:=Ab hh1;clear hb1 hg1 hh1;go_wp2
 go_loopw [7,13] (fun _ iv wr=>∃k:Nat,k<=n/\iv=.int .i64 k/\Aa (Below w.heap.size w wr)/\Aa (Bv wr g (Cg ((L.take k).map (·.bs))))/\Aa (Af wr w.heap.size (.slice none 0 0))) (fun _ iv _=>n-(intOf iv).toNat)
 case atStart=>exact⟨0,by omega,rfl,HB1,HH1,HBX1⟩
 case round=>
  obtain⟨k,hk,rfl,HBr,HHr,HBXr⟩:=hrel
  by_cases hkn:k<n
  .obtain⟨PP,hP⟩:∃P,L[k]? = some P:=⟨L[k]'(by rw[<-HLN.out];exact hkn),List.getElem?_eq_getElem _⟩
   obtain⟨bb,off,rfl,hbb,hc⟩:=HL.out.cells (by omega);have hok:=HL.out.ok k PP hP;have HNE:Aa (0<PP.n->∀q,PP.p=some q->q.block≠g):=⟨fun h0 q hq=>by
    obtain⟨b',off',e,h2,_⟩:=(hok.row.row h0).pos h0;rw[hq]at e;cases e
    have:=HGL.out;show b'≠g;omega⟩
   have hck:wr.cell? ⟨bb,off+k,none⟩=some (.slice PP.p PP.n PP.c):=by
    rw[(Ca HBr.out).1 _ _ hbb];exact hc k PP hP
   have HTK:Aa (Cg ((L.take (k+1)).map (·.bs))=Cg ((L.take k).map (·.bs))++(Se PP.n++PP.bs)):=⟨by
    rw[Hh hP,List.map_append];show Cg ((L.take k).map (·.bs)++[PP.bs])=_;rw[Ma,hok.row.len]⟩
   have HOK:=Ab hok;have hPn:PP.n<9223372036854775808:=by have h1:=hok.row.cap;have h2:=hok.row.max;omega
   have hkn':(k:Int)<n:=by omega
   clear hc hok hP hbb;obtain⟨pp,pn,pc,pb⟩:=PP
   dsimp only at *
   go_wp2_with fail
   refine(cX hPn).mono ?_;rintro en w2 ⟨gl,rfl,hkl,hgl,hb2⟩;have HR2:Aa (Bd w2 .u8 (some ⟨gl,0,none⟩) 8 8 (Se pn)):=⟨⟨(Fe pn).symm,As _,by decide,fun _=>hkl.row (Fe pn).symm (As _) (by decide)⟩⟩
   have HH2:=Ab (HHr.out.below hb2 HHr.out.lt);have HBr2:=Ab (HBr.out.trans (hb2.mono HBr.out.size));have HBXr2:=Ab (HBXr.out.below hb2 HBXr.out.lt);have HNL:Aa (0<8->∀q,(some ⟨gl,0,none⟩:Option Addr)=some q->q.block≠g):=⟨fun _ q hq=>by
    cases hq;have:=HHr.out.lt;show gl≠g;omega⟩
   clear hkl hgl hb2 hck
   go_wp2_with fail
   refine(En w2 g _ (some ⟨gl,0,none⟩) 8 8 (Se pn) (HT.out.below HBr2.out HT.out.size) HH2.out (by have:=HGL.out;omega) HR2.out (Wc pn) HNL.out).mono ?_;rintro en w3 ⟨rfl,hb3,hh3⟩;have HH3:=Ab hh3;have HBr3:=Ab (HBr2.out.trans (hb3.below (Nat.le_of_lt HGL.out) HBr2.out.size));have HBXr3:Aa (Af w3 w.heap.size (.slice none 0 0)):=⟨(hb3.block _ HBXr2.out.lt (by have:=HGL.out;omega)).trans HBXr2.out⟩
   clear hh3 hb3
   go_wp2_with fail
   refine(En w3 g _ pp pn pc pb (HT.out.below HBr3.out HT.out.size) HH3.out (by have:=HGL.out;omega) (HOK.out.row.below HBr3.out) HOK.out.bytes HNE.out).mono ?_;rintro en w4 ⟨rfl,hb4,hh4⟩;rw[List.append_assoc,<-HTK.out]at hh4
   have HH4:=Ab hh4;have HBr4:=Ab (HBr3.out.trans (hb4.below (Nat.le_of_lt HGL.out) HBr3.out.size));have HBXr4:Aa (Af w4 w.heap.size (.slice none 0 0)):=⟨(hb4.block _ HBXr3.out.lt (by have:=HGL.out;omega)).trans HBXr3.out⟩
   clear hh4 hb4;go_wp2;go_roundw
   case rel=>exact⟨k+1,by omega,by go_num,HBr4,HH4,HBXr4⟩
   case measure=>simp[intOf];omega
  .obtain rfl:k=n:=by omega
   have hkn':¬(k:Int)<k:=by omega
   have hhr:=HHr.out;rw[List.take_of_length_le (by rw[<-HLN.out];exact As _)]at hhr
   replace HHr:Aa _:=⟨hhr⟩
   clear hhr;obtain⟨MQ,hMQ⟩:∃M,Cg (L.map (·.bs))=M:=⟨_,rfl⟩
   rw[hMQ]at HHr
   have HMQ:=Ab hMQ;clear hMQ
   go_wp2_with fail
   refine(Lh wr g _ (HT.out.below HBr.out HT.out.size) HHr.out).mono ?_;rintro en w5 ⟨q,rfl,hq,hb5,hk5⟩;obtain⟨SS,hSS⟩:∃S,Ie MQ=S:=⟨_,rfl⟩
   have hSl:SS.length=32:=by rw[<-hSS];exact Cd _
   have hS8:Au SS:=by rw[<-hSS];exact Ev _
   rw[hSS]at hk5
   have hrow:Bd w5 .u8 (some ⟨q,0,none⟩) 32 32 SS:=⟨hSl.symm,As _,by decide,fun _=>hk5.row hSl.symm (As _) (by decide)⟩
   have HROW:=Ab hrow;have HS8:=Ab hS8;have HSl:=Ab hSl;have HSS:=Ab hSS;have HB5:=Ab (HBr.out.trans (hb5.mono HBr.out.size));have HBX5:=Ab (HBXr.out.below hb5 HBXr.out.lt);clear hq hb5 hk5 hSS hSl hS8 hrow
   go_wp2_with fail
   refine(Cr w5 _ 32 32 SS HROW.out HS8.out (by decide)).mono ?_;rintro en w6 ⟨q2,m2,d2,rfl,hq2,hb6,_⟩;obtain⟨XX,hXX⟩:∃X,be SS=X:=⟨_,rfl⟩
   rw[hXX]at hq2
   have hb7:Below w6.heap.size w6 (w6.alloc (.cells #[.slice q2 m2 d2] 37)):=Bx;have hX7:=Af.made w6 (.slice q2 m2 d2);obtain⟨w7,hw7⟩:∃w7,w6.alloc (.cells #[.slice q2 m2 d2] 37)=w7:=⟨_,rfl⟩
   rw[hw7]at hb7 hX7
   have hb57:=Ae hb6 hb7;have HNf:Aa (Fit 8 XX (.agg #[.slice q2 m2 d2]) w7):=⟨Fit.of (hq2.below hb7) (by
    rw[<-hXX];have:=HS8.out.reverse.lt;rw[List.length_reverse,HSl.out]at this
    exact Ej this (by decide))⟩
   have HX7:=Ab hX7;have HB7:=Ab (Ae HB5.out hb57);have HBX7:=Ab (HBX5.out.below hb57 HBX5.out.lt);have HNE:Aa (∀x∈([(w6.heap.size,.cells #[.slice q2 m2 d2] 37 (0,0))]:List (Nat×Obj)),x.1≠w.heap.size):=⟨List.forall_mem_cons.2 ⟨by simp only;have h1:=HBX5.out.lt;have h2:=hb6.size;omega,fun x hx=>by cases hx⟩⟩
   have HGr:=Ab ((HB7.out.block b HL2.out.1).trans HGA.out);have HRq:=Ab (HRQ.out.below HB7.out);have HVL:Aa (XX%Q<Ar 33):=⟨Nat.lt_trans (Nat.mod_lt _ (by have:=HRQ.out.two;omega)) HRQ.out.lim⟩
   have HXX:Aa (be (Ie MQ)%Q=XX%Q):=⟨by rw[HSS.out,hXX]⟩
   clear hq2 hb6 hb7 hX7 hb57 hXX;go_wp2;refine Am (by kernel_rfl) (by kernel_rfl)
    [some (.pointer (some ⟨b,0,none⟩)),none,some (.pointer (some ⟨b,0,none⟩)),some (.pointer (some ⟨b,1,none⟩)),some (.pointer (some ⟨rq,0,none⟩)),some (.agg #[.slice q2 m2 d2]),none,none]
    [false,true,false,false,false,false,true,true] rfl
    (fun wA wB=>Ap (w.heap.size) wA wB)
    (fun D sp w'=>RG (w.heap.size) w7 [(w6.heap.size,.cells #[.slice q2 m2 d2] 37 (0,0))] w'/\Pz (D 7) (w.heap.size) (XX%Q) w')
    (fun i v w'=>match i with
     | 1=>v=.pointer (some ⟨b,0,none⟩)
     | 6=>Fit 33 (XX%Q) v w'
     | _=>True)
    ?_ ⟨RG.start HB7.out.size (List.forall_mem_cons.2 ⟨HX7.out,fun x hx=>by cases hx⟩),Pz.fresh HBX7.out⟩ ?_ ?_
   .intro i v wA wB hf hb;split at hf
    .exact hf
    .exact hf.keep hb
    .trivial
   .simp only[Bf,Nat.reduceAdd];refine⟨?_,?_,?_,?_,?_,?_,?_,?_,trivial⟩
    all_goals intro D sp w' hD hW hdp hg
    case refine_2=>
     (with_reducible refine Ac (w1:=w') (f := 81) (args:=#[.pointer (some ⟨b,0,none⟩)]) ?_ ?_ ?_)
     .simp[Region.wanted,yielded,Act.put,go_sem]
     .simp[Act.eval,Act.put,go_sem]
     .refine(Eo w' b).mono ?_;rintro en w9 ⟨rfl,rfl⟩;exact⟨_,rfl,Ap.same _ _,rfl,hg.1,by simpa [upd]using hg.2⟩
    case refine_3=>
     have k1:(sp 1)=.pointer (some ⟨b,0,none⟩):=(hdp 1 (mq (by kernel_rfl))).2
     with_reducible refine Ad ?_ ?_
     all_goals simp[Region.wanted,yielded,execOp,Act.eval,Act.put,go_sem,k1]
    case refine_5=>
     have c0:=(Dc ((hg.1.keep.bel.block b HL2.out.1).trans HGr.out)).2.1
     with_reducible refine Ad ?_ ?_
     all_goals simp[Region.wanted,yielded,execOp,Act.eval,Act.put,go_sem,c0]
    case refine_6=>
     have c0:w'.cell? ⟨w6.heap.size,0,none⟩=some (.slice q2 m2 d2):=Af.cell (hg.1.of List.mem_cons_self)
     with_reducible refine Ad ?_ ?_
     all_goals simp[Region.wanted,yielded,execOp,Act.eval,Act.put,go_sem,c0]
    case refine_7=>
     (with_reducible refine Ac (w1:=w') (f := 31) (args:=#[.pointer (some ⟨rq,0,none⟩),.agg #[.slice q2 m2 d2]]) ?_ ?_ ?_)
     .simp[Region.wanted,yielded,Act.put,go_sem]
     .simp[Act.eval,Act.put,go_sem]
     .refine(Eb (HRq.out.keep HL2.out.2 hg.1.keep) (HNf.out.keep hg.1.keep) (by decide)).mono ?_;rintro en w9 ⟨u,rfl,hu,hb⟩;exact⟨u,rfl,Ap.of hb hg.1.base,hu,hg.1.later hb,by simpa [upd]using hg.2.later hb⟩
    case refine_8=>
     have hx:∃p n c,sp 6=.agg #[.slice p n c]/\Aj w' p n c (XX%Q)/\XX%Q<Ar (33):=(hdp 6 (mq (by kernel_rfl))).2
     (with_reducible refine Ay hx fun p hx1=>Ay hx1 fun n hx2=>Ay hx2 fun c hx3=>?_)
     have h1:=hx3.1;have hp:=hg.2.put (hx3.2.1)
     (with_reducible refine Ay hp fun q hy1=>Ay hy1 fun m hy2=>Ay hy2 fun k hy3=>?_)
     have h6:=hy3.1.cell;have h7:=hy3.1.free
     (with_reducible refine Aq (w1:=w'.setCell ⟨w.heap.size,0,none⟩ (.slice p n c)) ?_ ?_ ?_)
     .simp[Region.wanted,yielded,Act.put,go_sem]
     .simp[execOp,Act.eval,Act.put,go_sem,h1,h6,h7]
     .refine⟨Ap.store hy3.1 (As _) _,trivial,hg.1.store hy3.1 (As _) HNE.out _,?_⟩;have h8:=hy3.2;simpa [upd]using h8
    all_goals ((with_reducible refine Ad ?_ ?_);all_goals first|(simp only[Region.wanted];done)|simp[Region.wanted,yielded,execOp,Act.eval,Act.put,go_sem])
   .intro sp w8 hsp hg;obtain⟨hg1,pz,nz,cz,hz1,hz2⟩:=hg;have kz:=hz1.cell;have HZ:=Ab (hz2 rfl);have HE:=Ab (HB7.out.trans hg1.keep.bel);clear hsp hg1 hz1 hz2;simp only[An,Nat.reduceAdd];generalize sp 1=y1,sp 6=y6,sp 7=y7 at *
    go_simp
    go_wp2;exact bodyPost_ret (v:=.agg #[.slice pz nz cz]) (by simp[results,Tryz.results132,go_sem,kz]) rfl ⟨_,rfl,by rw[HMQ.out,HXX.out];exact Fit.of HZ.out HVL.out,HE.out⟩
theorem kX {M N:Nat}(hM:2<=M):∀(R D O X:Nat) (neg:Bool),Px M N D R O X neg->∃Y,Mx M N Y:=by
 intro R
 induction R using Nat.strongRecOn with
 | _ R ih=>
  intro D O X neg h;rcases Nat.eq_zero_or_pos R with h0|h0
  .subst h0;have h1:=h.done hM
   by_cases hD:D=1
   .exact⟨_,h1.2 hD⟩
   .exact⟨0,fun hg=>absurd (h1.1.trans hg) hD,fun _=>rfl⟩
  .exact ih (D%R) (Nat.mod_lt _ h0) _ _ _ _ (h.step h0)
theorem dA {M:Nat}(hM:2<=M)(N:Nat):∃Y,Mx M N Y:=kX hM _ _ _ _ _ (Px.start (M:=M) (N:=N) (by omega))
noncomputable def Tt (M N:Nat):Nat:=Classical.epsilon fun Y=>Mx M N Y
theorem Ph {M:Nat}(hM:2<=M)(N:Nat):Mx M N (Tt M N):=Classical.epsilon_spec (dA hM N)
theorem eN {M N X:Nat}(hM:2<=M)(h:Mx M N X):X=Tt M N:=h.uniq (Ph hM N)
theorem qB (i:Nat)(hi:i<3):gP i<Ar 3/\gQ i<Ar 3/\gG i<Ar 3:=by
 have h:=Ko i hi;have h1:gP i<Ar 3:=Ej h.2.2.2.2.2 (by decide);have h2:=Wg i hi;refine⟨h1,?_,by omega⟩;rcases Nat.eq_zero_or_pos (Ok i) with h0|h0
 .rw[h0,Nat.mul_zero]at h2;omega
 .have:=Nat.le_mul_of_pos_right (gQ i) h0;omega
theorem dE:∀i,i<3->(Fu i).length<=60
 | 0,_=>by decide
 | 1,_=>by decide
 | 2,_=>by decide
 | _+3,h=>by omega
theorem Vu {P Q g:Nat}(h:g^Q%P=1%P)(a:Nat):g^a%P=g^(a%Q)%P:=by
 have h1:a=Q*(a/Q)+a%Q:=(Nat.div_add_mod a Q).symm;have h2:g^(Q*(a/Q))%P=1%P:=by
  rw[Nat.pow_mul,Nat.pow_mod,h,<-Nat.pow_mod,Nat.one_pow]
 rw[show g^a=g^(Q*(a/Q))*g^(a%Q) by rw[<-Nat.pow_add,<-h1],Nat.mul_mod,h2,<-Nat.mul_mod,Nat.one_mul]
theorem fR {P Q g a b:Nat}(h:g^Q%P=1%P)(hab:a%Q=b%Q):g^a%P=g^b%P:=by
 rw[Vu h a,Vu h b,hab]
theorem Tv (A:Int):((IntKind.u64.wrap A)%3).toNat<3:=by
 have h1:=Int.emod_nonneg (IntKind.u64.wrap A) (show (3:Int)≠0 by decide);have h2:=Int.emod_lt_of_pos (IntKind.u64.wrap A) (show (0:Int)<3 by decide);omega
theorem lB {w:World}{i:Nat}{x y z:Option Addr×Nat×Nat}{pc:Option Addr}{nc cc:Nat}(hi:i<3)(hr:Tabs w)(hx:Gq w x (gP i))(hy:Gq w y (gQ i))(hz:Gq w z (gG i))(hc:Fv w 3 pc nc cc (Fu i)) :
  Calls Tryz.prog 62 #[.agg #[.slice x.1 x.2.1 x.2.2,.slice y.1 y.2.1 y.2.2,.slice z.1 z.2.1 z.2.2,.slice none 0 0],.slice pc nc cc] w fun e w'=>
   ∃b,e=.returned (.tuple #[.pointer (some ⟨b,0,none⟩),.int .i64 0])/\Bc w' b (gP i) (gQ i) (gG i) (gH i)/\Below w.heap.size w w':=by
 obtain⟨l1,l2,l3⟩:=qB i hi;refine(lD (e:=3) (seed:=[]) hr hx l1 hy l2 hz l3 (Zm w) hc (by rw[hc.len];exact dE i hi) (dF i hi) (by decide)).mono ?_;rintro en w' ⟨_,h0,_,hbl⟩;rw[fW i hi]at h0
 obtain⟨b,rfl,hg⟩:=h0 (by decide) rfl;exact⟨b,rfl,hg,hbl⟩
theorem Fw (w:World)(A:Int)(hr:Tabs w) :
  Calls Tryz.prog 14 #[.int .i64 A,.slice none 0 0] w fun e w'=>∃b,e=.returned (.pointer (some ⟨b,0,none⟩))/\Bc w' b (gP ((IntKind.u64.wrap A)%3).toNat) (gQ ((IntKind.u64.wrap A)%3).toNat) (gG ((IntKind.u64.wrap A)%3).toNat) (gH ((IntKind.u64.wrap A)%3).toNat)/\Below w.heap.size w w':=by
 have HR:=Ab hr;have hi:=Tv A;obtain⟨i,ei⟩:∃i,((IntKind.u64.wrap A)%3).toNat=i:=⟨_,rfl⟩
 have HN:=Ab (Uz w A none 0 0);rw[ei]at hi HN ⊢
 have HI:=Ab hi;clear hr hi ei;go_enter Tryz.func14,Tryz.ntmps14
 go_wp2_with fail
 refine HN.out.mono ?_;rintro en w1 ⟨x,y,z,pc,nc,cc,rfl,h1,h2,h3,h4,b1⟩;have HH:=Ab (lB HI.out (HR.out.below b1 HR.out.size) h1 h2 h3 h4);have B1:=Ab b1;clear h1 h2 h3 h4 b1 HN
 go_wp2_with fail
 refine HH.out.mono ?_;rintro en w2 ⟨b,rfl,hg,b2⟩;have HG:=Ab hg;have B2:=Ab (Ae B1.out b2);clear hg b2 HH B1;go_wp2;go_ret;exact⟨b,rfl,HG.out,B2.out⟩
open Go Go.RowKit
def Fs:List Nat:=[115,105,103,110]
def Hd (P Q A Y:Nat)(msg:List Nat):Nat:=be (Ie (Cg [Fs,Az A (Ak P),Az Y (Ak P),msg]))%Q
def eP (Q x:Nat)(msg:List Nat):Nat:=be ((Ex (Az x (Ak Q)) msg ((64+31)/32)).take 64)
def Sw (Q x:Nat)(msg:List Nat):Nat:=if eP Q x msg%Q=0 then 1 else eP Q x msg%Q
def jT (P Q G x:Nat)(msg:List Nat):Nat:=Hd P Q (G^Sw Q x msg%P) (G^x%P) msg
def jS (P Q G x:Nat)(msg:List Nat):Nat:=(Sw Q x msg+jT P Q G x msg*x%Q)%Q
def Lv (P Q G x:Nat)(msg:List Nat):List Nat:=Az (jT P Q G x msg) (Ak Q)++Az (jS P Q G x msg) (Ak Q)
noncomputable def Sx (P G y c s:Nat):Nat:=G^s%P*(Tt P y^c%P)%P
def Hc (Q:Nat)(sig:List Nat):Prop:=sig.length=2*Ak Q/\be (sig.take (Ak Q))<Q/\be (sig.drop (Ak Q))<Q
def Qf (P Q y:Nat):Prop:=0<y/\y<P/\y^Q%P=1
noncomputable def Cv (P Q G y:Nat) (msg sig:List Nat):Prop :=
 Hc Q sig/\Qf P Q y/\Hd P Q (Sx P G y (be (sig.take (Ak Q))) (be (sig.drop (Ak Q)))) y msg=be (sig.take (Ak Q))
theorem eS {N n:Nat}(h:N<B8 n):be (Az N n)=N:=by
 unfold be Az;rw[List.reverse_reverse,Sd,Nat.mod_eq_of_lt h]
theorem oG {P Q y:Nat}(hQ:0<Q)(h:y^Q%P=1):Nat.gcd P y=1:=by
 have h1:Nat.gcd P y ∣ y^Q:=Nat.dvd_trans (Nat.gcd_dvd_right _ _) (Nat.dvd_trans (by rw[Nat.pow_one];exact Nat.dvd_refl _) (Nat.pow_dvd_pow y (show 1<=Q from hQ)));have h2:Nat.gcd P y ∣ P*(y^Q/P):=Nat.dvd_trans (Nat.gcd_dvd_left _ _) (Nat.dvd_mul_right _ _);have h3:=Nat.div_add_mod (y^Q) P;rw[h]at h3
 have h5:y^Q-P*(y^Q/P)=1:=by omega
 have h4:Nat.gcd P y ∣ y^Q-P*(y^Q/P):=Nat.dvd_sub h1 h2;rw[h5]at h4
 exact Nat.dvd_one.1 h4
theorem eM {P Q G:Nat}(hP:2<=P)(hQ:0<Q)(hG:G^Q%P=1)(x:Nat):Qf P Q (G^x%P):=by
 have h1:(G^x%P)^Q%P=1:=by
  rw[<-Nat.pow_mod,<-Nat.pow_mul,Nat.mul_comm,Nat.pow_mul,Nat.pow_mod,hG,Nat.one_pow,Nat.mod_eq_of_lt (by omega)]
 refine⟨Nat.pos_of_ne_zero fun h=>?_,Nat.mod_lt _ (by omega),h1⟩;rw[h,Nat.zero_pow hQ,Nat.zero_mod]at h1
 omega
theorem jR {P Q G x k c:Nat}(hP:2<=P)(hQ:0<Q)(hG:G^Q%P=1):Sx P G (G^x%P) c ((k+c*x%Q)%Q)=G^k%P:=by
 have hG1:G^Q%P=1%P:=by rw[hG,Nat.mod_eq_of_lt (by omega)]
 have hi:=(Ph hP (G^x%P)).1 (oG hQ (eM hP hQ hG x).2.2);obtain⟨Z,hZ⟩:∃Z,Tt P (G^x%P)=Z:=⟨_,rfl⟩
 unfold Sx;rw[hZ]at hi ⊢
 have h2:G^((k+c*x%Q)%Q)%P=G^(k+c*x)%P:=fR hG1 (by rw[Nat.mod_mod,Nat.add_mod_mod]);rw[h2,<-Nat.mul_mod,Nat.pow_add,Nat.mul_assoc,Nat.mul_comm c x,Nat.pow_mul,<-Nat.mul_pow,Nat.mul_mod,Nat.pow_mod (G^x*Z),Nat.mul_comm (G^x) Z,<-Nat.mul_mod_mod Z,hi.2,<-Nat.pow_mod,Nat.one_pow,<-Nat.mul_mod,Nat.mul_one]
theorem qE {Q c s:Nat}(hc:c<Q)(hs:s<Q):Hc Q (Az c (Ak Q)++Az s (Ak Q))/\be ((Az c (Ak Q)++Az s (Ak Q)).take (Ak Q))=c/\be ((Az c (Ak Q)++Az s (Ak Q)).drop (Ak Q))=s:=by
 have hl:=Dj Q;have h1:(Az c (Ak Q)++Az s (Ak Q)).take (Ak Q)=Az c (Ak Q):=by
  rw[List.take_append_of_le_length (by rw[Bq];exact As _),List.take_of_length_le (by rw[Bq];exact As _)]
 have h2:(Az c (Ak Q)++Az s (Ak Q)).drop (Ak Q)=Az s (Ak Q):=by
  rw[List.drop_append_of_le_length (by rw[Bq];exact As _),List.drop_of_length_le (by rw[Bq];exact As _),List.nil_append]
 have e1:be (Az c (Ak Q))=c:=eS (by omega);have e2:be (Az s (Ak Q))=s:=eS (by omega);unfold Hc;rw[h1,h2,e1,e2];exact⟨⟨by rw[List.length_append,Bq,Bq];omega,hc,hs⟩,rfl,rfl⟩
theorem Vq {P Q G x k c:Nat}{msg:List Nat}(hP:2<=P)(hG:G^Q%P=1)(hc:c<Q) :
  Cv P Q G (G^x%P) msg (Az c (Ak Q)++Az ((k+c*x%Q)%Q) (Ak Q)) ↔ Hd P Q (G^k%P) (G^x%P) msg=c:=by
 have hQ:0<Q:=by omega
 obtain⟨h1,h2,h3⟩:=qE (s:=(k+c*x%Q)%Q) hc (Nat.mod_lt _ hQ);unfold Cv;rw[h2,h3,jR hP hQ hG];exact⟨fun h=>h.2.2,fun h=>⟨h1,eM hP hQ hG x,h⟩⟩
theorem Iw {P Q A Y:Nat}{msg:List Nat}(hQ:0<Q):Hd P Q A Y msg<Q:=Nat.mod_lt _ hQ
theorem Sv {P Q G x:Nat}{msg:List Nat}(hP:2<=P)(hQ:0<Q)(hG:G^Q%P=1):Cv P Q G (G^x%P) msg (Lv P Q G x msg):=by
 unfold Lv jS;refine(Vq hP hG (Iw hQ)).2 ?_;rfl
theorem Jo (P Q G x:Nat)(msg:List Nat):(Lv P Q G x msg).length=2*Ak Q:=by
 unfold Lv;rw[List.length_append,Bq,Bq];omega
structure KN (B:Nat) (w w':World):Prop where
 k:Ap B w w'
 blk:∀(g:Nat) (o:Obj),w.heap[g]? = some o->(∀q m d,o≠.cells #[.slice q m d] 37 (0,0))->w'.heap[g]? = some o
theorem KN.of {B:Nat}{w w':World}(h:Below w.heap.size w w')(hB:B<=w.heap.size):KN B w w':=⟨Ap.of h hB,fun g o ho _=>by rw[h.block g (Kv ho).1];exact ho⟩
theorem KN.same (B:Nat)(w:World):KN B w w:=⟨Ap.same _ _,fun _ _ h _=>h⟩
theorem KN.store {B b m d:Nat}{q:Option Addr}{w:World}(hb:Af w b (.slice q m d))(hB:B<=b)(v:Value):KN B w (w.setCell ⟨b,0,none⟩ v):=⟨Ap.store hb hB v,fun g o ho hn=>by
 have hne:g≠b:=fun e=>by
  subst e;unfold Af at hb;rw[hb]at ho
  cases ho;exact hn _ _ _ rfl
 simp[World.setCell,Array.getElem?_modify,hne.symm];exact ho⟩
theorem Fit.kn {e N B:Nat}{v:Value}{w w':World}(h:Fit e N v w)(k:KN B w w'):Fit e N v w':=h.keep k.k
theorem Gh.kn {e N B:Nat}{t v:Value}{w w':World}(h:Gh e N t v w)(k:KN B w w'):Gh e N t v w':=h.keep k.k
theorem Ring.kn {B r M f:Nat}{w w':World}(h:Ring w r M f)(k:KN B w w'):Ring w' r M f:=by
 obtain⟨p,n,c,h1,h2,h3⟩:=h.at_.ex
 exact⟨⟨p,n,c,k.blk _ _ h1 (fun _ _ _=>by simp),k.k.nat _ _ _ _ h2,h3⟩,h.two,h.lim,h.few⟩
def Us (Q:Nat)(v:Value)(w:World):Prop:=(∃b P G H,v=.pointer (some ⟨b,0,none⟩)/\Bc w b P Q G H) ∨ (v=.pointer none/\Q=0)
theorem Us.below {Q:Nat}{v:Value}{w w':World}(h:Us Q v w)(hb:Below w.heap.size w w'):Us Q v w':=by
 rcases h with ⟨b,P,G,H,h1,h2⟩|h
 .exact .inl ⟨b,P,G,H,h1,h2.below hb⟩
 .exact .inr h
theorem Us.of {w:World}{b P Q G H:Nat}(h:Bc w b P Q G H):Us Q (.pointer (some ⟨b,0,none⟩)) w:=.inl ⟨b,P,G,H,rfl,h⟩
structure qY (B:Nat) (w:World) (Q:Nat) (v:Value):Prop where
 ex:∃w0,Us Q v w0/\w0.heap.size<=B/\Ap B w0 w
theorem qY.of {B:Nat}{w w':World}{Q:Nat}{v:Value}(h:Us Q v w)(hB:w.heap.size<=B)(k:Below w.heap.size w w')(hB2:B<=w.heap.size:=by exact As _):qY B w' Q v:=⟨w,h,hB,Ap.of k hB2⟩
theorem qY.keep {B:Nat}{w w':World}{Q:Nat}{v:Value}(h:qY B w Q v)(k:Ap B w w'):Us Q v w':=by
 obtain⟨w0,h1,h2,h3⟩:=h.ex;rcases h1 with ⟨b,P,G,H,h4,h5⟩|h4
 .exact .inl ⟨b,P,G,H,h4,h5.keep h2 (h3.trans k)⟩
 .exact .inr h4
def RQ (Q:Nat)(v:Value)(w:World):Prop:=(∃r,v=.pointer (some ⟨r,0,none⟩)/\Ring w r Q 33) ∨ (v=.pointer none/\Q=0)
theorem RQ.kn {Q B:Nat}{v:Value}{w w':World}(h:RQ Q v w)(k:KN B w w'):RQ Q v w':=by
 rcases h with ⟨r,h1,h2⟩|h
 .exact .inl ⟨r,h1,h2.kn k⟩
 .exact .inr h
theorem Oe {w:World}{Q:Nat}{g0:Value}(h:Us Q g0 w) :
  Calls Tryz.prog 30 #[g0] w fun en w'=>∃x,en=.returned x/\RQ Q x w'/\Below w.heap.size w w':=by
 rcases h with ⟨b,P,G,H,rfl,h2⟩|⟨rfl,rfl⟩
 .refine(Ja h2).mono ?_;rintro en w' ⟨r,rfl,hr,hb⟩;exact⟨_,rfl,.inl ⟨r,rfl,hr⟩,hb⟩
 .refine(dB w).mono ?_;rintro en w' ⟨rfl,hb⟩;exact⟨_,rfl,.inr ⟨rfl,rfl⟩,hb⟩
theorem Zh {w:World}{Q:Nat}{r0:Value}(h:RQ Q r0 w) :
  Calls Tryz.prog 57 #[r0] w fun en w'=>∃x,en=.returned x/\Fit 33 Q x w'/\Below w.heap.size w w':=by
 rcases h with ⟨r,rfl,h2⟩|⟨rfl,rfl⟩
 .exact Fd h2
 .refine(Rg w).mono ?_;rintro en w' ⟨rfl,hb⟩;exact⟨_,rfl,Fit.of (Aj.nil _) (by decide),hb⟩
theorem Jd {N M:Nat}:Bo N M<0 ↔ N<M:=by
 unfold Bo;split
 .simp_all
 .split<;>simp_all<;>omega
theorem dR {N:Nat}(h:N<Ar 33):Ao N<=1056:=by
 have:=Gu h;omega
theorem Fg {w:World}{Q:Nat}{g0:Value}(h:Us Q g0 w) :
  Calls Tryz.prog 130 #[g0] w fun en w'=>en=.returned (.int .i64 (Ak Q:Nat))/\Below w.heap.size w w':=by
 have HQ:=Ab h;clear h;go_enter Tryz.func130,Tryz.ntmps130
 go_wp2_with fail
 refine(Oe HQ.out).mono ?_;rintro en w1 ⟨r0,rfl,hr,hb1⟩;have HR:=Ab hr;have HB1:=Ab hb1;clear hr hb1
 go_wp2_with fail
 refine(Zh HR.out).mono ?_;rintro en w2 ⟨_,rfl,⟨p,n,c,rfl,h1,h2⟩,hb2⟩;have HN:=Ab h1;have hn:n<1000000:=by have:=h1.len_le h2;omega
 have hl:Ao Q<=1056:=dR h2;have HB2:=Ab (Ae HB1.out hb2);have HS:Aa (Ak Q=(Ao Q+7)/8):=⟨rfl⟩
 clear h1 h2 hb2
 go_wp2_with fail
 refine(Fj _ p n c Q HN.out hn).mono ?_;rintro en w3 ⟨rfl,hb3⟩;have HB3:=Ab (Ae HB2.out hb3);clear hb3;obtain⟨L,hL⟩:∃L,Ao Q=L:=⟨_,rfl⟩
 rw[hL]at hl HS
 simp only[hL];clear hL;go_wp2;go_ret;refine⟨?_,HB3.out⟩;rw[HS.out];exact congrArg (fun z=>Ending.returned (.int .i64 z)) (by omega)
theorem Za {w:World}{Q:Nat}{g0:Value}(h:Us Q g0 w)(hq:Ak Q<=16) :
  Calls Tryz.prog 77 #[g0] w fun en w'=>en=.returned (.int .i64 (2*Ak Q:Nat))/\Below w.heap.size w w':=by
 have HQ:=Ab h;clear h;go_enter Tryz.func77,Tryz.ntmps77
 go_wp2_with fail
 refine(Fg HQ.out).mono ?_;rintro en w1 ⟨rfl,hb1⟩;have HB1:=Ab hb1;clear hb1;obtain⟨L,hL⟩:∃L,Ak Q=L:=⟨_,rfl⟩
 have HL:=Ab hL;rw[hL]at hq
 simp only[hL];clear hL HQ;go_wp2;go_ret;refine⟨?_,HB1.out⟩;rw[HL.out];show Ending.returned (.int .i64 (2*(L:Int)))=Ending.returned (.int .i64 ((2*L:Nat):Int));rw[Int.natCast_mul];rfl
theorem Qe {w:World}{Q:Nat}{g0:Value}(h:Us Q g0 w)(hq:Ak Q<=16) :
  Calls Tryz.prog 23 #[g0] w fun en w'=>en=.returned (.int .i64 (2*Ak Q:Nat))/\Below w.heap.size w w':=by
 have HS:=Ab (Za h hq);obtain⟨L,hL⟩:∃L,2*Ak Q=L:=⟨_,rfl⟩
 rw[hL]at HS ⊢
 clear h hL hq;go_enter Tryz.func23,Tryz.ntmps23
 go_wp2_with fail
 refine HS.out.mono ?_;rintro en w1 ⟨rfl,hb1⟩;have HB1:=Ab hb1;clear hb1;go_wp2;go_ret;exact⟨rfl,HB1.out⟩
theorem Hy {w:World}{Q e A:Nat}{g0 v:Value}(h:Us Q g0 w)(hv:Fit e A v w)(he:e<=30000) :
  Calls Tryz.prog 70 #[g0,v] w fun en w'=>en=.returned (.bool (decide (A<Q)))/\Below w.heap.size w w':=by
 obtain⟨pa,na,ca,rfl,h1,h2⟩:=Aw hv;have hb1:=Af.made w (.slice pa na ca);have hbel:Below w.heap.size w (w.alloc (.cells #[.slice pa na ca] 37)):=Bx;obtain⟨wa,hwa⟩:∃wa,w.alloc (.cells #[.slice pa na ca] 37)=wa:=⟨_,rfl⟩
 rw[hwa]at hb1 hbel
 have HA:=Ab ((Fit.of h1 h2).below hbel);have HBX:=Ab hb1;have HB:=Ab hbel;have HQ:=Ab (qY.of h (As _) hbel);obtain⟨K,hK⟩:∃K,Bo A Q=K:=⟨_,rfl⟩
 have HK:=Ab hK;obtain⟨X,hX⟩:∃X,decide (A<Q)=X:=⟨_,rfl⟩
 have hE:decide (K<0)=X:=by
  rw[<-hK,<-hX];exact decide_eq_decide.2 Jd
 rw[hX];clear hK hX h1 h2 hb1 hbel h hv;go_enter Tryz.func70,Tryz.ntmps70;go_wp2;refine Am (by kernel_rfl) (by kernel_rfl)
  [some (.agg #[.slice pa na ca]),some (g0),none,none,none,some (.bool X),some (.bool X)]
  [false,false,true,true,true,false,false] rfl
  (fun wA wB=>KN (w.heap.size) wA wB)
  (fun D sp w'=>RG (w.heap.size) wa [(w.heap.size,.cells #[.slice pa na ca] 37 (0,0))] w'/\True)
  (fun i v w'=>match i with
   | 2=>RQ Q v w'
   | 3=>Fit 33 Q v w'
   | 4=>v=.int .i64 K
   | _=>True)
  ?_ ⟨RG.start HB.out.size (List.forall_mem_cons.2 ⟨HBX.out,fun x hx=>by cases hx⟩),trivial⟩ ?_ ?_
 .intro i v wA wB hf hb;split at hf
  .exact hf.kn hb
  .exact hf.kn hb
  .exact hf
  .trivial
 .simp only[Bf,Nat.reduceAdd];refine⟨?_,?_,?_,?_,?_,?_,?_,trivial⟩
  all_goals intro D sp w' hD hW hdp hg
  case refine_1=>
   have c0:w'.cell? ⟨w.heap.size,0,none⟩=some (.slice pa na ca):=Af.cell (hg.1.of List.mem_cons_self)
   with_reducible refine Ad ?_ ?_
   all_goals simp[Region.wanted,yielded,execOp,Act.eval,Act.put,go_sem,c0]
  case refine_3=>
   (with_reducible refine Ac (w1:=w') (f := 30) (args:=#[g0]) ?_ ?_ ?_)
   .simp[Region.wanted,yielded,Act.put,go_sem]
   .simp[Act.eval,Act.put,go_sem]
   .refine(Oe (HQ.out.keep hg.1.keep)).mono ?_;rintro en w9 ⟨u,rfl,hu,hb⟩;exact⟨u,rfl,KN.of hb hg.1.base,hu,hg.1.later hb,trivial⟩
  case refine_4=>
   have k2:RQ Q (sp 2) w':=(hdp 2 (mq (by kernel_rfl))).2
   (with_reducible refine Ac (w1:=w') (f := 57) (args:=#[sp 2]) ?_ ?_ ?_)
   .simp[Region.wanted,yielded,Act.put,go_sem]
   .simp[Act.eval,Act.put,go_sem]
   .refine(Zh k2).mono ?_;rintro en w9 ⟨u,rfl,hu,hb⟩;exact⟨u,rfl,KN.of hb hg.1.base,hu,hg.1.later hb,trivial⟩
  case refine_5=>
   have k3:Fit 33 Q (sp 3) w':=(hdp 3 (mq (by kernel_rfl))).2
   (with_reducible refine Ac (w1:=w') (f := 24) (args:=#[.agg #[.slice pa na ca],sp 3]) ?_ ?_ ?_)
   .simp[Region.wanted,yielded,Act.put,go_sem]
   .simp[Act.eval,Act.put,go_sem]
   .refine(Bu (HA.out.keep hg.1.keep) k3 (by omega) (by decide) HK.out).mono ?_;rintro en w9 ⟨u,rfl,rfl,hb⟩;exact⟨_,rfl,KN.of hb hg.1.base,rfl,hg.1.later hb,trivial⟩
  case refine_6=>
   have k4:(sp 4)=.int .i64 K:=(hdp 4 (mq (by kernel_rfl))).2
   with_reducible refine Ad ?_ ?_
   all_goals simp[Region.wanted,yielded,execOp,Act.eval,Act.put,go_sem,k4,hE]
  all_goals ((with_reducible refine Ad ?_ ?_);all_goals first|(simp only[Region.wanted];done)|simp[Region.wanted,yielded,execOp,Act.eval,Act.put,go_sem])
 .intro sp w7 hsp hg;have HB7:=Ab (HB.out.trans hg.1.keep.bel);clear hsp hg;simp only[An,Nat.reduceAdd];generalize sp 2=y2,sp 3=y3,sp 4=y4 at *
  go_simp
  go_wp2;go_ret;exact⟨rfl,HB7.out⟩
theorem Kl {w:World}{b P Q G H e A:Nat}{v:Value}(h:Bc w b P Q G H)(hv:Fit e A v w)(he:e<=30000)(hk:0<A/\A<Q) :
  Calls Tryz.prog 18 #[.pointer (some ⟨b,0,none⟩),v] w fun en w'=>∃x,en=.returned (.tuple #[x,.int .i64 0])/\Fit 33 (G^A%P) x w'/\Below w.heap.size w w':=by
 obtain⟨pa,na,ca,rfl,h1,h2⟩:=Aw hv;have hbx:=eU.mk2 w (.slice pa na ca) (.slice none 0 0);obtain⟨wa,hwa⟩:∃wa,(w.alloc (.cells #[.slice pa na ca] 37)).alloc (.cells #[.slice none 0 0] 37)=wa:=⟨_,rfl⟩
 rw[hwa]at hbx
 have HBX:=Ab hbx;have HA0:=Ab ((Fit.of h1 h2).below hbx.bel);have HGA:=Ab h;have HQ0:=Ab (Us.of (h.below hbx.bel));have c0:=hbx.b0.cell;have HZ:=Ab (decide_eq_false (show ¬A=0 by omega));have HANS:=Ab (decide_eq_true hk.2);obtain⟨X,hX⟩:∃X,G^A%P=X:=⟨_,rfl⟩
 have HX:=Ab hX;have HLX:Aa (X<Ar 33):=⟨by rw[<-hX];exact Nat.lt_trans (Nat.mod_lt _ (by have:=h.lims.1;omega)) h.lims.2.1⟩
 rw[hX];clear hX;clear h1 h2 hbx h hv hk;go_enter Tryz.func18,Tryz.ntmps18
 go_wp2_with fail
 refine(Dw HA0.out HZ.out).mono ?_;rintro en w0 ⟨_,rfl,rfl,hb0⟩;have hx0:=HBX.out.later hb0;have HX0:=Ab hx0;have HA1:=Ab (HA0.out.below hb0);have HQ1:=Ab (HQ0.out.below hb0);clear c0 hb0;have c0:=hx0.b0.cell;clear hx0
 go_wp2_with fail
 refine(Hy HQ1.out HA1.out he).mono ?_;rintro en w1 ⟨rfl,hb1⟩;rw[HANS.out];have hx1:=HX0.out.later hb1;have HX1:=Ab hx1;have HA:=Ab (HA1.out.below hb1);have HG:=Ab (Jt.of HGA.out (As _) hx1.bel);have HB0:Aa (w.heap.size<=w.heap.size+1):=⟨by omega⟩
 have HNE:Aa (∀x∈[((w.heap.size,.cells #[.slice pa na ca] 37 (0,0)):Nat×Obj)],x.1≠w.heap.size+1):=⟨List.forall_mem_cons.2 ⟨by simp only;omega,fun x hx=>by cases hx⟩⟩
 clear hb1 hx1 c0 hwa HBX HA0 HX0 HA1 HQ1 HQ0;go_wp2;refine Am (by kernel_rfl) (by kernel_rfl)
  [some (.pointer (some ⟨b,0,none⟩)),some (.pointer (some ⟨b,0,none⟩)),none,some (.agg #[.slice pa na ca]),none,none,some (.int .i64 0)]
  [false,false,true,false,true,true,false] rfl
  (fun wA wB=>Ap (w.heap.size) wA wB)
  (fun D sp w'=>RG (w.heap.size) w1 [(w.heap.size,.cells #[.slice pa na ca] 37 (0,0))] w'/\Pz (D 5) (w.heap.size+1) (X) w')
  (fun i v w'=>match i with
   | 2=>Fit 33 G v w'
   | 4=>Fit 33 (X) v w'
   | _=>True)
  ?_ ⟨RG.start HX1.out.bel.size (List.forall_mem_cons.2 ⟨HX1.out.b0,fun x hx=>by cases hx⟩),Pz.fresh HX1.out.b1⟩ ?_ ?_
 .intro i v wA wB hf hb;split at hf
  .exact hf.keep hb
  .exact hf.keep hb
  .trivial
 .simp only[Bf,Nat.reduceAdd];refine⟨?_,?_,?_,?_,?_,?_,?_,trivial⟩
  all_goals intro D sp w' hD hW hdp hg
  case refine_3=>
   (with_reducible refine Ac (w1:=w') (f := 26) (args:=#[.pointer (some ⟨b,0,none⟩)]) ?_ ?_ ?_)
   .simp[Region.wanted,yielded,Act.put,go_sem]
   .simp[Act.eval,Act.put,go_sem]
   .refine(Mm (HG.out.keep hg.1.keep)).mono ?_;rintro en w9 ⟨u,rfl,hu,hb⟩;exact⟨u,rfl,Ap.of hb hg.1.base,hu,hg.1.later hb,by simpa [upd]using hg.2.later hb⟩
  case refine_4=>
   have c0:w'.cell? ⟨w.heap.size,0,none⟩=some (.slice pa na ca):=Af.cell (hg.1.of List.mem_cons_self)
   with_reducible refine Ad ?_ ?_
   all_goals simp[Region.wanted,yielded,execOp,Act.eval,Act.put,go_sem,c0]
  case refine_5=>
   have k2:Fit 33 G (sp 2) w':=(hdp 2 (mq (by kernel_rfl))).2
   (with_reducible refine Ac (w1:=w') (f := 25) (args:=#[.pointer (some ⟨b,0,none⟩),sp 2,.agg #[.slice pa na ca]]) ?_ ?_ ?_)
   .simp[Region.wanted,yielded,Act.put,go_sem]
   .simp[Act.eval,Act.put,go_sem]
   .refine(Jb (HG.out.keep hg.1.keep) k2 (HA.out.keep hg.1.keep) (by decide) (by omega)).mono ?_;rintro en w9 ⟨u,rfl,hu,hb⟩;rw[HX.out]at hu
    exact⟨u,rfl,Ap.of hb hg.1.base,hu,hg.1.later hb,by simpa [upd]using hg.2.later hb⟩
  case refine_6=>
   have hx:∃p n c,sp 4=.agg #[.slice p n c]/\Aj w' p n c (X)/\X<Ar (33):=(hdp 4 (mq (by kernel_rfl))).2
   (with_reducible refine Ay hx fun p hx1=>Ay hx1 fun n hx2=>Ay hx2 fun c hx3=>?_)
   have h1:=hx3.1;have hp:=hg.2.put (hx3.2.1)
   (with_reducible refine Ay hp fun q hy1=>Ay hy1 fun m hy2=>Ay hy2 fun k hy3=>?_)
   have h6:=hy3.1.cell;have h7:=hy3.1.free
   (with_reducible refine Aq (w1:=w'.setCell ⟨w.heap.size+1,0,none⟩ (.slice p n c)) ?_ ?_ ?_)
   .simp[Region.wanted,yielded,Act.put,go_sem]
   .simp[execOp,Act.eval,Act.put,go_sem,h1,h6,h7]
   .refine⟨Ap.store hy3.1 HB0.out _,trivial,hg.1.store hy3.1 HB0.out HNE.out _,?_⟩;have h8:=hy3.2;simpa [upd]using h8
  all_goals ((with_reducible refine Ad ?_ ?_);all_goals first|(simp only[Region.wanted];done)|simp[Region.wanted,yielded,execOp,Act.eval,Act.put,go_sem])
 .intro sp w7 hsp hg;obtain⟨hg1,pz,nz,cz,hz1,hz2⟩:=hg;have kz:=hz1.cell;have HZ:=Ab (hz2 rfl);have HB7:=Ab (HX1.out.bel.trans hg1.keep.bel);clear hsp hg1 hz1 hz2;simp only[An,Nat.reduceAdd];generalize sp 2=y2,sp 4=y4,sp 5=y5 at *
  go_simp
  go_wp2;exact bodyPost_ret (v:=.tuple #[.agg #[.slice pz nz cz],.int .i64 0]) (by simp[results,Tryz.results18,go_sem,kz]) rfl ⟨_,rfl,Fit.of HZ.out HLX.out,HB7.out⟩
theorem Ti {w:World}{b P Q G H e A:Nat}{v:Value}(h:Bc w b P Q G H)(hv:Fit e A v w)(he:e<=30000)(hk:¬(0<A/\A<Q)) :
  Calls Tryz.prog 18 #[.pointer (some ⟨b,0,none⟩),v] w fun en w'=>en=.returned (.tuple #[.agg #[.slice none 0 0],.int .i64 1])/\Below w.heap.size w w':=by
 obtain⟨pa,na,ca,rfl,h1,h2⟩:=Aw hv;have hbx:=eU.mk2 w (.slice pa na ca) (.slice none 0 0);obtain⟨wa,hwa⟩:∃wa,(w.alloc (.cells #[.slice pa na ca] 37)).alloc (.cells #[.slice none 0 0] 37)=wa:=⟨_,rfl⟩
 rw[hwa]at hbx
 have HBX:=Ab hbx;have HA0:=Ab ((Fit.of h1 h2).below hbx.bel);have HGA:=Ab h;have HQ0:=Ab (Us.of (h.below hbx.bel));have c0:=hbx.b0.cell;clear h1 h2 hbx h hv
 by_cases h0:A=0
 .have HZ:Aa _:=⟨decide_eq_true h0⟩
  clear h0 hk;go_enter Tryz.func18,Tryz.ntmps18
  go_wp2_with fail
  refine(Dw HA0.out HZ.out).mono ?_;rintro en w1 ⟨_,rfl,rfl,hb1⟩;have hx1:=HBX.out.later hb1;have hz:=hx1.b1;have kz:=hz.cell;have fz:=hz.free;have ks:=(hz.set (.slice none 0 0)).cell;have HB2:Aa (Below w.heap.size w (w1.setCell ⟨w.heap.size+1,0,none⟩ (.slice none 0 0))):=⟨hx1.bel.setCell (by simp) _⟩
  clear hb1 hx1 c0 hz;go_wp2;exact bodyPost_ret (v:=.tuple #[.agg #[.slice none 0 0],.int .i64 1]) (by simp[results,Tryz.results18,go_sem,ks]) rfl ⟨rfl,HB2.out⟩
 .have HZ:Aa _:=⟨decide_eq_false h0⟩
  have HANS:=Ab (decide_eq_false (show ¬A<Q by omega));clear h0 hk;go_enter Tryz.func18,Tryz.ntmps18
  go_wp2_with fail
  refine(Dw HA0.out HZ.out).mono ?_;rintro en w0 ⟨_,rfl,rfl,hb0⟩;have hx0:=HBX.out.later hb0;have HX0:=Ab hx0;have HA1:=Ab (HA0.out.below hb0);have HQ1:=Ab (HQ0.out.below hb0);clear c0 hb0;have c0:=hx0.b0.cell;clear hx0
  go_wp2_with fail
  refine(Hy HQ1.out HA1.out he).mono ?_;rintro en w1 ⟨rfl,hb1⟩;rw[HANS.out];have hx1:=HX0.out.later hb1;have hz:=hx1.b1;have kz:=hz.cell;have fz:=hz.free;have ks:=(hz.set (.slice none 0 0)).cell;have HB2:Aa (Below w.heap.size w (w1.setCell ⟨w.heap.size+1,0,none⟩ (.slice none 0 0))):=⟨hx1.bel.setCell (by simp) _⟩
  clear hb1 hx1 c0 hz;go_wp2;exact bodyPost_ret (v:=.tuple #[.agg #[.slice none 0 0],.int .i64 1]) (by simp[results,Tryz.results18,go_sem,ks]) rfl ⟨rfl,HB2.out⟩
end Go.Proofs.YtokhckjemidbpaaGreatDoor
