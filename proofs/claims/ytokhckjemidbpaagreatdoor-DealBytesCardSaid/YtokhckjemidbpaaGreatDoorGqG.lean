/- Whether a group's parameters are too long; New of a group, of the program. -/
import Derived.Test.YtokhckjemidbpaaGreatDoorGqF
set_option maxRecDepth 1000000
set_option maxHeartbeats 16000000
set_option linter.all false
namespace Go.Proofs.YtokhckjemidbpaaGreatDoor
open Go Go.RowKit Go.Proofs.YtokhckjemidbpaaGreatDoor.Flow
theorem Ws (w:World)(e:Nat)(Ns:List Nat)(he:e<=32):Asks 175 #[] w e Ns (fun _=>false):=by
 refine⟨fun W M u _ _ hu=>?_⟩;rw[Array.append_empty];obtain⟨p,n,c,rfl,h1,h2⟩:=hu;have hb1:=Ae.made W (.slice p n c);have hbel:Below W.heap.size W (W.alloc (.cells #[.slice p n c] 37)):=By;obtain⟨wa,hwa⟩:∃wa,W.alloc (.cells #[.slice p n c] 37)=wa:=⟨_,rfl⟩
 rw[hwa]at hb1 hbel
 have HF:=Ac ((Fit.of h1 h2).below hbel);have HB:=Ac hbel;have hs:=Rl he h2;have c0:=hb1.cell;clear h1 h2 hb1 hbel;go_enter Tryz.func175,Tryz.ntmps175
 go_wp2_with fail
 refine(Nr HF.out (by omega)).mono ?_;rintro en w1 ⟨rfl,hb1⟩;have HB1:=Ac (Ab HB.out hb1);obtain⟨sz,hsz⟩:∃s,Ao M=s:=⟨_,rfl⟩
 rw[hsz]at hs ⊢
 have hn:decide ((128:Int)<(sz:Int))=false:=decide_eq_false (by omega);have HN:=Ac hn;clear hb1 c0 hsz hn;go_wp2;go_ret;exact⟨by rw[<-HN.out];rfl,HB1.out⟩
theorem fY {w:World}{e b P Q G:Nat}{x y z:Option Addr×Nat×Nat}(hb:w.heap[b]? = some (.cells #[.slice x.1 x.2.1 x.2.2,.slice y.1 y.2.1 y.2.2,.slice z.1 z.2.1 z.2.2] 37 (0,0)))(hP:Br w x P)(lP:P<Al e)(hQ:Br w y Q)(lQ:Q<Al e)(hG:Br w z G)(lG:G<Al e) :
  Ba w e (some ⟨b,0,none⟩) 3 3 [P,Q,G]:=by
 refine⟨rfl,Av _,by decide,(fun h=>by cases h),fun _=>⟨b,0,rfl,(Ik hb).1,fun i N hN=>?_⟩⟩
 match i,hN with
 | 0,hN=>cases hN;exact⟨x.1,x.2.1,x.2.2,by simp[World.cell?,hb],hP,lP⟩
 | 1,hN=>cases hN;exact⟨y.1,y.2.1,y.2.2,by simp[World.cell?,hb],hQ,lQ⟩
 | 2,hN=>cases hN;exact⟨z.1,z.2.1,z.2.2,by simp[World.cell?,hb],hG,lG⟩
 | i+3,hN=>simp at hN
theorem Zd {w:World}{e P Q G:Nat}{x y z:Option Addr×Nat×Nat}{ps:Option Addr}{ns cs:Nat}(hP:Br w x P)(lP:P<Al e)(hQ:Br w y Q)(lQ:Q<Al e)(hG:Br w z G)(lG:G<Al e)(he:e<=32) :
  Calls Tryz.prog 125 #[.agg #[.slice x.1 x.2.1 x.2.2,.slice y.1 y.2.1 y.2.2,.slice z.1 z.2.1 z.2.2,.slice ps ns cs]] w fun en w'=>en=.returned (.bool (decide (128<ns)))/\Below w.heap.size w w':=by
 have hX0:=Cr.made 118 w (.slice x.1 x.2.1 x.2.2) (.slice y.1 y.2.1 y.2.2) (.slice z.1 z.2.1 z.2.2) (.slice ps ns cs);have hba:Below w.heap.size w (w.alloc (.cells #[.slice x.1 x.2.1 x.2.2,.slice y.1 y.2.1 y.2.2,.slice z.1 z.2.1 z.2.2,.slice ps ns cs] 118)):=By;obtain⟨wa,hwa⟩:∃wa,w.alloc (.cells #[.slice x.1 x.2.1 x.2.2,.slice y.1 y.2.1 y.2.2,.slice z.1 z.2.1 z.2.2,.slice ps ns cs] 118)=wa:=⟨_,rfl⟩
 rw[hwa]at hX0 hba
 have hb2:Below wa.heap.size wa (wa.alloc (.cells #[.slice x.1 x.2.1 x.2.2,.slice y.1 y.2.1 y.2.2,.slice z.1 z.2.1 z.2.2] 37)):=By;have hl:(wa.alloc (.cells #[.slice x.1 x.2.1 x.2.2,.slice y.1 y.2.1 y.2.2,.slice z.1 z.2.1 z.2.2] 37)).heap[wa.heap.size]? = some (.cells #[.slice x.1 x.2.1 x.2.2,.slice y.1 y.2.1 y.2.2,.slice z.1 z.2.1 z.2.2] 37 (0,0)):=heap_alloc_new wa _;obtain⟨w2,hw2⟩:∃w2,wa.alloc (.cells #[.slice x.1 x.2.1 x.2.2,.slice y.1 y.2.1 y.2.2,.slice z.1 z.2.1 z.2.2] 37)=w2:=⟨_,rfl⟩
 rw[hw2]at hb2 hl
 have hb02:=Ab hba hb2;have HL:=Ac (fY hl (Ah.below hP hb02) lP (Ah.below hQ hb02) lQ (Ah.below hG hb02) lG);have HB2:=Ac hb02;have HX2:=Ac (hX0.below hb2 hX0.lt);have HA:=Ac (Ws w2 e [P,Q,G] he);have cw:=hX0.cells.1;have cx:=hX0.cells.2.1;have cy:=hX0.cells.2.2.1;clear hP hQ hG lP lQ lG hX0 hba hb2 hl hb02;go_enter Tryz.func125,Tryz.ntmps125
 go_wp2_with fail
 refine(Kq _ e _ 3 3 [P,Q,G] _ _ (enters_of Tryz.func175 (by kernel_rfl) rfl) _ HL.out HA.out).mono ?_;rintro en w3 ⟨rfl,hb3⟩;have HB3:=Ac (Ab HB2.out hb3);have c3:=(HX2.out.below hb3 HX2.out.lt).cells.2.2.2;clear hb3 cw cx cy;rw[show ([P,Q,G].any fun _=>false)=false from rfl]
 by_cases hn:128<ns
 .have HN:Aa (decide (128<ns)=true):=⟨decide_eq_true hn⟩
  have HD:Aa (decide ((128:Int)<(ns:Int))=true):=⟨decide_eq_true (by omega)⟩
  clear hn;go_wp2;go_ret;exact⟨by rw[HN.out,<-HD.out];rfl,HB3.out⟩
 .have HN:Aa (decide (128<ns)=false):=⟨decide_eq_false hn⟩
  have HD:Aa (decide ((128:Int)<(ns:Int))=false):=⟨decide_eq_false (by omega)⟩
  clear hn;go_wp2;go_ret;exact⟨by rw[HN.out,<-HD.out];rfl,HB3.out⟩
structure eA (r1 r2:Nat) (pz:Option Addr) (nz cz G:Nat) (v:Value) (w:World):Prop where
 ex:∃pg ng cg,v=.agg #[.pointer (some ⟨r1,0,none⟩),.pointer (some ⟨r2,0,none⟩),.slice pg ng cg,.slice pz nz cz]/\Ah w pg ng cg G
theorem eA.below {r1 r2:Nat}{pz:Option Addr}{nz cz G:Nat}{v:Value}{w w':World}(h:eA r1 r2 pz nz cz G v w)(hb:Below w.heap.size w w'):eA r1 r2 pz nz cz G v w' :=
 let ⟨pg,ng,cg,h1,h2⟩:=h.ex
 ⟨pg,ng,cg,h1,h2.below hb⟩
structure Xy (r1 r2:Nat) (pz:Option Addr) (nz cz G:Nat) (v:Value) (w:World):Prop where
 ex:∃b pg ng cg,v=.pointer (some ⟨b,0,none⟩)/\w.heap[b]? = some (.cells #[.pointer (some ⟨r1,0,none⟩),.pointer (some ⟨r2,0,none⟩),.slice pg ng cg,.slice pz nz cz] 141 (0,0))/\Ah w pg ng cg G
theorem Xy.below {r1 r2:Nat}{pz:Option Addr}{nz cz G:Nat}{v:Value}{w w':World}(h:Xy r1 r2 pz nz cz G v w)(hb:Below w.heap.size w w'):Xy r1 r2 pz nz cz G v w' :=
 let ⟨b,pg,ng,cg,h1,h2,h3⟩:=h.ex
 ⟨b,pg,ng,cg,h1,by rw[hb.block b (Ik h2).1];exact h2,h3.below hb⟩
open Classical in
theorem cS {w:World}{e P Q G:Nat}{x y z:Option Addr×Nat×Nat}{ps:Option Addr}{ns cs:Nat}{seed:List Nat}{pc:Option Addr}{nc cc:Nat}{l:List Bn}(hT:Tabs w)(hP:Br w x P)(lP:P<Al e)(hQ:Br w y Q)(lQ:Q<Al e)(hG:Br w z G)(lG:G<Al e)(hS:Bu w ⟨ps,ns,cs,seed⟩)(hC:Ds w e pc nc cc l)(hn:nc<=60)(hps:∀s∈l,s.ps.length<=1000)(he:e<=32) :
  Calls Tryz.prog 62 #[.agg #[.slice x.1 x.2.1 x.2.2,.slice y.1 y.2.1 y.2.2,.slice z.1 z.2.1 z.2.2,.slice ps ns cs],.slice pc nc cc] w fun en w'=>
   (128<ns->en=.returned (.tuple #[.pointer none,.int .i64 4])) /\
   (ns<=128->(newSpec P Q G seed l).1=0->∃b,en=.returned (.tuple #[.pointer (some ⟨b,0,none⟩),.int .i64 0])/\Bq w' b P Q G (newSpec P Q G seed l).2) /\
   (ns<=128->(newSpec P Q G seed l).1≠0->en=.returned (.tuple #[.pointer none,.int .i64 ((newSpec P Q G seed l).1:Nat)]))/\Below w.heap.size w w':=by
 have hX0:=Cr.made 118 w (.slice x.1 x.2.1 x.2.2) (.slice y.1 y.2.1 y.2.2) (.slice z.1 z.2.1 z.2.2) (.slice ps ns cs);have hba:Below w.heap.size w (w.alloc (.cells #[.slice x.1 x.2.1 x.2.2,.slice y.1 y.2.1 y.2.2,.slice z.1 z.2.1 z.2.2,.slice ps ns cs] 118)):=By;obtain⟨wa,hwa⟩:∃wa,w.alloc (.cells #[.slice x.1 x.2.1 x.2.2,.slice y.1 y.2.1 y.2.2,.slice z.1 z.2.1 z.2.2,.slice ps ns cs] 118)=wa:=⟨_,rfl⟩
 rw[hwa]at hX0 hba
 obtain⟨SP,hSP⟩:∃X,newSpec P Q G seed l=X:=⟨_,rfl⟩
 rw[hSP];have HSP:=Ac hSP;obtain⟨TP,hTP⟩:∃X,decide (Told P l)=X:=⟨_,rfl⟩
 obtain⟨TQ,hTQ⟩:∃X,decide (Told Q l)=X:=⟨_,rfl⟩
 obtain⟨RI,hRI⟩:∃X,decide (Pu P Q G)=X:=⟨_,rfl⟩
 have HTP:=Ac hTP;have HTQ:=Ac hTQ;have HRI:=Ac hRI;have HX:=Ac hX0;have HB:=Ac hba;have HP:Aa (Fit e P (.agg #[.slice x.1 x.2.1 x.2.2]) w):=⟨Fit.of hP lP⟩
 have HQ:Aa (Fit e Q (.agg #[.slice y.1 y.2.1 y.2.2]) w):=⟨Fit.of hQ lQ⟩
 have HG:Aa (Fit e G (.agg #[.slice z.1 z.2.1 z.2.2]) w):=⟨Fit.of hG lG⟩
 have HC:=Ac hC;have HT:=Ac hT;have HS:=Ac hS;have HPS:=Ac hps;have cw:=hX0.cells.1;have cx:=hX0.cells.2.1;have cy:=hX0.cells.2.2.1;have cz:=hX0.cells.2.2.2;clear hSP hTP hTQ hRI hX0 hba hC hps hT hS;go_enter Tryz.func62,Tryz.ntmps62
 go_wp2_with fail
 refine(Zd (x:=x) (y:=y) (z:=z) (Ah.below hP HB.out) lP (Ah.below hQ HB.out) lQ (Ah.below hG HB.out) lG he).mono ?_;rintro en w1 ⟨rfl,hb1⟩;have HB1:=Ac (Ab HB.out hb1);have HX1:=Ac (HX.out.below hb1 HX.out.lt);clear hb1 cw cx cy cz HX
 by_cases hl:128<ns
 .rw[decide_eq_true hl];have HL:=Ac hl;clear hl;go_wp2;refine bodyPost_ret (v:=.tuple #[.pointer none,.int .i64 4]) (by simp[results,Tryz.results62,go_sem]) rfl ?_;exact⟨fun _=>rfl,fun h=>absurd HL.out (by omega),fun h=>absurd HL.out (by omega),HB1.out⟩
 rw[decide_eq_false hl];have HL:=Ac hl;clear hl;have cw:=HX1.out.cells.1;have cx:=HX1.out.cells.2.1
 go_wp2_with fail
 refine(Yh e he w1 P _ pc nc cc l (HP.out.below HB1.out) (HC.out.below HB1.out) hn HPS.out).mono ?_;rintro en w2 ⟨rfl,hb2⟩;rw[show decide (Ce P ∨ (Bv [] l/\∃s∈l,s.n=P))=TP from (decide_eq_decide.2 (show (Ce P ∨ (Bv [] l/\∃s∈l,s.n=P)) ↔ Told P l from Iff.rfl)).trans HTP.out];have HB2:=Ac (Ab HB1.out hb2);have HX2:=Ac (HX1.out.below hb2 HX1.out.lt);clear hb2 cw cx HX1
 cases TP with
 | false=>
  have hS0:SP=(8,0):=by rw[<-HSP.out];exact if_neg fun h=>of_decide_eq_false HTP.out h.1
  have HS0:=Ac hS0;clear hS0;go_wp2;refine bodyPost_ret (v:=.tuple #[.pointer none,.int .i64 8]) (by simp[results,Tryz.results62,go_sem]) rfl ?_;exact⟨fun h=>absurd h HL.out,(fun _ h=>by rw[HS0.out]at h;cases h),(fun _ _=>by rw[HS0.out];rfl),HB2.out⟩
 | true=>
  have cx:=HX2.out.cells.2.1
  go_wp2_with fail
  refine(Yh e he w2 Q _ pc nc cc l (HQ.out.below HB2.out) (HC.out.below HB2.out) hn HPS.out).mono ?_;rintro en w3 ⟨rfl,hb3⟩;rw[show decide (Ce Q ∨ (Bv [] l/\∃s∈l,s.n=Q))=TQ from (decide_eq_decide.2 (show (Ce Q ∨ (Bv [] l/\∃s∈l,s.n=Q)) ↔ Told Q l from Iff.rfl)).trans HTQ.out];have HB3:=Ac (Ab HB2.out hb3);have HX3:=Ac (HX2.out.below hb3 HX2.out.lt);clear hb3 cx HX2
  cases TQ with
  | false=>
   have hS0:SP=(8,0):=by rw[<-HSP.out];exact if_neg fun h=>of_decide_eq_false HTQ.out h.2
   have HS0:=Ac hS0;clear hS0;go_wp2;refine bodyPost_ret (v:=.tuple #[.pointer none,.int .i64 8]) (by simp[results,Tryz.results62,go_sem]) rfl ?_;exact⟨fun h=>absurd h HL.out,(fun _ h=>by rw[HS0.out]at h;cases h),(fun _ _=>by rw[HS0.out];rfl),HB3.out⟩
  | true=>
   have hTo:Told P l/\Told Q l:=⟨of_decide_eq_true HTP.out,of_decide_eq_true HTQ.out⟩
   have h2P:=(Oo hTo.1).two;have h2Q:=(Oo hTo.2).two;have HTo:=Ac hTo;clear hTo;have cw:=HX3.out.cells.1;have cx:=HX3.out.cells.2.1
   go_wp2_with fail
   refine(Fx (HP.out.below HB3.out) (by omega)).mono ?_;rintro en w4 ⟨hb4,hh⟩;rcases hh with ⟨hlt,_⟩|⟨_,r1,rfl,hr1,_⟩
   .omega
   have HR1:=Ac hr1;have HB4:=Ac (Ab HB3.out hb4);have HX4:=Ac (HX3.out.below hb4 HX3.out.lt);clear hb4 hr1 cw cx HX3;have cx:=HX4.out.cells.2.1
   go_wp2_with fail
   refine(Fx (HQ.out.below HB4.out) (by omega)).mono ?_;rintro en w5 ⟨hb5,hh⟩;rcases hh with ⟨hlt,_⟩|⟨_,r2,rfl,hr2,_⟩
   .omega
   have HR2:=Ac hr2;have HR15:=Ac (HR1.out.below hb5);have HB5:=Ac (Ab HB4.out hb5);have HX5:=Ac (HX4.out.below hb5 HX4.out.lt);clear hb5 hr2 cx HX4 HR1;have cw:=HX5.out.cells.1;have cx:=HX5.out.cells.2.1;have cy:=HX5.out.cells.2.2.1;have cz:=HX5.out.cells.2.2.2
   go_wp2_with fail
   refine(Zb (x:=x) (y:=y) (z:=z) HR15.out (Ah.below hP HB5.out) lP (Ah.below hQ HB5.out) lQ (Ah.below hG HB5.out) lG (by omega) (by omega) he (by omega)).mono ?_;rintro en w6 ⟨rfl,hb6⟩;rw[HRI.out];have HR16:=Ac (HR15.out.below hb6);have HR26:=Ac (HR2.out.below hb6);have HB6:=Ac (Ab HB5.out hb6);have HX6:=Ac (HX5.out.below hb6 HX5.out.lt);clear hb6 cw cx cy cz HX5 HR15 HR2
   cases RI with
   | false=>
    have hS0:SP=(1,0):=by rw[<-HSP.out,newSpec,if_pos HTo.out,if_neg (of_decide_eq_false HRI.out)]
    have HS0:=Ac hS0;clear hS0;go_wp2;refine bodyPost_ret (v:=.tuple #[.pointer none,.int .i64 1]) (by simp[results,Tryz.results62,go_sem]) rfl ?_;exact⟨fun h=>absurd h HL.out,(fun _ h=>by rw[HS0.out]at h;cases h),(fun _ _=>by rw[HS0.out];rfl),HB6.out⟩
   | true=>
    have cw:=HX6.out.cells.1;have cx:=HX6.out.cells.2.1;have cy:=HX6.out.cells.2.2.1;have cz:=HX6.out.cells.2.2.2
    go_wp2_with fail
    refine(Wh (x:=x) (y:=y) (z:=z) (HT.out.below HB6.out HT.out.size) HR16.out he (Ah.below hP HB6.out) lP (Ah.below hQ HB6.out) lQ (by omega) (by omega) (HS.out.below HB6.out) he).mono ?_;rintro en w7 ⟨pz,nz,cz,k,rfl,hb7,hyes,hno⟩;obtain⟨FH,hFH⟩:∃X,Dw (fun c=>Ek seed P c^((P-1)/Q)%P) 256 0=X:=⟨_,rfl⟩
    rw[hFH]at hyes hno
    have HFH:=Ac hFH;have hb8:Below w7.heap.size w7 (w7.alloc (.cells #[.slice pz nz cz] 37)):=By;have hX10:=Ae.made w7 (.slice pz nz cz);obtain⟨w8,hw8⟩:∃w8,w7.alloc (.cells #[.slice pz nz cz] 37)=w8:=⟨_,rfl⟩
    rw[hw8]at hb8 hX10
    have hb68:=Ab hb7 hb8;have HX8:=Ac (HX6.out.below hb68 HX6.out.lt);have HX10:=Ac hX10;have HR18:=Ac (HR16.out.below hb68);have HR28:=Ac (HR26.out.below hb68);have HB8:=Ac (Ab HB6.out hb68);have HG8:=Ac (HG.out.below HB8.out)
    cases FH with
    | none=>
     obtain rfl:=hno rfl;have hS0:SP=(6,0):=by rw[<-HSP.out,newSpec,if_pos HTo.out,if_pos (of_decide_eq_true HRI.out),HFH.out]
     have HS0:=Ac hS0;clear hS0 hyes hno hFH hb7 hb8 hX10 hb68 cw cx cy;go_wp2;refine bodyPost_ret (v:=.tuple #[.pointer none,.int .i64 6]) (by simp[results,Tryz.results62,go_sem]) rfl ?_;exact⟨fun h=>absurd h HL.out,(fun _ h=>by rw[HS0.out]at h;cases h),(fun _ _=>by rw[HS0.out];rfl),HB8.out⟩
    | some H=>
     obtain⟨rfl,hnz,lH⟩:=hyes H rfl;have hS0:SP=(0,H):=by rw[<-HSP.out,newSpec,if_pos HTo.out,if_pos (of_decide_eq_true HRI.out),HFH.out]
     have HS0:=Ac hS0;have HNZ:=Ac (Ah.below hnz hb8);have HLH:Aa (H<Al 33):=⟨Dk lH (Bz (by omega))⟩
     have HGM:Aa (G%P=G):=⟨Nat.mod_eq_of_lt (of_decide_eq_true HRI.out).2.2.2.1⟩
     have HLG:Aa (G<Al 33):=⟨Dk lG (Bz (by omega))⟩
     have HBL:Aa (w.heap.size<w8.heap.size):=⟨HX8.out.lt⟩
     clear hS0 hyes hno hFH hb7 hb8 hX10 hb68 hnz lH cw cx cy;go_wp2;refine Aj (by kernel_rfl) (by kernel_rfl)
      [some (.pointer (some ⟨r1,0,none⟩)),some (.pointer (some ⟨r2,0,none⟩)),some (.pointer (some ⟨r1,0,none⟩)),some (.pointer (some ⟨w.heap.size,2,none⟩)),some (.agg #[.slice z.1 z.2.1 z.2.2]),none,some (.agg #[.slice pz nz cz]),none,none,none,some (.int .i64 0)]
      [false,false,false,false,false,true,false,true,true,true,false] rfl
      (fun w1 w2=>Below w1.heap.size w1 w2)
      (fun _ w'=>Below w8.heap.size w8 w')
      (fun i v w'=>match i with
       | 5=>Fit e G v w'
       | 7=>eA r1 r2 pz nz cz G v w'
       | 8=>Xy r1 r2 pz nz cz G v w'
       | 9=>Xy r1 r2 pz nz cz G v w'
       | _=>True)
      ?_ (Bd _ _).drew ?_ ?_
     .intro i v w1 w2 hf hb;split at hf
      .exact hf.below hb
      .exact hf.below hb
      .exact hf.below hb
      .exact hf.below hb
      .trivial
     .simp only[Bh,Nat.reduceAdd];refine⟨?_,?_,?_,?_,?_,?_,?_,?_,?_,?_,?_,trivial⟩
      all_goals intro D sp w' hD hW hdp hbx'
      case refine_5=>
       have c2:=(Cr.cells ⟨(hbx'.block w.heap.size HBL.out).trans HX8.out.at_⟩).2.2.1
       with_reducible refine Ag ?_ ?_
       all_goals simp[Region.wanted,yielded,execOp,Act.eval,Act.put,go_sem,c2]
      case refine_6=>
       (with_reducible refine Ad (w1:=w') (f := 31) (args:=#[.pointer (some ⟨r1,0,none⟩),.agg #[.slice z.1 z.2.1 z.2.2]]) ?_ ?_ ?_)
       .simp[Region.wanted,yielded,Act.put,go_sem]
       .simp[Act.eval,Act.put,go_sem]
       .refine(Eh (HR18.out.below hbx') (HG8.out.below hbx') (by omega)).mono ?_;rintro en w9 ⟨u,rfl,hu,hb⟩;rw[HGM.out]at hu
        exact⟨u,rfl,hb,hu,Ab hbx' hb⟩
      case refine_7=>
       have c0:w'.cell? ⟨w7.heap.size,0,none⟩=some (.slice pz nz cz):=Ae.cell (HX10.out.below hbx' HX10.out.lt)
       with_reducible refine Ag ?_ ?_
       all_goals simp[Region.wanted,yielded,execOp,Act.eval,Act.put,go_sem,c0]
      case refine_8=>
       have k5:Fit e G (sp 5) w':=(hdp 5 (mq (by kernel_rfl))).2;have hx:∃pg ng cg,sp 5=.agg #[.slice pg ng cg]/\Ah w' pg ng cg G/\G<Al e:=k5
       (with_reducible refine Bc hx fun pg hx1=>Bc hx1 fun ng hx2=>Bc hx2 fun cg hx3=>?_)
       have h1:=hx3.1
       (with_reducible refine Ai (w1:=w') (v:=.agg #[.pointer (some ⟨r1,0,none⟩),.pointer (some ⟨r2,0,none⟩),.slice pg ng cg,.slice pz nz cz]) ?_ ?_ ?_)
       .simp only[Region.wanted]
       .simp[execOp,Act.eval,Act.put,go_sem,h1]
       .exact⟨Bd _ _,⟨pg,ng,cg,rfl,hx3.2.1⟩,hbx'⟩
      case refine_9=>
       have k7:eA r1 r2 pz nz cz G (sp 7) w':=(hdp 7 (mq (by kernel_rfl))).2
       (with_reducible refine Bc k7.ex fun pg hx1=>Bc hx1 fun ng hx2=>Bc hx2 fun cg hx3=>?_)
       have h1:=hx3.1
       (with_reducible refine Ai (w1:=w'.alloc (.cells #[.pointer (some ⟨r1,0,none⟩),.pointer (some ⟨r2,0,none⟩),.slice pg ng cg,.slice pz nz cz] 141)) (v:=.pointer (some ⟨w'.heap.size,0,none⟩)) ?_ ?_ ?_)
       .simp only[Region.wanted]
       .simp[execOp,Act.eval,Act.put,go_sem,h1]
       .have hb:Below w'.heap.size w' (w'.alloc (.cells #[.pointer (some ⟨r1,0,none⟩),.pointer (some ⟨r2,0,none⟩),.slice pg ng cg,.slice pz nz cz] 141)):=By;exact⟨hb,⟨w'.heap.size,pg,ng,cg,rfl,heap_alloc_new w' _,hx3.2.below hb⟩,Ab hbx' hb⟩
      case refine_10=>
       have k8:Xy r1 r2 pz nz cz G (sp 8) w':=(hdp 8 (mq (by kernel_rfl))).2
       (with_reducible refine Ai (w1:=w') (v:=sp 8) ?_ ?_ ?_)
       .simp only[Region.wanted]
       .simp[execOp,Act.eval,Act.put,go_sem]
       .exact⟨Bd _ _,k8,hbx'⟩
      all_goals ((with_reducible refine Ag ?_ ?_);all_goals first|(simp only[Region.wanted];done)|simp[Region.wanted,yielded,execOp,Act.eval,Act.put,go_sem])
     .intro sp w9 hsp hbx';have hg:Xy r1 r2 pz nz cz G (sp 9) w9:=hsp 9 rfl;obtain⟨b,pg,ng,cg,he9,hh,hng⟩:=hg.ex;have HH:=Ac hh;have HNG:=Ac hng;have HNZ9:=Ac (Ah.below HNZ.out hbx');have HR19:=Ac ((HR18.out.below hbx').wide (f:=33) (by omega) (by decide));have HR29:=Ac ((HR28.out.below hbx').wide (f:=33) (by omega) (by decide));have HB9:=Ac (Ab HB8.out hbx');clear hsp hbx' hg hh hng;simp only[Ak,Nat.reduceAdd];rw[he9];clear he9;generalize sp 5=y5,sp 7=y7,sp 8=y8 at *
      go_simp
      go_wp2;refine bodyPost_ret (v:=.tuple #[.pointer (some ⟨b,0,none⟩),.int .i64 0]) (by simp[results,Tryz.results62,go_sem]) rfl ?_;refine⟨fun h=>absurd h HL.out,fun _ _=>⟨b,rfl,?_⟩,fun _ h=>absurd (by rw[HS0.out]) h,HB9.out⟩;rw[HS0.out];exact⟨r1,r2,pg,ng,cg,pz,nz,cz,HH.out,HR19.out,HR29.out,HNG.out,HLG.out,HNZ9.out,HLH.out⟩
end Go.Proofs.YtokhckjemidbpaaGreatDoor
