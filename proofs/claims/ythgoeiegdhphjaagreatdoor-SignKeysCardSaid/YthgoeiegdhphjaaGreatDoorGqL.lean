/- A length as eight bytes; the challenge. -/
import Derived.Test.YthgoeiegdhphjaaGreatDoorGqB
set_option maxRecDepth 1000000
set_option maxHeartbeats 16000000
set_option linter.all false
namespace Go.Proofs.YthgoeiegdhphjaaGreatDoor
open Go Go.RowKit Go.Proofs.YthgoeiegdhphjaaGreatDoor.Flow
theorem eT {n j:Nat}(h:j<8):(Zi n)[j]? = some (n/256^j%256):=by
 unfold Zi;rw[List.getElem?_map,List.getElem?_range h];rfl
theorem Wf {w:World}{p:Option Addr}{n c:Nat}(hn:n<9223372036854775808) :
  Calls Tryz.prog 191 #[.slice p n c] w fun en w'=>∃g,en=.returned (.slice (some ⟨g,0,none⟩) 8 8)/\Bd w' g 5 .u8 (Zi n)/\w.heap.size<=g/\Below w.heap.size w w':=by
 have hmk:∀w,(Instr.makeSlice 60 (.int .i64 8) (.int .i64 8)).run Tryz.prog w=.ok (.slice (some ⟨w.heap.size,0,none⟩) 8 8) (w.alloc (.cells (zeros .u8 8) 5)):=fun w=>Ry 8 (by decide) w
 obtain⟨w0,hw0⟩:∃w0,w.alloc (.cells (zeros .u8 8) 5)=w0:=⟨_,rfl⟩
 have hb0:Below w.heap.size w w0:=by rw[<-hw0];exact(Bc _ _).alloc (Av _) _
 have hk0:Bd w0 w.heap.size 5 .u8 (List.replicate 8 0):=by rw[<-hw0];exact heap_alloc_new w _
 have HB0:=Aa hb0;have HK0:=Aa hk0;clear hb0 hk0;go_enter Tryz.func191,Tryz.ntmps191;go_wp2
 go_loopw [4,8] (fun _ iv wr=>∃(k:Nat) (xs:List Nat),k<=8/\iv=.int .i64 k/\xs.length=8/\Ad (Bd wr w.heap.size 5 .u8 xs)/\Ad (∀j,j<k->xs[j]? = some (n/256^j%256))/\Ad (Below w.heap.size w wr)) (fun _ iv _=>8-(intOf iv).toNat)
 case atStart=>exact⟨0,List.replicate 8 0,by omega,rfl,rfl,HK0,⟨fun j hj=>by omega⟩,HB0⟩
 case round=>
  obtain⟨k,xs,hk,rfl,hxs,HKr,HVr,HBr⟩:=hrel
  by_cases hkn:k<8
  .have hkn':(k:Int)<8:=by omega
   have c0:=HKr.out.cell (i:=k) (List.getElem?_eq_getElem (by omega));have f0:=HKr.out.free k;have hv:((n:Int)/2^(8*k)%256)=((n/256^k%256:Nat):Int):=by
    rw[Int.natCast_emod,Int.natCast_ediv,show (256:Nat)^k=2^(8*k) from Kl k,Int.natCast_pow];rfl
   have HV:=Aa hv;have HKn:Ad (Bd (wr.setCell ⟨w.heap.size,k,none⟩ (.int .u8 (n/256^k%256:Nat))) w.heap.size 5 .u8 (xs.set k (n/256^k%256))):=⟨HKr.out.set k _⟩
   have HBn:Ad (Below w.heap.size w (wr.setCell ⟨w.heap.size,k,none⟩ (.int .u8 (n/256^k%256:Nat)))):=⟨HBr.out.setCell (Av _) _⟩
   have HVn:Ad (∀j,j<k+1->(xs.set k (n/256^k%256))[j]? = some (n/256^j%256)):=⟨fun j hj=>by
    rcases Nat.lt_or_ge j k with h|h
    .rw[List.getElem?_set_ne (by omega)];exact HVr.out j h
    .obtain rfl:j=k:=by omega
     exact List.getElem?_set_self (by omega)⟩
   have HXL:Ad ((xs.set k (n/256^k%256)).length=8):=⟨by rw[List.length_set];exact hxs⟩
   clear hv;go_wp2;go_roundw
   case rel=>
    rw[HV.out];exact⟨k+1,_,by omega,by go_num,HXL.out,HKn,HVn,HBn⟩
   case measure=>simp[intOf];omega
  .obtain rfl:k=8:=by omega
   have hkn':¬(8:Int)<8:=by omega
   go_wp2;go_ret;have hx:xs=Zi n:=List.ext_getElem? fun j=>by
    rcases Nat.lt_or_ge j 8 with h|h
    .rw[HVr.out j h,eT h]
    .rw[List.getElem?_eq_none (by omega),List.getElem?_eq_none (by rw[Jw];exact h)]
   exact⟨w.heap.size,rfl,by rw[<-hx];exact HKr.out,Av _,HBr.out⟩
theorem cU {w:World}{b P Q G H n c:Nat}{p:Option Addr}{L:List Part}(hg:Ay w b P Q G H)(hT:Tabs w)(hL:Cv w p n c L) :
  Calls Tryz.prog 147 #[.pointer (some ⟨b,0,none⟩),.slice p n c] w fun e w'=>∃x,e=.returned x/\Fit 33 (be (Pu (El (L.map (·.bs))))%Q) x w'/\Below w.heap.size w w':=by
 have hb4:=Ae.made w (.slice none 0 0);have hbel:Below w.heap.size w (w.alloc (.cells #[.slice none 0 0] 36)):=Cf;obtain⟨wa,hwa⟩:∃wa,w.alloc (.cells #[.slice none 0 0] 36)=wa:=⟨_,rfl⟩
 rw[hwa]at hb4 hbel
 have HBX:=Aa hb4;have HB:=Aa hbel;have HT:=Aa hT;have hTs:=hT.size;have HL:=Aa hL;have HLN:=Aa hL.len;have hcap:=hL.cap;have hmax:=hL.max;obtain⟨rp,rq,pg,ng,cg,ph,nh,ch,g1,_,g3,_⟩:=hg.ex;have HL2:Ad (b<w.heap.size/\rq<w.heap.size):=⟨hg.lt,g3.at_.lt⟩
 have HGA:=Aa g1;have HRQ:=Aa g3;clear hL hg g1 g3;clear hT hb4 hbel;go_enter Tryz.func147,Tryz.ntmps147
 go_wp2_with fail
 refine(Hc wa (HT.out.below HB.out HT.out.size)).mono ?_;rintro en w1 ⟨g,rfl,hg1,hb1,hh1⟩;have HB1:=Aa (Af HB.out hb1);have HBX1:=Aa (HBX.out.below hb1 HBX.out.lt);have HGL:Ad (w.heap.size<g):=⟨Dm HBX.out.lt hg1⟩
 have HH1:=Aa hh1;clear hb1 hg1 hh1;go_wp2
 go_loopw [7,13] (fun _ iv wr=>∃k:Nat,k<=n/\iv=.int .i64 k/\Ad (Below w.heap.size w wr)/\Ad (Bg wr g (El ((L.take k).map (·.bs))))/\Ad (Ae wr w.heap.size (.slice none 0 0))) (fun _ iv _=>n-(intOf iv).toNat)
 case atStart=>exact⟨0,by omega,rfl,HB1,HH1,HBX1⟩
 case round=>
  obtain⟨k,hk,rfl,HBr,HHr,HBXr⟩:=hrel
  by_cases hkn:k<n
  .obtain⟨PP,hP⟩:∃P,L[k]? = some P:=⟨L[k]'(by rw[<-HLN.out];exact hkn),List.getElem?_eq_getElem _⟩
   obtain⟨bb,off,rfl,hbb,hc⟩:=HL.out.cells (by omega);have hok:=HL.out.ok k PP hP;have HNE:Ad (0<PP.n->∀q,PP.p=some q->q.block≠g):=⟨fun h0 q hq=>by
    obtain⟨b',off',e,h2,_⟩:=(hok.row.row h0).pos h0;rw[hq]at e;cases e
    have:=HGL.out;show b'≠g;omega⟩
   have hck:wr.cell? ⟨bb,off+k,none⟩=some (.slice PP.p PP.n PP.c):=by
    rw[(Cc HBr.out).1 _ _ hbb];exact hc k PP hP
   have HTK:Ad (El ((L.take (k+1)).map (·.bs))=El ((L.take k).map (·.bs))++(Zi PP.n++PP.bs)):=⟨by
    rw[Gl hP,List.map_append];show El ((L.take k).map (·.bs)++[PP.bs])=_;rw[Mr,hok.row.len]⟩
   have HOK:=Aa hok;have hPn:PP.n<9223372036854775808:=by have h1:=hok.row.cap;have h2:=hok.row.max;omega
   have hkn':(k:Int)<n:=by omega
   clear hc hok hP hbb;obtain⟨pp,pn,pc,pb⟩:=PP
   dsimp only at *
   go_wp2_with fail
   refine(Wf hPn).mono ?_;rintro en w2 ⟨gl,rfl,hkl,hgl,hb2⟩;have HR2:Ad (Bk w2 .u8 (some ⟨gl,0,none⟩) 8 8 (Zi pn)):=⟨⟨(Jw pn).symm,Av _,by decide,fun _=>hkl.row (Jw pn).symm (Av _) (by decide)⟩⟩
   have HH2:=Aa (HHr.out.below hb2 HHr.out.lt);have HBr2:=Aa (HBr.out.trans (hb2.mono HBr.out.size));have HBXr2:=Aa (HBXr.out.below hb2 HBXr.out.lt);have HNL:Ad (0<8->∀q,(some ⟨gl,0,none⟩:Option Addr)=some q->q.block≠g):=⟨fun _ q hq=>by
    cases hq;have:=HHr.out.lt;show gl≠g;omega⟩
   clear hkl hgl hb2 hck
   go_wp2_with fail
   refine(Cs w2 g _ (some ⟨gl,0,none⟩) 8 8 (Zi pn) (HT.out.below HBr2.out HT.out.size) HH2.out (by have:=HGL.out;omega) HR2.out (Zh pn) HNL.out).mono ?_;rintro en w3 ⟨rfl,hb3,hh3⟩;have HH3:=Aa hh3;have HBr3:=Aa (HBr2.out.trans (hb3.below (Nat.le_of_lt HGL.out) HBr2.out.size));have HBXr3:Ad (Ae w3 w.heap.size (.slice none 0 0)):=⟨(hb3.block _ HBXr2.out.lt (by have:=HGL.out;omega)).trans HBXr2.out⟩
   clear hh3 hb3
   go_wp2_with fail
   refine(Cs w3 g _ pp pn pc pb (HT.out.below HBr3.out HT.out.size) HH3.out (by have:=HGL.out;omega) (HOK.out.row.below HBr3.out) HOK.out.bytes HNE.out).mono ?_;rintro en w4 ⟨rfl,hb4,hh4⟩;rw[List.append_assoc,<-HTK.out]at hh4
   have HH4:=Aa hh4;have HBr4:=Aa (HBr3.out.trans (hb4.below (Nat.le_of_lt HGL.out) HBr3.out.size));have HBXr4:Ad (Ae w4 w.heap.size (.slice none 0 0)):=⟨(hb4.block _ HBXr3.out.lt (by have:=HGL.out;omega)).trans HBXr3.out⟩
   clear hh4 hb4;go_wp2;go_roundw
   case rel=>exact⟨k+1,by omega,by go_num,HBr4,HH4,HBXr4⟩
   case measure=>simp[intOf];omega
  .obtain rfl:k=n:=by omega
   have hkn':¬(k:Int)<k:=by omega
   have hhr:=HHr.out;rw[List.take_of_length_le (by rw[<-HLN.out];exact Av _)]at hhr
   replace HHr:Ad _:=⟨hhr⟩
   clear hhr;obtain⟨MQ,hMQ⟩:∃M,El (L.map (·.bs))=M:=⟨_,rfl⟩
   rw[hMQ]at HHr
   have HMQ:=Aa hMQ;clear hMQ
   go_wp2_with fail
   refine(He wr g _ (HT.out.below HBr.out HT.out.size) HHr.out).mono ?_;rintro en w5 ⟨q,rfl,hq,hb5,hk5⟩;obtain⟨SS,hSS⟩:∃S,Pu MQ=S:=⟨_,rfl⟩
   have hSl:SS.length=32:=by rw[<-hSS];exact Ct _
   have hS8:Az SS:=by rw[<-hSS];exact Iv _
   rw[hSS]at hk5
   have hrow:Bk w5 .u8 (some ⟨q,0,none⟩) 32 32 SS:=⟨hSl.symm,Av _,by decide,fun _=>hk5.row hSl.symm (Av _) (by decide)⟩
   have HROW:=Aa hrow;have HS8:=Aa hS8;have HSl:=Aa hSl;have HSS:=Aa hSS;have HB5:=Aa (HBr.out.trans (hb5.mono HBr.out.size));have HBX5:=Aa (HBXr.out.below hb5 HBXr.out.lt);clear hq hb5 hk5 hSS hSl hS8 hrow
   go_wp2_with fail
   refine(Bt w5 _ 32 32 SS HROW.out HS8.out (by decide)).mono ?_;rintro en w6 ⟨q2,m2,d2,rfl,hq2,hb6,_⟩;obtain⟨XX,hXX⟩:∃X,be SS=X:=⟨_,rfl⟩
   rw[hXX]at hq2
   have hb7:Below w6.heap.size w6 (w6.alloc (.cells #[.slice q2 m2 d2] 36)):=Cf;have hX7:=Ae.made w6 (.slice q2 m2 d2);obtain⟨w7,hw7⟩:∃w7,w6.alloc (.cells #[.slice q2 m2 d2] 36)=w7:=⟨_,rfl⟩
   rw[hw7]at hb7 hX7
   have hb57:=Af hb6 hb7;have HNf:Ad (Fit 8 XX (.agg #[.slice q2 m2 d2]) w7):=⟨Fit.of (hq2.below hb7) (by
    rw[<-hXX];have:=HS8.out.reverse.lt;rw[List.length_reverse,HSl.out]at this
    exact Dm this (by decide))⟩
   have HX7:=Aa hX7;have HB7:=Aa (Af HB5.out hb57);have HBX7:=Aa (HBX5.out.below hb57 HBX5.out.lt);have HNE:Ad (∀x∈([(w6.heap.size,.cells #[.slice q2 m2 d2] 36 (0,0))]:List (Nat×Obj)),x.1≠w.heap.size):=⟨List.forall_mem_cons.2 ⟨by simp only;have h1:=HBX5.out.lt;have h2:=hb6.size;omega,fun x hx=>by cases hx⟩⟩
   have HGr:=Aa ((HB7.out.block b HL2.out.1).trans HGA.out);have HRq:=Aa (HRQ.out.below HB7.out);have HVL:Ad (XX%Q<Ao 33):=⟨Nat.lt_trans (Nat.mod_lt _ (by have:=HRQ.out.two;omega)) HRQ.out.lim⟩
   have HXX:Ad (be (Pu MQ)%Q=XX%Q):=⟨by rw[HSS.out,hXX]⟩
   clear hq2 hb6 hb7 hX7 hb57 hXX;go_wp2;refine Aj (by kernel_rfl) (by kernel_rfl)
    [some (.pointer (some ⟨b,0,none⟩)),none,some (.pointer (some ⟨b,0,none⟩)),some (.pointer (some ⟨b,1,none⟩)),some (.pointer (some ⟨rq,0,none⟩)),some (.agg #[.slice q2 m2 d2]),none,none]
    [false,true,false,false,false,false,true,true] rfl
    (fun wA wB=>Al (w.heap.size) wA wB)
    (fun D sp w'=>RG (w.heap.size) w7 [(w6.heap.size,.cells #[.slice q2 m2 d2] 36 (0,0))] w'/\Lr (D 7) (w.heap.size) (XX%Q) w')
    (fun i v w'=>match i with
     | 1=>v=.pointer (some ⟨b,0,none⟩)
     | 6=>Fit 33 (XX%Q) v w'
     | _=>True)
    ?_ ⟨RG.start HB7.out.size (List.forall_mem_cons.2 ⟨HX7.out,fun x hx=>by cases hx⟩),Lr.fresh HBX7.out⟩ ?_ ?_
   .intro i v wA wB hf hb;split at hf
    .exact hf
    .exact hf.keep hb
    .trivial
   .simp only[Ax,Nat.reduceAdd];refine⟨?_,?_,?_,?_,?_,?_,?_,?_,trivial⟩
    all_goals intro D sp w' hD hW hdp hg
    case refine_2=>
     (with_reducible refine Ab (w1:=w') (f := 72) (args:=#[.pointer (some ⟨b,0,none⟩)]) ?_ ?_ ?_)
     .simp[Region.wanted,yielded,Act.put,go_sem]
     .simp[Act.eval,Act.put,go_sem]
     .refine(Dg w' b).mono ?_;rintro en w9 ⟨rfl,rfl⟩;exact⟨_,rfl,Al.same _ _,rfl,hg.1,by simpa [upd]using hg.2⟩
    case refine_3=>
     have k1:(sp 1)=.pointer (some ⟨b,0,none⟩):=(hdp 1 (mq (by kernel_rfl))).2
     with_reducible refine Ac ?_ ?_
     all_goals simp[Region.wanted,yielded,execOp,Act.eval,Act.put,go_sem,k1]
    case refine_5=>
     have c0:=(Ci ((hg.1.keep.bel.block b HL2.out.1).trans HGr.out)).2.1
     with_reducible refine Ac ?_ ?_
     all_goals simp[Region.wanted,yielded,execOp,Act.eval,Act.put,go_sem,c0]
    case refine_6=>
     have c0:w'.cell? ⟨w6.heap.size,0,none⟩=some (.slice q2 m2 d2):=Ae.cell (hg.1.of List.mem_cons_self)
     with_reducible refine Ac ?_ ?_
     all_goals simp[Region.wanted,yielded,execOp,Act.eval,Act.put,go_sem,c0]
    case refine_7=>
     (with_reducible refine Ab (w1:=w') (f := 31) (args:=#[.pointer (some ⟨rq,0,none⟩),.agg #[.slice q2 m2 d2]]) ?_ ?_ ?_)
     .simp[Region.wanted,yielded,Act.put,go_sem]
     .simp[Act.eval,Act.put,go_sem]
     .refine(Dc (HRq.out.keep HL2.out.2 hg.1.keep) (HNf.out.keep hg.1.keep) (by decide)).mono ?_;rintro en w9 ⟨u,rfl,hu,hb⟩;exact⟨u,rfl,Al.of hb hg.1.base,hu,hg.1.later hb,by simpa [upd]using hg.2.later hb⟩
    case refine_8=>
     have hx:∃p n c,sp 6=.agg #[.slice p n c]/\Ag w' p n c (XX%Q)/\XX%Q<Ao (33):=(hdp 6 (mq (by kernel_rfl))).2
     (with_reducible refine Au hx fun p hx1=>Au hx1 fun n hx2=>Au hx2 fun c hx3=>?_)
     have h1:=hx3.1;have hp:=hg.2.put (hx3.2.1)
     (with_reducible refine Au hp fun q hy1=>Au hy1 fun m hy2=>Au hy2 fun k hy3=>?_)
     have h6:=hy3.1.cell;have h7:=hy3.1.free
     (with_reducible refine An (w1:=w'.setCell ⟨w.heap.size,0,none⟩ (.slice p n c)) ?_ ?_ ?_)
     .simp[Region.wanted,yielded,Act.put,go_sem]
     .simp[execOp,Act.eval,Act.put,go_sem,h1,h6,h7]
     .refine⟨Al.store hy3.1 (Av _) _,trivial,hg.1.store hy3.1 (Av _) HNE.out _,?_⟩;have h8:=hy3.2;simpa [upd]using h8
    all_goals ((with_reducible refine Ac ?_ ?_);all_goals first|(simp only[Region.wanted];done)|simp[Region.wanted,yielded,execOp,Act.eval,Act.put,go_sem])
   .intro sp w8 hsp hg;obtain⟨hg1,pz,nz,cz,hz1,hz2⟩:=hg;have kz:=hz1.cell;have HZ:=Aa (hz2 rfl);have HE:=Aa (HB7.out.trans hg1.keep.bel);clear hsp hg1 hz1 hz2;simp only[Am,Nat.reduceAdd];generalize sp 1=y1,sp 6=y6,sp 7=y7 at *
    go_simp
    go_wp2;exact bodyPost_ret (v:=.agg #[.slice pz nz cz]) (by simp[results,Tryz.results147,go_sem,kz]) rfl ⟨_,rfl,by rw[HMQ.out,HXX.out];exact Fit.of HZ.out HVL.out,HE.out⟩
end Go.Proofs.YthgoeiegdhphjaaGreatDoor
