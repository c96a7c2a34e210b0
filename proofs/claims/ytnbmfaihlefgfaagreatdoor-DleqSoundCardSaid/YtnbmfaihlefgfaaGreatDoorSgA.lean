/- How a region stands that stores into boxes of one number alone; sign's small calls. -/
import Derived.Test.YtnbmfaihlefgfaaGreatDoorTbx
set_option maxRecDepth 1000000
set_option maxHeartbeats 16000000
set_option linter.all false
namespace Go.Proofs.YtnbmfaihlefgfaaGreatDoor
open Go Go.RowKit Go.Proofs.YtnbmfaihlefgfaaGreatDoor.Flow
theorem oC {n j:Nat}(h:j<8):(Rk n)[j]? = some (n/256^j%256):=by
 unfold Rk;rw[List.getElem?_map,List.getElem?_range h];rfl
theorem cC {w:World}{p:Option Addr}{n c:Nat}(hn:n<9223372036854775808) :
  Calls Tryz.prog 213 #[.slice p n c] w fun en w'=>∃g,en=.returned (.slice (some ⟨g,0,none⟩) 8 8)/\Bl w' g 5 .u8 (Rk n)/\w.heap.size<=g/\Below w.heap.size w w':=by
 have hmk:∀w,(Instr.makeSlice 60 (.int .i64 8) (.int .i64 8)).run Tryz.prog w=.ok (.slice (some ⟨w.heap.size,0,none⟩) 8 8) (w.alloc (.cells (zeros .u8 8) 5)):=fun w=>Oi 8 (by decide) w
 obtain⟨w0,hw0⟩:∃w0,w.alloc (.cells (zeros .u8 8) 5)=w0:=⟨_,rfl⟩
 have hb0:Below w.heap.size w w0:=by rw[<-hw0];exact(Bd _ _).alloc (As _) _
 have hk0:Bl w0 w.heap.size 5 .u8 (List.replicate 8 0):=by rw[<-hw0];exact heap_alloc_new w _
 have HB0:=Aa hb0;have HK0:=Aa hk0;clear hb0 hk0;go_enter Tryz.func213,Tryz.ntmps213;go_wp2
 go_loopw [4,8] (fun _ iv wr=>∃(k:Nat) (xs:List Nat),k<=8/\iv=.int .i64 k/\xs.length=8/\Ad (Bl wr w.heap.size 5 .u8 xs)/\Ad (∀j,j<k->xs[j]? = some (n/256^j%256))/\Ad (Below w.heap.size w wr)) (fun _ iv _=>8-(intOf iv).toNat)
 case atStart=>exact⟨0,List.replicate 8 0,by omega,rfl,rfl,HK0,⟨fun j hj=>by omega⟩,HB0⟩
 case round=>
  obtain⟨k,xs,hk,rfl,hxs,HKr,HVr,HBr⟩:=hrel
  by_cases hkn:k<8
  .have hkn':(k:Int)<8:=by omega
   have c0:=HKr.out.cell (i:=k) (List.getElem?_eq_getElem (by omega));have f0:=HKr.out.free k;have hv:((n:Int)/2^(8*k)%256)=((n/256^k%256:Nat):Int):=by
    rw[Int.natCast_emod,Int.natCast_ediv,show (256:Nat)^k=2^(8*k) from Hb k,Int.natCast_pow];rfl
   have HV:=Aa hv;have HKn:Ad (Bl (wr.setCell ⟨w.heap.size,k,none⟩ (.int .u8 (n/256^k%256:Nat))) w.heap.size 5 .u8 (xs.set k (n/256^k%256))):=⟨HKr.out.set k _⟩
   have HBn:Ad (Below w.heap.size w (wr.setCell ⟨w.heap.size,k,none⟩ (.int .u8 (n/256^k%256:Nat)))):=⟨HBr.out.setCell (As _) _⟩
   have HVn:Ad (∀j,j<k+1->(xs.set k (n/256^k%256))[j]? = some (n/256^j%256)):=⟨fun j hj=>by
    rcases Nat.lt_or_ge j k with h|h
    .rw[List.getElem?_set_ne (by omega)];exact HVr.out j h
    .obtain rfl:j=k:=by omega
     exact List.getElem?_set_self (by omega)⟩
   have HXL:Ad ((xs.set k (n/256^k%256)).length=8):=⟨by rw[List.length_set];exact hxs⟩
   clear hv;go_wp2;go_roundw
   case rel=>
    rw[HV.out];exact⟨k+1,_,by omega,by go_num,HXL.out,HKn,HVn,HBn⟩
   case measure=>simp[intOf];omega
  .obtain rfl:k=8:=by omega
   have hkn':¬(8:Int)<8:=by omega
   go_wp2;go_ret;have hx:xs=Rk n:=List.ext_getElem? fun j=>by
    rcases Nat.lt_or_ge j 8 with h|h
    .rw[HVr.out j h,oC h]
    .rw[List.getElem?_eq_none (by omega),List.getElem?_eq_none (by rw[Ej];exact h)]
   exact⟨w.heap.size,rfl,by rw[<-hx];exact HKr.out,As _,HBr.out⟩
theorem lL {w:World}{b P Q G H n c:Nat}{p:Option Addr}{L:List Part}(hg:Bb w b P Q G H)(hT:Tabs w)(hL:Bv w p n c L) :
  Calls Tryz.prog 165 #[.pointer (some ⟨b,0,none⟩),.slice p n c] w fun e w'=>∃x,e=.returned x/\Fit 33 (be (Kx (Cb (L.map (·.bs))))%Q) x w'/\Below w.heap.size w w':=by
 have hb4:=Af.made w (.slice none 0 0);have hbel:Below w.heap.size w (w.alloc (.cells #[.slice none 0 0] 36)):=By;obtain⟨wa,hwa⟩:∃wa,w.alloc (.cells #[.slice none 0 0] 36)=wa:=⟨_,rfl⟩
 rw[hwa]at hb4 hbel
 have HBX:=Aa hb4;have HB:=Aa hbel;have HT:=Aa hT;have hTs:=hT.size;have HL:=Aa hL;have HLN:=Aa hL.len;have hcap:=hL.cap;have hmax:=hL.max;obtain⟨rp,rq,pg,ng,cg,ph,nh,ch,g1,_,g3,_⟩:=hg.ex;have HL2:Ad (b<w.heap.size/\rq<w.heap.size):=⟨hg.lt,g3.at_.lt⟩
 have HGA:=Aa g1;have HRQ:=Aa g3;clear hL hg g1 g3;clear hT hb4 hbel;go_enter Tryz.func165,Tryz.ntmps165
 go_wp2_with fail
 refine(Ju wa (HT.out.below HB.out HT.out.size)).mono ?_;rintro en w1 ⟨g,rfl,hg1,hb1,hh1⟩;have HB1:=Aa (Ae HB.out hb1);have HBX1:=Aa (HBX.out.below hb1 HBX.out.lt);have HGL:Ad (w.heap.size<g):=⟨De HBX.out.lt hg1⟩
 have HH1:=Aa hh1;clear hb1 hg1 hh1;go_wp2
 go_loopw [7,13] (fun _ iv wr=>∃k:Nat,k<=n/\iv=.int .i64 k/\Ad (Below w.heap.size w wr)/\Ad (Bt wr g (Cb ((L.take k).map (·.bs))))/\Ad (Af wr w.heap.size (.slice none 0 0))) (fun _ iv _=>n-(intOf iv).toNat)
 case atStart=>exact⟨0,by omega,rfl,HB1,HH1,HBX1⟩
 case round=>
  obtain⟨k,hk,rfl,HBr,HHr,HBXr⟩:=hrel
  by_cases hkn:k<n
  .obtain⟨PP,hP⟩:∃P,L[k]? = some P:=⟨L[k]'(by rw[<-HLN.out];exact hkn),List.getElem?_eq_getElem _⟩
   obtain⟨bb,off,rfl,hbb,hc⟩:=HL.out.cells (by omega);have hok:=HL.out.ok k PP hP;have HNE:Ad (0<PP.n->∀q,PP.p=some q->q.block≠g):=⟨fun h0 q hq=>by
    obtain⟨b',off',e,h2,_⟩:=(hok.row.row h0).pos h0;rw[hq]at e;cases e
    have:=HGL.out;show b'≠g;omega⟩
   have hck:wr.cell? ⟨bb,off+k,none⟩=some (.slice PP.p PP.n PP.c):=by
    rw[(Bz HBr.out).1 _ _ hbb];exact hc k PP hP
   have HTK:Ad (Cb ((L.take (k+1)).map (·.bs))=Cb ((L.take k).map (·.bs))++(Rk PP.n++PP.bs)):=⟨by
    rw[Fq hP,List.map_append];show Cb ((L.take k).map (·.bs)++[PP.bs])=_;rw[La,hok.row.len]⟩
   have HOK:=Aa hok;have hPn:PP.n<9223372036854775808:=by have h1:=hok.row.cap;have h2:=hok.row.max;omega
   have hkn':(k:Int)<n:=by omega
   clear hc hok hP hbb;obtain⟨pp,pn,pc,pb⟩:=PP
   dsimp only at *
   go_wp2_with fail
   refine(cC hPn).mono ?_;rintro en w2 ⟨gl,rfl,hkl,hgl,hb2⟩;have HR2:Ad (Bi w2 .u8 (some ⟨gl,0,none⟩) 8 8 (Rk pn)):=⟨⟨(Ej pn).symm,As _,by decide,fun _=>hkl.row (Ej pn).symm (As _) (by decide)⟩⟩
   have HH2:=Aa (HHr.out.below hb2 HHr.out.lt);have HBr2:=Aa (HBr.out.trans (hb2.mono HBr.out.size));have HBXr2:=Aa (HBXr.out.below hb2 HBXr.out.lt);have HNL:Ad (0<8->∀q,(some ⟨gl,0,none⟩:Option Addr)=some q->q.block≠g):=⟨fun _ q hq=>by
    cases hq;have:=HHr.out.lt;show gl≠g;omega⟩
   clear hkl hgl hb2 hck
   go_wp2_with fail
   refine(Dv w2 g _ (some ⟨gl,0,none⟩) 8 8 (Rk pn) (HT.out.below HBr2.out HT.out.size) HH2.out (by have:=HGL.out;omega) HR2.out (Vb pn) HNL.out).mono ?_;rintro en w3 ⟨rfl,hb3,hh3⟩;have HH3:=Aa hh3;have HBr3:=Aa (HBr2.out.trans (hb3.below (Nat.le_of_lt HGL.out) HBr2.out.size));have HBXr3:Ad (Af w3 w.heap.size (.slice none 0 0)):=⟨(hb3.block _ HBXr2.out.lt (by have:=HGL.out;omega)).trans HBXr2.out⟩
   clear hh3 hb3
   go_wp2_with fail
   refine(Dv w3 g _ pp pn pc pb (HT.out.below HBr3.out HT.out.size) HH3.out (by have:=HGL.out;omega) (HOK.out.row.below HBr3.out) HOK.out.bytes HNE.out).mono ?_;rintro en w4 ⟨rfl,hb4,hh4⟩;rw[List.append_assoc,<-HTK.out]at hh4
   have HH4:=Aa hh4;have HBr4:=Aa (HBr3.out.trans (hb4.below (Nat.le_of_lt HGL.out) HBr3.out.size));have HBXr4:Ad (Af w4 w.heap.size (.slice none 0 0)):=⟨(hb4.block _ HBXr3.out.lt (by have:=HGL.out;omega)).trans HBXr3.out⟩
   clear hh4 hb4;go_wp2;go_roundw
   case rel=>exact⟨k+1,by omega,by go_num,HBr4,HH4,HBXr4⟩
   case measure=>simp[intOf];omega
  .obtain rfl:k=n:=by omega
   have hkn':¬(k:Int)<k:=by omega
   have hhr:=HHr.out;rw[List.take_of_length_le (by rw[<-HLN.out];exact As _)]at hhr
   replace HHr:Ad _:=⟨hhr⟩
   clear hhr;obtain⟨MQ,hMQ⟩:∃M,Cb (L.map (·.bs))=M:=⟨_,rfl⟩
   rw[hMQ]at HHr
   have HMQ:=Aa hMQ;clear hMQ
   go_wp2_with fail
   refine(Kb wr g _ (HT.out.below HBr.out HT.out.size) HHr.out).mono ?_;rintro en w5 ⟨q,rfl,hq,hb5,hk5⟩;obtain⟨SS,hSS⟩:∃S,Kx MQ=S:=⟨_,rfl⟩
   have hSl:SS.length=32:=by rw[<-hSS];exact Da _
   have hS8:Ay SS:=by rw[<-hSS];exact Ho _
   rw[hSS]at hk5
   have hrow:Bi w5 .u8 (some ⟨q,0,none⟩) 32 32 SS:=⟨hSl.symm,As _,by decide,fun _=>hk5.row hSl.symm (As _) (by decide)⟩
   have HROW:=Aa hrow;have HS8:=Aa hS8;have HSl:=Aa hSl;have HSS:=Aa hSS;have HB5:=Aa (HBr.out.trans (hb5.mono HBr.out.size));have HBX5:=Aa (HBXr.out.below hb5 HBXr.out.lt);clear hq hb5 hk5 hSS hSl hS8 hrow
   go_wp2_with fail
   refine(Ch w5 _ 32 32 SS HROW.out HS8.out (by decide)).mono ?_;rintro en w6 ⟨q2,m2,d2,rfl,hq2,hb6,_⟩;obtain⟨XX,hXX⟩:∃X,be SS=X:=⟨_,rfl⟩
   rw[hXX]at hq2
   have hb7:Below w6.heap.size w6 (w6.alloc (.cells #[.slice q2 m2 d2] 36)):=By;have hX7:=Af.made w6 (.slice q2 m2 d2);obtain⟨w7,hw7⟩:∃w7,w6.alloc (.cells #[.slice q2 m2 d2] 36)=w7:=⟨_,rfl⟩
   rw[hw7]at hb7 hX7
   have hb57:=Ae hb6 hb7;have HNf:Ad (Fit 8 XX (.agg #[.slice q2 m2 d2]) w7):=⟨Fit.of (hq2.below hb7) (by
    rw[<-hXX];have:=HS8.out.reverse.lt;rw[List.length_reverse,HSl.out]at this
    exact De this (by decide))⟩
   have HX7:=Aa hX7;have HB7:=Aa (Ae HB5.out hb57);have HBX7:=Aa (HBX5.out.below hb57 HBX5.out.lt);have HNE:Ad (∀x∈([(w6.heap.size,.cells #[.slice q2 m2 d2] 36 (0,0))]:List (Nat×Obj)),x.1≠w.heap.size):=⟨List.forall_mem_cons.2 ⟨by simp only;have h1:=HBX5.out.lt;have h2:=hb6.size;omega,fun x hx=>by cases hx⟩⟩
   have HGr:=Aa ((HB7.out.block b HL2.out.1).trans HGA.out);have HRq:=Aa (HRQ.out.below HB7.out);have HVL:Ad (XX%Q<Ap 33):=⟨Nat.lt_trans (Nat.mod_lt _ (by have:=HRQ.out.two;omega)) HRQ.out.lim⟩
   have HXX:Ad (be (Kx MQ)%Q=XX%Q):=⟨by rw[HSS.out,hXX]⟩
   clear hq2 hb6 hb7 hX7 hb57 hXX;go_wp2;refine Ak (by kernel_rfl) (by kernel_rfl)
    [some (.pointer (some ⟨b,0,none⟩)),none,some (.pointer (some ⟨b,0,none⟩)),some (.pointer (some ⟨b,1,none⟩)),some (.pointer (some ⟨rq,0,none⟩)),some (.agg #[.slice q2 m2 d2]),none,none]
    [false,true,false,false,false,false,true,true] rfl
    (fun wA wB=>Ao (w.heap.size) wA wB)
    (fun D sp w'=>RG (w.heap.size) w7 [(w6.heap.size,.cells #[.slice q2 m2 d2] 36 (0,0))] w'/\Pu (D 7) (w.heap.size) (XX%Q) w')
    (fun i v w'=>match i with
     | 1=>v=.pointer (some ⟨b,0,none⟩)
     | 6=>Fit 33 (XX%Q) v w'
     | _=>True)
    ?_ ⟨RG.start HB7.out.size (List.forall_mem_cons.2 ⟨HX7.out,fun x hx=>by cases hx⟩),Pu.fresh HBX7.out⟩ ?_ ?_
   .intro i v wA wB hf hb;split at hf
    .exact hf
    .exact hf.keep hb
    .trivial
   .simp only[Az,Nat.reduceAdd];refine⟨?_,?_,?_,?_,?_,?_,?_,?_,trivial⟩
    all_goals intro D sp w' hD hW hdp hg
    case refine_2=>
     (with_reducible refine Ab (w1:=w') (f := 87) (args:=#[.pointer (some ⟨b,0,none⟩)]) ?_ ?_ ?_)
     .simp[Region.wanted,yielded,Act.put,go_sem]
     .simp[Act.eval,Act.put,go_sem]
     .refine(Dw w' b).mono ?_;rintro en w9 ⟨rfl,rfl⟩;exact⟨_,rfl,Ao.same _ _,rfl,hg.1,by simpa [upd]using hg.2⟩
    case refine_3=>
     have k1:(sp 1)=.pointer (some ⟨b,0,none⟩):=(hdp 1 (mq (by kernel_rfl))).2
     with_reducible refine Ac ?_ ?_
     all_goals simp[Region.wanted,yielded,execOp,Act.eval,Act.put,go_sem,k1]
    case refine_5=>
     have c0:=(Cp ((hg.1.keep.bel.block b HL2.out.1).trans HGr.out)).2.1
     with_reducible refine Ac ?_ ?_
     all_goals simp[Region.wanted,yielded,execOp,Act.eval,Act.put,go_sem,c0]
    case refine_6=>
     have c0:w'.cell? ⟨w6.heap.size,0,none⟩=some (.slice q2 m2 d2):=Af.cell (hg.1.of List.mem_cons_self)
     with_reducible refine Ac ?_ ?_
     all_goals simp[Region.wanted,yielded,execOp,Act.eval,Act.put,go_sem,c0]
    case refine_7=>
     (with_reducible refine Ab (w1:=w') (f := 32) (args:=#[.pointer (some ⟨rq,0,none⟩),.agg #[.slice q2 m2 d2]]) ?_ ?_ ?_)
     .simp[Region.wanted,yielded,Act.put,go_sem]
     .simp[Act.eval,Act.put,go_sem]
     .refine(Dc (HRq.out.keep HL2.out.2 hg.1.keep) (HNf.out.keep hg.1.keep) (by decide)).mono ?_;rintro en w9 ⟨u,rfl,hu,hb⟩;exact⟨u,rfl,Ao.of hb hg.1.base,hu,hg.1.later hb,by simpa [upd]using hg.2.later hb⟩
    case refine_8=>
     have hx:∃p n c,sp 6=.agg #[.slice p n c]/\Aj w' p n c (XX%Q)/\XX%Q<Ap (33):=(hdp 6 (mq (by kernel_rfl))).2
     (with_reducible refine Aq hx fun p hx1=>Aq hx1 fun n hx2=>Aq hx2 fun c hx3=>?_)
     have h1:=hx3.1;have hp:=hg.2.put (hx3.2.1)
     (with_reducible refine Aq hp fun q hy1=>Aq hy1 fun m hy2=>Aq hy2 fun k hy3=>?_)
     have h6:=hy3.1.cell;have h7:=hy3.1.free
     (with_reducible refine An (w1:=w'.setCell ⟨w.heap.size,0,none⟩ (.slice p n c)) ?_ ?_ ?_)
     .simp[Region.wanted,yielded,Act.put,go_sem]
     .simp[execOp,Act.eval,Act.put,go_sem,h1,h6,h7]
     .refine⟨Ao.store hy3.1 (As _) _,trivial,hg.1.store hy3.1 (As _) HNE.out _,?_⟩;have h8:=hy3.2;simpa [upd]using h8
    all_goals ((with_reducible refine Ac ?_ ?_);all_goals first|(simp only[Region.wanted];done)|simp[Region.wanted,yielded,execOp,Act.eval,Act.put,go_sem])
   .intro sp w8 hsp hg;obtain⟨hg1,pz,nz,cz,hz1,hz2⟩:=hg;have kz:=hz1.cell;have HZ:=Aa (hz2 rfl);have HE:=Aa (HB7.out.trans hg1.keep.bel);clear hsp hg1 hz1 hz2;simp only[Am,Nat.reduceAdd];generalize sp 1=y1,sp 6=y6,sp 7=y7 at *
    go_simp
    go_wp2;exact bodyPost_ret (v:=.agg #[.slice pz nz cz]) (by simp[results,Tryz.results165,go_sem,kz]) rfl ⟨_,rfl,by rw[HMQ.out,HXX.out];exact Fit.of HZ.out HVL.out,HE.out⟩
open Go Go.RowKit
def kW (Q x:Nat)(msg:List Nat):Nat:=be ((Gt (Ar x (Al Q)) msg ((64+31)/32)).take 64)
def Ym (Q x:Nat)(msg:List Nat):Nat:=if kW Q x msg%Q=0 then 1 else kW Q x msg%Q
noncomputable def Ph (P G y c s:Nat):Nat:=G^s%P*(cJ P y^c%P)%P
def Gs (Q:Nat)(sig:List Nat):Prop:=sig.length=2*Al Q/\be (sig.take (Al Q))<Q/\be (sig.drop (Al Q))<Q
def Cx (P Q y:Nat):Prop:=0<y/\y<P/\y^Q%P=1
theorem dZ {N n:Nat}(h:N<B8 n):be (Ar N n)=N:=by
 unfold be Ar;rw[List.reverse_reverse,Rj,Nat.mod_eq_of_lt h]
theorem nY {P Q y:Nat}(hQ:0<Q)(h:y^Q%P=1):Nat.gcd P y=1:=by
 have h1:Nat.gcd P y ∣ y^Q:=Nat.dvd_trans (Nat.gcd_dvd_right _ _) (Nat.dvd_trans (by rw[Nat.pow_one];exact Nat.dvd_refl _) (Nat.pow_dvd_pow y (show 1<=Q from hQ)));have h2:Nat.gcd P y ∣ P*(y^Q/P):=Nat.dvd_trans (Nat.gcd_dvd_left _ _) (Nat.dvd_mul_right _ _);have h3:=Nat.div_add_mod (y^Q) P;rw[h]at h3
 have h5:y^Q-P*(y^Q/P)=1:=by omega
 have h4:Nat.gcd P y ∣ y^Q-P*(y^Q/P):=Nat.dvd_sub h1 h2;rw[h5]at h4
 exact Nat.dvd_one.1 h4
theorem Mj {P Q G:Nat}(hP:2<=P)(hQ:0<Q)(hG:G^Q%P=1)(x:Nat):Cx P Q (G^x%P):=by
 have h1:(G^x%P)^Q%P=1:=by
  rw[<-Nat.pow_mod,<-Nat.pow_mul,Nat.mul_comm,Nat.pow_mul,Nat.pow_mod,hG,Nat.one_pow,Nat.mod_eq_of_lt (by omega)]
 refine⟨Nat.pos_of_ne_zero fun h=>?_,Nat.mod_lt _ (by omega),h1⟩;rw[h,Nat.zero_pow hQ,Nat.zero_mod]at h1
 omega
theorem Yl {P Q G x k c:Nat}(hP:2<=P)(hQ:0<Q)(hG:G^Q%P=1):Ph P G (G^x%P) c ((k+c*x%Q)%Q)=G^k%P:=by
 have hG1:G^Q%P=1%P:=by rw[hG,Nat.mod_eq_of_lt (by omega)]
 have hi:=(Wv hP (G^x%P)).1 (nY hQ (Mj hP hQ hG x).2.2);obtain⟨Z,hZ⟩:∃Z,cJ P (G^x%P)=Z:=⟨_,rfl⟩
 unfold Ph;rw[hZ]at hi ⊢
 have h2:G^((k+c*x%Q)%Q)%P=G^(k+c*x)%P:=fG hG1 (by rw[Nat.mod_mod,Nat.add_mod_mod]);rw[h2,<-Nat.mul_mod,Nat.pow_add,Nat.mul_assoc,Nat.mul_comm c x,Nat.pow_mul,<-Nat.mul_pow,Nat.mul_mod,Nat.pow_mod (G^x*Z),Nat.mul_comm (G^x) Z,<-Nat.mul_mod_mod Z,hi.2,<-Nat.pow_mod,Nat.one_pow,<-Nat.mul_mod,Nat.mul_one]
theorem qE {Q c s:Nat}(hc:c<Q)(hs:s<Q):Gs Q (Ar c (Al Q)++Ar s (Al Q))/\be ((Ar c (Al Q)++Ar s (Al Q)).take (Al Q))=c/\be ((Ar c (Al Q)++Ar s (Al Q)).drop (Al Q))=s:=by
 have hl:=Fb Q;have h1:(Ar c (Al Q)++Ar s (Al Q)).take (Al Q)=Ar c (Al Q):=by
  rw[List.take_append_of_le_length (by rw[Bp];exact As _),List.take_of_length_le (by rw[Bp];exact As _)]
 have h2:(Ar c (Al Q)++Ar s (Al Q)).drop (Al Q)=Ar s (Al Q):=by
  rw[List.drop_append_of_le_length (by rw[Bp];exact As _),List.drop_of_length_le (by rw[Bp];exact As _),List.nil_append]
 have e1:be (Ar c (Al Q))=c:=dZ (by omega);have e2:be (Ar s (Al Q))=s:=dZ (by omega);unfold Gs;rw[h1,h2,e1,e2];exact⟨⟨by rw[List.length_append,Bp,Bp];omega,hc,hs⟩,rfl,rfl⟩
theorem nM {Q x:Nat}{msg:List Nat}(hQ:2<=Q):Ym Q x msg<Q:=by
 unfold Ym;split
 .omega
 .exact Nat.mod_lt _ (by omega)
def Mr:List Nat:=[100,108,101,113]
def Nk (P Q A B Y Z U V:Nat)(side:List Nat):Nat :=
 be (Kx (Cb [Mr,Ar A (Al P),Ar B (Al P),Ar Y (Al P),Ar Z (Al P),Ar U (Al P),Ar V (Al P),side]))%Q
def Ji (P A B:Nat)(side:List Nat):List Nat:=Mr++(Ar A (Al P)++(Ar B (Al P)++side))
def rL (P Q A B x:Nat)(side:List Nat):Nat:=Ym Q x (Ji P A B side)
def rM (P Q A B x:Nat)(side:List Nat):Nat:=Nk P Q A B (A^x%P) (B^x%P) (A^rL P Q A B x side%P) (B^rL P Q A B x side%P) side
def rS (P Q A B x:Nat)(side:List Nat):Nat:=(rL P Q A B x side+rM P Q A B x side*x%Q)%Q
def lD (P Q A B x:Nat)(side:List Nat):List Nat:=Ar (rM P Q A B x side) (Al Q)++Ar (rS P Q A B x side) (Al Q)
def Zx (P Q A B Y Z:Nat):Prop:=Cx P Q A/\Cx P Q B/\Cx P Q Y/\Cx P Q Z
noncomputable def Op (P Q A B Y Z:Nat) (side proof:List Nat):Prop :=
 Gs Q proof/\Zx P Q A B Y Z /\
  Nk P Q A B Y Z (Ph P A Y (be (proof.take (Al Q))) (be (proof.drop (Al Q)))) (Ph P B Z (be (proof.take (Al Q))) (be (proof.drop (Al Q)))) side=be (proof.take (Al Q))
theorem Rm {P Q A B Y Z U V:Nat}{side:List Nat}(hQ:0<Q):Nk P Q A B Y Z U V side<Q:=Nat.mod_lt _ hQ
theorem qG {P Q A B x:Nat}{side:List Nat}(hQ:0<Q):rM P Q A B x side<Q:=Rm hQ
theorem cU (P Q A B x:Nat)(side:List Nat):(lD P Q A B x side).length=2*Al Q:=by
 unfold lD;rw[List.length_append,Bp,Bp];omega
theorem gS (P Q A B x:Nat)(side:List Nat):Ay (lD P Q A B x side):=fun y hy=>by
 unfold lD at hy;rcases List.mem_append.1 hy with h|h
 .exact(Dx _ _).reverse y h
 .exact(Dx _ _).reverse y h
theorem Zw (P A B:Nat){side:List Nat}(h:Ay side):Ay (Ji P A B side):=fun y hy=>by
 unfold Ji Mr at hy;rcases List.mem_append.1 hy with h1|h1
 .simp only[List.mem_cons,List.not_mem_nil,or_false]at h1;omega
 .rcases List.mem_append.1 h1 with h2|h2
  .exact(Dx _ _).reverse y h2
  .rcases List.mem_append.1 h2 with h3|h3
   .exact(Dx _ _).reverse y h3
   .exact h y h3
theorem Zv {P Q A B x y p r c s:Nat}{side:List Nat}(hP:2<=P)(hA:Cx P Q A)(hB:Cx P Q B)(hc:c<Q)(h1:(p+c*x%Q)%Q=s)(h2:(r+c*y%Q)%Q=s)(h3:Nk P Q A B (A^x%P) (B^y%P) (A^p%P) (B^r%P) side=c) :
  Op P Q A B (A^x%P) (B^y%P) side (Ar c (Al Q)++Ar s (Al Q)):=by
 have hQ:0<Q:=by omega
 have hs:s<Q:=by rw[<-h1];exact Nat.mod_lt _ hQ
 obtain⟨k1,k2,k3⟩:=qE hc hs;have e1:Ph P A (A^x%P) c s=A^p%P:=by rw[<-h1];exact Yl hP hQ hA.2.2
 have e2:Ph P B (B^y%P) c s=B^r%P:=by rw[<-h2];exact Yl hP hQ hB.2.2
 unfold Op;rw[k2,k3,e1,e2];exact⟨k1,⟨hA,hB,Mj hP hQ hA.2.2 x,Mj hP hQ hB.2.2 y⟩,h3⟩
theorem oM {P Q A B x:Nat}{side:List Nat}(hP:2<=P)(hQ:0<Q)(hA:Cx P Q A)(hB:Cx P Q B) :
  Op P Q A B (A^x%P) (B^x%P) side (lD P Q A B x side):=by
 unfold lD;exact Zv hP hA hB (qG hQ) rfl rfl rfl
theorem kZ {Q x p r c:Nat}(hp:p<Q)(hr:r<Q):((p+c*x%Q)%Q=(r+c*x%Q)%Q) ↔ p=r:=by
 refine⟨fun h=>?_,fun h=>by rw[h]⟩;have hQ:0<Q:=by omega
 have h1:=Nh h;rw[show ((p+c*x%Q:Nat):Int)-((r+c*x%Q:Nat):Int)=(p:Int)-r by omega]at h1
 have h2:=Hv h1
 rwa [Nat.mod_eq_of_lt hp,Nat.mod_eq_of_lt hr]at h2
theorem kY {Q x y p r c J:Nat}(hQ:Cs Q)(hx:x<Q)(hy:y<Q)(hp:p<Q)(hr:r<Q)(hc:c<Q)(hxy:x≠y)(hJ:Jq Q (Fw y x Q) J) :
  ((p+c*x%Q)%Q=(r+c*y%Q)%Q) ↔ c=Fw p r Q*J%Q:=by
 have hq:=hQ.two;have h0:0<Q:=by omega
 have I (n:Nat) (h:n<Q):Is Q n n:=⟨h,by simp⟩
 have M (a b:Nat):Is Q (a*b%Q) ((a:Int)*b):=by have:=Is.of h0 (a*b);rwa [Int.natCast_mul]at this
 have hF:Is Q ((p+c*x%Q)%Q) ((p:Int)+c*x):=(I p hp).add (M c x);have hS:Is Q ((r+c*y%Q)%Q) ((r:Int)+c*y):=(I r hr).add (M c y);have hd:Is Q (Fw y x Q) ((y:Int)-x):=(I y hy).sub hq (I x hx);have hn:¬(Q:Int) ∣ (y:Int)-x:=fun h=>hxy (by
  have:=Hv h;rw[Nat.mod_eq_of_lt hy,Nat.mod_eq_of_lt hx]at this
  exact this.symm)
 obtain⟨j1,j2⟩:=Is.inv (N:=Fw y x Q) (z:=(y:Int)-x) hQ (by rw[Nat.mod_eq_of_lt hd.lt];exact hd) hJ hn;have hL:Is Q (Fw p r Q*J%Q) (((p:Int)-r)*J):=((I p hp).sub hq (I r hr)).mul (I J j2);constructor
 .intro h;have h1:=hF.diff hS h;refine(I c hc).uniq hL ?_;have h2:(Q:Int) ∣ ((p:Int)+c*x-(r+c*y))*J:=Wx h1 _;have h3:(Q:Int) ∣ c*(((y:Int)-x)*J-1):=Ww j1 _;have h4:=Int.dvd_neg.2 (Int.dvd_add h2 h3);have e:-(((p:Int)+c*x-(r+c*y))*J+c*(((y:Int)-x)*J-1))=c-(p-r)*J:=by grind
  rwa [e]at h4
 .intro h;have h1:=(I c hc).diff hL h;refine hF.uniq hS ?_;have h2:(Q:Int) ∣ (c-(p-r)*J)*((y:Int)-x):=Wx h1 _;have h3:(Q:Int) ∣ ((p:Int)-r)*(((y:Int)-x)*J-1):=Ww j1 _;have h4:=Int.dvd_neg.2 (Int.dvd_add h2 h3);have e:-((c-(p-r)*J)*((y:Int)-x)+((p:Int)-r)*(((y:Int)-x)*J-1))=(p:Int)+c*x-(r+c*y):=by grind
  rwa [e]at h4
structure KN (B:Nat) (w w':World):Prop where
 k:Ao B w w'
 blk:∀(g:Nat) (o:Obj),w.heap[g]? = some o->(∀q m d,o≠.cells #[.slice q m d] 36 (0,0))->w'.heap[g]? = some o
theorem KN.of {B:Nat}{w w':World}(h:Below w.heap.size w w')(hB:B<=w.heap.size):KN B w w':=⟨Ao.of h hB,fun g o ho _=>by rw[h.block g (Gn ho).1];exact ho⟩
theorem KN.same (B:Nat)(w:World):KN B w w:=⟨Ao.same _ _,fun _ _ h _=>h⟩
theorem KN.store {B b m d:Nat}{q:Option Addr}{w:World}(hb:Af w b (.slice q m d))(hB:B<=b)(v:Value):KN B w (w.setCell ⟨b,0,none⟩ v):=⟨Ao.store hb hB v,fun g o ho hn=>by
 have hne:g≠b:=fun e=>by
  subst e;unfold Af at hb;rw[hb]at ho
  cases ho;exact hn _ _ _ rfl
 simp[World.setCell,Array.getElem?_modify,hne.symm];exact ho⟩
theorem Fit.kn {e N B:Nat}{v:Value}{w w':World}(h:Fit e N v w)(k:KN B w w'):Fit e N v w':=h.keep k.k
theorem Fm.kn {e N B:Nat}{t v:Value}{w w':World}(h:Fm e N t v w)(k:KN B w w'):Fm e N t v w':=h.keep k.k
theorem Ring.kn {B r M f:Nat}{w w':World}(h:Ring w r M f)(k:KN B w w'):Ring w' r M f:=by
 obtain⟨p,n,c,h1,h2,h3⟩:=h.at_.ex
 exact⟨⟨p,n,c,k.blk _ _ h1 (fun _ _ _=>by simp),k.k.nat _ _ _ _ h2,h3⟩,h.two,h.lim,h.few⟩
def Xv (Q:Nat)(v:Value)(w:World):Prop:=(∃b P G H,v=.pointer (some ⟨b,0,none⟩)/\Bb w b P Q G H) ∨ (v=.pointer none/\Q=0)
theorem Xv.below {Q:Nat}{v:Value}{w w':World}(h:Xv Q v w)(hb:Below w.heap.size w w'):Xv Q v w':=by
 rcases h with ⟨b,P,G,H,h1,h2⟩|h
 .exact .inl ⟨b,P,G,H,h1,h2.below hb⟩
 .exact .inr h
theorem Xv.of {w:World}{b P Q G H:Nat}(h:Bb w b P Q G H):Xv Q (.pointer (some ⟨b,0,none⟩)) w:=.inl ⟨b,P,G,H,rfl,h⟩
structure rF (B:Nat) (w:World) (Q:Nat) (v:Value):Prop where
 ex:∃w0,Xv Q v w0/\w0.heap.size<=B/\Ao B w0 w
theorem rF.of {B:Nat}{w w':World}{Q:Nat}{v:Value}(h:Xv Q v w)(hB:w.heap.size<=B)(k:Below w.heap.size w w')(hB2:B<=w.heap.size:=by exact As _):rF B w' Q v:=⟨w,h,hB,Ao.of k hB2⟩
theorem rF.keep {B:Nat}{w w':World}{Q:Nat}{v:Value}(h:rF B w Q v)(k:Ao B w w'):Xv Q v w':=by
 obtain⟨w0,h1,h2,h3⟩:=h.ex;rcases h1 with ⟨b,P,G,H,h4,h5⟩|h4
 .exact .inl ⟨b,P,G,H,h4,h5.keep h2 (h3.trans k)⟩
 .exact .inr h4
def RQ (Q:Nat)(v:Value)(w:World):Prop:=(∃r,v=.pointer (some ⟨r,0,none⟩)/\Ring w r Q 33) ∨ (v=.pointer none/\Q=0)
theorem RQ.kn {Q B:Nat}{v:Value}{w w':World}(h:RQ Q v w)(k:KN B w w'):RQ Q v w':=by
 rcases h with ⟨r,h1,h2⟩|h
 .exact .inl ⟨r,h1,h2.kn k⟩
 .exact .inr h
theorem Mz {w:World}{Q:Nat}{g0:Value}(h:Xv Q g0 w) :
  Calls Tryz.prog 20 #[g0] w fun en w'=>∃x,en=.returned x/\RQ Q x w'/\Below w.heap.size w w':=by
 rcases h with ⟨b,P,G,H,rfl,h2⟩|⟨rfl,rfl⟩
 .refine(Kd h2).mono ?_;rintro en w' ⟨r,rfl,hr,hb⟩;exact⟨_,rfl,.inl ⟨r,rfl,hr⟩,hb⟩
 .refine(cK w).mono ?_;rintro en w' ⟨rfl,hb⟩;exact⟨_,rfl,.inr ⟨rfl,rfl⟩,hb⟩
theorem Yr {w:World}{Q:Nat}{r0:Value}(h:RQ Q r0 w) :
  Calls Tryz.prog 83 #[r0] w fun en w'=>∃x,en=.returned x/\Fit 33 Q x w'/\Below w.heap.size w w':=by
 rcases h with ⟨r,rfl,h2⟩|⟨rfl,rfl⟩
 .exact Ei h2
 .refine(Ql w).mono ?_;rintro en w' ⟨rfl,hb⟩;exact⟨_,rfl,Fit.of (Aj.nil _) (by decide),hb⟩
theorem lJ {N M:Nat}:Bm N M<0 ↔ N<M:=by
 unfold Bm;split
 .simp_all
 .split<;>simp_all<;>omega
theorem dD {N:Nat}(h:N<Ap 33):Ax N<=1056:=by
 have:=Fa h;omega
theorem Em {w:World}{Q:Nat}{g0:Value}(h:Xv Q g0 w) :
  Calls Tryz.prog 162 #[g0] w fun en w'=>en=.returned (.int .i64 (Al Q:Nat))/\Below w.heap.size w w':=by
 have HQ:=Aa h;clear h;go_enter Tryz.func162,Tryz.ntmps162
 go_wp2_with fail
 refine(Mz HQ.out).mono ?_;rintro en w1 ⟨r0,rfl,hr,hb1⟩;have HR:=Aa hr;have HB1:=Aa hb1;clear hr hb1
 go_wp2_with fail
 refine(Yr HR.out).mono ?_;rintro en w2 ⟨_,rfl,⟨p,n,c,rfl,h1,h2⟩,hb2⟩;have HN:=Aa h1;have hn:n<1000000:=by have:=h1.len_le h2;omega
 have hl:Ax Q<=1056:=dD h2;have HB2:=Aa (Ae HB1.out hb2);have HS:Ad (Al Q=(Ax Q+7)/8):=⟨rfl⟩
 clear h1 h2 hb2
 go_wp2_with fail
 refine(En _ p n c Q HN.out hn).mono ?_;rintro en w3 ⟨rfl,hb3⟩;have HB3:=Aa (Ae HB2.out hb3);clear hb3;obtain⟨L,hL⟩:∃L,Ax Q=L:=⟨_,rfl⟩
 rw[hL]at hl HS
 simp only[hL];clear hL;go_wp2;go_ret;refine⟨?_,HB3.out⟩;rw[HS.out];exact congrArg (fun z=>Ending.returned (.int .i64 z)) (by omega)
theorem jG {w:World}{Q:Nat}{g0:Value}(h:Xv Q g0 w)(hq:Al Q<=16) :
  Calls Tryz.prog 113 #[g0] w fun en w'=>en=.returned (.int .i64 (2*Al Q:Nat))/\Below w.heap.size w w':=by
 have HQ:=Aa h;clear h;go_enter Tryz.func113,Tryz.ntmps113
 go_wp2_with fail
 refine(Em HQ.out).mono ?_;rintro en w1 ⟨rfl,hb1⟩;have HB1:=Aa hb1;clear hb1;obtain⟨L,hL⟩:∃L,Al Q=L:=⟨_,rfl⟩
 have HL:=Aa hL;rw[hL]at hq
 simp only[hL];clear hL HQ;go_wp2;go_ret;refine⟨?_,HB1.out⟩;rw[HL.out];show Ending.returned (.int .i64 (2*(L:Int)))=Ending.returned (.int .i64 ((2*L:Nat):Int));rw[Int.natCast_mul];rfl
theorem Hx {w:World}{Q e A:Nat}{g0 v:Value}(h:Xv Q g0 w)(hv:Fit e A v w)(he:e<=30000) :
  Calls Tryz.prog 110 #[g0,v] w fun en w'=>en=.returned (.bool (decide (A<Q)))/\Below w.heap.size w w':=by
 obtain⟨pa,na,ca,rfl,h1,h2⟩:=Aw hv;have hb1:=Af.made w (.slice pa na ca);have hbel:Below w.heap.size w (w.alloc (.cells #[.slice pa na ca] 36)):=By;obtain⟨wa,hwa⟩:∃wa,w.alloc (.cells #[.slice pa na ca] 36)=wa:=⟨_,rfl⟩
 rw[hwa]at hb1 hbel
 have HA:=Aa ((Fit.of h1 h2).below hbel);have HBX:=Aa hb1;have HB:=Aa hbel;have HQ:=Aa (rF.of h (As _) hbel);obtain⟨K,hK⟩:∃K,Bm A Q=K:=⟨_,rfl⟩
 have HK:=Aa hK;obtain⟨X,hX⟩:∃X,decide (A<Q)=X:=⟨_,rfl⟩
 have hE:decide (K<0)=X:=by
  rw[<-hK,<-hX];exact decide_eq_decide.2 lJ
 rw[hX];clear hK hX h1 h2 hb1 hbel h hv;go_enter Tryz.func110,Tryz.ntmps110;go_wp2;refine Ak (by kernel_rfl) (by kernel_rfl)
  [some (.agg #[.slice pa na ca]),some (g0),none,none,none,some (.bool X),some (.bool X)]
  [false,false,true,true,true,false,false] rfl
  (fun wA wB=>KN (w.heap.size) wA wB)
  (fun D sp w'=>RG (w.heap.size) wa [(w.heap.size,.cells #[.slice pa na ca] 36 (0,0))] w'/\True)
  (fun i v w'=>match i with
   | 2=>RQ Q v w'
   | 3=>Fit 33 Q v w'
   | 4=>v=.int .i64 K
   | _=>True)
  ?_ ⟨RG.start HB.out.size (List.forall_mem_cons.2 ⟨HBX.out,fun x hx=>by cases hx⟩),trivial⟩ ?_ ?_
 .intro i v wA wB hf hb;split at hf
  .exact hf.kn hb
  .exact hf.kn hb
  .exact hf
  .trivial
 .simp only[Az,Nat.reduceAdd];refine⟨?_,?_,?_,?_,?_,?_,?_,trivial⟩
  all_goals intro D sp w' hD hW hdp hg
  case refine_1=>
   have c0:w'.cell? ⟨w.heap.size,0,none⟩=some (.slice pa na ca):=Af.cell (hg.1.of List.mem_cons_self)
   with_reducible refine Ac ?_ ?_
   all_goals simp[Region.wanted,yielded,execOp,Act.eval,Act.put,go_sem,c0]
  case refine_3=>
   (with_reducible refine Ab (w1:=w') (f := 20) (args:=#[g0]) ?_ ?_ ?_)
   .simp[Region.wanted,yielded,Act.put,go_sem]
   .simp[Act.eval,Act.put,go_sem]
   .refine(Mz (HQ.out.keep hg.1.keep)).mono ?_;rintro en w9 ⟨u,rfl,hu,hb⟩;exact⟨u,rfl,KN.of hb hg.1.base,hu,hg.1.later hb,trivial⟩
  case refine_4=>
   have k2:RQ Q (sp 2) w':=(hdp 2 (mq (by kernel_rfl))).2
   (with_reducible refine Ab (w1:=w') (f := 83) (args:=#[sp 2]) ?_ ?_ ?_)
   .simp[Region.wanted,yielded,Act.put,go_sem]
   .simp[Act.eval,Act.put,go_sem]
   .refine(Yr k2).mono ?_;rintro en w9 ⟨u,rfl,hu,hb⟩;exact⟨u,rfl,KN.of hb hg.1.base,hu,hg.1.later hb,trivial⟩
  case refine_5=>
   have k3:Fit 33 Q (sp 3) w':=(hdp 3 (mq (by kernel_rfl))).2
   (with_reducible refine Ab (w1:=w') (f := 34) (args:=#[.agg #[.slice pa na ca],sp 3]) ?_ ?_ ?_)
   .simp[Region.wanted,yielded,Act.put,go_sem]
   .simp[Act.eval,Act.put,go_sem]
   .refine(Be (HA.out.keep hg.1.keep) k3 (by omega) (by decide) HK.out).mono ?_;rintro en w9 ⟨u,rfl,rfl,hb⟩;exact⟨_,rfl,KN.of hb hg.1.base,rfl,hg.1.later hb,trivial⟩
  case refine_6=>
   have k4:(sp 4)=.int .i64 K:=(hdp 4 (mq (by kernel_rfl))).2
   with_reducible refine Ac ?_ ?_
   all_goals simp[Region.wanted,yielded,execOp,Act.eval,Act.put,go_sem,k4,hE]
  all_goals ((with_reducible refine Ac ?_ ?_);all_goals first|(simp only[Region.wanted];done)|simp[Region.wanted,yielded,execOp,Act.eval,Act.put,go_sem])
 .intro sp w7 hsp hg;have HB7:=Aa (HB.out.trans hg.1.keep.bel);clear hsp hg;simp only[Am,Nat.reduceAdd];generalize sp 2=y2,sp 3=y3,sp 4=y4 at *
  go_simp
  go_wp2;go_ret;exact⟨rfl,HB7.out⟩
end Go.Proofs.YtnbmfaihlefgfaaGreatDoor
