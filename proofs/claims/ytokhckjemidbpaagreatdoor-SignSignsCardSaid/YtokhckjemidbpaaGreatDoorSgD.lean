/- A signature out of bytes (sign.signatureOf). -/
import Derived.Test.YtokhckjemidbpaaGreatDoorSgC
set_option maxRecDepth 1000000
set_option maxHeartbeats 16000000
set_option linter.all false
namespace Go.Proofs.YtokhckjemidbpaaGreatDoor
open Go Go.RowKit Go.Proofs.YtokhckjemidbpaaGreatDoor.Flow
theorem Aj.but {w w':World}{b n c N:Nat}{p:Option Addr}(h:Aj w p n c N)(k:Dg b w w')(hp:∀q,p=some q->q.block≠b):Aj w' p n c N :=
 h.grown (g:=b) ⟨k.os,k.tape,k.output,k.size,fun i hi hn=>k.block i hi (fun e=>hn (by rw[e]))⟩ hp
theorem Af.but {w w':World}{b g:Nat}{u:Value}(h:Af w g u)(k:Dg b w w')(hne:g≠b):Af w' g u:=(k.block g h.lt hne).trans h
def bH (p:Option Addr)(c W:Nat):Option Addr:=if c-W=0 then p else p.map (·.add W)
theorem Bd.back {w:World}{p:Option Addr}{n c W:Nat}{bs:List Nat}(h:Bd w .u8 p n c bs)(hW:W<=n):Bd w .u8 (bH p c W) (n-W) (c-W) (bs.drop W):=by
 have h1:=h.len;have h2:=h.cap;have h3:=h.max;refine⟨by simp;omega,by omega,by omega,fun h0=>?_⟩;obtain⟨b,off,rfl,hb,hc⟩:=(h.row (by omega)).pos (by omega);have e:bH (some ⟨b,off,none⟩) c W=some ⟨b,off+W,none⟩:=by
  unfold bH;rw[if_neg (by omega),Option.map_some,add_plain]
 rw[e];refine⟨by simp;omega,by omega,by omega,.inr ⟨b,off+W,rfl,hb,fun i x hx=>?_⟩⟩;rw[List.getElem?_drop]at hx
 rw[Nat.add_assoc];exact hc _ x hx
structure Ul (w6:World) (b:Nat) (x y:Option Addr×Nat×Nat) (d:Bool) (w:World):Prop where
 but:Dg b w6 w
 box:Ey w b (if d then .slice x.1 x.2.1 x.2.2 else .slice none 0 0) (if d then .slice y.1 y.2.1 y.2.2 else .slice none 0 0)
theorem Ul.later {w6 w w':World}{b:Nat}{x y:Option Addr×Nat×Nat}{d:Bool}(h:Ul w6 b x y d w)(hb:Below w.heap.size w w'):Ul w6 b x y d w':=⟨h.but.trans (Dg.of hb),h.box.below hb h.box.lt⟩
theorem Ul.put {w6 w:World}{b:Nat}{x y:Option Addr×Nat×Nat}(h:Ul w6 b x y false w):Ul w6 b x y true ((w.setCell ⟨b,0,none⟩ (.slice x.1 x.2.1 x.2.2)).setCell ⟨b,1,none⟩ (.slice y.1 y.2.1 y.2.2)):=by
 refine⟨(h.but.trans (Dg.setCell _ _ _)).trans (Dg.setCell _ _ _),⟨?_⟩⟩;have:=h.box.at_
 simp[World.setCell,Array.getElem?_modify,this]
def mY (Q:Nat)(sig:List Nat)(w:World)(en:Ending)(w':World):Prop :=
 ∃(x y:Option Addr×Nat×Nat) (X:Bool),en=.returned (.tuple #[.agg #[.slice x.1 x.2.1 x.2.2,.slice y.1 y.2.1 y.2.2],.bool X])/\(X=true ↔ Hc Q sig) /\
  (Hc Q sig->Gq w' x (be (sig.take (Ak Q)))/\Gq w' y (be (sig.drop (Ak Q))))/\Below w.heap.size w w'
theorem Fit.but' {e N b:Nat}{p:Option Addr}{n c:Nat}{w w':World}(h:Fit e N (.agg #[.slice p n c]) w)(k:Dg b w w')(hp:∀q,p=some q->q.block≠b):Fit e N (.agg #[.slice p n c]) w':=Fit.of ((Hs h).but k hp) h.lim
theorem Yg {bs:List Nat}{W:Nat}(h8:Au bs)(hl:bs.length<=W)(hW:W<=16):be bs<Ar 4:=by
 have h1:=h8.reverse.lt;rw[List.length_reverse]at h1
 exact Ej h1 (Dn (Hw (Dn hl hW)) (by decide))
theorem Vp {w:World}{Q n c:Nat}{g0:Value}{ps:Option Addr}{sig:List Nat}(hq:Us Q g0 w)(hs:Ak Q<=16)(hr:Ax w ⟨ps,n,c,sig⟩) :
  Calls Tryz.prog 84 #[g0,.slice ps n c] w (mY Q sig w):=by
 have hx:=Ey.made w (.slice none 0 0) (.slice none 0 0);have hb0:Below w.heap.size w (w.alloc (.cells #[.slice none 0 0,.slice none 0 0] 125)):=Bx;obtain⟨wa,hwa⟩:∃wa,w.alloc (.cells #[.slice none 0 0,.slice none 0 0] 125)=wa:=⟨_,rfl⟩
 rw[hwa]at hx hb0
 have HX:=Ab hx;have HB0:=Ab hb0;have HQA:=Ab hq;have HQ:=Ab (hq.below hb0);have HR:=Ab hr;have hlen:n=sig.length:=hr.row.len;have hcap:n<=c:=hr.row.cap;have hmax:c<=9223372036854775807:=hr.row.max;obtain⟨W,hW⟩:∃W,Ak Q=W:=⟨_,rfl⟩
 have HW:=Ab hW;rw[hW]at hs
 obtain⟨L2,hL2⟩:∃L,2*W=L:=⟨_,rfl⟩
 have HL2:Aa (2*Ak Q=L2):=⟨by rw[hW,hL2]⟩
 have HSZ:=Ab (Za (hq.below hb0) (by rw[hW];exact hs));have HLEN:=Ab hlen;clear hx hb0 hq hr hW
 by_cases hn:n=L2
 .subst hn;have hne:((n:Int)!=(n:Int))=false:=by simp
  have hWn:W<=n:=by omega
  have hnW:n-W=W:=by omega
  obtain⟨c2,hc2⟩:∃c2,c-W=c2:=⟨_,rfl⟩
  have HR1:Aa (∀w',Below w.heap.size w w'->Bd w' .u8 ps W c (sig.take W)):=⟨fun w' hb=>((HR.out.below hb).row).take W hWn⟩
  have HLS:Aa (sig.length=2*W):=⟨by omega⟩
  by_cases hcW:c=W
  .obtain rfl:W=0:=by omega
   obtain rfl:n=0:=by omega
   obtain rfl:c=0:=by omega
   have HR2:Aa (∀w',Below w.heap.size w w'->Bd w' .u8 ps 0 0 (sig.drop 0)):=⟨fun w' hb=>by rw[List.drop_zero];exact(HR.out.below hb).row⟩
   clear hlen hL2 hne hWn hnW hc2 hcW hcap hmax;go_enter Tryz.func84,Tryz.ntmps84
   go_wp2_with fail
   refine HSZ.out.mono ?_;rintro en w1 ⟨rfl,hb1⟩;rw[HL2.out];have HX1:=Ab (HX.out.below hb1 HX.out.lt);have HQ1:=Ab (HQ.out.below hb1);have HB1:=Ab (Ae HB0.out hb1);clear hb1 HX HQ hwa
   go_wp2_with fail
   refine(Fg HQ1.out).mono ?_;rintro en w2 ⟨rfl,hb2⟩;rw[HW.out];have HX2:=Ab (HX1.out.below hb2 HX1.out.lt);have HB2:=Ab (Ae HB1.out hb2);clear hb2 HX1 HQ1
   go_wp2_with fail
   refine(Cr w2 ps 0 0 (sig.take 0) (HR1.out _ HB2.out) (HR.out.bytes.take 0) (by omega)).mono ?_;rintro en w3 ⟨px,nx,cx,rfl,hqx,hb3,hnx⟩;obtain⟨x,hxx⟩:∃x:Option Addr×Nat×Nat,(px,nx,cx)=x:=⟨_,rfl⟩
   obtain rfl:px=x.1:=by rw[<-hxx]
   obtain rfl:nx=x.2.1:=by rw[<-hxx]
   obtain rfl:cx=x.2.2:=by rw[<-hxx]
   clear hxx;have hb4:Below w3.heap.size w3 (w3.alloc (.cells #[.slice x.1 x.2.1 x.2.2] 37)):=Bx;have hX4:=Af.made w3 (.slice x.1 x.2.1 x.2.2);obtain⟨bx,hbx⟩:∃bx,w3.heap.size=bx:=⟨_,rfl⟩
   have hz4:(w3.alloc (.cells #[.slice x.1 x.2.1 x.2.2] 37)).heap.size=bx+1:=by rw[<-hbx];simp
   obtain⟨w4,hw4⟩:∃w4,w3.alloc (.cells #[.slice x.1 x.2.1 x.2.2] 37)=w4:=⟨_,rfl⟩
   rw[hw4]at hb4 hX4 hz4
   rw[hbx]at hX4
   have hb24:=Ae hb3 hb4;have HX4:=Ab hX4;have HXN:=Ab (hqx.below hb4);have HB4:=Ab (Ae HB2.out hb24);have HSB4:=Ab (HX2.out.below hb24 HX2.out.lt);have HNX:Aa (∀q,x.1=some q->q.block≠w.heap.size):=⟨hnx.ne HX2.out.lt⟩
   have HBX:Aa (w.heap.size<bx):=⟨by rw[<-hbx];exact Ej HX2.out.lt hb3.size⟩
   clear hqx hb3 hb4 hX4 hz4 hb24 hnx HX2
   go_wp2_with fail
   clear hw4;refine(Cr w4 ps 0 0 (sig.drop 0) (HR2.out _ HB4.out) (fun x hx=>HR.out.bytes x (List.mem_of_mem_drop hx)) (by omega)).mono ?_;rintro en w5 ⟨py,ny,cy,rfl,hqy,hb5,hny⟩;obtain⟨y,hyy⟩:∃y:Option Addr×Nat×Nat,(py,ny,cy)=y:=⟨_,rfl⟩
   obtain rfl:py=y.1:=by rw[<-hyy]
   obtain rfl:ny=y.2.1:=by rw[<-hyy]
   obtain rfl:cy=y.2.2:=by rw[<-hyy]
   clear hyy;have hb6:Below w5.heap.size w5 (w5.alloc (.cells #[.slice y.1 y.2.1 y.2.2] 37)):=Bx;have hY6:=Af.made w5 (.slice y.1 y.2.1 y.2.2);obtain⟨b9,hb9⟩:∃b,w5.heap.size=b:=⟨_,rfl⟩
   obtain⟨w6,hw6⟩:∃w6,w5.alloc (.cells #[.slice y.1 y.2.1 y.2.2] 37)=w6:=⟨_,rfl⟩
   rw[hw6]at hb6 hY6
   rw[hb9]at hY6
   have hb46:=Ae hb5 hb6;have HX6:=Ab (HX4.out.below hb46 HX4.out.lt);have HY6:=Ab hY6;have HNFX:Aa (Gq w6 x (be (sig.take 0))):=⟨HXN.out.below hb46⟩
   have HNFY:Aa (Gq w6 y (be (sig.drop 0))):=⟨hqy.below hb6⟩
   have HB6:=Ab (Ae HB4.out hb46);have HSB:Aa (Ey w6 w.heap.size (.slice none 0 0) (.slice none 0 0)):=⟨HSB4.out.below hb46 HSB4.out.lt⟩
   have HNY:Aa (∀q,y.1=some q->q.block≠w.heap.size):=⟨hny.ne HSB4.out.lt⟩
   have HNE:Aa (bx≠w.heap.size/\b9≠w.heap.size):=⟨by have:=HBX.out;omega,by have h1:=HSB4.out.lt;have h2:=hb5.size;omega⟩
   have HFX:=Ab (Fit.of HNFX.out (Yg (HR.out.bytes.take 0) (by rw[List.length_take];omega) hs));have HFY:=Ab (Fit.of HNFY.out (Yg (fun x hx=>HR.out.bytes x (List.mem_of_mem_drop hx)) (by rw[List.length_drop];have:=HLS.out;omega) hs));clear hqy hb5 hb6 hY6 hb46 hny HXN HX4 HSB4;obtain⟨X2,hX2⟩:∃X,decide (be (sig.drop 0)<Q)=X:=⟨_,rfl⟩
   have HC2:=Ab hX2
   by_cases hc1:be (sig.take 0)<Q
   .have HC1:Aa _:=⟨decide_eq_true hc1⟩
    have HIF:Aa (X2=true ↔ Hc Q sig):=⟨by
     unfold Hc;rw[HW.out,<-hX2,decide_eq_true_iff];exact⟨fun h=>⟨HLS.out,hc1,h⟩,fun h=>h.2.2⟩⟩
    clear hc1 hX2;go_wp2;clear hw6 hbx hb9;refine Ah (by kernel_rfl) (by kernel_rfl)
     [some (.agg #[.slice x.1 x.2.1 x.2.2]),some (.agg #[.slice y.1 y.2.1 y.2.2]),some (.agg #[.slice x.1 x.2.1 x.2.2,.slice y.1 y.2.1 y.2.2]),some (g0),some (.agg #[.slice x.1 x.2.1 x.2.2]),none,some (.bool true),some (g0),some (.agg #[.slice y.1 y.2.1 y.2.2]),none,some (.bool X2),none,some (.bool X2)]
     [false,false,false,false,false,true,false,false,false,true,false,true,false] rfl
     (fun w1 w2=>Dg w.heap.size w1 w2)
     (fun D w'=>Ul w6 w.heap.size x y (D 11) w')
     (fun i v w'=>match i with
      | 5=>v=.bool true
      | 9=>v=.bool X2
      | 11=>True
      | _=>True)
     ?_ ⟨(Dg.refl _ _).drew,⟨HSB.out.at_⟩⟩ ?_ ?_
    .intro i v w1 w2 hf hb;split at hf
     .exact hf
     .exact hf
     .exact hf
     .trivial
    .simp only[Ba,Nat.reduceAdd];refine⟨?_,?_,?_,?_,?_,?_,?_,?_,?_,?_,?_,?_,?_,trivial⟩
     all_goals intro D sp w' hD hW hdp hbx'
     case refine_1|refine_5=>
      have c0:=(HX6.out.but hbx'.but HNE.out.1).cell
      with_reducible refine Ad ?_ ?_
      all_goals simp[Region.wanted,yielded,execOp,Act.eval,Act.put,go_sem,c0]
     case refine_2|refine_9=>
      have c1:=(HY6.out.but hbx'.but HNE.out.2).cell
      with_reducible refine Ad ?_ ?_
      all_goals simp[Region.wanted,yielded,execOp,Act.eval,Act.put,go_sem,c1]
     case refine_6=>
      (with_reducible refine Ac (w1:=w') (f := 70) (args:=#[g0,.agg #[.slice x.1 x.2.1 x.2.2]]) ?_ ?_ ?_)
      .simp[Region.wanted,yielded,Act.put,go_sem]
      .simp[Act.eval,Act.put,go_sem]
      .refine(Hy (HQA.out.below (HB6.out.trans (hbx'.but.below (As _) HB6.out.size))) (HFX.out.but' hbx'.but HNX.out) (by decide)).mono ?_;rintro en w9 ⟨rfl,hb⟩;rw[HC1.out];exact⟨_,rfl,Dg.of hb,rfl,by simpa [upd]using hbx'.later hb⟩
     case refine_7=>
      have k5:(sp 5)=.bool true:=(hdp 5 (mq (by kernel_rfl))).2
      with_reducible refine Ad ?_ ?_
      all_goals simp[Region.wanted,yielded,execOp,Act.eval,Act.put,go_sem,k5]
     case refine_10=>
      (with_reducible refine Ac (w1:=w') (f := 70) (args:=#[g0,.agg #[.slice y.1 y.2.1 y.2.2]]) ?_ ?_ ?_)
      .simp[Region.wanted,yielded,Act.put,go_sem]
      .simp[Act.eval,Act.put,go_sem]
      .refine(Hy (HQA.out.below (HB6.out.trans (hbx'.but.below (As _) HB6.out.size))) (HFY.out.but' hbx'.but HNY.out) (by decide)).mono ?_;rintro en w9 ⟨rfl,hb⟩;rw[HC2.out];exact⟨_,rfl,Dg.of hb,rfl,by simpa [upd]using hbx'.later hb⟩
     case refine_11=>
      have k9:(sp 9)=.bool X2:=(hdp 9 (mq (by kernel_rfl))).2
      with_reducible refine Ad ?_ ?_
      all_goals simp[Region.wanted,yielded,execOp,Act.eval,Act.put,go_sem,k9]
     case refine_12=>
      rw[hD]at hbx'
      have h0:=hbx'.box.cells.1;have h1:=hbx'.box.cells.2;have f0:=hbx'.box.free 0;have f1:=hbx'.box.free 1
      (with_reducible refine Aq (w1:=(w'.setCell ⟨w.heap.size,0,none⟩ (.slice x.1 x.2.1 x.2.2)).setCell ⟨w.heap.size,1,none⟩ (.slice y.1 y.2.1 y.2.2)) ?_ ?_ ?_)
      .simp only[Region.wanted]
      .simp[execOp,Act.eval,Act.put,go_sem,h0,h1,f0,f1]
      .refine⟨(Dg.setCell _ _ _).trans (Dg.setCell _ _ _),trivial,?_⟩;have h8:=hbx'.put;simpa [upd]using h8
     all_goals ((with_reducible refine Ad ?_ ?_);all_goals first|(simp only[Region.wanted];done)|simp[Region.wanted,yielded,execOp,Act.eval,Act.put,go_sem])
    .intro sp w7 hsp hg;have hb:=hg.box;have k0:=hb.cells.1;have k1:=hb.cells.2;have HBf:Aa (Below w.heap.size w w7):=⟨HB6.out.trans (hg.but.below (As _) HB6.out.size)⟩
     have HFX7:=Ab (HNFX.out.but hg.but HNX.out);have HFY7:=Ab (HNFY.out.but hg.but HNY.out);clear hsp hg hb;simp only[An,Nat.reduceAdd];generalize sp 5=y5,sp 9=y9,sp 11=y11 at *
     go_simp
     go_wp2;exact bodyPost_ret (v:=.tuple #[.agg #[.slice x.1 x.2.1 x.2.2,.slice y.1 y.2.1 y.2.2],.bool X2]) (by simp[results,Tryz.results84,go_sem,k0,k1]) rfl ⟨x,y,X2,rfl,HIF.out,fun _=>by rw[HW.out];exact⟨HFX7.out,HFY7.out⟩,HBf.out⟩
   .have HC1:Aa _:=⟨decide_eq_false hc1⟩
    have HIF:Aa (false=true ↔ Hc Q sig):=⟨by
     unfold Hc;rw[HW.out];exact⟨(fun h=>by cases h),fun h=>absurd h.2.1 hc1⟩⟩
    clear hc1 hX2;go_wp2;clear hw6 hbx hb9;refine Ah (by kernel_rfl) (by kernel_rfl)
     [some (.agg #[.slice x.1 x.2.1 x.2.2]),some (.agg #[.slice y.1 y.2.1 y.2.2]),some (.agg #[.slice x.1 x.2.1 x.2.2,.slice y.1 y.2.1 y.2.2]),some (g0),some (.agg #[.slice x.1 x.2.1 x.2.2]),none,some (.bool false),some (undef),some (undef),some (undef),some (.bool false),none,some (.bool false)]
     [false,false,false,false,false,true,false,false,false,false,false,true,false] rfl
     (fun w1 w2=>Dg w.heap.size w1 w2)
     (fun D w'=>Ul w6 w.heap.size x y (D 11) w')
     (fun i v w'=>match i with
      | 5=>v=.bool false
      | 11=>True
      | _=>True)
     ?_ ⟨(Dg.refl _ _).drew,⟨HSB.out.at_⟩⟩ ?_ ?_
    .intro i v w1 w2 hf hb;split at hf
     .exact hf
     .exact hf
     .trivial
    .simp only[Ba,Nat.reduceAdd];refine⟨?_,?_,?_,?_,?_,?_,?_,?_,?_,?_,?_,?_,?_,trivial⟩
     all_goals intro D sp w' hD hW hdp hbx'
     case refine_1|refine_5=>
      have c0:=(HX6.out.but hbx'.but HNE.out.1).cell
      with_reducible refine Ad ?_ ?_
      all_goals simp[Region.wanted,yielded,execOp,Act.eval,Act.put,go_sem,c0]
     case refine_2=>
      have c1:=(HY6.out.but hbx'.but HNE.out.2).cell
      with_reducible refine Ad ?_ ?_
      all_goals simp[Region.wanted,yielded,execOp,Act.eval,Act.put,go_sem,c1]
     case refine_6=>
      (with_reducible refine Ac (w1:=w') (f := 70) (args:=#[g0,.agg #[.slice x.1 x.2.1 x.2.2]]) ?_ ?_ ?_)
      .simp[Region.wanted,yielded,Act.put,go_sem]
      .simp[Act.eval,Act.put,go_sem]
      .refine(Hy (HQA.out.below (HB6.out.trans (hbx'.but.below (As _) HB6.out.size))) (HFX.out.but' hbx'.but HNX.out) (by decide)).mono ?_;rintro en w9 ⟨rfl,hb⟩;rw[HC1.out];exact⟨_,rfl,Dg.of hb,rfl,by simpa [upd]using hbx'.later hb⟩
     case refine_7=>
      have k5:(sp 5)=.bool false:=(hdp 5 (mq (by kernel_rfl))).2
      with_reducible refine Ad ?_ ?_
      all_goals simp[Region.wanted,yielded,execOp,Act.eval,Act.put,go_sem,k5]
     case refine_8|refine_9|refine_10=>
      (with_reducible refine Gp ?_ ?_)
      ·(simp[Region.wanted,yielded,Act.put,go_sem]<;>exact fun h=>by cases h)
      .exact⟨rfl,rfl⟩
     case refine_12=>
      rw[hD]at hbx'
      have h0:=hbx'.box.cells.1;have h1:=hbx'.box.cells.2;have f0:=hbx'.box.free 0;have f1:=hbx'.box.free 1
      (with_reducible refine Aq (w1:=(w'.setCell ⟨w.heap.size,0,none⟩ (.slice x.1 x.2.1 x.2.2)).setCell ⟨w.heap.size,1,none⟩ (.slice y.1 y.2.1 y.2.2)) ?_ ?_ ?_)
      .simp only[Region.wanted]
      .simp[execOp,Act.eval,Act.put,go_sem,h0,h1,f0,f1]
      .refine⟨(Dg.setCell _ _ _).trans (Dg.setCell _ _ _),trivial,?_⟩;have h8:=hbx'.put;simpa [upd]using h8
     all_goals ((with_reducible refine Ad ?_ ?_);all_goals first|(simp only[Region.wanted];done)|simp[Region.wanted,yielded,execOp,Act.eval,Act.put,go_sem])
    .intro sp w7 hsp hg;have hb:=hg.box;have k0:=hb.cells.1;have k1:=hb.cells.2;have HBf:Aa (Below w.heap.size w w7):=⟨HB6.out.trans (hg.but.below (As _) HB6.out.size)⟩
     have HFX7:=Ab (HNFX.out.but hg.but HNX.out);have HFY7:=Ab (HNFY.out.but hg.but HNY.out);clear hsp hg hb;simp only[An,Nat.reduceAdd];generalize sp 5=y5,sp 11=y11 at *
     go_simp
     go_wp2;exact bodyPost_ret (v:=.tuple #[.agg #[.slice x.1 x.2.1 x.2.2,.slice y.1 y.2.1 y.2.2],.bool false]) (by simp[results,Tryz.results84,go_sem,k0,k1]) rfl ⟨x,y,false,rfl,HIF.out,fun _=>by rw[HW.out];exact⟨HFX7.out,HFY7.out⟩,HBf.out⟩
  .have hcW2:W<c:=by omega
   obtain⟨p2,hp2⟩:∃p2,ps.map (fun x=>x.add W)=p2:=⟨_,rfl⟩
   have HR2:Aa (∀w',Below w.heap.size w w'->Bd w' .u8 p2 W c2 (sig.drop W)):=⟨fun w' hb=>by
    have h:=((HR.out.below hb).row).back hWn;unfold bH at h;rw[if_neg (show ¬c-W=0 by omega),hnW,hc2,hp2]at h
    exact h⟩
   clear hlen hL2;go_enter Tryz.func84,Tryz.ntmps84
   go_wp2_with fail
   refine HSZ.out.mono ?_;rintro en w1 ⟨rfl,hb1⟩;rw[HL2.out];have HX1:=Ab (HX.out.below hb1 HX.out.lt);have HQ1:=Ab (HQ.out.below hb1);have HB1:=Ab (Ae HB0.out hb1);clear hb1 HX HQ hwa
   go_wp2_with fail
   refine(Fg HQ1.out).mono ?_;rintro en w2 ⟨rfl,hb2⟩;rw[HW.out];have HX2:=Ab (HX1.out.below hb2 HX1.out.lt);have HB2:=Ab (Ae HB1.out hb2);clear hb2 HX1 HQ1
   go_wp2_with fail
   refine(Cr w2 ps W c (sig.take W) (HR1.out _ HB2.out) (HR.out.bytes.take W) (by omega)).mono ?_;rintro en w3 ⟨px,nx,cx,rfl,hqx,hb3,hnx⟩;obtain⟨x,hxx⟩:∃x:Option Addr×Nat×Nat,(px,nx,cx)=x:=⟨_,rfl⟩
   obtain rfl:px=x.1:=by rw[<-hxx]
   obtain rfl:nx=x.2.1:=by rw[<-hxx]
   obtain rfl:cx=x.2.2:=by rw[<-hxx]
   clear hxx;have hb4:Below w3.heap.size w3 (w3.alloc (.cells #[.slice x.1 x.2.1 x.2.2] 37)):=Bx;have hX4:=Af.made w3 (.slice x.1 x.2.1 x.2.2);obtain⟨bx,hbx⟩:∃bx,w3.heap.size=bx:=⟨_,rfl⟩
   have hz4:(w3.alloc (.cells #[.slice x.1 x.2.1 x.2.2] 37)).heap.size=bx+1:=by rw[<-hbx];simp
   obtain⟨w4,hw4⟩:∃w4,w3.alloc (.cells #[.slice x.1 x.2.1 x.2.2] 37)=w4:=⟨_,rfl⟩
   rw[hw4]at hb4 hX4 hz4
   rw[hbx]at hX4
   have hb24:=Ae hb3 hb4;have HX4:=Ab hX4;have HXN:=Ab (hqx.below hb4);have HB4:=Ab (Ae HB2.out hb24);have HSB4:=Ab (HX2.out.below hb24 HX2.out.lt);have HNX:Aa (∀q,x.1=some q->q.block≠w.heap.size):=⟨hnx.ne HX2.out.lt⟩
   have HBX:Aa (w.heap.size<bx):=⟨by rw[<-hbx];exact Ej HX2.out.lt hb3.size⟩
   clear hqx hb3 hb4 hX4 hz4 hb24 hnx HX2
   go_wp2_with fail
   clear hw4;refine(Cr w4 p2 W c2 (sig.drop W) (HR2.out _ HB4.out) (fun x hx=>HR.out.bytes x (List.mem_of_mem_drop hx)) (by omega)).mono ?_;rintro en w5 ⟨py,ny,cy,rfl,hqy,hb5,hny⟩;obtain⟨y,hyy⟩:∃y:Option Addr×Nat×Nat,(py,ny,cy)=y:=⟨_,rfl⟩
   obtain rfl:py=y.1:=by rw[<-hyy]
   obtain rfl:ny=y.2.1:=by rw[<-hyy]
   obtain rfl:cy=y.2.2:=by rw[<-hyy]
   clear hyy;have hb6:Below w5.heap.size w5 (w5.alloc (.cells #[.slice y.1 y.2.1 y.2.2] 37)):=Bx;have hY6:=Af.made w5 (.slice y.1 y.2.1 y.2.2);obtain⟨b9,hb9⟩:∃b,w5.heap.size=b:=⟨_,rfl⟩
   obtain⟨w6,hw6⟩:∃w6,w5.alloc (.cells #[.slice y.1 y.2.1 y.2.2] 37)=w6:=⟨_,rfl⟩
   rw[hw6]at hb6 hY6
   rw[hb9]at hY6
   have hb46:=Ae hb5 hb6;have HX6:=Ab (HX4.out.below hb46 HX4.out.lt);have HY6:=Ab hY6;have HNFX:Aa (Gq w6 x (be (sig.take W))):=⟨HXN.out.below hb46⟩
   have HNFY:Aa (Gq w6 y (be (sig.drop W))):=⟨hqy.below hb6⟩
   have HB6:=Ab (Ae HB4.out hb46);have HSB:Aa (Ey w6 w.heap.size (.slice none 0 0) (.slice none 0 0)):=⟨HSB4.out.below hb46 HSB4.out.lt⟩
   have HNY:Aa (∀q,y.1=some q->q.block≠w.heap.size):=⟨hny.ne HSB4.out.lt⟩
   have HNE:Aa (bx≠w.heap.size/\b9≠w.heap.size):=⟨by have:=HBX.out;omega,by have h1:=HSB4.out.lt;have h2:=hb5.size;omega⟩
   have HFX:=Ab (Fit.of HNFX.out (Yg (HR.out.bytes.take W) (by rw[List.length_take];omega) hs));have HFY:=Ab (Fit.of HNFY.out (Yg (fun x hx=>HR.out.bytes x (List.mem_of_mem_drop hx)) (by rw[List.length_drop];have:=HLS.out;omega) hs));clear hqy hb5 hb6 hY6 hb46 hny HXN HX4 HSB4;obtain⟨X2,hX2⟩:∃X,decide (be (sig.drop W)<Q)=X:=⟨_,rfl⟩
   have HC2:=Ab hX2
   by_cases hc1:be (sig.take W)<Q
   .have HC1:Aa _:=⟨decide_eq_true hc1⟩
    have HIF:Aa (X2=true ↔ Hc Q sig):=⟨by
     unfold Hc;rw[HW.out,<-hX2,decide_eq_true_iff];exact⟨fun h=>⟨HLS.out,hc1,h⟩,fun h=>h.2.2⟩⟩
    clear hc1 hX2;go_wp2;clear hw6 hbx hb9;refine Ah (by kernel_rfl) (by kernel_rfl)
     [some (.agg #[.slice x.1 x.2.1 x.2.2]),some (.agg #[.slice y.1 y.2.1 y.2.2]),some (.agg #[.slice x.1 x.2.1 x.2.2,.slice y.1 y.2.1 y.2.2]),some (g0),some (.agg #[.slice x.1 x.2.1 x.2.2]),none,some (.bool true),some (g0),some (.agg #[.slice y.1 y.2.1 y.2.2]),none,some (.bool X2),none,some (.bool X2)]
     [false,false,false,false,false,true,false,false,false,true,false,true,false] rfl
     (fun w1 w2=>Dg w.heap.size w1 w2)
     (fun D w'=>Ul w6 w.heap.size x y (D 11) w')
     (fun i v w'=>match i with
      | 5=>v=.bool true
      | 9=>v=.bool X2
      | 11=>True
      | _=>True)
     ?_ ⟨(Dg.refl _ _).drew,⟨HSB.out.at_⟩⟩ ?_ ?_
    .intro i v w1 w2 hf hb;split at hf
     .exact hf
     .exact hf
     .exact hf
     .trivial
    .simp only[Ba,Nat.reduceAdd];refine⟨?_,?_,?_,?_,?_,?_,?_,?_,?_,?_,?_,?_,?_,trivial⟩
     all_goals intro D sp w' hD hW hdp hbx'
     case refine_1|refine_5=>
      have c0:=(HX6.out.but hbx'.but HNE.out.1).cell
      with_reducible refine Ad ?_ ?_
      all_goals simp[Region.wanted,yielded,execOp,Act.eval,Act.put,go_sem,c0]
     case refine_2|refine_9=>
      have c1:=(HY6.out.but hbx'.but HNE.out.2).cell
      with_reducible refine Ad ?_ ?_
      all_goals simp[Region.wanted,yielded,execOp,Act.eval,Act.put,go_sem,c1]
     case refine_6=>
      (with_reducible refine Ac (w1:=w') (f := 70) (args:=#[g0,.agg #[.slice x.1 x.2.1 x.2.2]]) ?_ ?_ ?_)
      .simp[Region.wanted,yielded,Act.put,go_sem]
      .simp[Act.eval,Act.put,go_sem]
      .refine(Hy (HQA.out.below (HB6.out.trans (hbx'.but.below (As _) HB6.out.size))) (HFX.out.but' hbx'.but HNX.out) (by decide)).mono ?_;rintro en w9 ⟨rfl,hb⟩;rw[HC1.out];exact⟨_,rfl,Dg.of hb,rfl,by simpa [upd]using hbx'.later hb⟩
     case refine_7=>
      have k5:(sp 5)=.bool true:=(hdp 5 (mq (by kernel_rfl))).2
      with_reducible refine Ad ?_ ?_
      all_goals simp[Region.wanted,yielded,execOp,Act.eval,Act.put,go_sem,k5]
     case refine_10=>
      (with_reducible refine Ac (w1:=w') (f := 70) (args:=#[g0,.agg #[.slice y.1 y.2.1 y.2.2]]) ?_ ?_ ?_)
      .simp[Region.wanted,yielded,Act.put,go_sem]
      .simp[Act.eval,Act.put,go_sem]
      .refine(Hy (HQA.out.below (HB6.out.trans (hbx'.but.below (As _) HB6.out.size))) (HFY.out.but' hbx'.but HNY.out) (by decide)).mono ?_;rintro en w9 ⟨rfl,hb⟩;rw[HC2.out];exact⟨_,rfl,Dg.of hb,rfl,by simpa [upd]using hbx'.later hb⟩
     case refine_11=>
      have k9:(sp 9)=.bool X2:=(hdp 9 (mq (by kernel_rfl))).2
      with_reducible refine Ad ?_ ?_
      all_goals simp[Region.wanted,yielded,execOp,Act.eval,Act.put,go_sem,k9]
     case refine_12=>
      rw[hD]at hbx'
      have h0:=hbx'.box.cells.1;have h1:=hbx'.box.cells.2;have f0:=hbx'.box.free 0;have f1:=hbx'.box.free 1
      (with_reducible refine Aq (w1:=(w'.setCell ⟨w.heap.size,0,none⟩ (.slice x.1 x.2.1 x.2.2)).setCell ⟨w.heap.size,1,none⟩ (.slice y.1 y.2.1 y.2.2)) ?_ ?_ ?_)
      .simp only[Region.wanted]
      .simp[execOp,Act.eval,Act.put,go_sem,h0,h1,f0,f1]
      .refine⟨(Dg.setCell _ _ _).trans (Dg.setCell _ _ _),trivial,?_⟩;have h8:=hbx'.put;simpa [upd]using h8
     all_goals ((with_reducible refine Ad ?_ ?_);all_goals first|(simp only[Region.wanted];done)|simp[Region.wanted,yielded,execOp,Act.eval,Act.put,go_sem])
    .intro sp w7 hsp hg;have hb:=hg.box;have k0:=hb.cells.1;have k1:=hb.cells.2;have HBf:Aa (Below w.heap.size w w7):=⟨HB6.out.trans (hg.but.below (As _) HB6.out.size)⟩
     have HFX7:=Ab (HNFX.out.but hg.but HNX.out);have HFY7:=Ab (HNFY.out.but hg.but HNY.out);clear hsp hg hb;simp only[An,Nat.reduceAdd];generalize sp 5=y5,sp 9=y9,sp 11=y11 at *
     go_simp
     go_wp2;exact bodyPost_ret (v:=.tuple #[.agg #[.slice x.1 x.2.1 x.2.2,.slice y.1 y.2.1 y.2.2],.bool X2]) (by simp[results,Tryz.results84,go_sem,k0,k1]) rfl ⟨x,y,X2,rfl,HIF.out,fun _=>by rw[HW.out];exact⟨HFX7.out,HFY7.out⟩,HBf.out⟩
   .have HC1:Aa _:=⟨decide_eq_false hc1⟩
    have HIF:Aa (false=true ↔ Hc Q sig):=⟨by
     unfold Hc;rw[HW.out];exact⟨(fun h=>by cases h),fun h=>absurd h.2.1 hc1⟩⟩
    clear hc1 hX2;go_wp2;clear hw6 hbx hb9;refine Ah (by kernel_rfl) (by kernel_rfl)
     [some (.agg #[.slice x.1 x.2.1 x.2.2]),some (.agg #[.slice y.1 y.2.1 y.2.2]),some (.agg #[.slice x.1 x.2.1 x.2.2,.slice y.1 y.2.1 y.2.2]),some (g0),some (.agg #[.slice x.1 x.2.1 x.2.2]),none,some (.bool false),some (undef),some (undef),some (undef),some (.bool false),none,some (.bool false)]
     [false,false,false,false,false,true,false,false,false,false,false,true,false] rfl
     (fun w1 w2=>Dg w.heap.size w1 w2)
     (fun D w'=>Ul w6 w.heap.size x y (D 11) w')
     (fun i v w'=>match i with
      | 5=>v=.bool false
      | 11=>True
      | _=>True)
     ?_ ⟨(Dg.refl _ _).drew,⟨HSB.out.at_⟩⟩ ?_ ?_
    .intro i v w1 w2 hf hb;split at hf
     .exact hf
     .exact hf
     .trivial
    .simp only[Ba,Nat.reduceAdd];refine⟨?_,?_,?_,?_,?_,?_,?_,?_,?_,?_,?_,?_,?_,trivial⟩
     all_goals intro D sp w' hD hW hdp hbx'
     case refine_1|refine_5=>
      have c0:=(HX6.out.but hbx'.but HNE.out.1).cell
      with_reducible refine Ad ?_ ?_
      all_goals simp[Region.wanted,yielded,execOp,Act.eval,Act.put,go_sem,c0]
     case refine_2=>
      have c1:=(HY6.out.but hbx'.but HNE.out.2).cell
      with_reducible refine Ad ?_ ?_
      all_goals simp[Region.wanted,yielded,execOp,Act.eval,Act.put,go_sem,c1]
     case refine_6=>
      (with_reducible refine Ac (w1:=w') (f := 70) (args:=#[g0,.agg #[.slice x.1 x.2.1 x.2.2]]) ?_ ?_ ?_)
      .simp[Region.wanted,yielded,Act.put,go_sem]
      .simp[Act.eval,Act.put,go_sem]
      .refine(Hy (HQA.out.below (HB6.out.trans (hbx'.but.below (As _) HB6.out.size))) (HFX.out.but' hbx'.but HNX.out) (by decide)).mono ?_;rintro en w9 ⟨rfl,hb⟩;rw[HC1.out];exact⟨_,rfl,Dg.of hb,rfl,by simpa [upd]using hbx'.later hb⟩
     case refine_7=>
      have k5:(sp 5)=.bool false:=(hdp 5 (mq (by kernel_rfl))).2
      with_reducible refine Ad ?_ ?_
      all_goals simp[Region.wanted,yielded,execOp,Act.eval,Act.put,go_sem,k5]
     case refine_8|refine_9|refine_10=>
      (with_reducible refine Gp ?_ ?_)
      ·(simp[Region.wanted,yielded,Act.put,go_sem]<;>exact fun h=>by cases h)
      .exact⟨rfl,rfl⟩
     case refine_12=>
      rw[hD]at hbx'
      have h0:=hbx'.box.cells.1;have h1:=hbx'.box.cells.2;have f0:=hbx'.box.free 0;have f1:=hbx'.box.free 1
      (with_reducible refine Aq (w1:=(w'.setCell ⟨w.heap.size,0,none⟩ (.slice x.1 x.2.1 x.2.2)).setCell ⟨w.heap.size,1,none⟩ (.slice y.1 y.2.1 y.2.2)) ?_ ?_ ?_)
      .simp only[Region.wanted]
      .simp[execOp,Act.eval,Act.put,go_sem,h0,h1,f0,f1]
      .refine⟨(Dg.setCell _ _ _).trans (Dg.setCell _ _ _),trivial,?_⟩;have h8:=hbx'.put;simpa [upd]using h8
     all_goals ((with_reducible refine Ad ?_ ?_);all_goals first|(simp only[Region.wanted];done)|simp[Region.wanted,yielded,execOp,Act.eval,Act.put,go_sem])
    .intro sp w7 hsp hg;have hb:=hg.box;have k0:=hb.cells.1;have k1:=hb.cells.2;have HBf:Aa (Below w.heap.size w w7):=⟨HB6.out.trans (hg.but.below (As _) HB6.out.size)⟩
     have HFX7:=Ab (HNFX.out.but hg.but HNX.out);have HFY7:=Ab (HNFY.out.but hg.but HNY.out);clear hsp hg hb;simp only[An,Nat.reduceAdd];generalize sp 5=y5,sp 11=y11 at *
     go_simp
     go_wp2;exact bodyPost_ret (v:=.tuple #[.agg #[.slice x.1 x.2.1 x.2.2,.slice y.1 y.2.1 y.2.2],.bool false]) (by simp[results,Tryz.results84,go_sem,k0,k1]) rfl ⟨x,y,false,rfl,HIF.out,fun _=>by rw[HW.out];exact⟨HFX7.out,HFY7.out⟩,HBf.out⟩
 .have hne:((n:Int)!=(L2:Int))=true:=by rw[bne_iff_ne];omega
  have HIF:Aa (false=true ↔ Hc Q sig):=⟨by
   unfold Hc;refine⟨(fun h=>by cases h),fun h=>?_⟩;have:=h.1;rw[HL2.out,<-HLEN.out]at this
   exact absurd this hn⟩
  have HNI:Aa (¬Hc Q sig):=⟨fun h=>by have:=HIF.out.2 h;cases this⟩
  clear hn hlen hL2;go_enter Tryz.func84,Tryz.ntmps84
  go_wp2_with fail
  refine HSZ.out.mono ?_;rintro en w1 ⟨rfl,hb1⟩;rw[HL2.out];have hx1:=HX.out.below hb1 HX.out.lt;obtain⟨c0,c1⟩:=hx1.cells;have f0:=hx1.free 0;have f1:=hx1.free 1;have hg:Ul w1 w.heap.size (none,0,0) (none,0,0) false w1:=⟨Dg.refl _ _,hx1⟩
  have k0:=hg.put.box.cells.1;have k1:=hg.put.box.cells.2;have HBf:Aa (Below w.heap.size w ((w1.setCell ⟨w.heap.size,0,none⟩ (.slice none 0 0)).setCell ⟨w.heap.size,1,none⟩ (.slice none 0 0))):=⟨((Ae HB0.out hb1).setCell (As _) _).setCell (As _) _⟩
  clear hb1 hx1 hg hwa;go_wp2;exact bodyPost_ret (v:=.tuple #[.agg #[.slice none 0 0,.slice none 0 0],.bool false]) (by simp[results,Tryz.results84,go_sem,k0,k1]) rfl ⟨(none,0,0),(none,0,0),false,rfl,HIF.out,fun h=>absurd h HNI.out,HBf.out⟩
end Go.Proofs.YtokhckjemidbpaaGreatDoor
