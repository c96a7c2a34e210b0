/- What Prove refuses; whatever it answers. -/
import Derived.Test.YthgoeiegdhphjaaGreatDoorDlC
set_option maxRecDepth 1000000
set_option maxHeartbeats 16000000
set_option linter.all false
namespace Go.Proofs.YthgoeiegdhphjaaGreatDoor
open Go Go.RowKit Go.Proofs.YthgoeiegdhphjaaGreatDoor.Flow
theorem Tk {w:World}{Q e A B X:Nat}{g0 va vb vx:Value}{pm:Option Addr}{nm cm:Nat}(hq:Uz Q g0 w)(ha:Fit 33 A va w)(hb:Fit 33 B vb w)(hx:Fit e X vx w)(he:e<=30000)(hX:¬X<Q) :
  Calls Tryz.prog 55 #[g0,va,vb,vx,.slice pm nm cm] w fun en w'=>en=.returned (.tuple #[.agg #[.slice none 0 0,.slice none 0 0,.slice none 0 0,.slice none 0 0],.slice none 0 0,.int .i64 1])/\Below w.heap.size w w':=by
 obtain⟨pa,na,ca,rfl,h1,h2⟩:=Ax ha;obtain⟨pb,nb,cb,rfl,h3,h4⟩:=Ax hb;obtain⟨px,nx,cx,rfl,h5,h6⟩:=Ax hx;have hbx:=Vq.mk3 w (.slice pa na ca) (.slice pb nb cb) (.slice px nx cx);have hz3:(((w.alloc (.cells #[.slice pa na ca] 36)).alloc (.cells #[.slice pb nb cb] 36)).alloc (.cells #[.slice px nx cx] 36)).heap.size=w.heap.size+1+1+1:=by simp
 obtain⟨w0,hw0⟩:∃wa,((w.alloc (.cells #[.slice pa na ca] 36)).alloc (.cells #[.slice pb nb cb] 36)).alloc (.cells #[.slice px nx cx] 36)=wa:=⟨_,rfl⟩
 rw[hw0]at hbx hz3
 have hb0:Below w0.heap.size w0 (w0.alloc (.cells #[.slice none 0 0,.slice none 0 0,.slice none 0 0,.slice none 0 0] 83)):=Bw;have hz0:(w0.alloc (.cells #[.slice none 0 0,.slice none 0 0,.slice none 0 0,.slice none 0 0] 83)).heap[w0.heap.size]? = some (.cells #[.slice none 0 0,.slice none 0 0,.slice none 0 0,.slice none 0 0] 83 (0,0)):=heap_alloc_new w0 _;obtain⟨wa,hwa⟩:∃wa,w0.alloc (.cells #[.slice none 0 0,.slice none 0 0,.slice none 0 0,.slice none 0 0] 83)=wa:=⟨_,rfl⟩
 rw[hwa]at hb0 hz0
 rw[hz3]at hz0
 have hbel:=Ae hbx.bel hb0;have HB:=Ab hbel;have HXA:=Ab (hbx.b0.below hb0 hbx.b0.lt);have HXB:=Ab (hbx.b1.below hb0 hbx.b1.lt);have HFA:=Ab ((Fit.of h1 h2).below hbel);have HFB:=Ab ((Fit.of h3 h4).below hbel);have HFX:=Ab ((Fit.of h5 h6).below hbel);have HZ0:=Ab hz0;have HWS:Aa ((w.heap.size+1+1+1)<wa.heap.size):=⟨(Ep hz0).1⟩
 have c0:=(hbx.b2.below hb0 hbx.b2.lt).cell;have HQ:=Ab (hq.below hbel);have HIN:=Ab (decide_eq_false hX);have HWZ:Aa _:=HWS;have HZZ:Aa _:=HZ0;clear h1 h2 h3 h4 h5 h6 hbx ha hb hx hb0 hz0 hbel hX hq HXA HXB HFA HFB;go_enter Tryz.func55,Tryz.ntmps55
 go_wp2_with fail
 refine(Gp HQ.out HFX.out he).mono ?_;rintro en w1 ⟨rfl,hb⟩;rw[HIN.out];clear c0;have h9:w1.heap[(w.heap.size+1+1+1)]? = some (.cells #[.slice none 0 0,.slice none 0 0,.slice none 0 0,.slice none 0 0] 83 (0,0)):=by rw[hb.block _ HWZ.out];exact HZZ.out
 obtain⟨⟨f0,f1,f2,f3⟩,f4,f5,f6,f7⟩:=cells4 h9;have hp:=put4 (u0:=.slice none 0 0) (u1:=.slice none 0 0) (u2:=.slice none 0 0) (u3:=.slice none 0 0) h9;have HBf:=Ab ((Ae HB.out hb).trans (hp.bel w.heap.size (by omega)));have hg:=cells4 hp.new;simp only[Ja]at hg HBf;obtain⟨⟨g0,g1,g2,g3⟩,_⟩:=hg;clear hb h9 hp;go_wp2;exact bodyPost_ret (v:=.tuple #[.agg #[.slice none 0 0,.slice none 0 0,.slice none 0 0,.slice none 0 0],.slice none 0 0,.int .i64 1]) (by simp[results,Tryz.results55,go_sem,g0,g1,g2,g3]) rfl ⟨rfl,HBf.out⟩
theorem cZ {w:World}{b P Q G H e A B X:Nat}{va vb vx:Value}{pm:Option Addr}{nm cm:Nat}(hg:Ba w b P Q G H)(ha:Fit 33 A va w)(hb:Fit 33 B vb w)(hx:Fit e X vx w)(he:e<=30000)(hX:X<Q)(hM:¬(Cj P Q A/\Cj P Q B)) :
  Calls Tryz.prog 55 #[.pointer (some ⟨b,0,none⟩),va,vb,vx,.slice pm nm cm] w fun en w'=>en=.returned (.tuple #[.agg #[.slice none 0 0,.slice none 0 0,.slice none 0 0,.slice none 0 0],.slice none 0 0,.int .i64 1])/\Below w.heap.size w w':=by
 obtain⟨pa,na,ca,rfl,h1,h2⟩:=Ax ha;obtain⟨pb,nb,cb,rfl,h3,h4⟩:=Ax hb;obtain⟨px,nx,cx,rfl,h5,h6⟩:=Ax hx;have hbx:=Vq.mk3 w (.slice pa na ca) (.slice pb nb cb) (.slice px nx cx);have hz3:(((w.alloc (.cells #[.slice pa na ca] 36)).alloc (.cells #[.slice pb nb cb] 36)).alloc (.cells #[.slice px nx cx] 36)).heap.size=w.heap.size+1+1+1:=by simp
 obtain⟨w0,hw0⟩:∃wa,((w.alloc (.cells #[.slice pa na ca] 36)).alloc (.cells #[.slice pb nb cb] 36)).alloc (.cells #[.slice px nx cx] 36)=wa:=⟨_,rfl⟩
 rw[hw0]at hbx hz3
 have hb0:Below w0.heap.size w0 (w0.alloc (.cells #[.slice none 0 0,.slice none 0 0,.slice none 0 0,.slice none 0 0] 83)):=Bw;have hz0:(w0.alloc (.cells #[.slice none 0 0,.slice none 0 0,.slice none 0 0,.slice none 0 0] 83)).heap[w0.heap.size]? = some (.cells #[.slice none 0 0,.slice none 0 0,.slice none 0 0,.slice none 0 0] 83 (0,0)):=heap_alloc_new w0 _;obtain⟨wa,hwa⟩:∃wa,w0.alloc (.cells #[.slice none 0 0,.slice none 0 0,.slice none 0 0,.slice none 0 0] 83)=wa:=⟨_,rfl⟩
 rw[hwa]at hb0 hz0
 rw[hz3]at hz0
 have hbel:=Ae hbx.bel hb0;have HB:=Ab hbel;have HXA:=Ab (hbx.b0.below hb0 hbx.b0.lt);have HXB:=Ab (hbx.b1.below hb0 hbx.b1.lt);have HFA:=Ab ((Fit.of h1 h2).below hbel);have HFB:=Ab ((Fit.of h3 h4).below hbel);have HFX:=Ab ((Fit.of h5 h6).below hbel);have HZ0:=Ab hz0;have HWS:Aa ((w.heap.size+1+1+1)<wa.heap.size):=⟨(Ep hz0).1⟩
 have c0:=(hbx.b2.below hb0 hbx.b2.lt).cell;have HG:=Ab (hg.below hbel);have HIN:=Ab (decide_eq_true hX);have HMB:Aa ([A,B].all (Vf P Q)=false):=⟨by
  rw[Bool.eq_false_iff];intro h;simp only[List.all_cons,List.all_nil,Bool.and_true,Bool.and_eq_true]at h;exact hM ⟨Lv.1 h.1,Lv.1 h.2⟩⟩
 clear h1 h2 h3 h4 h5 h6 hbx ha hb hx hb0 hz0 hbel hX hg hM;go_enter Tryz.func55,Tryz.ntmps55
 go_wp2_with fail
 refine(Gp (Uz.of HG.out) HFX.out he).mono ?_;rintro en w1 ⟨rfl,hb⟩;rw[HIN.out];have HZ1:Aa (w1.heap[(w.heap.size+1+1+1)]? = some (.cells #[.slice none 0 0,.slice none 0 0,.slice none 0 0,.slice none 0 0] 83 (0,0))):=⟨by rw[hb.block _ HWS.out];exact HZ0.out⟩
 have HWS1:Aa ((w.heap.size+1+1+1)<w1.heap.size):=⟨Dj HWS.out hb.size⟩
 replace HXA:=Ab (HXA.out.below hb HXA.out.lt);replace HXB:=Ab (HXB.out.below hb HXB.out.lt);replace HFA:=Ab (HFA.out.below hb);replace HFB:=Ab (HFB.out.below hb);replace HG:=Ab (HG.out.below hb);replace HB:=Ab (Ae HB.out hb);clear hb c0 HZ0 HWS;have c1:=HXA.out.cell;have c2:=HXB.out.cell;have hb2:Below w1.heap.size w1 (w1.alloc (.cells #[.slice pa na ca,.slice pb nb cb] 36)):=Bw;have hr2:(w1.alloc (.cells #[.slice pa na ca,.slice pb nb cb] 36)).heap[w1.heap.size]? = some (.cells #[.slice pa na ca,.slice pb nb cb] 36 (0,0)):=heap_alloc_new w1 _;obtain⟨w2,hw2⟩:∃W,w1.alloc (.cells #[.slice pa na ca,.slice pb nb cb] 36)=W:=⟨_,rfl⟩
 rw[hw2]at hb2 hr2
 have HZZ:Aa (w2.heap[(w.heap.size+1+1+1)]? = some (.cells #[.slice none 0 0,.slice none 0 0,.slice none 0 0,.slice none 0 0] 83 (0,0))):=⟨by rw[hb2.block _ HWS1.out];exact HZ1.out⟩
 have HWZ:Aa ((w.heap.size+1+1+1)<w2.heap.size):=⟨Dj HWS1.out hb2.size⟩
 replace HFA:=Ab (HFA.out.below hb2);replace HFB:=Ab (HFB.out.below hb2);replace HG:=Ab (HG.out.below hb2);replace HB:=Ab (Ae HB.out hb2);have HPL:=Ab (Pw (us:=[(pa,na,ca),(pb,nb,cb)]) (Ns:=[A,B]) hr2 (qO (Fa HFA.out) (Fa HFB.out) HFA.out.lim HFB.out.lim) (show 2<=1000000 by decide));clear hb2 hr2 HZ1 HWS1
 go_wp2_with fail
 clear c1 c2;refine(Lb HG.out HPL.out (by decide)).mono ?_;rintro en w3 ⟨rfl,hb⟩;rw[HMB.out];have h9:w3.heap[(w.heap.size+1+1+1)]? = some (.cells #[.slice none 0 0,.slice none 0 0,.slice none 0 0,.slice none 0 0] 83 (0,0)):=by rw[hb.block _ HWZ.out];exact HZZ.out
 obtain⟨⟨f0,f1,f2,f3⟩,f4,f5,f6,f7⟩:=cells4 h9;have hp:=put4 (u0:=.slice none 0 0) (u1:=.slice none 0 0) (u2:=.slice none 0 0) (u3:=.slice none 0 0) h9;have HBf:=Ab ((Ae HB.out hb).trans (hp.bel w.heap.size (by omega)));have hg:=cells4 hp.new;simp only[Ja]at hg HBf;obtain⟨⟨g0,g1,g2,g3⟩,_⟩:=hg;clear hb h9 hp;go_wp2;exact bodyPost_ret (v:=.tuple #[.agg #[.slice none 0 0,.slice none 0 0,.slice none 0 0,.slice none 0 0],.slice none 0 0,.int .i64 1]) (by simp[results,Tryz.results55,go_sem,g0,g1,g2,g3]) rfl ⟨rfl,HBf.out⟩
def Rv (A B Y Z:Nat)(SB:List Nat)(E:Int)(v:Value)(w:World):Prop:=∃c u,v=.tuple #[c,u,.int .i64 E]/\Zd A B Y Z c w/\Bh 0 SB u w
theorem Rv.kt {T:TypeId}{A B Y Z C:Nat}{SB:List Nat}{E:Int}{v:Value}{w w':World}(h:Rv A B Y Z SB E v w)(k:KT T C w w'):Rv A B Y Z SB E v w':=let ⟨c,u,h1,h2,h3⟩:=h;⟨c,u,h1,h2.kt k,h3.kt k⟩
theorem Ps (w:World):Rv 0 0 0 0 [] 1 (.tuple #[.agg #[.slice none 0 0,.slice none 0 0,.slice none 0 0,.slice none 0 0],.slice none 0 0,.int .i64 1]) w :=
 ⟨_,_,rfl,⟨(none,0,0),(none,0,0),(none,0,0),(none,0,0),rfl,Ai.nil _,Ai.nil _,Ai.nil _,Ai.nil _⟩,Bh.of none 0 w ⟨rfl,Av _,by decide,fun h=>absurd h (Nat.lt_irrefl _)⟩ (Fo.none _) (fun _=>rfl) (fun q hq=>by cases hq)⟩
def Sj (P Q A B X:Nat)(msg:List Nat)(A1 B1 Y1 Z1:Nat)(SB:List Nat)(E:Int):Prop :=
 ((X<Q/\Cj P Q A/\Cj P Q B)->A1=A/\B1=B/\Y1=A^X%P/\Z1=B^X%P/\SB=cA P Q A B X msg/\E=0) /\
 (¬(X<Q/\Cj P Q A/\Cj P Q B)->A1=0/\B1=0/\Y1=0/\Z1=0/\SB=[]/\E=1)
theorem Sj.any (P Q A B X:Nat)(msg:List Nat):∃A1 B1 Y1 Z1 SB E,Sj P Q A B X msg A1 B1 Y1 Z1 SB E:=by
 by_cases h:X<Q/\Cj P Q A/\Cj P Q B
 .exact⟨A,B,_,_,_,0,fun _=>⟨rfl,rfl,rfl,rfl,rfl,rfl⟩,fun k=>absurd h k⟩
 .exact⟨0,0,0,0,[],1,fun k=>absurd k h,fun _=>⟨rfl,rfl,rfl,rfl,rfl,rfl⟩⟩
theorem gT {w:World}{b P Q G H e A B X A1 B1 Y1 Z1:Nat}{SB:List Nat}{E:Int}{va vb vx:Value}{pm:Option Addr}{nm cm:Nat}{msg:List Nat}(hg:Ba w b P Q G H)(hT:Tabs w)(ha:Fit 33 A va w)(hb:Fit 33 B vb w)(hx:Fit e X vx w)(he:e<=30000)(hP:Ak P<=16)(hQ:Ak Q<=16)(hm:Aq w ⟨pm,nm,cm,msg⟩)(hz:pm=none->cm=0)(hn:nm<=1000)(hs:Sj P Q A B X msg A1 B1 Y1 Z1 SB E) :
  Calls Tryz.prog 55 #[.pointer (some ⟨b,0,none⟩),va,vb,vx,.slice pm nm cm] w fun en w'=>∃v,en=.returned v/\Rv A1 B1 Y1 Z1 SB E v w'/\Below w.heap.size w w':=by
 by_cases h:X<Q/\Cj P Q A/\Cj P Q B
 .obtain⟨rfl,rfl,rfl,rfl,rfl,rfl⟩:=hs.1 h;refine(Zw hg hT ha hb hx he h.1 h.2.1 h.2.2 hP hQ hm hz hn).mono ?_;rintro en w' ⟨c,u,rfl,h1,h2,h3⟩;exact⟨_,rfl,⟨c,u,rfl,h1,h2⟩,h3⟩
 .obtain⟨rfl,rfl,rfl,rfl,rfl,rfl⟩:=hs.2 h
  by_cases hX:X<Q
  .refine(cZ hg ha hb hx he hX (fun k=>h ⟨hX,k⟩)).mono ?_;rintro en w' ⟨rfl,h3⟩;exact⟨_,rfl,Ps _,h3⟩
  .refine(Tk (Uz.of hg) ha hb hx he hX).mono ?_;rintro en w' ⟨rfl,h3⟩;exact⟨_,rfl,Ps _,h3⟩
theorem gS {w:World}{e A B X:Nat}{va vb vx:Value}{pm:Option Addr}{nm cm:Nat}(ha:Fit 33 A va w)(hb:Fit 33 B vb w)(hx:Fit e X vx w)(he:e<=30000) :
  Calls Tryz.prog 55 #[.pointer none,va,vb,vx,.slice pm nm cm] w fun en w'=>∃v,en=.returned v/\Rv 0 0 0 0 [] 1 v w'/\Below w.heap.size w w':=by
 refine(Tk (Q:=0) (.inr ⟨rfl,rfl⟩) ha hb hx he (Nat.not_lt_zero _)).mono ?_;rintro en w' ⟨rfl,h3⟩;exact⟨_,rfl,Ps _,h3⟩
end Go.Proofs.YthgoeiegdhphjaaGreatDoor
