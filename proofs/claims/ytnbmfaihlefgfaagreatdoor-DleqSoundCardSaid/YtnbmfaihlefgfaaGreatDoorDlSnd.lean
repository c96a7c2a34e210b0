/- DleqSound, walked: an answer verifies just if it is right on both sides. -/
import Derived.Test.YtnbmfaihlefgfaaGreatDoorDlN
import Derived.Test.YtnbmfaihlefgfaaGreatDoorDlS
import Derived.Test.YtnbmfaihlefgfaaGreatDoorDlE
import Derived.Deep.LoopGhost
set_option maxRecDepth 1000000
set_option maxHeartbeats 16000000
set_option linter.all false
namespace Go.Proofs.YtnbmfaihlefgfaaGreatDoor
open Go Go.RowKit Go.Proofs.YtnbmfaihlefgfaaGreatDoor.Flow
def Ha (w:World)(b:Nat)(x0 x1 x2 x3 x4 x5:Option Addr×Nat×Nat):Prop:=w.heap[b]? = some (.cells #[.slice x0.1 x0.2.1 x0.2.2,.slice x1.1 x1.2.1 x1.2.2,.slice x2.1 x2.2.1 x2.2.2,.slice x3.1 x3.2.1 x3.2.2,.slice x4.1 x4.2.1 x4.2.2,.slice x5.1 x5.2.1 x5.2.2] 79 (0,0))
theorem Ha.cells {w:World}{b:Nat}{x0 x1 x2 x3 x4 x5:Option Addr×Nat×Nat}(h:Ha w b x0 x1 x2 x3 x4 x5) :
  (w.cell? ⟨b,0,none⟩=some (.slice x0.1 x0.2.1 x0.2.2)/\w.cell? ⟨b,1,none⟩=some (.slice x1.1 x1.2.1 x1.2.2)/\w.cell? ⟨b,2,none⟩=some (.slice x2.1 x2.2.1 x2.2.2)/\w.cell? ⟨b,3,none⟩=some (.slice x3.1 x3.2.1 x3.2.2)/\w.cell? ⟨b,4,none⟩=some (.slice x4.1 x4.2.1 x4.2.2)/\w.cell? ⟨b,5,none⟩=some (.slice x5.1 x5.2.1 x5.2.2))/\w.frozen? ⟨b,0,none⟩=false/\w.frozen? ⟨b,1,none⟩=false/\w.frozen? ⟨b,2,none⟩=false/\w.frozen? ⟨b,3,none⟩=false/\w.frozen? ⟨b,4,none⟩=false/\w.frozen? ⟨b,5,none⟩=false:=by
 have h':=h;unfold Ha at h';simp[World.cell?,World.frozen?,h']
theorem Ha.below {w w':World}{b:Nat}{x0 x1 x2 x3 x4 x5:Option Addr×Nat×Nat}(h:Ha w b x0 x1 x2 x3 x4 x5)(hb:Below w.heap.size w w'):Ha w' b x0 x1 x2 x3 x4 x5:=(hb.block b (Gn h).1).trans h
theorem Mc (x0 x1 x2 x3 x4 x5:Option Addr×Nat×Nat):∀(j:Nat) (u:Value),(#[Value.slice x0.1 x0.2.1 x0.2.2,.slice x1.1 x1.2.1 x1.2.2,.slice x2.1 x2.2.1 x2.2.2,.slice x3.1 x3.2.1 x3.2.2,.slice x4.1 x4.2.1 x4.2.2,.slice x5.1 x5.2.1 x5.2.2]:Array Value)[j]? = some u->∃q k d,u=.slice q k d
 | 0,u,h=>by cases h;exact⟨_,_,_,rfl⟩
 | 1,u,h=>by cases h;exact⟨_,_,_,rfl⟩
 | 2,u,h=>by cases h;exact⟨_,_,_,rfl⟩
 | 3,u,h=>by cases h;exact⟨_,_,_,rfl⟩
 | 4,u,h=>by cases h;exact⟨_,_,_,rfl⟩
 | 5,u,h=>by cases h;exact⟨_,_,_,rfl⟩
 | j+6,u,h=>by simp at h
theorem Ha.put0 {w:World}{b:Nat}{x0 x1 x2 x3 x4 x5:Option Addr×Nat×Nat}(h:Ha w b x0 x1 x2 x3 x4 x5)(y:Option Addr×Nat×Nat):Pw w b (.cells #[.slice y.1 y.2.1 y.2.2,.slice x1.1 x1.2.1 x1.2.2,.slice x2.1 x2.2.1 x2.2.2,.slice x3.1 x3.2.1 x3.2.2,.slice x4.1 x4.2.1 x4.2.2,.slice x5.1 x5.2.1 x5.2.2] 79 (0,0)) (w.setCell ⟨b,0,none⟩ (.slice y.1 y.2.1 y.2.2)):=by
 unfold Ha at h;exact⟨by simp[World.setCell,Array.getElem?_modify,h],fun g hg=>by simp[World.setCell,Array.getElem?_modify,hg.symm],by simp,fun B hB=>(Bd _ _).setCell hB _⟩
theorem Ha.put1 {w:World}{b:Nat}{x0 x1 x2 x3 x4 x5:Option Addr×Nat×Nat}(h:Ha w b x0 x1 x2 x3 x4 x5)(y:Option Addr×Nat×Nat):Pw w b (.cells #[.slice x0.1 x0.2.1 x0.2.2,.slice y.1 y.2.1 y.2.2,.slice x2.1 x2.2.1 x2.2.2,.slice x3.1 x3.2.1 x3.2.2,.slice x4.1 x4.2.1 x4.2.2,.slice x5.1 x5.2.1 x5.2.2] 79 (0,0)) (w.setCell ⟨b,1,none⟩ (.slice y.1 y.2.1 y.2.2)):=by
 unfold Ha at h;exact⟨by simp[World.setCell,Array.getElem?_modify,h],fun g hg=>by simp[World.setCell,Array.getElem?_modify,hg.symm],by simp,fun B hB=>(Bd _ _).setCell hB _⟩
theorem Ha.put2 {w:World}{b:Nat}{x0 x1 x2 x3 x4 x5:Option Addr×Nat×Nat}(h:Ha w b x0 x1 x2 x3 x4 x5)(y:Option Addr×Nat×Nat):Pw w b (.cells #[.slice x0.1 x0.2.1 x0.2.2,.slice x1.1 x1.2.1 x1.2.2,.slice y.1 y.2.1 y.2.2,.slice x3.1 x3.2.1 x3.2.2,.slice x4.1 x4.2.1 x4.2.2,.slice x5.1 x5.2.1 x5.2.2] 79 (0,0)) (w.setCell ⟨b,2,none⟩ (.slice y.1 y.2.1 y.2.2)):=by
 unfold Ha at h;exact⟨by simp[World.setCell,Array.getElem?_modify,h],fun g hg=>by simp[World.setCell,Array.getElem?_modify,hg.symm],by simp,fun B hB=>(Bd _ _).setCell hB _⟩
theorem Ha.put3 {w:World}{b:Nat}{x0 x1 x2 x3 x4 x5:Option Addr×Nat×Nat}(h:Ha w b x0 x1 x2 x3 x4 x5)(y:Option Addr×Nat×Nat):Pw w b (.cells #[.slice x0.1 x0.2.1 x0.2.2,.slice x1.1 x1.2.1 x1.2.2,.slice x2.1 x2.2.1 x2.2.2,.slice y.1 y.2.1 y.2.2,.slice x4.1 x4.2.1 x4.2.2,.slice x5.1 x5.2.1 x5.2.2] 79 (0,0)) (w.setCell ⟨b,3,none⟩ (.slice y.1 y.2.1 y.2.2)):=by
 unfold Ha at h;exact⟨by simp[World.setCell,Array.getElem?_modify,h],fun g hg=>by simp[World.setCell,Array.getElem?_modify,hg.symm],by simp,fun B hB=>(Bd _ _).setCell hB _⟩
theorem Ha.put4 {w:World}{b:Nat}{x0 x1 x2 x3 x4 x5:Option Addr×Nat×Nat}(h:Ha w b x0 x1 x2 x3 x4 x5)(y:Option Addr×Nat×Nat):Pw w b (.cells #[.slice x0.1 x0.2.1 x0.2.2,.slice x1.1 x1.2.1 x1.2.2,.slice x2.1 x2.2.1 x2.2.2,.slice x3.1 x3.2.1 x3.2.2,.slice y.1 y.2.1 y.2.2,.slice x5.1 x5.2.1 x5.2.2] 79 (0,0)) (w.setCell ⟨b,4,none⟩ (.slice y.1 y.2.1 y.2.2)):=by
 unfold Ha at h;exact⟨by simp[World.setCell,Array.getElem?_modify,h],fun g hg=>by simp[World.setCell,Array.getElem?_modify,hg.symm],by simp,fun B hB=>(Bd _ _).setCell hB _⟩
theorem Ha.put5 {w:World}{b:Nat}{x0 x1 x2 x3 x4 x5:Option Addr×Nat×Nat}(h:Ha w b x0 x1 x2 x3 x4 x5)(y:Option Addr×Nat×Nat):Pw w b (.cells #[.slice x0.1 x0.2.1 x0.2.2,.slice x1.1 x1.2.1 x1.2.2,.slice x2.1 x2.2.1 x2.2.2,.slice x3.1 x3.2.1 x3.2.2,.slice x4.1 x4.2.1 x4.2.2,.slice y.1 y.2.1 y.2.2] 79 (0,0)) (w.setCell ⟨b,5,none⟩ (.slice y.1 y.2.1 y.2.2)):=by
 unfold Ha at h;exact⟨by simp[World.setCell,Array.getElem?_modify,h],fun g hg=>by simp[World.setCell,Array.getElem?_modify,hg.symm],by simp,fun B hB=>(Bd _ _).setCell hB _⟩
theorem Ua (w:World)(hr:Tabs w)(A0:Int)(v0:Nat)(hv0:iV v0)(v1:Nat)(hv1:iV v1)(v2:Nat)(hv2:iV v2)(v3:Nat)(hv3:iV v3)(v4:Nat)(hv4:iV v4)(v5:Nat)(hv5:iV v5)(pm:Option Addr)(nm cm:Nat)(msg:List Nat)(hm:Au w ⟨pm,nm,cm,msg⟩)(hzm:pm=none->cm=0) :
  Calls Tryz.prog 9 #[.int .i64 A0,.int .u64 (v0:Nat),.int .u64 (v1:Nat),.int .u64 (v2:Nat),.int .u64 (v3:Nat),.int .u64 (v4:Nat),.int .u64 (v5:Nat),.slice pm nm cm] w fun e w'=>e=.returned (.bool true)/\Below w.heap.size w w':=by
 have HLI:=Aa Tx;have HT0:=Aa hr;have HM0:=Aa hm;have HZM:=Aa hzm;have HV0:Ad (v0<18446744073709551616):=⟨hv0⟩
 have HV1:Ad (v1<18446744073709551616):=⟨hv1⟩
 have HV2:Ad (v2<18446744073709551616):=⟨hv2⟩
 have HV3:Ad (v3<18446744073709551616):=⟨hv3⟩
 have HV4:Ad (v4<18446744073709551616):=⟨hv4⟩
 have HV5:Ad (v5<18446744073709551616):=⟨hv5⟩
 have hcap:nm<=cm:=hm.row.cap;have hmax:cm<=9223372036854775807:=hm.row.max;obtain⟨i,hi⟩:∃i,((IntKind.u64.wrap A0)%3).toNat=i:=⟨_,rfl⟩
 have HI3:Ad (i<3):=⟨by rw[<-hi];exact kI A0⟩
 have HI:=Aa hi;clear hr hi hm hv0 hv1 hv2 hv3 hv4 hv5 hzm;go_enter Tryz.func9,Tryz.ntmps9
 go_wp2_with fail
 refine(HLI.out w HT0.out).mono ?_;rintro en w1 ⟨rfl,b1⟩;have B1:=Aa b1;clear b1
 by_cases hn3:300<nm
 .have hn3':(300:Int)<nm:=by omega
  go_wp2_with fail
  refine(HLI.out w1 (HT0.out.below B1.out HT0.out.size)).mono ?_;rintro en w2 ⟨rfl,b2⟩;have B2:=Aa (Ae B1.out b2);clear b2;go_wp2;go_ret;exact⟨rfl,B2.out⟩
 have hn3':¬(300:Int)<nm:=by omega
 have HNM:Ad (nm<=1000):=⟨by omega⟩
 have HNM9:Ad (nm<=900):=⟨by omega⟩
 go_wp2_with fail
 refine(Mw w1 A0 (HT0.out.below B1.out HT0.out.size)).mono ?_;rintro en w2 ⟨b,rfl,hg2,b2⟩;rw[HI.out]at hg2
 obtain⟨P,hP⟩:∃P,gP i=P:=⟨_,rfl⟩
 obtain⟨Q,hQ⟩:∃P,gQ i=P:=⟨_,rfl⟩
 obtain⟨G,hG⟩:∃P,gG i=P:=⟨_,rfl⟩
 obtain⟨H,hH⟩:∃P,gH i=P:=⟨_,rfl⟩
 have HP2:Ad (2<=P/\2<=Q/\G^Q%P=1):=⟨by rw[<-hP,<-hQ,<-hG];exact⟨qD i HI3.out,kQ i HI3.out,Pn i HI3.out⟩⟩
 have HPf:Ad (Al P<=16):=⟨by rw[<-hP];exact Wz i HI3.out⟩
 have HPQ:Ad (Cs Q):=⟨by rw[<-hQ];exact kP i HI3.out⟩
 have HQf:Ad (Al Q<=16):=⟨by rw[<-hQ];exact cM i HI3.out⟩
 rw[hP,hQ,hG,hH]at hg2
 have HPL:Ad (P<Ap 33):=⟨hg2.lims.2.1⟩
 have HG:=Aa hg2;have hbb:=Ae B1.out b2;have HT:=Aa (HT0.out.below hbb HT0.out.size);have HM:=Aa (HM0.out.below hbb);have HB:=Aa hbb;clear hg2 b2 hbb hP hQ hG hH B1
 go_wp2_with fail
 refine(Kd HG.out).mono ?_;rintro en w3 ⟨r,rfl,hr3,hb⟩;have HR:=Aa hr3;replace HG:=Aa (HG.out.below hb);replace HT:=Aa (HT.out.below hb HT.out.size);replace HM:=Aa (HM.out.below hb);replace HB:=Aa (Ae HB.out hb);clear hb hr3;have hbo:=heap_alloc_new w3 (.cells #[.slice none 0 0,.slice none 0 0,.slice none 0 0,.slice none 0 0,.slice none 0 0,.slice none 0 0] 79);have hb0:Below w3.heap.size w3 (w3.alloc (.cells #[.slice none 0 0,.slice none 0 0,.slice none 0 0,.slice none 0 0,.slice none 0 0,.slice none 0 0] 79)):=By;go_wp2
 go_loopw [20,21,56] (fun _ _ iv wr=>∃(k:Nat) (x0 x1 x2 x3 x4 x5:Option Addr×Nat×Nat),k<=6/\iv=.int .i64 k/\Ad (Ha wr w3.heap.size x0 x1 x2 x3 x4 x5)/\Ad ((1<=k->Dh wr x0 (v0%Q))/\(2<=k->Dh wr x1 (v1%Q))/\(3<=k->Dh wr x2 (v2%Q))/\(4<=k->Dh wr x3 (v3%Q))/\(5<=k->Dh wr x4 (v4%Q))/\(6<=k->Dh wr x5 (v5%Q)))/\Ad (Below w3.heap.size w3 wr)) (fun _ _ iv _=>6-(intOf iv).toNat)
 case atStart=>exact⟨0,(none,0,0),(none,0,0),(none,0,0),(none,0,0),(none,0,0),(none,0,0),by omega,rfl,⟨hbo⟩,⟨(fun h=>by omega),(fun h=>by omega),(fun h=>by omega),(fun h=>by omega),(fun h=>by omega),fun h=>by omega⟩,⟨hb0⟩⟩
 case round=>
  obtain⟨k,x0,x1,x2,x3,x4,x5,hk,rfl,HX,HJ,HBw⟩:=hrel;have ix0:∀w:World,(Instr.index 80 (.agg #[.int .u64 (v0:Nat),.int .u64 (v1:Nat),.int .u64 (v2:Nat),.int .u64 (v3:Nat),.int .u64 (v4:Nat),.int .u64 (v5:Nat)]) (.int .i64 0)).run Tryz.prog w=.ok (.int .u64 (v0:Nat)) w:=fun _=>by kernel_rfl
  have ix1:∀w:World,(Instr.index 80 (.agg #[.int .u64 (v0:Nat),.int .u64 (v1:Nat),.int .u64 (v2:Nat),.int .u64 (v3:Nat),.int .u64 (v4:Nat),.int .u64 (v5:Nat)]) (.int .i64 1)).run Tryz.prog w=.ok (.int .u64 (v1:Nat)) w:=fun _=>by kernel_rfl
  have ix2:∀w:World,(Instr.index 80 (.agg #[.int .u64 (v0:Nat),.int .u64 (v1:Nat),.int .u64 (v2:Nat),.int .u64 (v3:Nat),.int .u64 (v4:Nat),.int .u64 (v5:Nat)]) (.int .i64 2)).run Tryz.prog w=.ok (.int .u64 (v2:Nat)) w:=fun _=>by kernel_rfl
  have ix3:∀w:World,(Instr.index 80 (.agg #[.int .u64 (v0:Nat),.int .u64 (v1:Nat),.int .u64 (v2:Nat),.int .u64 (v3:Nat),.int .u64 (v4:Nat),.int .u64 (v5:Nat)]) (.int .i64 3)).run Tryz.prog w=.ok (.int .u64 (v3:Nat)) w:=fun _=>by kernel_rfl
  have ix4:∀w:World,(Instr.index 80 (.agg #[.int .u64 (v0:Nat),.int .u64 (v1:Nat),.int .u64 (v2:Nat),.int .u64 (v3:Nat),.int .u64 (v4:Nat),.int .u64 (v5:Nat)]) (.int .i64 4)).run Tryz.prog w=.ok (.int .u64 (v4:Nat)) w:=fun _=>by kernel_rfl
  have ix5:∀w:World,(Instr.index 80 (.agg #[.int .u64 (v0:Nat),.int .u64 (v1:Nat),.int .u64 (v2:Nat),.int .u64 (v3:Nat),.int .u64 (v4:Nat),.int .u64 (v5:Nat)]) (.int .i64 5)).run Tryz.prog w=.ok (.int .u64 (v5:Nat)) w:=fun _=>by kernel_rfl
  rcases(by omega:k=0 ∨ k=1 ∨ k=2 ∨ k=3 ∨ k=4 ∨ k=5 ∨ k=6) with rfl|rfl|rfl|rfl|rfl|rfl|rfl
  .go_wp2_with fail
   refine(Dn (n:=v0) wr HV0.out).mono ?_;rintro en wa ⟨u,rfl,hu,hb⟩;have HU:=Aa hu;have hbw:=Ae HBw.out hb;have HBa:=Aa hbw;have HXa:=Aa (HX.out.below hb);clear hu hb hbw HX HBw HJ
   go_wp2_with fail
   refine(Dc (HR.out.below HBa.out) HU.out (by decide)).mono ?_;rintro en wb ⟨_,rfl,⟨pn,nn,cn,rfl,h,l⟩,hb⟩;have hX:=HXa.out.below hb;have hP:=hX.put0 (pn,nn,cn);have hk:=hP.keep hX (Mc x0 x1 x2 x3 x4 x5) (As _);have HN:=Aa hP.new;have HBb:=Aa ((Ae HBa.out hb).trans (hP.bel _ (As _)));have HAn:=Aa (hk.nat _ _ _ _ h);have f:=hX.cells.2;obtain⟨f0,f1,f2,f3,f4,f5⟩:=f;have e:=hX.cells.1;obtain⟨e0,e1,e2,e3,e4,e5⟩:=e;have hlt:w3.heap.size<wb.heap.size:=(Gn hX).1;clear h l hb hP hk HU HXa HBa;go_wp2;clear e0 e1 e2 e3 e4 e5 f0 f1 f2 f3 f4 f5 hlt hX;go_roundw
   case rel=>exact⟨1,(pn,nn,cn),x1,x2,x3,x4,x5,by omega,rfl,HN,⟨(fun _=>HAn.out),(fun h=>by omega),(fun h=>by omega),(fun h=>by omega),(fun h=>by omega),(fun h=>by omega)⟩,HBb⟩
   case measure=>simp[intOf]
  .go_wp2_with fail
   refine(Dn (n:=v1) wr HV1.out).mono ?_;rintro en wa ⟨u,rfl,hu,hb⟩;have HU:=Aa hu;have hbw:=Ae HBw.out hb;have HBa:=Aa hbw;have HXa:=Aa (HX.out.below hb);have HA0:=Aa ((HJ.out.1 (by omega)).below hb);clear hu hb hbw HX HBw HJ
   go_wp2_with fail
   refine(Dc (HR.out.below HBa.out) HU.out (by decide)).mono ?_;rintro en wb ⟨_,rfl,⟨pn,nn,cn,rfl,h,l⟩,hb⟩;have hX:=HXa.out.below hb;have hP:=hX.put1 (pn,nn,cn);have hk:=hP.keep hX (Mc x0 x1 x2 x3 x4 x5) (As _);have HN:=Aa hP.new;have HBb:=Aa ((Ae HBa.out hb).trans (hP.bel _ (As _)));have HAn:=Aa (hk.nat _ _ _ _ h);have HC0:=Aa (hk.nat _ _ _ _ (HA0.out.below hb));have f:=hX.cells.2;obtain⟨f0,f1,f2,f3,f4,f5⟩:=f;have e:=hX.cells.1;obtain⟨e0,e1,e2,e3,e4,e5⟩:=e;have hlt:w3.heap.size<wb.heap.size:=(Gn hX).1;clear h l hb hP hk HU HXa HBa;go_wp2;clear e0 e1 e2 e3 e4 e5 f0 f1 f2 f3 f4 f5 hlt hX;go_roundw
   case rel=>exact⟨2,x0,(pn,nn,cn),x2,x3,x4,x5,by omega,rfl,HN,⟨(fun _=>HC0.out),(fun _=>HAn.out),(fun h=>by omega),(fun h=>by omega),(fun h=>by omega),(fun h=>by omega)⟩,HBb⟩
   case measure=>simp[intOf]
  .go_wp2_with fail
   refine(Dn (n:=v2) wr HV2.out).mono ?_;rintro en wa ⟨u,rfl,hu,hb⟩;have HU:=Aa hu;have hbw:=Ae HBw.out hb;have HBa:=Aa hbw;have HXa:=Aa (HX.out.below hb);have HA0:=Aa ((HJ.out.1 (by omega)).below hb);have HA1:=Aa ((HJ.out.2.1 (by omega)).below hb);clear hu hb hbw HX HBw HJ
   go_wp2_with fail
   refine(Dc (HR.out.below HBa.out) HU.out (by decide)).mono ?_;rintro en wb ⟨_,rfl,⟨pn,nn,cn,rfl,h,l⟩,hb⟩;have hX:=HXa.out.below hb;have hP:=hX.put2 (pn,nn,cn);have hk:=hP.keep hX (Mc x0 x1 x2 x3 x4 x5) (As _);have HN:=Aa hP.new;have HBb:=Aa ((Ae HBa.out hb).trans (hP.bel _ (As _)));have HAn:=Aa (hk.nat _ _ _ _ h);have HC0:=Aa (hk.nat _ _ _ _ (HA0.out.below hb));have HC1:=Aa (hk.nat _ _ _ _ (HA1.out.below hb));have f:=hX.cells.2;obtain⟨f0,f1,f2,f3,f4,f5⟩:=f;have e:=hX.cells.1;obtain⟨e0,e1,e2,e3,e4,e5⟩:=e;have hlt:w3.heap.size<wb.heap.size:=(Gn hX).1;clear h l hb hP hk HU HXa HBa;go_wp2;clear e0 e1 e2 e3 e4 e5 f0 f1 f2 f3 f4 f5 hlt hX;go_roundw
   case rel=>exact⟨3,x0,x1,(pn,nn,cn),x3,x4,x5,by omega,rfl,HN,⟨(fun _=>HC0.out),(fun _=>HC1.out),(fun _=>HAn.out),(fun h=>by omega),(fun h=>by omega),(fun h=>by omega)⟩,HBb⟩
   case measure=>simp[intOf]
  .go_wp2_with fail
   refine(Dn (n:=v3) wr HV3.out).mono ?_;rintro en wa ⟨u,rfl,hu,hb⟩;have HU:=Aa hu;have hbw:=Ae HBw.out hb;have HBa:=Aa hbw;have HXa:=Aa (HX.out.below hb);have HA0:=Aa ((HJ.out.1 (by omega)).below hb);have HA1:=Aa ((HJ.out.2.1 (by omega)).below hb);have HA2:=Aa ((HJ.out.2.2.1 (by omega)).below hb);clear hu hb hbw HX HBw HJ
   go_wp2_with fail
   refine(Dc (HR.out.below HBa.out) HU.out (by decide)).mono ?_;rintro en wb ⟨_,rfl,⟨pn,nn,cn,rfl,h,l⟩,hb⟩;have hX:=HXa.out.below hb;have hP:=hX.put3 (pn,nn,cn);have hk:=hP.keep hX (Mc x0 x1 x2 x3 x4 x5) (As _);have HN:=Aa hP.new;have HBb:=Aa ((Ae HBa.out hb).trans (hP.bel _ (As _)));have HAn:=Aa (hk.nat _ _ _ _ h);have HC0:=Aa (hk.nat _ _ _ _ (HA0.out.below hb));have HC1:=Aa (hk.nat _ _ _ _ (HA1.out.below hb));have HC2:=Aa (hk.nat _ _ _ _ (HA2.out.below hb));have f:=hX.cells.2;obtain⟨f0,f1,f2,f3,f4,f5⟩:=f;have e:=hX.cells.1;obtain⟨e0,e1,e2,e3,e4,e5⟩:=e;have hlt:w3.heap.size<wb.heap.size:=(Gn hX).1;clear h l hb hP hk HU HXa HBa;go_wp2;clear e0 e1 e2 e3 e4 e5 f0 f1 f2 f3 f4 f5 hlt hX;go_roundw
   case rel=>exact⟨4,x0,x1,x2,(pn,nn,cn),x4,x5,by omega,rfl,HN,⟨(fun _=>HC0.out),(fun _=>HC1.out),(fun _=>HC2.out),(fun _=>HAn.out),(fun h=>by omega),(fun h=>by omega)⟩,HBb⟩
   case measure=>simp[intOf]
  .go_wp2_with fail
   refine(Dn (n:=v4) wr HV4.out).mono ?_;rintro en wa ⟨u,rfl,hu,hb⟩;have HU:=Aa hu;have hbw:=Ae HBw.out hb;have HBa:=Aa hbw;have HXa:=Aa (HX.out.below hb);have HA0:=Aa ((HJ.out.1 (by omega)).below hb);have HA1:=Aa ((HJ.out.2.1 (by omega)).below hb);have HA2:=Aa ((HJ.out.2.2.1 (by omega)).below hb);have HA3:=Aa ((HJ.out.2.2.2.1 (by omega)).below hb);clear hu hb hbw HX HBw HJ
   go_wp2_with fail
   refine(Dc (HR.out.below HBa.out) HU.out (by decide)).mono ?_;rintro en wb ⟨_,rfl,⟨pn,nn,cn,rfl,h,l⟩,hb⟩;have hX:=HXa.out.below hb;have hP:=hX.put4 (pn,nn,cn);have hk:=hP.keep hX (Mc x0 x1 x2 x3 x4 x5) (As _);have HN:=Aa hP.new;have HBb:=Aa ((Ae HBa.out hb).trans (hP.bel _ (As _)));have HAn:=Aa (hk.nat _ _ _ _ h);have HC0:=Aa (hk.nat _ _ _ _ (HA0.out.below hb));have HC1:=Aa (hk.nat _ _ _ _ (HA1.out.below hb));have HC2:=Aa (hk.nat _ _ _ _ (HA2.out.below hb));have HC3:=Aa (hk.nat _ _ _ _ (HA3.out.below hb));have f:=hX.cells.2;obtain⟨f0,f1,f2,f3,f4,f5⟩:=f;have e:=hX.cells.1;obtain⟨e0,e1,e2,e3,e4,e5⟩:=e;have hlt:w3.heap.size<wb.heap.size:=(Gn hX).1;clear h l hb hP hk HU HXa HBa;go_wp2;clear e0 e1 e2 e3 e4 e5 f0 f1 f2 f3 f4 f5 hlt hX;go_roundw
   case rel=>exact⟨5,x0,x1,x2,x3,(pn,nn,cn),x5,by omega,rfl,HN,⟨(fun _=>HC0.out),(fun _=>HC1.out),(fun _=>HC2.out),(fun _=>HC3.out),(fun _=>HAn.out),(fun h=>by omega)⟩,HBb⟩
   case measure=>simp[intOf]
  .go_wp2_with fail
   refine(Dn (n:=v5) wr HV5.out).mono ?_;rintro en wa ⟨u,rfl,hu,hb⟩;have HU:=Aa hu;have hbw:=Ae HBw.out hb;have HBa:=Aa hbw;have HXa:=Aa (HX.out.below hb);have HA0:=Aa ((HJ.out.1 (by omega)).below hb);have HA1:=Aa ((HJ.out.2.1 (by omega)).below hb);have HA2:=Aa ((HJ.out.2.2.1 (by omega)).below hb);have HA3:=Aa ((HJ.out.2.2.2.1 (by omega)).below hb);have HA4:=Aa ((HJ.out.2.2.2.2.1 (by omega)).below hb);clear hu hb hbw HX HBw HJ
   go_wp2_with fail
   refine(Dc (HR.out.below HBa.out) HU.out (by decide)).mono ?_;rintro en wb ⟨_,rfl,⟨pn,nn,cn,rfl,h,l⟩,hb⟩;have hX:=HXa.out.below hb;have hP:=hX.put5 (pn,nn,cn);have hk:=hP.keep hX (Mc x0 x1 x2 x3 x4 x5) (As _);have HN:=Aa hP.new;have HBb:=Aa ((Ae HBa.out hb).trans (hP.bel _ (As _)));have HAn:=Aa (hk.nat _ _ _ _ h);have HC0:=Aa (hk.nat _ _ _ _ (HA0.out.below hb));have HC1:=Aa (hk.nat _ _ _ _ (HA1.out.below hb));have HC2:=Aa (hk.nat _ _ _ _ (HA2.out.below hb));have HC3:=Aa (hk.nat _ _ _ _ (HA3.out.below hb));have HC4:=Aa (hk.nat _ _ _ _ (HA4.out.below hb));have f:=hX.cells.2;obtain⟨f0,f1,f2,f3,f4,f5⟩:=f;have e:=hX.cells.1;obtain⟨e0,e1,e2,e3,e4,e5⟩:=e;have hlt:w3.heap.size<wb.heap.size:=(Gn hX).1;clear h l hb hP hk HU HXa HBa;go_wp2;clear e0 e1 e2 e3 e4 e5 f0 f1 f2 f3 f4 f5 hlt hX;go_roundw
   case rel=>exact⟨6,x0,x1,x2,x3,x4,(pn,nn,cn),by omega,rfl,HN,⟨(fun _=>HC0.out),(fun _=>HC1.out),(fun _=>HC2.out),(fun _=>HC3.out),(fun _=>HC4.out),(fun _=>HAn.out)⟩,HBb⟩
   case measure=>simp[intOf]
  .have hb:=HBw.out;obtain⟨b9,hb9⟩:∃b,w3.heap.size=b:=⟨_,rfl⟩
   have hX:=HX.out;rw[hb9]at hX
   have HX6:=Aa hX;have HA0:=Aa (HJ.out.1 (by omega));have HA1:=Aa (HJ.out.2.1 (by omega));have HA2:=Aa (HJ.out.2.2.1 (by omega));have HA3:=Aa (HJ.out.2.2.2.1 (by omega));have HA4:=Aa (HJ.out.2.2.2.2.1 (by omega));have HA5:=Aa (HJ.out.2.2.2.2.2 (by omega));replace HG:=Aa (HG.out.below hb);replace HT:=Aa (HT.out.below hb HT.out.size);replace HM:=Aa (HM.out.below hb);replace HB:=Aa (Ae HB.out hb);replace HR:=Aa (HR.out.below hb);clear hb hX HX HJ HBw;obtain⟨N0,hN0⟩:∃N,v0%Q=N:=⟨_,rfl⟩
   have HL0:Ad (N0<Q):=⟨by rw[<-hN0];exact Nat.mod_lt _ (by have:=HP2.out;omega)⟩
   rw[hN0]at HA0
   clear hN0;obtain⟨N1,hN1⟩:∃N,v1%Q=N:=⟨_,rfl⟩
   have HL1:Ad (N1<Q):=⟨by rw[<-hN1];exact Nat.mod_lt _ (by have:=HP2.out;omega)⟩
   rw[hN1]at HA1
   clear hN1;obtain⟨N2,hN2⟩:∃N,v2%Q=N:=⟨_,rfl⟩
   have HL2:Ad (N2<Q):=⟨by rw[<-hN2];exact Nat.mod_lt _ (by have:=HP2.out;omega)⟩
   rw[hN2]at HA2
   clear hN2;obtain⟨N3,hN3⟩:∃N,v3%Q=N:=⟨_,rfl⟩
   have HL3:Ad (N3<Q):=⟨by rw[<-hN3];exact Nat.mod_lt _ (by have:=HP2.out;omega)⟩
   rw[hN3]at HA3
   clear hN3;obtain⟨N4,hN4⟩:∃N,v4%Q=N:=⟨_,rfl⟩
   have HL4:Ad (N4<Q):=⟨by rw[<-hN4];exact Nat.mod_lt _ (by have:=HP2.out;omega)⟩
   rw[hN4]at HA4
   clear hN4;obtain⟨N5,hN5⟩:∃N,v5%Q=N:=⟨_,rfl⟩
   have HL5:Ad (N5<Q):=⟨by rw[<-hN5];exact Nat.mod_lt _ (by have:=HP2.out;omega)⟩
   rw[hN5]at HA5
   clear hN5;have HQ33:Ad (Q<Ap 33):=⟨HG.out.lims.2.2.2⟩
   have HF0:=Aa (Fit.of HA0.out (Nat.lt_trans HL0.out HQ33.out));have HF1:=Aa (Fit.of HA1.out (Nat.lt_trans HL1.out HQ33.out));have HF2:=Aa (Fit.of HA2.out (Nat.lt_trans HL2.out HQ33.out));have HF3:=Aa (Fit.of HA3.out (Nat.lt_trans HL3.out HQ33.out));have HF4:=Aa (Fit.of HA4.out (Nat.lt_trans HL4.out HQ33.out));have HF5:=Aa (Fit.of HA5.out (Nat.lt_trans HL5.out HQ33.out));clear HA0 HA1 HA2 HA3 HA4 HA5;have e0:=HX6.out.cells.1.1
   go_wp2_with fail
   clear e0;refine(Nu HF0.out).mono ?_;rintro en w4 ⟨_,rfl,rfl,hb⟩;replace HG:=Aa (HG.out.below hb);replace HT:=Aa (HT.out.below hb HT.out.size);replace HM:=Aa (HM.out.below hb);replace HB:=Aa (Ae HB.out hb);replace HR:=Aa (HR.out.below hb);replace HX6:=Aa (HX6.out.below hb);replace HF0:=Aa (HF0.out.below hb);replace HF1:=Aa (HF1.out.below hb);replace HF2:=Aa (HF2.out.below hb);replace HF3:=Aa (HF3.out.below hb);replace HF4:=Aa (HF4.out.below hb);replace HF5:=Aa (HF5.out.below hb);clear hb
   by_cases hz:N0=0
   .subst hz;go_wp2;go_ret;exact⟨rfl,HB.out⟩
   have hzf:decide (N0=0)=false:=decide_eq_false hz;have HZ0:Ad (0<N0):=⟨by omega⟩
   rw[hzf];have e1:=HX6.out.cells.1.2.1;clear hz hzf
   go_wp2_with fail
   clear e1;refine(Nu HF1.out).mono ?_;rintro en w5 ⟨_,rfl,rfl,hb⟩;replace HG:=Aa (HG.out.below hb);replace HT:=Aa (HT.out.below hb HT.out.size);replace HM:=Aa (HM.out.below hb);replace HB:=Aa (Ae HB.out hb);replace HR:=Aa (HR.out.below hb);replace HX6:=Aa (HX6.out.below hb);replace HF0:=Aa (HF0.out.below hb);replace HF1:=Aa (HF1.out.below hb);replace HF2:=Aa (HF2.out.below hb);replace HF3:=Aa (HF3.out.below hb);replace HF4:=Aa (HF4.out.below hb);replace HF5:=Aa (HF5.out.below hb);clear hb
   by_cases hz:N1=0
   .subst hz;go_wp2;go_ret;exact⟨rfl,HB.out⟩
   have hzf:decide (N1=0)=false:=decide_eq_false hz;have HZ1:Ad (0<N1):=⟨by omega⟩
   rw[hzf];clear hz hzf;obtain⟨AA,hAA⟩:∃S,G^N0%P=S:=⟨_,rfl⟩
   obtain⟨BB,hBB⟩:∃S,G^N1%P=S:=⟨_,rfl⟩
   have HAE:=Aa hAA;have HBE:=Aa hBB;clear hAA hBB hb9;go_wp2;refine Ak (by kernel_rfl) (by kernel_rfl)
    [some (.pointer (some ⟨b,0,none⟩)),some (.pointer (some ⟨b,0,none⟩)),none,some (.pointer (some ⟨b9,0,none⟩)),some (.agg #[.slice x0.1 x0.2.1 x0.2.2]),none,some (.pointer (some ⟨b,0,none⟩)),some (.pointer (some ⟨b,0,none⟩)),none,some (.pointer (some ⟨b9,1,none⟩)),some (.agg #[.slice x1.1 x1.2.1 x1.2.2]),none,none,none,none,none]
    [false,false,true,false,false,true,false,false,true,false,false,true,true,true,true,true] rfl
    (fun _ _=>True) (fun D sp w'=>Kk w5 AA BB G G (D 5) (D 11) (D 12) (D 13) (D 14) (D 15) (D 2) (D 8) (sp 5) (sp 11) (sp 12) (sp 13) (sp 2) (sp 8) w') (fun _ _ _=>True) (fun _ _ _ _ _ _=>trivial)
    Kk.start ?_ ?_
   .simp only[Az,Nat.reduceAdd];refine⟨?_,?_,?_,?_,?_,?_,?_,?_,?_,?_,?_,?_,?_,?_,?_,?_,trivial⟩
    case refine_3=>
     intro D sp w' hD hW hdp hg;rw[hD]at hg
     (with_reducible refine Ab (w1:=w') (f := 43) (args:=#[.pointer (some ⟨b,0,none⟩)]) ?_ ?_ ?_)
     .simp only[Region.wanted]
     .simp[Act.eval,Act.put,go_sem]
     .refine(Xa (HG.out.below hg.bel)).mono ?_;rintro en w9 ⟨u,rfl,hu,hb⟩;exact⟨u,rfl,trivial,trivial,by simpa [upd]using(hg.later hb).set1 hu⟩
    case refine_9=>
     intro D sp w' hD hW hdp hg;rw[hD]at hg
     (with_reducible refine Ab (w1:=w') (f := 43) (args:=#[.pointer (some ⟨b,0,none⟩)]) ?_ ?_ ?_)
     .simp only[Region.wanted]
     .simp[Act.eval,Act.put,go_sem]
     .refine(Xa (HG.out.below hg.bel)).mono ?_;rintro en w9 ⟨u,rfl,hu,hb⟩;exact⟨u,rfl,trivial,trivial,by simpa [upd]using(hg.later hb).set2 hu⟩
    case refine_6=>
     intro D sp w' hD hW hdp hg;rw[hD]at hg
     have d2:D 2=true:=(hdp 2 (mq (by kernel_rfl))).1;have k2:=hg.q1 d2
     (with_reducible refine Ab (w1:=w') (f := 42) (args:=#[.pointer (some ⟨b,0,none⟩),sp 2,.agg #[.slice x0.1 x0.2.1 x0.2.2]]) ?_ ?_ ?_)
     .simp only[Region.wanted]
     .simp[Act.eval,Act.put,go_sem]
     .refine(El (HG.out.below hg.bel) k2 (HF0.out.below hg.bel) (by decide) (by decide)).mono ?_;rintro en w9 ⟨u,rfl,hu,hb⟩;rw[HAE.out]at hu
      exact⟨u,rfl,trivial,trivial,by simpa [upd]using(hg.later hb).put3 hu⟩
    case refine_12=>
     intro D sp w' hD hW hdp hg;rw[hD]at hg
     have d8:D 8=true:=(hdp 8 (mq (by kernel_rfl))).1;have k8:=hg.q2 d8
     (with_reducible refine Ab (w1:=w') (f := 42) (args:=#[.pointer (some ⟨b,0,none⟩),sp 8,.agg #[.slice x1.1 x1.2.1 x1.2.2]]) ?_ ?_ ?_)
     .simp only[Region.wanted]
     .simp[Act.eval,Act.put,go_sem]
     .refine(El (HG.out.below hg.bel) k8 (HF1.out.below hg.bel) (by decide) (by decide)).mono ?_;rintro en w9 ⟨u,rfl,hu,hb⟩;rw[HBE.out]at hu
      exact⟨u,rfl,trivial,trivial,by simpa [upd]using(hg.later hb).put7 hu⟩
    case refine_13=>
     intro D sp w' hD hW hdp hg;rw[hD]at hg
     have d0:=hg.no10;rw[d0]at hg
     (with_reducible refine Ag (w1:=w'.alloc (.cells #[.slice none 0 0] 36)) (v:=.pointer (some ⟨w'.heap.size,0,none⟩)) ?_ ?_ ?_)
     .simp only[Region.wanted]
     .simp[execOp,Act.eval,go_sem]
     .exact⟨trivial,trivial,by simpa [upd,d0]using hg.put8⟩
    case refine_14=>
     intro D sp w' hD hW hdp hg;rw[hD]at hg
     have d0:=hg.no11;rw[d0]at hg
     (with_reducible refine Ag (w1:=w'.alloc (.cells #[.slice none 0 0] 36)) (v:=.pointer (some ⟨w'.heap.size,0,none⟩)) ?_ ?_ ?_)
     .simp only[Region.wanted]
     .simp[execOp,Act.eval,go_sem]
     .exact⟨trivial,trivial,by simpa [upd,d0]using hg.put9⟩
    case refine_15=>
     intro D sp w' hD hW hdp hg;have d3:D 5=true:=(hdp 5 (mq (by kernel_rfl))).1;have d8:D 12=true:=(hdp 12 (mq (by kernel_rfl))).1;rw[hD,d3,d8]at hg
     (with_reducible refine Aq (hg.put10) fun b g0=>Aq (g0) fun m g1=>Aq (g1) fun d g2=>Aq (g2) fun q g3=>Aq (g3) fun p g4=>Aq (g4) fun n9 g5=>Aq (g5) fun c9 g6=>?_)
     have e8:=g6.1;have e3:=g6.2.1;have h6:=g6.2.2.1.cell;have h7:=g6.2.2.1.free
     (with_reducible refine An (w1:=w'.setCell ⟨b,0,none⟩ (.slice p n9 c9)) ?_ ?_ ?_)
     .simp only[Region.wanted]
     .simp[execOp,Act.eval,Act.put,go_sem,e8,e3,h6,h7]
     .exact⟨trivial,trivial,by simpa [upd,d3,d8]using g6.2.2.2⟩
    case refine_16=>
     intro D sp w' hD hW hdp hg;have d3:D 11=true:=(hdp 11 (mq (by kernel_rfl))).1;have d8:D 13=true:=(hdp 13 (mq (by kernel_rfl))).1;rw[hD,d3,d8]at hg
     (with_reducible refine Aq (hg.put11) fun b g0=>Aq (g0) fun m g1=>Aq (g1) fun d g2=>Aq (g2) fun q g3=>Aq (g3) fun p g4=>Aq (g4) fun n9 g5=>Aq (g5) fun c9 g6=>?_)
     have e8:=g6.1;have e3:=g6.2.1;have h6:=g6.2.2.1.cell;have h7:=g6.2.2.1.free
     (with_reducible refine An (w1:=w'.setCell ⟨b,0,none⟩ (.slice p n9 c9)) ?_ ?_ ?_)
     .simp only[Region.wanted]
     .simp[execOp,Act.eval,Act.put,go_sem,e8,e3,h6,h7]
     .exact⟨trivial,trivial,by simpa [upd,d3,d8]using g6.2.2.2⟩
    all_goals
     intro D sp w' hD hW hdp hg;have c6:=(HX6.out.below hg.bel).cells.1;simp[asked,Region.wanted,Oper.gives,execOp,Act.eval,Act.put,go_sem,c6.1,c6.2.1,c6.2.2.1,c6.2.2.2.1,c6.2.2.2.2.1,c6.2.2.2.2.2]
   .intro sp w6 hsp hg;obtain⟨b22,e22,_,⟨pa,na,ca,hxu,hnu⟩,_⟩:=hg.tb.b8 rfl;obtain⟨b23,e23,_,⟨pb,nb,cb,hxv,hnv⟩,_⟩:=hg.tb.b9 rfl;replace hnu:=hnu rfl;replace hnv:=hnv rfl;have hb:=hg.bel;have HXA:=Aa hxu;have HXB:=Aa hxv;have HMA:Ad (Cx P Q AA):=⟨by rw[<-HAE.out];exact Mj HP2.out.1 (by have:=HP2.out;omega) HP2.out.2.2 N0⟩
    have HMB:Ad (Cx P Q BB):=⟨by rw[<-HBE.out];exact Mj HP2.out.1 (by have:=HP2.out;omega) HP2.out.2.2 N1⟩
    have HFa:=Aa (Fit.of hnu (Nat.lt_trans HMA.out.2.1 HPL.out));have HFb:=Aa (Fit.of hnv (Nat.lt_trans HMB.out.2.1 HPL.out));replace HG:=Aa (HG.out.below hb);replace HT:=Aa (HT.out.below hb HT.out.size);replace HM:=Aa (HM.out.below hb);replace HB:=Aa (Ae HB.out hb);replace HR:=Aa (HR.out.below hb);replace HX6:=Aa (HX6.out.below hb);replace HF0:=Aa (HF0.out.below hb);replace HF1:=Aa (HF1.out.below hb);replace HF2:=Aa (HF2.out.below hb);replace HF3:=Aa (HF3.out.below hb);replace HF4:=Aa (HF4.out.below hb);replace HF5:=Aa (HF5.out.below hb);clear hsp hg hxu hxv hnu hnv hb;simp only[Am,Nat.reduceAdd];rw[e22,e23];clear e22 e23;generalize sp 2=y2,sp 5=y5,sp 8=y8,sp 11=y11 at *
    go_simp
    obtain⟨YY,hYY⟩:∃S,AA^N2%P=S:=⟨_,rfl⟩
    obtain⟨ZZ,hZZ⟩:∃S,BB^N3%P=S:=⟨_,rfl⟩
    have HYE:=Aa hYY;have HZE:=Aa hZZ;clear hYY hZZ;go_wp2;refine Ak (by kernel_rfl) (by kernel_rfl)
     [some (.agg #[.slice pa na ca]),some (.agg #[.slice pb nb cb]),some (.pointer (some ⟨b,0,none⟩)),some (.agg #[.slice pa na ca]),some (.pointer (some ⟨b9,2,none⟩)),some (.agg #[.slice x2.1 x2.2.1 x2.2.2]),none,some (.pointer (some ⟨b,0,none⟩)),some (.agg #[.slice pb nb cb]),some (.pointer (some ⟨b9,3,none⟩)),some (.agg #[.slice x3.1 x3.2.1 x3.2.2]),none,none,none,none]
     [false,false,false,false,false,false,true,false,false,false,false,true,true,true,true] rfl
     (fun wA wB=>KT 82 (w6.heap.size) wA wB)
     (fun D sp w'=>RG (w6.heap.size) w6 [] w'/\Yb (D 13) (D 14) (sp 13) w6.heap.size (z4 82) (pB 82 AA BB YY ZZ) w')
     (fun i v w'=>match i with
      | 6=>Fit 33 (YY) v w'
      | 11=>Fit 33 (ZZ) v w'
      | 12=>nB AA BB YY ZZ v w'
      | _=>True)
     ?_ ⟨RG.start (As _) (fun x hx=>by cases hx),Yb.start (As _)⟩ ?_ ?_
    .intro i v wA wB hf hb;split at hf
     .exact hf.kt hb
     .exact hf.kt hb
     .exact hf.kt hb
     .trivial
    .simp only[Az,Nat.reduceAdd];refine⟨?_,?_,?_,?_,?_,?_,?_,?_,?_,?_,?_,?_,?_,?_,?_,trivial⟩
     all_goals intro D sp w' hD hW hdp hg
     case refine_1|refine_4=>
      have c0:=(HXA.out.below hg.1.keep.bel HXA.out.lt).cell
      with_reducible refine Ac ?_ ?_
      all_goals simp[Region.wanted,yielded,execOp,Act.eval,Act.put,go_sem,c0]
     case refine_2|refine_9=>
      have c0:=(HXB.out.below hg.1.keep.bel HXB.out.lt).cell
      with_reducible refine Ac ?_ ?_
      all_goals simp[Region.wanted,yielded,execOp,Act.eval,Act.put,go_sem,c0]
     case refine_5|refine_6|refine_10|refine_11=>
      have c6:=(HX6.out.below hg.1.keep.bel).cells.1
      with_reducible refine Ac ?_ ?_
      all_goals simp[Region.wanted,yielded,execOp,Act.eval,Act.put,go_sem,c6.1,c6.2.1,c6.2.2.1,c6.2.2.2.1,c6.2.2.2.2.1,c6.2.2.2.2.2]
     case refine_7=>
      (with_reducible refine Ab (w1:=w') (f := 42) (args:=#[.pointer (some ⟨b,0,none⟩),.agg #[.slice pa na ca],.agg #[.slice x2.1 x2.2.1 x2.2.2]]) ?_ ?_ ?_)
      .simp[Region.wanted,yielded,Act.put,go_sem]
      .simp[Act.eval,Act.put,go_sem]
      .refine(El (HG.out.below hg.1.keep.bel) (HFa.out.below hg.1.keep.bel) (HF2.out.below hg.1.keep.bel) (by decide) (by decide)).mono ?_;rintro en w9 ⟨u,rfl,hu,hb⟩;rw[HYE.out]at hu
       exact⟨u,rfl,KT.of hb hg.1.base,hu,hg.1.later hb,by simpa [upd]using hg.2.later hb (fun o h=>h.below hb)⟩
     case refine_12=>
      (with_reducible refine Ab (w1:=w') (f := 42) (args:=#[.pointer (some ⟨b,0,none⟩),.agg #[.slice pb nb cb],.agg #[.slice x3.1 x3.2.1 x3.2.2]]) ?_ ?_ ?_)
      .simp[Region.wanted,yielded,Act.put,go_sem]
      .simp[Act.eval,Act.put,go_sem]
      .refine(El (HG.out.below hg.1.keep.bel) (HFb.out.below hg.1.keep.bel) (HF3.out.below hg.1.keep.bel) (by decide) (by decide)).mono ?_;rintro en w9 ⟨u,rfl,hu,hb⟩;rw[HZE.out]at hu
       exact⟨u,rfl,KT.of hb hg.1.base,hu,hg.1.later hb,by simpa [upd]using hg.2.later hb (fun o h=>h.below hb)⟩
     case refine_13=>
      have hxy:∃p n c,sp 6=.agg #[.slice p n c]/\Aj w' p n c (YY)/\YY<Ap (33):=(hdp 6 (mq (by kernel_rfl))).2
      (with_reducible refine Aq hxy fun py hxy1=>Aq hxy1 fun ny hxy2=>Aq hxy2 fun cy hxy3=>?_)
      have hy:=hxy3.1;have hxz:∃p n c,sp 11=.agg #[.slice p n c]/\Aj w' p n c (ZZ)/\ZZ<Ap (33):=(hdp 11 (mq (by kernel_rfl))).2
      (with_reducible refine Aq hxz fun pz hxz1=>Aq hxz1 fun nz hxz2=>Aq hxz2 fun cz hxz3=>?_)
      have hz:=hxz3.1
      (with_reducible refine Ag (w1:=w') (v:=.agg #[.slice pa na ca,.slice pb nb cb,.slice py ny cy,.slice pz nz cz]) ?_ ?_ ?_)
      .simp only[Region.wanted]
      .simp[execOp,Act.eval,Act.put,go_sem,hy,hz]
      .exact⟨KT.same _ _ _,⟨(pa,na,ca),(pb,nb,cb),(py,ny,cy),(pz,nz,cz),rfl,Ef (HFa.out.below hg.1.keep.bel),Ef (HFb.out.below hg.1.keep.bel),hxy3.2.1,hxz3.2.1⟩,hg.1,by simpa [upd]using hg.2⟩
     case refine_14=>
      have h9:D 14=false:=hW 14 (mq (by kernel_rfl));rw[hD,h9]at hg
      (with_reducible refine Ag (w1:=w'.alloc (.cells #[.slice none 0 0,.slice none 0 0,.slice none 0 0,.slice none 0 0] 82)) (v:=.pointer (some ⟨w'.heap.size,0,none⟩)) ?_ ?_ ?_)
      .simp only[Region.wanted]
      .simp[execOp,Act.eval,go_sem]
      .have hb:Below w'.heap.size w' (w'.alloc (.cells #[.slice none 0 0,.slice none 0 0,.slice none 0 0,.slice none 0 0] 82)):=By;refine⟨KT.of hb hg.1.base,trivial,hg.1.later hb,?_⟩;have h8:Yb true false _ _ (z4 82) _ _:=Yb.made hg.2;simpa [upd,h9]using h8
     case refine_15=>
      have hx:∃xa xb xy xz:Option Addr×Nat×Nat,sp 12=.agg #[.slice xa.1 xa.2.1 xa.2.2,.slice xb.1 xb.2.1 xb.2.2,.slice xy.1 xy.2.1 xy.2.2,.slice xz.1 xz.2.1 xz.2.2]/\AtC AA BB YY ZZ xa xb xy xz w':=(hdp 12 (mq (by kernel_rfl))).2
      (with_reducible refine Aq hx fun xa hx1=>Aq hx1 fun xb hx2=>Aq hx2 fun xy hx3=>Aq hx3 fun xz hx4=>?_)
      have h1:=hx4.1;have h9:D 13=true:=(hdp 13 (mq (by kernel_rfl))).1;rw[hD,h9]at hg
      have hm:=hg.2.2 rfl
      (with_reducible refine Aq hm fun bq hm1=>?_)
      have h3:=hm1.1;have h6:w'.heap[bq]? = some (.cells #[.slice none 0 0,.slice none 0 0,.slice none 0 0,.slice none 0 0] 82 (0,0)):=hm1.2.2.1 rfl;have hp:=put4 (u0:=.slice xa.1 xa.2.1 xa.2.2) (u1:=.slice xb.1 xb.2.1 xb.2.2) (u2:=.slice xy.1 xy.2.1 xy.2.2) (u3:=.slice xz.1 xz.2.1 xz.2.2) h6;have hs:=Rg (none,0,0) (none,0,0) (none,0,0) (none,0,0);have hkt:=hp.kt h6 hs hm1.2.1;have g0:=cells4 h6
      (with_reducible refine An (w1:=Ra w' bq (.slice xa.1 xa.2.1 xa.2.2) (.slice xb.1 xb.2.1 xb.2.2) (.slice xy.1 xy.2.1 xy.2.2) (.slice xz.1 xz.2.1 xz.2.2)) ?_ ?_ ?_)
      .simp only[Region.wanted]
      .simp[execOp,Act.eval,Act.put,go_sem,h1,h3,g0.1.1,g0.1.2.1,g0.1.2.2.1,g0.1.2.2.2,g0.2.1,g0.2.2.1,g0.2.2.2.1,g0.2.2.2.2,Ra]
      .refine⟨hkt,trivial,hg.1.putO hp h6 hs hm1.2.1 (fun x hx=>by cases hx),?_⟩;have h8:Yb true true (sp 13) _ (z4 82) (pB 82 AA BB YY ZZ) _:=⟨by rw[hp.size];exact hg.2.1,fun _=>⟨bq,h3,hm1.2.1,Th.done hp.new ⟨xa,xb,xy,xz,rfl,hx4.2.kt hkt⟩⟩⟩
       simpa [upd,h9]using h8
     all_goals ((with_reducible refine Ac ?_ ?_);all_goals first|(simp only[Region.wanted];done)|simp[Region.wanted,yielded,execOp,Act.eval,Act.put,go_sem])
    .intro sp w7 hsp hk;obtain⟨hk1,_,hk2⟩:=hk;obtain⟨b24,e24,_,hst⟩:=hk2 rfl;obtain⟨_,hbox,xa,xb,xy,xz,rfl,hat⟩:=hst.2 rfl;have hb:=hk1.keep.bel;have HCB:Ad (Cm 82 w7 b24 (.slice xa.1 xa.2.1 xa.2.2) (.slice xb.1 xb.2.1 xb.2.2) (.slice xy.1 xy.2.1 xy.2.2) (.slice xz.1 xz.2.1 xz.2.2)):=⟨⟨hbox⟩⟩
     have HCA:=Aa hat;replace HG:=Aa (HG.out.below hb);replace HT:=Aa (HT.out.below hb HT.out.size);replace HM:=Aa (HM.out.below hb);replace HB:=Aa (Ae HB.out hb);replace HR:=Aa (HR.out.below hb);replace HX6:=Aa (HX6.out.below hb);replace HF0:=Aa (HF0.out.below hb);replace HF1:=Aa (HF1.out.below hb);replace HF2:=Aa (HF2.out.below hb);replace HF3:=Aa (HF3.out.below hb);replace HF4:=Aa (HF4.out.below hb);replace HF5:=Aa (HF5.out.below hb);replace HXA:=Aa (HXA.out.below hb HXA.out.lt);replace HXB:=Aa (HXB.out.below hb HXB.out.lt);replace HFa:=Aa (HFa.out.below hb);replace HFb:=Aa (HFb.out.below hb);clear hsp hk1 hk2 hst hbox hat hb;simp only[Am,Nat.reduceAdd];rw[e24];clear e24;generalize sp 6=y6,sp 11=y11,sp 12=y12 at *
     go_simp
     obtain⟨UU,hUU⟩:∃S,AA^N4%P=S:=⟨_,rfl⟩
     obtain⟨VV,hVV⟩:∃S,BB^N5%P=S:=⟨_,rfl⟩
     have HUE:=Aa hUU;have HVE:=Aa hVV;clear hUU hVV;go_wp2;refine Ak (by kernel_rfl) (by kernel_rfl)
      [some (.pointer (some ⟨b,0,none⟩)),some (.agg #[.slice pa na ca]),some (.pointer (some ⟨b9,4,none⟩)),some (.agg #[.slice x4.1 x4.2.1 x4.2.2]),none,some (.pointer (some ⟨b,0,none⟩)),some (.agg #[.slice pb nb cb]),some (.pointer (some ⟨b9,5,none⟩)),some (.agg #[.slice x5.1 x5.2.1 x5.2.2]),none,none,none,none,none]
      [false,false,false,false,true,false,false,false,false,true,true,true,true,true] rfl
      (fun _ _=>True) (fun D sp w'=>TB w7 UU VV (D 4) (D 9) (D 10) (D 11) (D 12) (D 13) (sp 4) (sp 9) (sp 10) (sp 11) w') (fun _ _ _=>True) (fun _ _ _ _ _ _=>trivial)
      TB.start ?_ ?_
     .simp only[Az,Nat.reduceAdd];refine⟨?_,?_,?_,?_,?_,?_,?_,?_,?_,?_,?_,?_,?_,?_,trivial⟩
      case refine_5=>
       intro D sp w' hD hW hdp hg;rw[hD]at hg
       (with_reducible refine Ab (w1:=w') (f := 42) (args:=#[.pointer (some ⟨b,0,none⟩),.agg #[.slice pa na ca],.agg #[.slice x4.1 x4.2.1 x4.2.2]]) ?_ ?_ ?_)
       .simp only[Region.wanted]
       .simp[Act.eval,Act.put,go_sem]
       .refine(El (HG.out.below hg.bel) (HFa.out.below hg.bel) (HF4.out.below hg.bel) (by decide) (by decide)).mono ?_;rintro en w9 ⟨u,rfl,hu,hb⟩;rw[HUE.out]at hu
        exact⟨u,rfl,trivial,trivial,by simpa [upd]using(hg.later hb).put3 hu⟩
      case refine_10=>
       intro D sp w' hD hW hdp hg;rw[hD]at hg
       (with_reducible refine Ab (w1:=w') (f := 42) (args:=#[.pointer (some ⟨b,0,none⟩),.agg #[.slice pb nb cb],.agg #[.slice x5.1 x5.2.1 x5.2.2]]) ?_ ?_ ?_)
       .simp only[Region.wanted]
       .simp[Act.eval,Act.put,go_sem]
       .refine(El (HG.out.below hg.bel) (HFb.out.below hg.bel) (HF5.out.below hg.bel) (by decide) (by decide)).mono ?_;rintro en w9 ⟨u,rfl,hu,hb⟩;rw[HVE.out]at hu
        exact⟨u,rfl,trivial,trivial,by simpa [upd]using(hg.later hb).put7 hu⟩
      case refine_11=>
       intro D sp w' hD hW hdp hg;rw[hD]at hg
       have d0:=hg.no10;rw[d0]at hg
       (with_reducible refine Ag (w1:=w'.alloc (.cells #[.slice none 0 0] 36)) (v:=.pointer (some ⟨w'.heap.size,0,none⟩)) ?_ ?_ ?_)
       .simp only[Region.wanted]
       .simp[execOp,Act.eval,go_sem]
       .exact⟨trivial,trivial,by simpa [upd,d0]using hg.put8⟩
      case refine_12=>
       intro D sp w' hD hW hdp hg;rw[hD]at hg
       have d0:=hg.no11;rw[d0]at hg
       (with_reducible refine Ag (w1:=w'.alloc (.cells #[.slice none 0 0] 36)) (v:=.pointer (some ⟨w'.heap.size,0,none⟩)) ?_ ?_ ?_)
       .simp only[Region.wanted]
       .simp[execOp,Act.eval,go_sem]
       .exact⟨trivial,trivial,by simpa [upd,d0]using hg.put9⟩
      case refine_13=>
       intro D sp w' hD hW hdp hg;have d3:D 4=true:=(hdp 4 (mq (by kernel_rfl))).1;have d8:D 10=true:=(hdp 10 (mq (by kernel_rfl))).1;rw[hD,d3,d8]at hg
       (with_reducible refine Aq (hg.put10) fun b g0=>Aq (g0) fun m g1=>Aq (g1) fun d g2=>Aq (g2) fun q g3=>Aq (g3) fun p g4=>Aq (g4) fun n9 g5=>Aq (g5) fun c9 g6=>?_)
       have e8:=g6.1;have e3:=g6.2.1;have h6:=g6.2.2.1.cell;have h7:=g6.2.2.1.free
       (with_reducible refine An (w1:=w'.setCell ⟨b,0,none⟩ (.slice p n9 c9)) ?_ ?_ ?_)
       .simp only[Region.wanted]
       .simp[execOp,Act.eval,Act.put,go_sem,e8,e3,h6,h7]
       .exact⟨trivial,trivial,by simpa [upd,d3,d8]using g6.2.2.2⟩
      case refine_14=>
       intro D sp w' hD hW hdp hg;have d3:D 9=true:=(hdp 9 (mq (by kernel_rfl))).1;have d8:D 11=true:=(hdp 11 (mq (by kernel_rfl))).1;rw[hD,d3,d8]at hg
       (with_reducible refine Aq (hg.put11) fun b g0=>Aq (g0) fun m g1=>Aq (g1) fun d g2=>Aq (g2) fun q g3=>Aq (g3) fun p g4=>Aq (g4) fun n9 g5=>Aq (g5) fun c9 g6=>?_)
       have e8:=g6.1;have e3:=g6.2.1;have h6:=g6.2.2.1.cell;have h7:=g6.2.2.1.free
       (with_reducible refine An (w1:=w'.setCell ⟨b,0,none⟩ (.slice p n9 c9)) ?_ ?_ ?_)
       .simp only[Region.wanted]
       .simp[execOp,Act.eval,Act.put,go_sem,e8,e3,h6,h7]
       .exact⟨trivial,trivial,by simpa [upd,d3,d8]using g6.2.2.2⟩
      all_goals
       intro D sp w' hD hW hdp hg;have c6:=(HX6.out.below hg.bel).cells.1;have ca:=(HXA.out.below hg.bel HXA.out.lt).cell;have cb:=(HXB.out.below hg.bel HXB.out.lt).cell;simp[asked,Region.wanted,Oper.gives,execOp,Act.eval,Act.put,go_sem,c6.1,c6.2.1,c6.2.2.1,c6.2.2.2.1,c6.2.2.2.2.1,c6.2.2.2.2.2,ca,cb]
     .intro sp w8 hsp hg;obtain⟨b25,e25,_,⟨pu,nu,cu,hxu,hnu⟩,_⟩:=hg.b8 rfl;obtain⟨b26,e26,_,⟨pv,nv,cv,hxv,hnv⟩,_⟩:=hg.b9 rfl;replace hnu:=hnu rfl;replace hnv:=hnv rfl;have hb:=hg.bel;have HXU:=Aa hxu;have HXV:=Aa hxv;have pow_mem:∀ {X S:Nat} (n:Nat),Cx P Q X->X^n%P=S->Cx P Q S:=fun n h e=>by rw[<-e];exact Mj HP2.out.1 (by have:=HP2.out;omega) h.2.2 n
      have HMY:Ad (Cx P Q YY):=⟨pow_mem N2 HMA.out HYE.out⟩
      have HMZ:Ad (Cx P Q ZZ):=⟨pow_mem N3 HMB.out HZE.out⟩
      have HMU:Ad (Cx P Q UU):=⟨pow_mem N4 HMA.out HUE.out⟩
      have HMV:Ad (Cx P Q VV):=⟨pow_mem N5 HMB.out HVE.out⟩
      have HFu:=Aa (Fit.of hnu (Nat.lt_trans HMU.out.2.1 HPL.out));have HFv:=Aa (Fit.of hnv (Nat.lt_trans HMV.out.2.1 HPL.out));have HAU:Ad (Dh w8 (pu,nu,cu) UU):=⟨hnu⟩
      have HAV:Ad (Dh w8 (pv,nv,cv) VV):=⟨hnv⟩
      replace HG:=Aa (HG.out.below hb);replace HT:=Aa (HT.out.below hb HT.out.size);replace HM:=Aa (HM.out.below hb);replace HB:=Aa (Ae HB.out hb);replace HR:=Aa (HR.out.below hb);replace HX6:=Aa (HX6.out.below hb);replace HF0:=Aa (HF0.out.below hb);replace HF1:=Aa (HF1.out.below hb);replace HF2:=Aa (HF2.out.below hb);replace HF3:=Aa (HF3.out.below hb);replace HF4:=Aa (HF4.out.below hb);replace HF5:=Aa (HF5.out.below hb);replace HXA:=Aa (HXA.out.below hb HXA.out.lt);replace HXB:=Aa (HXB.out.below hb HXB.out.lt);replace HFa:=Aa (HFa.out.below hb);replace HFb:=Aa (HFb.out.below hb);replace HCB:=Aa (HCB.out.below hb HCB.out.lt);replace HCA:=Aa (HCA.out.below hb);clear hsp hg hxu hxv hnu hnv hb pow_mem;simp only[Am,Nat.reduceAdd];rw[e25,e26];clear e25 e26;generalize sp 4=y4,sp 9=y9 at *
      go_simp
      obtain⟨CH,hCH⟩:∃C,Nk P Q AA BB YY ZZ UU VV msg=C:=⟨_,rfl⟩
      have HCH:=Aa hCH;have HCL:Ad (CH<Q):=⟨by rw[<-hCH];exact Rm (by have:=HP2.out;omega)⟩
      clear hCH;obtain⟨g0,g1,g2,g3⟩:=(cells4 HCB.out.at_).1;have c1:=HXU.out.cell;have c2:=HXV.out.cell
      go_wp2_with fail
      clear g0 g1 g2 g3 c1 c2;refine(Xg HG.out HT.out HCA.out HAU.out HAV.out ⟨HMA.out,HMB.out,HMY.out,HMZ.out⟩ HMU.out HMV.out HPf.out HM.out).mono ?_;rintro en w9 ⟨_,rfl,⟨pc,nc,cc,rfl,h,l⟩,hb⟩;rw[HCH.out]at h l
      replace HG:=Aa (HG.out.below hb);replace HT:=Aa (HT.out.below hb HT.out.size);replace HM:=Aa (HM.out.below hb);replace HB:=Aa (Ae HB.out hb);replace HR:=Aa (HR.out.below hb);replace HX6:=Aa (HX6.out.below hb);replace HF0:=Aa (HF0.out.below hb);replace HF1:=Aa (HF1.out.below hb);replace HF2:=Aa (HF2.out.below hb);replace HF3:=Aa (HF3.out.below hb);replace HF4:=Aa (HF4.out.below hb);replace HF5:=Aa (HF5.out.below hb);replace HXA:=Aa (HXA.out.below hb HXA.out.lt);replace HXB:=Aa (HXB.out.below hb HXB.out.lt);replace HFa:=Aa (HFa.out.below hb);replace HFb:=Aa (HFb.out.below hb);replace HCB:=Aa (HCB.out.below hb HCB.out.lt);replace HCA:=Aa (HCA.out.below hb);replace HXU:=Aa (HXU.out.below hb HXU.out.lt);replace HXV:=Aa (HXV.out.below hb HXV.out.lt);replace HFu:=Aa (HFu.out.below hb);replace HFv:=Aa (HFv.out.below hb);have HFc0:=Aa (Fit.of h l);clear h l hb HAU HAV;have hb:=(Af.made w9 (.slice pc nc cc))
      obtain⟨b27,hb27⟩:∃b,w9.heap.size=b:=⟨_,rfl⟩
      have hbl:Below w9.heap.size w9 (w9.alloc (.cells #[.slice pc nc cc] 36)):=By;obtain⟨w10,hw10⟩:∃W,w9.alloc (.cells #[.slice pc nc cc] 36)=W:=⟨_,rfl⟩
      rw[hw10]at hb hbl
      rw[hb27]at hb
      have HXC:=Aa hb;have HFc:=Aa (HFc0.out.below hbl);clear hb HFc0;replace HG:=Aa (HG.out.below hbl);replace HT:=Aa (HT.out.below hbl HT.out.size);replace HM:=Aa (HM.out.below hbl);replace HB:=Aa (Ae HB.out hbl);replace HR:=Aa (HR.out.below hbl);replace HX6:=Aa (HX6.out.below hbl);replace HF0:=Aa (HF0.out.below hbl);replace HF1:=Aa (HF1.out.below hbl);replace HF2:=Aa (HF2.out.below hbl);replace HF3:=Aa (HF3.out.below hbl);replace HF4:=Aa (HF4.out.below hbl);replace HF5:=Aa (HF5.out.below hbl);replace HXA:=Aa (HXA.out.below hbl HXA.out.lt);replace HXB:=Aa (HXB.out.below hbl HXB.out.lt);replace HFa:=Aa (HFa.out.below hbl);replace HFb:=Aa (HFb.out.below hbl);replace HCB:=Aa (HCB.out.below hbl HCB.out.lt);replace HCA:=Aa (HCA.out.below hbl);replace HXU:=Aa (HXU.out.below hbl HXU.out.lt);replace HXV:=Aa (HXV.out.below hbl HXV.out.lt);replace HFu:=Aa (HFu.out.below hbl);replace HFv:=Aa (HFv.out.below hbl);clear hbl;go_wp2;clear hw10 hb27;have HYb:Ad (YY<Ap 33):=⟨Nat.lt_trans HMY.out.2.1 HPL.out⟩
      have HZb:Ad (ZZ<Ap 33):=⟨Nat.lt_trans HMZ.out.2.1 HPL.out⟩
      have HPb:Ad (Ax P<=100000):=⟨by have:=dD HPL.out;omega⟩
      have HQb:Ad (Ax Q<=100000):=⟨by have:=dD HQ33.out;omega⟩
      have HQ0:Ad (0<Q):=⟨by have:=HP2.out;omega⟩
      refine Ai (by kernel_rfl) (by kernel_rfl)
       [some (.agg #[.slice pc nc cc]),some (.pointer (some ⟨b,0,none⟩)),none,some (.agg #[.slice xa.1 xa.2.1 xa.2.2,.slice xb.1 xb.2.1 xb.2.2,.slice xy.1 xy.2.1 xy.2.2,.slice xz.1 xz.2.1 xz.2.2]),none,some (.agg #[.slice pu nu cu]),none,some (.agg #[.slice pv nv cv]),none,some (.slice pm nm cm),none,none,some (.bool false)]
       [false,false,true,false,true,false,true,false,true,false,true,true,false] rfl
       (fun w1 w2=>Below w1.heap.size w1 w2)
       (fun _ w'=>Below w10.heap.size w10 w')
       (fun i v w'=>match i with
        | 2=>Er P Q G H v w'
        | 4=>Ui AA BB YY ZZ v w'
        | 6=>Bj UU v w'
        | 8=>Bj VV v w'
        | 10=>Bj CH v w'
        | 11=>v=.bool true
        | _=>True)
       ?_ (Bd _ _).drew ?_ ?_
      .intro i v w1 w2 hf hb;split at hf
       .exact hf.below hb
       .exact hf.below hb
       .exact hf.below hb
       .exact hf.below hb
       .exact hf.below hb
       .exact hf
       .trivial
      .simp only[Ba,Nat.reduceAdd];refine⟨?_,?_,?_,?_,?_,?_,?_,?_,?_,?_,?_,?_,?_,trivial⟩
       all_goals intro D sp w' hD hW hdp hbx'
       case refine_1=>
        have c0:=(HXC.out.below hbx' HXC.out.lt).cell
        with_reducible refine Ac ?_ ?_
        all_goals simp[Region.wanted,yielded,execOp,Act.eval,Act.put,go_sem,c0]
       case refine_3=>
        (with_reducible refine Ab (w1:=w') (f := 17) (args:=#[.pointer (some ⟨b,0,none⟩)]) ?_ ?_ ?_)
        .simp[Region.wanted,yielded,Act.put,go_sem]
        .simp[Act.eval,Act.put,go_sem]
        .refine(Qj (HG.out.below hbx')).mono ?_;rintro en w9 ⟨u,rfl,hu,hb⟩;exact⟨u,rfl,hb,hu,Ae hbx' hb⟩
       case refine_4=>
        have g4:=(cells4 (HCB.out.below hbx' HCB.out.lt).at_).1
        with_reducible refine Ac ?_ ?_
        all_goals simp[Region.wanted,yielded,execOp,Act.eval,Act.put,go_sem,g4.1,g4.2.1,g4.2.2.1,g4.2.2.2]
       case refine_5=>
        (with_reducible refine Ab (w1:=w') (f := 55) (args:=#[.agg #[.slice xa.1 xa.2.1 xa.2.2,.slice xb.1 xb.2.1 xb.2.2,.slice xy.1 xy.2.1 xy.2.2,.slice xz.1 xz.2.1 xz.2.2]]) ?_ ?_ ?_)
        .simp[Region.wanted,yielded,Act.put,go_sem]
        .simp[Act.eval,Act.put,go_sem]
        .refine(bS (HCA.out.below hbx') HFa.out.lim HFb.out.lim HYb.out HZb.out).mono ?_;rintro en w9 ⟨u,rfl,hu,hb⟩;exact⟨u,rfl,hb,hu,Ae hbx' hb⟩
       case refine_6=>
        have c0:=(HXU.out.below hbx' HXU.out.lt).cell
        with_reducible refine Ac ?_ ?_
        all_goals simp[Region.wanted,yielded,execOp,Act.eval,Act.put,go_sem,c0]
       case refine_7=>
        (with_reducible refine Ab (w1:=w') (f := 46) (args:=#[.agg #[.slice pu nu cu]]) ?_ ?_ ?_)
        .simp[Region.wanted,yielded,Act.put,go_sem]
        .simp[Act.eval,Act.put,go_sem]
        .refine(Cu (HFu.out.below hbx') (by decide)).mono ?_;rintro en w9 ⟨u,rfl,hu,hb⟩;exact⟨u,rfl,hb,hu,Ae hbx' hb⟩
       case refine_8=>
        have c0:=(HXV.out.below hbx' HXV.out.lt).cell
        with_reducible refine Ac ?_ ?_
        all_goals simp[Region.wanted,yielded,execOp,Act.eval,Act.put,go_sem,c0]
       case refine_9=>
        (with_reducible refine Ab (w1:=w') (f := 46) (args:=#[.agg #[.slice pv nv cv]]) ?_ ?_ ?_)
        .simp[Region.wanted,yielded,Act.put,go_sem]
        .simp[Act.eval,Act.put,go_sem]
        .refine(Cu (HFv.out.below hbx') (by decide)).mono ?_;rintro en w9 ⟨u,rfl,hu,hb⟩;exact⟨u,rfl,hb,hu,Ae hbx' hb⟩
       case refine_11=>
        have k2:Er P Q G H (sp 2) w':=(hdp 2 (mq (by kernel_rfl))).2;have k6:Bj UU (sp 6) w':=(hdp 6 (mq (by kernel_rfl))).2;have k8:Bj VV (sp 8) w':=(hdp 8 (mq (by kernel_rfl))).2;have hx:∃xa xb xy xz:Option Addr×Nat×Nat,sp 4=.agg #[.slice xa.1 xa.2.1 xa.2.2,.slice xb.1 xb.2.1 xb.2.2,.slice xy.1 xy.2.1 xy.2.2,.slice xz.1 xz.2.1 xz.2.2]/\Tp AA BB YY ZZ xa xb xy xz w':=(hdp 4 (mq (by kernel_rfl))).2
        (with_reducible refine Aq hx fun xa hx1=>Aq hx1 fun xb hx2=>Aq hx2 fun xy hx3=>Aq hx3 fun xz hx4=>?_)
        have h1:=hx4.1
        (with_reducible refine Ab (w1:=w') (f := 54) (args:=#[sp 2,.agg #[.slice xa.1 xa.2.1 xa.2.2,.slice xb.1 xb.2.1 xb.2.2,.slice xy.1 xy.2.1 xy.2.2,.slice xz.1 xz.2.1 xz.2.2],sp 6,sp 8,.slice pm nm cm]) ?_ ?_ ?_)
        .simp only[Region.wanted]
        .simp[Act.eval,Act.put,go_sem,h1]
        .refine(Ud k2 hx4.2 k6 k8 HMA.out.2.1 HMB.out.2.1 HMY.out.2.1 HMZ.out.2.1 HMU.out.2.1 HMV.out.2.1 HPb.out HQb.out HQ0.out HPf.out (HM.out.below hbx') HZM.out HNM.out).mono ?_;rintro en w9 ⟨u,rfl,hu,hb⟩;rw[HCH.out]at hu
         exact⟨u,rfl,hb,hu,Ae hbx' hb⟩
       case refine_12=>
        have k10:Bj CH (sp 10) w':=(hdp 10 (mq (by kernel_rfl))).2
        (with_reducible refine Ab (w1:=w') (f := 28) (args:=#[.agg #[.slice pc nc cc],sp 10]) ?_ ?_ ?_)
        .simp[Region.wanted,yielded,Act.put,go_sem]
        .simp[Act.eval,Act.put,go_sem]
        .refine(eS (HFc.out.below hbx') k10 (by decide)).mono ?_;rintro en w9 ⟨_,rfl,rfl,hb⟩;exact⟨_,rfl,hb,rfl,Ae hbx' hb⟩
       case refine_13=>
        have k11:(sp 11)=.bool true:=(hdp 11 (mq (by kernel_rfl))).2
        with_reducible refine Ac ?_ ?_
        all_goals simp[Region.wanted,yielded,execOp,Act.eval,Act.put,go_sem,k11]
       all_goals ((with_reducible refine Ac ?_ ?_);all_goals first|(simp only[Region.wanted];done)|simp[Region.wanted,yielded,execOp,Act.eval,Act.put,go_sem])
      .intro sp w11 hsp hb;replace HG:=Aa (HG.out.below hb);replace HT:=Aa (HT.out.below hb HT.out.size);replace HM:=Aa (HM.out.below hb);replace HB:=Aa (Ae HB.out hb);replace HR:=Aa (HR.out.below hb);replace HX6:=Aa (HX6.out.below hb);replace HF0:=Aa (HF0.out.below hb);replace HF1:=Aa (HF1.out.below hb);replace HF2:=Aa (HF2.out.below hb);replace HF3:=Aa (HF3.out.below hb);replace HF4:=Aa (HF4.out.below hb);replace HF5:=Aa (HF5.out.below hb);replace HXA:=Aa (HXA.out.below hb HXA.out.lt);replace HXB:=Aa (HXB.out.below hb HXB.out.lt);replace HFa:=Aa (HFa.out.below hb);replace HFb:=Aa (HFb.out.below hb);replace HCB:=Aa (HCB.out.below hb HCB.out.lt);replace HCA:=Aa (HCA.out.below hb);replace HXU:=Aa (HXU.out.below hb HXU.out.lt);replace HXV:=Aa (HXV.out.below hb HXV.out.lt);replace HFu:=Aa (HFu.out.below hb);replace HFv:=Aa (HFv.out.below hb);replace HXC:=Aa (HXC.out.below hb HXC.out.lt);replace HFc:=Aa (HFc.out.below hb);clear hsp hb;simp only[Am,Nat.reduceAdd];generalize sp 2=y2,sp 4=y4,sp 6=y6,sp 8=y8,sp 10=y10,sp 11=y11 at *
       go_simp
       go_wp2;obtain⟨M1,hM1⟩:∃S,CH*N2%Q=S:=⟨_,rfl⟩
       obtain⟨M2,hM2⟩:∃S,CH*N3%Q=S:=⟨_,rfl⟩
       obtain⟨S1,hS1⟩:∃S,(N4+M1)%Q=S:=⟨_,rfl⟩
       obtain⟨S2,hS2⟩:∃S,(N5+M2)%Q=S:=⟨_,rfl⟩
       have HM1E:=Aa hM1;have HM2E:=Aa hM2;have HS1E:=Aa hS1;have HS2E:=Aa hS2;have HS1l:Ad (S1<Q):=⟨by rw[<-hS1];exact Nat.mod_lt _ HQ0.out⟩
       have HS2l:Ad (S2<Q):=⟨by rw[<-hS2];exact Nat.mod_lt _ HQ0.out⟩
       clear hM1 hM2 hS1 hS2;refine Ak (by kernel_rfl) (by kernel_rfl)
        [some (.pointer (some ⟨r,0,none⟩)),some (.pointer (some ⟨b9,4,none⟩)),some (.agg #[.slice x4.1 x4.2.1 x4.2.2]),some (.pointer (some ⟨r,0,none⟩)),some (.agg #[.slice pc nc cc]),some (.pointer (some ⟨b9,2,none⟩)),some (.agg #[.slice x2.1 x2.2.1 x2.2.2]),none,none,some (.pointer (some ⟨r,0,none⟩)),some (.pointer (some ⟨b9,5,none⟩)),some (.agg #[.slice x5.1 x5.2.1 x5.2.2]),some (.pointer (some ⟨r,0,none⟩)),some (.agg #[.slice pc nc cc]),some (.pointer (some ⟨b9,3,none⟩)),some (.agg #[.slice x3.1 x3.2.1 x3.2.2]),none,none,none,none,none,none]
        [false,false,false,false,false,false,false,true,true,false,false,false,false,false,false,false,true,true,true,true,true,true] rfl
        (fun _ _=>True) (fun D sp w'=>Kk w11 S1 S2 M1 M2 (D 8) (D 17) (D 18) (D 19) (D 20) (D 21) (D 7) (D 16) (sp 8) (sp 17) (sp 18) (sp 19) (sp 7) (sp 16) w') (fun _ _ _=>True) (fun _ _ _ _ _ _=>trivial)
        Kk.start ?_ ?_
       .simp only[Az,Nat.reduceAdd];refine⟨?_,?_,?_,?_,?_,?_,?_,?_,?_,?_,?_,?_,?_,?_,?_,?_,?_,?_,?_,?_,?_,?_,trivial⟩
        case refine_8=>
         intro D sp w' hD hW hdp hg;rw[hD]at hg
         (with_reducible refine Ab (w1:=w') (f := 48) (args:=#[.pointer (some ⟨r,0,none⟩),.agg #[.slice pc nc cc],.agg #[.slice x2.1 x2.2.1 x2.2.2]]) ?_ ?_ ?_)
         .simp only[Region.wanted]
         .simp[Act.eval,Act.put,go_sem]
         .refine(Dm (HR.out.below hg.bel) (HFc.out.below hg.bel) (HF2.out.below hg.bel) (by decide) (by decide)).mono ?_;rintro en w9 ⟨u,rfl,hu,hb⟩;rw[HM1E.out]at hu
          exact⟨u,rfl,trivial,trivial,by simpa [upd]using(hg.later hb).set1 hu⟩
        case refine_17=>
         intro D sp w' hD hW hdp hg;rw[hD]at hg
         (with_reducible refine Ab (w1:=w') (f := 48) (args:=#[.pointer (some ⟨r,0,none⟩),.agg #[.slice pc nc cc],.agg #[.slice x3.1 x3.2.1 x3.2.2]]) ?_ ?_ ?_)
         .simp only[Region.wanted]
         .simp[Act.eval,Act.put,go_sem]
         .refine(Dm (HR.out.below hg.bel) (HFc.out.below hg.bel) (HF3.out.below hg.bel) (by decide) (by decide)).mono ?_;rintro en w9 ⟨u,rfl,hu,hb⟩;rw[HM2E.out]at hu
          exact⟨u,rfl,trivial,trivial,by simpa [upd]using(hg.later hb).set2 hu⟩
        case refine_9=>
         intro D sp w' hD hW hdp hg;rw[hD]at hg
         have d7:D 7=true:=(hdp 7 (mq (by kernel_rfl))).1;have k7:=hg.q1 d7
         (with_reducible refine Ab (w1:=w') (f := 47) (args:=#[.pointer (some ⟨r,0,none⟩),.agg #[.slice x4.1 x4.2.1 x4.2.2],sp 7]) ?_ ?_ ?_)
         .simp only[Region.wanted]
         .simp[Act.eval,Act.put,go_sem]
         .refine(Jv (HR.out.below hg.bel) (HF4.out.below hg.bel) k7 (by decide) (by decide)).mono ?_;rintro en w9 ⟨u,rfl,hu,hb⟩;rw[HS1E.out]at hu
          exact⟨u,rfl,trivial,trivial,by simpa [upd]using(hg.later hb).put3 hu⟩
        case refine_18=>
         intro D sp w' hD hW hdp hg;rw[hD]at hg
         have d16:D 16=true:=(hdp 16 (mq (by kernel_rfl))).1;have k16:=hg.q2 d16
         (with_reducible refine Ab (w1:=w') (f := 47) (args:=#[.pointer (some ⟨r,0,none⟩),.agg #[.slice x5.1 x5.2.1 x5.2.2],sp 16]) ?_ ?_ ?_)
         .simp only[Region.wanted]
         .simp[Act.eval,Act.put,go_sem]
         .refine(Jv (HR.out.below hg.bel) (HF5.out.below hg.bel) k16 (by decide) (by decide)).mono ?_;rintro en w9 ⟨u,rfl,hu,hb⟩;rw[HS2E.out]at hu
          exact⟨u,rfl,trivial,trivial,by simpa [upd]using(hg.later hb).put7 hu⟩
        case refine_19=>
         intro D sp w' hD hW hdp hg;rw[hD]at hg
         have d0:=hg.no10;rw[d0]at hg
         (with_reducible refine Ag (w1:=w'.alloc (.cells #[.slice none 0 0] 36)) (v:=.pointer (some ⟨w'.heap.size,0,none⟩)) ?_ ?_ ?_)
         .simp only[Region.wanted]
         .simp[execOp,Act.eval,go_sem]
         .exact⟨trivial,trivial,by simpa [upd,d0]using hg.put8⟩
        case refine_20=>
         intro D sp w' hD hW hdp hg;rw[hD]at hg
         have d0:=hg.no11;rw[d0]at hg
         (with_reducible refine Ag (w1:=w'.alloc (.cells #[.slice none 0 0] 36)) (v:=.pointer (some ⟨w'.heap.size,0,none⟩)) ?_ ?_ ?_)
         .simp only[Region.wanted]
         .simp[execOp,Act.eval,go_sem]
         .exact⟨trivial,trivial,by simpa [upd,d0]using hg.put9⟩
        case refine_21=>
         intro D sp w' hD hW hdp hg;have d3:D 8=true:=(hdp 8 (mq (by kernel_rfl))).1;have d8:D 18=true:=(hdp 18 (mq (by kernel_rfl))).1;rw[hD,d3,d8]at hg
         (with_reducible refine Aq (hg.put10) fun b g0=>Aq (g0) fun m g1=>Aq (g1) fun d g2=>Aq (g2) fun q g3=>Aq (g3) fun p g4=>Aq (g4) fun n9 g5=>Aq (g5) fun c9 g6=>?_)
         have e8:=g6.1;have e3:=g6.2.1;have h6:=g6.2.2.1.cell;have h7:=g6.2.2.1.free
         (with_reducible refine An (w1:=w'.setCell ⟨b,0,none⟩ (.slice p n9 c9)) ?_ ?_ ?_)
         .simp only[Region.wanted]
         .simp[execOp,Act.eval,Act.put,go_sem,e8,e3,h6,h7]
         .exact⟨trivial,trivial,by simpa [upd,d3,d8]using g6.2.2.2⟩
        case refine_22=>
         intro D sp w' hD hW hdp hg;have d3:D 17=true:=(hdp 17 (mq (by kernel_rfl))).1;have d8:D 19=true:=(hdp 19 (mq (by kernel_rfl))).1;rw[hD,d3,d8]at hg
         (with_reducible refine Aq (hg.put11) fun b g0=>Aq (g0) fun m g1=>Aq (g1) fun d g2=>Aq (g2) fun q g3=>Aq (g3) fun p g4=>Aq (g4) fun n9 g5=>Aq (g5) fun c9 g6=>?_)
         have e8:=g6.1;have e3:=g6.2.1;have h6:=g6.2.2.1.cell;have h7:=g6.2.2.1.free
         (with_reducible refine An (w1:=w'.setCell ⟨b,0,none⟩ (.slice p n9 c9)) ?_ ?_ ?_)
         .simp only[Region.wanted]
         .simp[execOp,Act.eval,Act.put,go_sem,e8,e3,h6,h7]
         .exact⟨trivial,trivial,by simpa [upd,d3,d8]using g6.2.2.2⟩
        all_goals
         intro D sp w' hD hW hdp hg;have c6:=(HX6.out.below hg.bel).cells.1;have cc0:=(HXC.out.below hg.bel HXC.out.lt).cell;simp[asked,Region.wanted,Oper.gives,execOp,Act.eval,Act.put,go_sem,c6.1,c6.2.1,c6.2.2.1,c6.2.2.2.1,c6.2.2.2.2.1,c6.2.2.2.2.2,cc0]
       .intro sp w12 hsp hg;obtain⟨b28,e28,_,⟨ps,ns,cs,hxs,hns⟩,_⟩:=hg.tb.b8 rfl;obtain⟨b29,e29,_,⟨pt,nt,ct,hxt,hnt⟩,_⟩:=hg.tb.b9 rfl;replace hns:=hns rfl;replace hnt:=hnt rfl;have hb:=hg.bel;have HXS:=Aa hxs;have HXT:=Aa hxt;have HFs:=Aa (Fit.of hns (Nat.lt_trans HS1l.out HQ33.out));have HFt:=Aa (Fit.of hnt (Nat.lt_trans HS2l.out HQ33.out));replace HG:=Aa (HG.out.below hb);replace HT:=Aa (HT.out.below hb HT.out.size);replace HM:=Aa (HM.out.below hb);replace HB:=Aa (Ae HB.out hb);replace HR:=Aa (HR.out.below hb);replace HX6:=Aa (HX6.out.below hb);replace HF0:=Aa (HF0.out.below hb);replace HF1:=Aa (HF1.out.below hb);replace HF2:=Aa (HF2.out.below hb);replace HF3:=Aa (HF3.out.below hb);replace HF4:=Aa (HF4.out.below hb);replace HF5:=Aa (HF5.out.below hb);replace HXA:=Aa (HXA.out.below hb HXA.out.lt);replace HXB:=Aa (HXB.out.below hb HXB.out.lt);replace HFa:=Aa (HFa.out.below hb);replace HFb:=Aa (HFb.out.below hb);replace HCB:=Aa (HCB.out.below hb HCB.out.lt);replace HCA:=Aa (HCA.out.below hb);replace HXU:=Aa (HXU.out.below hb HXU.out.lt);replace HXV:=Aa (HXV.out.below hb HXV.out.lt);replace HFu:=Aa (HFu.out.below hb);replace HFv:=Aa (HFv.out.below hb);replace HXC:=Aa (HXC.out.below hb HXC.out.lt);replace HFc:=Aa (HFc.out.below hb);clear hsp hg hxs hxt hns hnt hb;simp only[Am,Nat.reduceAdd];rw[e28,e29];clear e28 e29;generalize sp 7=y7,sp 8=y8,sp 16=y16,sp 17=y17 at *
        go_simp
        go_wp2_with fail
        refine(Qj HG.out).mono ?_;rintro en w13 ⟨_,rfl,hv,hb⟩;obtain⟨p0,n0,c0,p1,n1,c1,p2,n2,c2,p3,n3,c3,rfl,h0,h1,h2,h3⟩:=hv.ex;have hb2:Below w13.heap.size w13 (w13.alloc (.cells #[.slice p0 n0 c0,.slice p1 n1 c1,.slice p2 n2 c2,.slice p3 n3 c3] 30)):=By;have hx8:=Cm.made 30 w13 (.slice p0 n0 c0) (.slice p1 n1 c1) (.slice p2 n2 c2) (.slice p3 n3 c3);obtain⟨b30,hb30⟩:∃b,w13.heap.size=b:=⟨_,rfl⟩
        obtain⟨w14,hw14⟩:∃W,w13.alloc (.cells #[.slice p0 n0 c0,.slice p1 n1 c1,.slice p2 n2 c2,.slice p3 n3 c3] 30)=W:=⟨_,rfl⟩
        rw[hw14]at hb2 hx8
        rw[hb30]at hx8
        have HX14:=Aa hx8;have HV:Ad (Er P Q G H (.agg #[.slice p0 n0 c0,.slice p1 n1 c1,.slice p2 n2 c2,.slice p3 n3 c3]) w14):=⟨⟨p0,n0,c0,p1,n1,c1,p2,n2,c2,p3,n3,c3,rfl,h0.below hb2,h1.below hb2,h2.below hb2,h3.below hb2⟩⟩
        have hbb:=Ae hb hb2;replace HG:=Aa (HG.out.below hbb);replace HT:=Aa (HT.out.below hbb HT.out.size);replace HM:=Aa (HM.out.below hbb);replace HB:=Aa (Ae HB.out hbb);replace HR:=Aa (HR.out.below hbb);replace HX6:=Aa (HX6.out.below hbb);replace HF0:=Aa (HF0.out.below hbb);replace HF1:=Aa (HF1.out.below hbb);replace HF2:=Aa (HF2.out.below hbb);replace HF3:=Aa (HF3.out.below hbb);replace HF4:=Aa (HF4.out.below hbb);replace HF5:=Aa (HF5.out.below hbb);replace HXA:=Aa (HXA.out.below hbb HXA.out.lt);replace HXB:=Aa (HXB.out.below hbb HXB.out.lt);replace HFa:=Aa (HFa.out.below hbb);replace HFb:=Aa (HFb.out.below hbb);replace HCB:=Aa (HCB.out.below hbb HCB.out.lt);replace HCA:=Aa (HCA.out.below hbb);replace HXU:=Aa (HXU.out.below hbb HXU.out.lt);replace HXV:=Aa (HXV.out.below hbb HXV.out.lt);replace HFu:=Aa (HFu.out.below hbb);replace HFv:=Aa (HFv.out.below hbb);replace HXC:=Aa (HXC.out.below hbb HXC.out.lt);replace HFc:=Aa (HFc.out.below hbb);replace HXS:=Aa (HXS.out.below hbb HXS.out.lt);replace HXT:=Aa (HXT.out.below hbb HXT.out.lt);replace HFs:=Aa (HFs.out.below hbb);replace HFt:=Aa (HFt.out.below hbb);clear hv h0 h1 h2 h3 hb hb2 hx8 hbb;go_wp2;clear hw14 hb30;obtain⟨SB,hSB⟩:∃L,Ar CH (Al Q)++Ar S1 (Al Q)=L:=⟨_,rfl⟩
        have HSB:=Aa hSB;have HCB8:Ad (CH<B8 (Al Q)):=⟨Nat.lt_trans HCL.out (Fb Q)⟩
        have HSB8:Ad (S1<B8 (Al Q)):=⟨Nat.lt_trans HS1l.out (Fb Q)⟩
        have HQk2:Ad (Al Q<=1000):=⟨by have:=HQf.out;omega⟩
        have HWp:Ad (0<Al Q):=⟨Nat.pos_of_ne_zero fun h=>by
         have h3:=Fb Q;rw[h]at h3
         have h4:=HP2.out.2.1;have h5:Q<1:=h3;omega⟩
        have HS8b:Ad (Ay SB):=⟨by
         rw[<-hSB];intro z hz;rcases List.mem_append.1 hz with h|h
         .exact(Dx _ _).reverse z h
         .exact(Dx _ _).reverse z h⟩
        obtain⟨L,hL⟩:∃L,SB.length=L:=⟨_,rfl⟩
        have HLE:=Aa hL;clear hSB hL;refine Ai (by kernel_rfl) (by kernel_rfl)
         [some (.agg #[.slice p0 n0 c0,.slice p1 n1 c1,.slice p2 n2 c2,.slice p3 n3 c3]),some (.agg #[.slice pc nc cc]),none,none,some (.agg #[.slice p0 n0 c0,.slice p1 n1 c1,.slice p2 n2 c2,.slice p3 n3 c3]),some (.agg #[.slice ps ns cs]),none,none,none,none]
         [false,false,true,true,false,false,true,true,true,true] rfl
         (fun w1 w2=>Below w1.heap.size w1 w2)
         (fun _ w'=>Below w14.heap.size w14 w')
         (fun i v w'=>match i with
          | 2=>Bj CH v w'
          | 3=>Kq (Al Q) (Ar CH (Al Q)) v w'
          | 6=>Bj S1 v w'
          | 7=>Kq (Al Q) (Ar S1 (Al Q)) v w'
          | 8=>Ci 0 SB v w'
          | 9=>Ci 0 SB v w'
          | _=>True)
         ?_ (Bd _ _).drew ?_ ?_
        .intro i v w1 w2 hf hb;split at hf
         .exact hf.below hb
         .exact hf.below hb
         .exact hf.below hb
         .exact hf.below hb
         .exact hf.below hb
         .exact hf.below hb
         .trivial
        .simp only[Ba,Nat.reduceAdd];refine⟨?_,?_,?_,?_,?_,?_,?_,?_,?_,?_,trivial⟩
         all_goals intro D sp w' hD hW hdp hbx'
         case refine_1|refine_5=>
          have g4:=(cells4 (HX14.out.below hbx' HX14.out.lt).at_).1
          with_reducible refine Ac ?_ ?_
          all_goals simp[Region.wanted,yielded,execOp,Act.eval,Act.put,go_sem,g4.1,g4.2.1,g4.2.2.1,g4.2.2.2]
         case refine_2=>
          have c0:=(HXC.out.below hbx' HXC.out.lt).cell
          with_reducible refine Ac ?_ ?_
          all_goals simp[Region.wanted,yielded,execOp,Act.eval,Act.put,go_sem,c0]
         case refine_3=>
          (with_reducible refine Ab (w1:=w') (f := 46) (args:=#[.agg #[.slice pc nc cc]]) ?_ ?_ ?_)
          .simp[Region.wanted,yielded,Act.put,go_sem]
          .simp[Act.eval,Act.put,go_sem]
          .refine(Cu (HFc.out.below hbx') (by decide)).mono ?_;rintro en w9 ⟨u,rfl,hu,hb⟩;exact⟨u,rfl,hb,hu,Ae hbx' hb⟩
         case refine_4=>
          have k2:Bj CH (sp 2) w':=(hdp 2 (mq (by kernel_rfl))).2
          (with_reducible refine Ab (w1:=w') (f := 49) (args:=#[.agg #[.slice p0 n0 c0,.slice p1 n1 c1,.slice p2 n2 c2,.slice p3 n3 c3],sp 2]) ?_ ?_ ?_)
          .simp[Region.wanted,yielded,Act.put,go_sem]
          .simp[Act.eval,Act.put,go_sem]
          .refine(Oq (HV.out.below hbx') k2 HQb.out HQf.out HCB8.out).mono ?_;rintro en w9 ⟨g9,rfl,hu,_,hb⟩;exact⟨_,rfl,hb,⟨g9,rfl,hu⟩,Ae hbx' hb⟩
         case refine_6=>
          have c0:=(HXS.out.below hbx' HXS.out.lt).cell
          with_reducible refine Ac ?_ ?_
          all_goals simp[Region.wanted,yielded,execOp,Act.eval,Act.put,go_sem,c0]
         case refine_7=>
          (with_reducible refine Ab (w1:=w') (f := 46) (args:=#[.agg #[.slice ps ns cs]]) ?_ ?_ ?_)
          .simp[Region.wanted,yielded,Act.put,go_sem]
          .simp[Act.eval,Act.put,go_sem]
          .refine(Cu (HFs.out.below hbx') (by decide)).mono ?_;rintro en w9 ⟨u,rfl,hu,hb⟩;exact⟨u,rfl,hb,hu,Ae hbx' hb⟩
         case refine_8=>
          have k6:Bj S1 (sp 6) w':=(hdp 6 (mq (by kernel_rfl))).2
          (with_reducible refine Ab (w1:=w') (f := 49) (args:=#[.agg #[.slice p0 n0 c0,.slice p1 n1 c1,.slice p2 n2 c2,.slice p3 n3 c3],sp 6]) ?_ ?_ ?_)
          .simp[Region.wanted,yielded,Act.put,go_sem]
          .simp[Act.eval,Act.put,go_sem]
          .refine(Oq (HV.out.below hbx') k6 HQb.out HQf.out HSB8.out).mono ?_;rintro en w9 ⟨g9,rfl,hu,_,hb⟩;exact⟨_,rfl,hb,⟨g9,rfl,hu⟩,Ae hbx' hb⟩
         case refine_9=>
          have hxa:∃g,sp 3=.slice (some ⟨g,0,none⟩) (Al Q) (Al Q)/\Bl w' g 5 .u8 (Ar CH (Al Q)):=(hdp 3 (mq (by kernel_rfl))).2
          (with_reducible refine Aq hxa fun ga ha1=>?_)
          have ea:=ha1.1;have hxb:∃g,sp 7=.slice (some ⟨g,0,none⟩) (Al Q) (Al Q)/\Bl w' g 5 .u8 (Ar S1 (Al Q)):=(hdp 7 (mq (by kernel_rfl))).2
          (with_reducible refine Aq hxb fun gb hb1=>?_)
          have eb:=hb1.1
          (with_reducible refine Wc (n:=Al Q) ha1.2 (Bp _ _).symm (Ib hb1.2 HQk2.out).row HWp.out (show Al Q+Al Q<=140737488355328 by have:=HQf.out;omega) 60 (fun v' w5 hr ho hb=>?_))
          (with_reducible refine Ag (v:=v') (w1:=w5) ?_ ?_ ?_)
          .simp only[Region.wanted]
          .simp[execOp,resolve,invoke,builtin,Act.eval,Act.put,ea,eb,hr,Result.andThen]
          .have h9:=(Ci.mk ho).zero;rw[HSB.out]at h9
           exact⟨hb,h9,Ae hbx' hb⟩
         case refine_10=>
          have k8:Ci 0 SB (sp 8) w':=(hdp 8 (mq (by kernel_rfl))).2
          (with_reducible refine Ag (w1:=w') (v:=sp 8) ?_ ?_ ?_)
          .simp only[Region.wanted]
          .simp[execOp,Act.eval,Act.put,go_sem]
          .exact⟨Bd _ _,k8,hbx'⟩
        .intro sp w15 hsp hb;obtain⟨pf,cf,ef,hpf,_⟩:=(show Ci 0 SB (sp 9) w15 from hsp 9 rfl).part HS8b.out;rw[HLE.out]at ef hpf
         have HPB:=Aa hpf;replace HG:=Aa (HG.out.below hb);replace HT:=Aa (HT.out.below hb HT.out.size);replace HM:=Aa (HM.out.below hb);replace HB:=Aa (Ae HB.out hb);replace HR:=Aa (HR.out.below hb);replace HX6:=Aa (HX6.out.below hb);replace HF0:=Aa (HF0.out.below hb);replace HF1:=Aa (HF1.out.below hb);replace HF2:=Aa (HF2.out.below hb);replace HF3:=Aa (HF3.out.below hb);replace HF4:=Aa (HF4.out.below hb);replace HF5:=Aa (HF5.out.below hb);replace HXA:=Aa (HXA.out.below hb HXA.out.lt);replace HXB:=Aa (HXB.out.below hb HXB.out.lt);replace HFa:=Aa (HFa.out.below hb);replace HFb:=Aa (HFb.out.below hb);replace HCB:=Aa (HCB.out.below hb HCB.out.lt);replace HCA:=Aa (HCA.out.below hb);replace HXU:=Aa (HXU.out.below hb HXU.out.lt);replace HXV:=Aa (HXV.out.below hb HXV.out.lt);replace HFu:=Aa (HFu.out.below hb);replace HFv:=Aa (HFv.out.below hb);replace HXC:=Aa (HXC.out.below hb HXC.out.lt);replace HFc:=Aa (HFc.out.below hb);replace HXS:=Aa (HXS.out.below hb HXS.out.lt);replace HXT:=Aa (HXT.out.below hb HXT.out.lt);replace HFs:=Aa (HFs.out.below hb);replace HFt:=Aa (HFt.out.below hb);clear hsp hb hpf HX14 HV;simp only[Am,Nat.reduceAdd];rw[ef];clear ef;generalize sp 2=y2,sp 3=y3,sp 6=y6,sp 7=y7,sp 8=y8 at *
         go_simp
         go_wp2;obtain⟨KC,hKC⟩:∃K,Bm S1 S2=K:=⟨_,rfl⟩
         have HK:=Aa hKC;obtain⟨E,hE⟩:∃A,((KC:Int)==0)=A:=⟨_,rfl⟩
         have HES:Ad (E=true ↔ S1=S2):=⟨by rw[<-hE,beq_iff_eq,<-hKC];exact Bw⟩
         obtain⟨VX,hVX⟩:∃B:Bool,(B=true ↔ Op P Q AA BB YY ZZ msg SB):=⟨@decide (Op P Q AA BB YY ZZ msg SB) (Classical.propDecidable _),by simp⟩
         have HVX:Ad (∀X9:Bool,(X9=true ↔ Op P Q AA BB YY ZZ msg SB)->X9=VX):=⟨fun X9 h9=>by rw[Bool.eq_iff_iff,h9,hVX]⟩
         have HEV:Ad (E=true->VX=true):=⟨fun h=>by
          have h1:=HES.out.1 h;rw[hVX,<-HSB.out,<-HYE.out,<-HZE.out];exact Zv (p:=N4) (r:=N5) HP2.out.1 HMA.out HMB.out HCL.out (by rw[HM1E.out];exact HS1E.out) (by rw[HM2E.out,HS2E.out];exact h1.symm) (by rw[HYE.out,HZE.out,HUE.out,HVE.out];exact HCH.out)⟩
         clear hVX hKC
         by_cases hVE:VX=E
         .subst hVE;refine Ai (by kernel_rfl) (by kernel_rfl)
           [some (.pointer (some ⟨b,0,none⟩)),some (.agg #[.slice xa.1 xa.2.1 xa.2.2,.slice xb.1 xb.2.1 xb.2.2,.slice xy.1 xy.2.1 xy.2.2,.slice xz.1 xz.2.1 xz.2.2]),some (.slice pm nm cm),some (.slice pf L cf),none,some (.agg #[.slice ps ns cs]),some (.agg #[.slice pt nt ct]),none,some (.bool VX),some (.bool false),some (.bool false),some (undef),some (undef),some (undef),some (undef),some (.bool false)]
           [false,false,false,false,true,false,false,true,false,false,false,false,false,false,false,false] rfl
           (fun w1 w2=>Below w1.heap.size w1 w2)
           (fun _ w'=>Below w15.heap.size w15 w')
           (fun i v w'=>match i with
            | 4=>v=.bool VX
            | 7=>v=.int .i64 KC
            | _=>True)
           ?_ (Bd _ _).drew ?_ ?_
          .intro i v w1 w2 hf hb;split at hf
           .exact hf
           .exact hf
           .trivial
          .simp only[Ba,Nat.reduceAdd];refine⟨?_,?_,?_,?_,?_,?_,?_,?_,?_,?_,?_,?_,?_,?_,?_,?_,trivial⟩
           all_goals intro D sp w' hD hW hdp hbx'
           case refine_2=>
            have g4:=(cells4 (HCB.out.below hbx' HCB.out.lt).at_).1
            with_reducible refine Ac ?_ ?_
            all_goals simp[Region.wanted,yielded,execOp,Act.eval,Act.put,go_sem,g4.1,g4.2.1,g4.2.2.1,g4.2.2.2]
           case refine_5=>
            (with_reducible refine Ab (w1:=w') (f := 56) (args:=#[.pointer (some ⟨b,0,none⟩),.agg #[.slice xa.1 xa.2.1 xa.2.2,.slice xb.1 xb.2.1 xb.2.2,.slice xy.1 xy.2.1 xy.2.2,.slice xz.1 xz.2.1 xz.2.2],.slice pm nm cm,.slice pf L cf]) ?_ ?_ ?_)
            .simp[Region.wanted,yielded,Act.put,go_sem]
            .simp[Act.eval,Act.put,go_sem]
            .refine(Kf (HG.out.below hbx') (HT.out.below hbx' HT.out.size) (HCA.out.below hbx') HFa.out.lim HFb.out.lim HYb.out HZb.out HPf.out HQf.out (HM.out.below hbx') (HPB.out.below hbx')).mono ?_;rintro en w9 ⟨X9,rfl,hX9,hb⟩;have hf9:=HVX.out X9 hX9;rw[hf9];exact⟨_,rfl,hb,rfl,Ae hbx' hb⟩
           case refine_6=>
            have c0:=(HXS.out.below hbx' HXS.out.lt).cell
            with_reducible refine Ac ?_ ?_
            all_goals simp[Region.wanted,yielded,execOp,Act.eval,Act.put,go_sem,c0]
           case refine_7=>
            have c0:=(HXT.out.below hbx' HXT.out.lt).cell
            with_reducible refine Ac ?_ ?_
            all_goals simp[Region.wanted,yielded,execOp,Act.eval,Act.put,go_sem,c0]
           case refine_8=>
            (with_reducible refine Ab (w1:=w') (f := 34) (args:=#[.agg #[.slice ps ns cs],.agg #[.slice pt nt ct]]) ?_ ?_ ?_)
            .simp[Region.wanted,yielded,Act.put,go_sem]
            .simp[Act.eval,Act.put,go_sem]
            .refine(Be (HFs.out.below hbx') (HFt.out.below hbx') (by decide) (by decide) HK.out).mono ?_;rintro en w9 ⟨_,rfl,rfl,hb⟩;exact⟨_,rfl,hb,rfl,Ae hbx' hb⟩
           case refine_9=>
            have k7:(sp 7)=.int .i64 KC:=(hdp 7 (mq (by kernel_rfl))).2
            with_reducible refine Ac ?_ ?_
            all_goals simp[Region.wanted,yielded,execOp,Act.eval,Act.put,go_sem,k7,hE]
           case refine_10=>
            have k4:(sp 4)=.bool VX:=(hdp 4 (mq (by kernel_rfl))).2
            with_reducible refine Ac ?_ ?_
            all_goals simp[Region.wanted,yielded,execOp,Act.eval,Act.put,go_sem,k4,hE]
           case refine_12|refine_13|refine_14|refine_15=>
            (with_reducible refine Eu ?_ ?_)
            ·(simp[Region.wanted,yielded,Act.put,go_sem]<;>exact fun h=>by cases h)
            .exact⟨rfl,rfl⟩
           all_goals ((with_reducible refine Ac ?_ ?_);all_goals first|(simp only[Region.wanted];done)|simp[Region.wanted,yielded,execOp,Act.eval,Act.put,go_sem])
          .intro sp w16 hsp hb;replace HG:=Aa (HG.out.below hb);replace HT:=Aa (HT.out.below hb HT.out.size);replace HM:=Aa (HM.out.below hb);replace HB:=Aa (Ae HB.out hb);replace HR:=Aa (HR.out.below hb);replace HX6:=Aa (HX6.out.below hb);replace HF0:=Aa (HF0.out.below hb);replace HF1:=Aa (HF1.out.below hb);replace HF2:=Aa (HF2.out.below hb);replace HF3:=Aa (HF3.out.below hb);replace HF4:=Aa (HF4.out.below hb);replace HF5:=Aa (HF5.out.below hb);replace HXA:=Aa (HXA.out.below hb HXA.out.lt);replace HXB:=Aa (HXB.out.below hb HXB.out.lt);replace HFa:=Aa (HFa.out.below hb);replace HFb:=Aa (HFb.out.below hb);replace HCB:=Aa (HCB.out.below hb HCB.out.lt);replace HCA:=Aa (HCA.out.below hb);replace HXU:=Aa (HXU.out.below hb HXU.out.lt);replace HXV:=Aa (HXV.out.below hb HXV.out.lt);replace HFu:=Aa (HFu.out.below hb);replace HFv:=Aa (HFv.out.below hb);replace HXC:=Aa (HXC.out.below hb HXC.out.lt);replace HFc:=Aa (HFc.out.below hb);replace HXS:=Aa (HXS.out.below hb HXS.out.lt);replace HXT:=Aa (HXT.out.below hb HXT.out.lt);replace HFs:=Aa (HFs.out.below hb);replace HFt:=Aa (HFt.out.below hb);replace HPB:=Aa (HPB.out.below hb);clear hsp hb HPB;simp only[Am,Nat.reduceAdd];generalize sp 4=y4,sp 7=y7 at *
           go_simp
           have x2e:=HX6.out.cells.1.2.2.1;have x3e:=HX6.out.cells.1.2.2.2.1
           go_wp2_with fail
           clear x2e x3e;refine(Mm HF2.out HF3.out (by decide) (by decide)).mono ?_;rintro en w17 ⟨_,rfl,rfl,hb⟩;replace HG:=Aa (HG.out.below hb);replace HT:=Aa (HT.out.below hb HT.out.size);replace HM:=Aa (HM.out.below hb);replace HB:=Aa (Ae HB.out hb);replace HR:=Aa (HR.out.below hb);replace HX6:=Aa (HX6.out.below hb);replace HF0:=Aa (HF0.out.below hb);replace HF1:=Aa (HF1.out.below hb);replace HF2:=Aa (HF2.out.below hb);replace HF3:=Aa (HF3.out.below hb);replace HF4:=Aa (HF4.out.below hb);replace HF5:=Aa (HF5.out.below hb);replace HXA:=Aa (HXA.out.below hb HXA.out.lt);replace HXB:=Aa (HXB.out.below hb HXB.out.lt);replace HFa:=Aa (HFa.out.below hb);replace HFb:=Aa (HFb.out.below hb);replace HCB:=Aa (HCB.out.below hb HCB.out.lt);replace HCA:=Aa (HCA.out.below hb);replace HXU:=Aa (HXU.out.below hb HXU.out.lt);replace HXV:=Aa (HXV.out.below hb HXV.out.lt);replace HFu:=Aa (HFu.out.below hb);replace HFv:=Aa (HFv.out.below hb);replace HXC:=Aa (HXC.out.below hb HXC.out.lt);replace HFc:=Aa (HFc.out.below hb);replace HXS:=Aa (HXS.out.below hb HXS.out.lt);replace HXT:=Aa (HXT.out.below hb HXT.out.lt);replace HFs:=Aa (HFs.out.below hb);replace HFt:=Aa (HFt.out.below hb);clear hb
           by_cases h23:N2=N3
           .subst h23;rw[Ge];obtain⟨K45,hK45⟩:∃K,Bm N4 N5=K:=⟨_,rfl⟩
            obtain⟨F,hF⟩:∃A,((K45:Int)==0)=A:=⟨_,rfl⟩
            have HK4:=Aa hK45;have h1:S1=S2 ↔ N4=N5:=by
             rw[<-HS1E.out,<-HS2E.out,<-HM1E.out,<-HM2E.out];exact kZ HL4.out HL5.out
            have hEF:((VX:Bool)==F)=true:=by
             rw[beq_iff_eq,Bool.eq_iff_iff,HES.out,h1,<-hF,beq_iff_eq,<-hK45];exact Bw.symm
            clear hK45 h1;go_wp2;refine Ai (by kernel_rfl) (by kernel_rfl)
             [some (.agg #[.slice ps ns cs]),some (.agg #[.slice pt nt ct]),none,some (.bool VX),some (.pointer (some ⟨b9,4,none⟩)),some (.agg #[.slice x4.1 x4.2.1 x4.2.2]),some (.pointer (some ⟨b9,5,none⟩)),some (.agg #[.slice x5.1 x5.2.1 x5.2.2]),none,some (.bool F),some (.bool true),some (.bool true)]
             [false,false,true,false,false,false,false,false,true,false,false,false] rfl
             (fun w1 w2=>Below w1.heap.size w1 w2)
             (fun _ w'=>Below w17.heap.size w17 w')
             (fun i v w'=>match i with
              | 2=>v=.int .i64 KC
              | 8=>v=.int .i64 K45
              | _=>True)
             ?_ (Bd _ _).drew ?_ ?_
            .intro i v w1 w2 hf hb;split at hf
             .exact hf
             .exact hf
             .trivial
            .simp only[Ba,Nat.reduceAdd];refine⟨?_,?_,?_,?_,?_,?_,?_,?_,?_,?_,?_,?_,trivial⟩
             all_goals intro D sp w' hD hW hdp hbx'
             case refine_1=>
              have c0:=(HXS.out.below hbx' HXS.out.lt).cell
              with_reducible refine Ac ?_ ?_
              all_goals simp[Region.wanted,yielded,execOp,Act.eval,Act.put,go_sem,c0]
             case refine_2=>
              have c0:=(HXT.out.below hbx' HXT.out.lt).cell
              with_reducible refine Ac ?_ ?_
              all_goals simp[Region.wanted,yielded,execOp,Act.eval,Act.put,go_sem,c0]
             case refine_3=>
              (with_reducible refine Ab (w1:=w') (f := 34) (args:=#[.agg #[.slice ps ns cs],.agg #[.slice pt nt ct]]) ?_ ?_ ?_)
              .simp[Region.wanted,yielded,Act.put,go_sem]
              .simp[Act.eval,Act.put,go_sem]
              .refine(Be (HFs.out.below hbx') (HFt.out.below hbx') (by decide) (by decide) HK.out).mono ?_;rintro en w9 ⟨_,rfl,rfl,hb⟩;exact⟨_,rfl,hb,rfl,Ae hbx' hb⟩
             case refine_4=>
              have k2:(sp 2)=.int .i64 KC:=(hdp 2 (mq (by kernel_rfl))).2
              with_reducible refine Ac ?_ ?_
              all_goals simp[Region.wanted,yielded,execOp,Act.eval,Act.put,go_sem,k2,hE]
             case refine_5|refine_6|refine_7|refine_8=>
              have c6:=(HX6.out.below hbx').cells.1
              with_reducible refine Ac ?_ ?_
              all_goals simp[Region.wanted,yielded,execOp,Act.eval,Act.put,go_sem,c6.1,c6.2.1,c6.2.2.1,c6.2.2.2.1,c6.2.2.2.2.1,c6.2.2.2.2.2]
             case refine_9=>
              (with_reducible refine Ab (w1:=w') (f := 34) (args:=#[.agg #[.slice x4.1 x4.2.1 x4.2.2],.agg #[.slice x5.1 x5.2.1 x5.2.2]]) ?_ ?_ ?_)
              .simp[Region.wanted,yielded,Act.put,go_sem]
              .simp[Act.eval,Act.put,go_sem]
              .refine(Be (HF4.out.below hbx') (HF5.out.below hbx') (by decide) (by decide) HK4.out).mono ?_;rintro en w9 ⟨_,rfl,rfl,hb⟩;exact⟨_,rfl,hb,rfl,Ae hbx' hb⟩
             case refine_10=>
              have k8:(sp 8)=.int .i64 K45:=(hdp 8 (mq (by kernel_rfl))).2
              with_reducible refine Ac ?_ ?_
              all_goals simp[Region.wanted,yielded,execOp,Act.eval,Act.put,go_sem,k8,hF]
             case refine_11=>
              (with_reducible refine Ag (w1:=w') (v:=.bool true) ?_ ?_ ?_)
              .simp[Region.wanted,yielded,Act.put,go_sem]
              .simp[execOp,Act.eval,Act.put,go_sem,hEF]
              .exact⟨rfl,rfl⟩
             case refine_12=>
              (with_reducible refine Ag (w1:=w') (v:=.bool true) ?_ ?_ ?_)
              .simp[Region.wanted,yielded,Act.put,go_sem]
              .simp[execOp,Act.eval,Act.put,go_sem]
              .exact⟨rfl,rfl⟩
            .intro sp w18 hsp hb;have HBf:=Aa (Ae HB.out hb);clear hsp hb;simp only[Am,Nat.reduceAdd];generalize sp 2=y2,sp 8=y8 at *
             go_simp
             go_wp2;go_ret;exact⟨rfl,HBf.out⟩
           .have hne:((Bm N2 N3:Int)==0)=false:=by rw[beq_eq_false_iff_ne];exact fun h=>h23 (Bw.1 h)
            obtain⟨K23,hK23⟩:∃K,Bm N2 N3=K:=⟨_,rfl⟩
            rw[hK23]at hne
            rw[hK23];have HGD:Ad (Nat.gcd Q (Fw N3 N2 Q)=1):=⟨HPQ.out.coprime fun hd=>by
             have h2:=HL2.out;have h3:=HL3.out;have h4:0<Fw N3 N2 Q/\Fw N3 N2 Q<Q:=by
              unfold Fw;rw[Nat.mod_eq_of_lt h2,Nat.mod_eq_of_lt h3];split<;>omega
             have h5:=Nat.le_of_dvd h4.1 hd;omega⟩
            have HNE:Ad (N2≠N3):=⟨h23⟩
            clear hK23 h23;have x2e:=HX6.out.cells.1.2.2.1;have x3e:=HX6.out.cells.1.2.2.2.1
            go_wp2_with fail
            clear x2e x3e hne;refine(Ht HR.out HF3.out HF2.out (by decide) (by decide)).mono ?_;rintro en w18 ⟨x18,rfl,h18,hb⟩;have H18:=Aa h18;replace HG:=Aa (HG.out.below hb);replace HT:=Aa (HT.out.below hb HT.out.size);replace HM:=Aa (HM.out.below hb);replace HB:=Aa (Ae HB.out hb);replace HR:=Aa (HR.out.below hb);replace HX6:=Aa (HX6.out.below hb);replace HF0:=Aa (HF0.out.below hb);replace HF1:=Aa (HF1.out.below hb);replace HF2:=Aa (HF2.out.below hb);replace HF3:=Aa (HF3.out.below hb);replace HF4:=Aa (HF4.out.below hb);replace HF5:=Aa (HF5.out.below hb);replace HXA:=Aa (HXA.out.below hb HXA.out.lt);replace HXB:=Aa (HXB.out.below hb HXB.out.lt);replace HFa:=Aa (HFa.out.below hb);replace HFb:=Aa (HFb.out.below hb);replace HCB:=Aa (HCB.out.below hb HCB.out.lt);replace HCA:=Aa (HCA.out.below hb);replace HXU:=Aa (HXU.out.below hb HXU.out.lt);replace HXV:=Aa (HXV.out.below hb HXV.out.lt);replace HFu:=Aa (HFu.out.below hb);replace HFv:=Aa (HFv.out.below hb);replace HXC:=Aa (HXC.out.below hb HXC.out.lt);replace HFc:=Aa (HFc.out.below hb);replace HXS:=Aa (HXS.out.below hb HXS.out.lt);replace HXT:=Aa (HXT.out.below hb HXT.out.lt);replace HFs:=Aa (HFs.out.below hb);replace HFt:=Aa (HFt.out.below hb);clear h18 hb
            go_wp2_with fail
            refine(Wu HR.out H18.out (by decide)).mono ?_;rintro en w19 ⟨_,J,rfl,⟨pj,nj,cj,rfl,h,l⟩,hJ,hb⟩;rw[if_pos HGD.out];have HJ:=Aa hJ;have HFj:=Aa (Fit.of h l);replace HG:=Aa (HG.out.below hb);replace HT:=Aa (HT.out.below hb HT.out.size);replace HM:=Aa (HM.out.below hb);replace HB:=Aa (Ae HB.out hb);replace HR:=Aa (HR.out.below hb);replace HX6:=Aa (HX6.out.below hb);replace HF0:=Aa (HF0.out.below hb);replace HF1:=Aa (HF1.out.below hb);replace HF2:=Aa (HF2.out.below hb);replace HF3:=Aa (HF3.out.below hb);replace HF4:=Aa (HF4.out.below hb);replace HF5:=Aa (HF5.out.below hb);replace HXA:=Aa (HXA.out.below hb HXA.out.lt);replace HXB:=Aa (HXB.out.below hb HXB.out.lt);replace HFa:=Aa (HFa.out.below hb);replace HFb:=Aa (HFb.out.below hb);replace HCB:=Aa (HCB.out.below hb HCB.out.lt);replace HCA:=Aa (HCA.out.below hb);replace HXU:=Aa (HXU.out.below hb HXU.out.lt);replace HXV:=Aa (HXV.out.below hb HXV.out.lt);replace HFu:=Aa (HFu.out.below hb);replace HFv:=Aa (HFv.out.below hb);replace HXC:=Aa (HXC.out.below hb HXC.out.lt);replace HFc:=Aa (HFc.out.below hb);replace HXS:=Aa (HXS.out.below hb HXS.out.lt);replace HXT:=Aa (HXT.out.below hb HXT.out.lt);replace HFs:=Aa (HFs.out.below hb);replace HFt:=Aa (HFt.out.below hb);clear h l hJ hb H18;have hbj:=Af.made w19 (.slice pj nj cj);have hbl:Below w19.heap.size w19 (w19.alloc (.cells #[.slice pj nj cj] 36)):=By;obtain⟨b32,hb32⟩:∃b,w19.heap.size=b:=⟨_,rfl⟩
            obtain⟨w20,hw20⟩:∃W,w19.alloc (.cells #[.slice pj nj cj] 36)=W:=⟨_,rfl⟩
            rw[hw20]at hbj hbl
            rw[hb32]at hbj
            have HXJ:=Aa hbj;clear hbj;replace HG:=Aa (HG.out.below hbl);replace HT:=Aa (HT.out.below hbl HT.out.size);replace HM:=Aa (HM.out.below hbl);replace HB:=Aa (Ae HB.out hbl);replace HR:=Aa (HR.out.below hbl);replace HX6:=Aa (HX6.out.below hbl);replace HF0:=Aa (HF0.out.below hbl);replace HF1:=Aa (HF1.out.below hbl);replace HF2:=Aa (HF2.out.below hbl);replace HF3:=Aa (HF3.out.below hbl);replace HF4:=Aa (HF4.out.below hbl);replace HF5:=Aa (HF5.out.below hbl);replace HXA:=Aa (HXA.out.below hbl HXA.out.lt);replace HXB:=Aa (HXB.out.below hbl HXB.out.lt);replace HFa:=Aa (HFa.out.below hbl);replace HFb:=Aa (HFb.out.below hbl);replace HCB:=Aa (HCB.out.below hbl HCB.out.lt);replace HCA:=Aa (HCA.out.below hbl);replace HXU:=Aa (HXU.out.below hbl HXU.out.lt);replace HXV:=Aa (HXV.out.below hbl HXV.out.lt);replace HFu:=Aa (HFu.out.below hbl);replace HFv:=Aa (HFv.out.below hbl);replace HXC:=Aa (HXC.out.below hbl HXC.out.lt);replace HFc:=Aa (HFc.out.below hbl);replace HXS:=Aa (HXS.out.below hbl HXS.out.lt);replace HXT:=Aa (HXT.out.below hbl HXT.out.lt);replace HFs:=Aa (HFs.out.below hbl);replace HFt:=Aa (HFt.out.below hbl);replace HFj:=Aa (HFj.out.below hbl);clear hbl;obtain⟨DD,hDD⟩:∃A,Fw N4 N5 Q=A:=⟨_,rfl⟩
            obtain⟨LK,hLK⟩:∃A,DD*J%Q=A:=⟨_,rfl⟩
            have HDE:=Aa hDD;have HLK:=Aa hLK;have HLl:Ad (LK<Q):=⟨by rw[<-hLK];exact Nat.mod_lt _ HQ0.out⟩
            clear hDD hLK;go_wp2;clear hw20 hb32;refine Ak (by kernel_rfl) (by kernel_rfl)
             [some (.pointer (some ⟨r,0,none⟩)),some (.pointer (some ⟨r,0,none⟩)),some (.pointer (some ⟨b9,4,none⟩)),some (.agg #[.slice x4.1 x4.2.1 x4.2.2]),some (.pointer (some ⟨b9,5,none⟩)),some (.agg #[.slice x5.1 x5.2.1 x5.2.2]),none,some (.agg #[.slice pj nj cj]),none,none,none]
             [false,false,false,false,false,false,true,false,true,true,true] rfl
             (fun wA wB=>KN (w20.heap.size) wA wB)
             (fun D sp w'=>RG (w20.heap.size) w20 [] w'/\Pa (D 9) (D 10) (sp 9) (w20.heap.size) (LK) w')
             (fun i v w'=>match i with
              | 6=>Fit 33 (DD) v w'
              | 8=>Fit 33 (LK) v w'
              | _=>True)
             ?_ ⟨RG.start (As _) (fun x hx=>by cases hx),Pa.start (As _)⟩ ?_ ?_
            .intro i v wA wB hf hb;split at hf
             .exact hf.kn hb
             .exact hf.kn hb
             .trivial
            .simp only[Az,Nat.reduceAdd];refine⟨?_,?_,?_,?_,?_,?_,?_,?_,?_,?_,?_,trivial⟩
             all_goals intro D sp w' hD hW hdp hg
             case refine_3|refine_4|refine_5|refine_6=>
              have c6:=(HX6.out.below hg.1.keep.bel).cells.1
              with_reducible refine Ac ?_ ?_
              all_goals simp[Region.wanted,yielded,execOp,Act.eval,Act.put,go_sem,c6.1,c6.2.1,c6.2.2.1,c6.2.2.2.1,c6.2.2.2.2.1,c6.2.2.2.2.2]
             case refine_7=>
              (with_reducible refine Ab (w1:=w') (f := 58) (args:=#[.pointer (some ⟨r,0,none⟩),.agg #[.slice x4.1 x4.2.1 x4.2.2],.agg #[.slice x5.1 x5.2.1 x5.2.2]]) ?_ ?_ ?_)
              .simp[Region.wanted,yielded,Act.put,go_sem]
              .simp[Act.eval,Act.put,go_sem]
              .refine(Ht (HR.out.below hg.1.keep.bel) (HF4.out.below hg.1.keep.bel) (HF5.out.below hg.1.keep.bel) (by decide) (by decide)).mono ?_;rintro en w9 ⟨u,rfl,hu,hb⟩;rw[HDE.out]at hu
               exact⟨u,rfl,KN.of hb hg.1.base,hu,hg.1.later hb,by simpa [upd]using hg.2.later hb⟩
             case refine_8=>
              have c0:=(HXJ.out.below hg.1.keep.bel HXJ.out.lt).cell
              with_reducible refine Ac ?_ ?_
              all_goals simp[Region.wanted,yielded,execOp,Act.eval,Act.put,go_sem,c0]
             case refine_9=>
              have k6:Fit 33 (DD) (sp 6) w':=(hdp 6 (mq (by kernel_rfl))).2
              (with_reducible refine Ab (w1:=w') (f := 48) (args:=#[.pointer (some ⟨r,0,none⟩),sp 6,.agg #[.slice pj nj cj]]) ?_ ?_ ?_)
              .simp[Region.wanted,yielded,Act.put,go_sem]
              .simp[Act.eval,Act.put,go_sem]
              .refine(Dm (HR.out.below hg.1.keep.bel) k6 (HFj.out.below hg.1.keep.bel) (by decide) (by decide)).mono ?_;rintro en w9 ⟨u,rfl,hu,hb⟩;rw[HLK.out]at hu
               exact⟨u,rfl,KN.of hb hg.1.base,hu,hg.1.later hb,by simpa [upd]using hg.2.later hb⟩
             case refine_10=>
              have h9:D 10=false:=hW 10 (mq (by kernel_rfl));rw[hD,h9]at hg
              (with_reducible refine Ag (w1:=w'.alloc (.cells #[.slice none 0 0] 36)) (v:=.pointer (some ⟨w'.heap.size,0,none⟩)) ?_ ?_ ?_)
              .simp[Region.wanted,yielded,Act.put,go_sem]
              .simp[execOp,Act.eval,go_sem]
              .have hb:Below w'.heap.size w' (w'.alloc (.cells #[.slice none 0 0] 36)):=By;refine⟨KN.of hb hg.1.base,trivial,hg.1.later hb,?_⟩;have h8:=hg.2.made;simpa [upd,h9]using h8
             case refine_11=>
              have hx:∃p n c,sp 8=.agg #[.slice p n c]/\Aj w' p n c (LK)/\LK<Ap (33):=(hdp 8 (mq (by kernel_rfl))).2
              (with_reducible refine Aq hx fun p hx1=>Aq hx1 fun n hx2=>Aq hx2 fun c hx3=>?_)
              have h1:=hx3.1;have h9:D 9=true:=(hdp 9 (mq (by kernel_rfl))).1;rw[h9]at hg
              have hp:=hg.2.put (hx3.2.1)
              (with_reducible refine Aq hp fun b hy0=>Aq hy0 fun q hy1=>Aq hy1 fun m hy2=>Aq hy2 fun k hy3=>?_)
              have h3:=hy3.1;have h6:=hy3.2.2.1.cell;have h7:=hy3.2.2.1.free
              (with_reducible refine An (w1:=w'.setCell ⟨b,0,none⟩ (.slice p n c)) ?_ ?_ ?_)
              .simp[Region.wanted,yielded,Act.put,go_sem]
              .simp[execOp,Act.eval,Act.put,go_sem,h1,h3,h6,h7]
              .refine⟨KN.store hy3.2.2.1 (Ec (As _) hy3.2.1) _,trivial,hg.1.store_over hy3.2.2.1 (As _) hy3.2.1 (fun x hx=>by cases hx) _,?_⟩;have h8:=hy3.2.2.2;simpa [upd,h9]using h8
             all_goals ((with_reducible refine Ac ?_ ?_);all_goals first|(simp only[Region.wanted];done)|simp[Region.wanted,yielded,execOp,Act.eval,Act.put,go_sem])
            .intro sp w21 hsp hg;obtain⟨hg1,_,hmk⟩:=hg;obtain⟨b34,e34,_,pl,nl,cl,hxl,hnl⟩:=hmk rfl;replace hnl:=hnl rfl;have HXL:=Aa hxl;have HFl:=Aa (Fit.of hnl (Nat.lt_trans HLl.out HQ33.out));have hb:=hg1.keep.bel;replace HG:=Aa (HG.out.below hb);replace HT:=Aa (HT.out.below hb HT.out.size);replace HM:=Aa (HM.out.below hb);replace HB:=Aa (Ae HB.out hb);replace HR:=Aa (HR.out.below hb);replace HX6:=Aa (HX6.out.below hb);replace HF0:=Aa (HF0.out.below hb);replace HF1:=Aa (HF1.out.below hb);replace HF2:=Aa (HF2.out.below hb);replace HF3:=Aa (HF3.out.below hb);replace HF4:=Aa (HF4.out.below hb);replace HF5:=Aa (HF5.out.below hb);replace HXA:=Aa (HXA.out.below hb HXA.out.lt);replace HXB:=Aa (HXB.out.below hb HXB.out.lt);replace HFa:=Aa (HFa.out.below hb);replace HFb:=Aa (HFb.out.below hb);replace HCB:=Aa (HCB.out.below hb HCB.out.lt);replace HCA:=Aa (HCA.out.below hb);replace HXU:=Aa (HXU.out.below hb HXU.out.lt);replace HXV:=Aa (HXV.out.below hb HXV.out.lt);replace HFu:=Aa (HFu.out.below hb);replace HFv:=Aa (HFv.out.below hb);replace HXC:=Aa (HXC.out.below hb HXC.out.lt);replace HFc:=Aa (HFc.out.below hb);replace HXS:=Aa (HXS.out.below hb HXS.out.lt);replace HXT:=Aa (HXT.out.below hb HXT.out.lt);replace HFs:=Aa (HFs.out.below hb);replace HFt:=Aa (HFt.out.below hb);clear hsp hg1 hmk hxl hnl hb;simp only[Am,Nat.reduceAdd];rw[e34];clear e34;generalize sp 6=y6,sp 8=y8,sp 10=y10 at *
             go_simp
             obtain⟨KL,hKL⟩:∃K,Bm CH LK=K:=⟨_,rfl⟩
             obtain⟨F,hF⟩:∃A,((KL:Int)==0)=A:=⟨_,rfl⟩
             have HKL:=Aa hKL;have h1:S1=S2 ↔ CH=LK:=by
              rw[<-HS1E.out,<-HS2E.out,<-HM1E.out,<-HM2E.out,<-HLK.out,<-HDE.out];exact kY HPQ.out HL2.out HL3.out HL4.out HL5.out HCL.out HNE.out HJ.out
             have hEF:((VX:Bool)==F)=true:=by
              rw[beq_iff_eq,Bool.eq_iff_iff,HES.out,h1,<-hF,beq_iff_eq,<-hKL];exact Bw.symm
             clear hKL h1;go_wp2;refine Ai (by kernel_rfl) (by kernel_rfl)
              [some (.int .i64 0),some (.bool true),some (.bool true),some (.agg #[.slice ps ns cs]),some (.agg #[.slice pt nt ct]),none,some (.bool VX),some (.agg #[.slice pc nc cc]),some (.agg #[.slice pl nl cl]),none,some (.bool F),some (.bool true),some (.bool true),some (.bool true)]
              [false,false,false,false,false,true,false,false,false,true,false,false,false,false] rfl
              (fun w1 w2=>Below w1.heap.size w1 w2)
              (fun _ w'=>Below w21.heap.size w21 w')
              (fun i v w'=>match i with
               | 5=>v=.int .i64 KC
               | 9=>v=.int .i64 KL
               | _=>True)
              ?_ (Bd _ _).drew ?_ ?_
             .intro i v w1 w2 hf hb;split at hf
              .exact hf
              .exact hf
              .trivial
             .simp only[Ba,Nat.reduceAdd];refine⟨?_,?_,?_,?_,?_,?_,?_,?_,?_,?_,?_,?_,?_,?_,trivial⟩
              all_goals intro D sp w' hD hW hdp hbx'
              case refine_4=>
               have c0:=(HXS.out.below hbx' HXS.out.lt).cell
               with_reducible refine Ac ?_ ?_
               all_goals simp[Region.wanted,yielded,execOp,Act.eval,Act.put,go_sem,c0]
              case refine_5=>
               have c0:=(HXT.out.below hbx' HXT.out.lt).cell
               with_reducible refine Ac ?_ ?_
               all_goals simp[Region.wanted,yielded,execOp,Act.eval,Act.put,go_sem,c0]
              case refine_6=>
               (with_reducible refine Ab (w1:=w') (f := 34) (args:=#[.agg #[.slice ps ns cs],.agg #[.slice pt nt ct]]) ?_ ?_ ?_)
               .simp[Region.wanted,yielded,Act.put,go_sem]
               .simp[Act.eval,Act.put,go_sem]
               .refine(Be (HFs.out.below hbx') (HFt.out.below hbx') (by decide) (by decide) HK.out).mono ?_;rintro en w9 ⟨_,rfl,rfl,hb⟩;exact⟨_,rfl,hb,rfl,Ae hbx' hb⟩
              case refine_7=>
               have k5:(sp 5)=.int .i64 KC:=(hdp 5 (mq (by kernel_rfl))).2
               with_reducible refine Ac ?_ ?_
               all_goals simp[Region.wanted,yielded,execOp,Act.eval,Act.put,go_sem,k5,hE]
              case refine_8=>
               have c0:=(HXC.out.below hbx' HXC.out.lt).cell
               with_reducible refine Ac ?_ ?_
               all_goals simp[Region.wanted,yielded,execOp,Act.eval,Act.put,go_sem,c0]
              case refine_9=>
               have c0:=(HXL.out.below hbx' HXL.out.lt).cell
               with_reducible refine Ac ?_ ?_
               all_goals simp[Region.wanted,yielded,execOp,Act.eval,Act.put,go_sem,c0]
              case refine_10=>
               (with_reducible refine Ab (w1:=w') (f := 34) (args:=#[.agg #[.slice pc nc cc],.agg #[.slice pl nl cl]]) ?_ ?_ ?_)
               .simp[Region.wanted,yielded,Act.put,go_sem]
               .simp[Act.eval,Act.put,go_sem]
               .refine(Be (HFc.out.below hbx') (HFl.out.below hbx') (by decide) (by decide) HKL.out).mono ?_;rintro en w9 ⟨_,rfl,rfl,hb⟩;exact⟨_,rfl,hb,rfl,Ae hbx' hb⟩
              case refine_11=>
               have k9:(sp 9)=.int .i64 KL:=(hdp 9 (mq (by kernel_rfl))).2
               with_reducible refine Ac ?_ ?_
               all_goals simp[Region.wanted,yielded,execOp,Act.eval,Act.put,go_sem,k9,hF]
              case refine_12=>
               (with_reducible refine Ag (w1:=w') (v:=.bool true) ?_ ?_ ?_)
               .simp[Region.wanted,yielded,Act.put,go_sem]
               .simp[execOp,Act.eval,Act.put,go_sem,hEF]
               .exact⟨rfl,rfl⟩
              case refine_14=>
               (with_reducible refine Ag (w1:=w') (v:=.bool true) ?_ ?_ ?_)
               .simp[Region.wanted,yielded,Act.put,go_sem]
               .simp[execOp,Act.eval,Act.put,go_sem]
               .exact⟨rfl,rfl⟩
              all_goals ((with_reducible refine Ac ?_ ?_);all_goals first|(simp only[Region.wanted];done)|simp[Region.wanted,yielded,execOp,Act.eval,Act.put,go_sem])
             .intro sp w22 hsp hb;have HBf:=Aa (Ae HB.out hb);clear hsp hb;simp only[Am,Nat.reduceAdd];generalize sp 5=y5,sp 9=y9 at *
              go_simp
              go_wp2;go_ret;exact⟨rfl,HBf.out⟩
         .have h1:E=false/\VX=true:=by
           cases E with
           | false=>cases VX with
            | false=>exact absurd rfl hVE
            | true=>exact⟨rfl,rfl⟩
           | true=>exact absurd (HEV.out rfl) hVE
          obtain⟨rfl,rfl⟩:=h1;clear hVE;refine Ai (by kernel_rfl) (by kernel_rfl)
           [some (.pointer (some ⟨b,0,none⟩)),some (.agg #[.slice xa.1 xa.2.1 xa.2.2,.slice xb.1 xb.2.1 xb.2.2,.slice xy.1 xy.2.1 xy.2.2,.slice xz.1 xz.2.1 xz.2.2]),some (.slice pm nm cm),some (.slice pf L cf),none,some (.agg #[.slice ps ns cs]),some (.agg #[.slice pt nt ct]),none,some (.bool false),some (.bool true),some (.bool true),some (.agg #[.slice ps ns cs]),some (.agg #[.slice pt nt ct]),none,some (.bool false),some (.bool false)]
           [false,false,false,false,true,false,false,true,false,false,false,false,false,true,false,false] rfl
           (fun w1 w2=>Below w1.heap.size w1 w2)
           (fun _ w'=>Below w15.heap.size w15 w')
           (fun i v w'=>match i with
            | 4=>v=.bool true
            | 7=>v=.int .i64 KC
            | 13=>v=.int .i64 KC
            | _=>True)
           ?_ (Bd _ _).drew ?_ ?_
          .intro i v w1 w2 hf hb;split at hf
           .exact hf
           .exact hf
           .exact hf
           .trivial
          .simp only[Ba,Nat.reduceAdd];refine⟨?_,?_,?_,?_,?_,?_,?_,?_,?_,?_,?_,?_,?_,?_,?_,?_,trivial⟩
           all_goals intro D sp w' hD hW hdp hbx'
           case refine_2=>
            have g4:=(cells4 (HCB.out.below hbx' HCB.out.lt).at_).1
            with_reducible refine Ac ?_ ?_
            all_goals simp[Region.wanted,yielded,execOp,Act.eval,Act.put,go_sem,g4.1,g4.2.1,g4.2.2.1,g4.2.2.2]
           case refine_5=>
            (with_reducible refine Ab (w1:=w') (f := 56) (args:=#[.pointer (some ⟨b,0,none⟩),.agg #[.slice xa.1 xa.2.1 xa.2.2,.slice xb.1 xb.2.1 xb.2.2,.slice xy.1 xy.2.1 xy.2.2,.slice xz.1 xz.2.1 xz.2.2],.slice pm nm cm,.slice pf L cf]) ?_ ?_ ?_)
            .simp[Region.wanted,yielded,Act.put,go_sem]
            .simp[Act.eval,Act.put,go_sem]
            .refine(Kf (HG.out.below hbx') (HT.out.below hbx' HT.out.size) (HCA.out.below hbx') HFa.out.lim HFb.out.lim HYb.out HZb.out HPf.out HQf.out (HM.out.below hbx') (HPB.out.below hbx')).mono ?_;rintro en w9 ⟨X9,rfl,hX9,hb⟩;have hf9:=HVX.out X9 hX9;rw[hf9];exact⟨_,rfl,hb,rfl,Ae hbx' hb⟩
           case refine_6|refine_12=>
            have c0:=(HXS.out.below hbx' HXS.out.lt).cell
            with_reducible refine Ac ?_ ?_
            all_goals simp[Region.wanted,yielded,execOp,Act.eval,Act.put,go_sem,c0]
           case refine_7|refine_13=>
            have c0:=(HXT.out.below hbx' HXT.out.lt).cell
            with_reducible refine Ac ?_ ?_
            all_goals simp[Region.wanted,yielded,execOp,Act.eval,Act.put,go_sem,c0]
           case refine_8|refine_14=>
            (with_reducible refine Ab (w1:=w') (f := 34) (args:=#[.agg #[.slice ps ns cs],.agg #[.slice pt nt ct]]) ?_ ?_ ?_)
            .simp[Region.wanted,yielded,Act.put,go_sem]
            .simp[Act.eval,Act.put,go_sem]
            .refine(Be (HFs.out.below hbx') (HFt.out.below hbx') (by decide) (by decide) HK.out).mono ?_;rintro en w9 ⟨_,rfl,rfl,hb⟩;exact⟨_,rfl,hb,rfl,Ae hbx' hb⟩
           case refine_9=>
            have k7:(sp 7)=.int .i64 KC:=(hdp 7 (mq (by kernel_rfl))).2
            with_reducible refine Ac ?_ ?_
            all_goals simp[Region.wanted,yielded,execOp,Act.eval,Act.put,go_sem,k7,hE]
           case refine_10=>
            have k4:(sp 4)=.bool true:=(hdp 4 (mq (by kernel_rfl))).2
            with_reducible refine Ac ?_ ?_
            all_goals simp[Region.wanted,yielded,execOp,Act.eval,Act.put,go_sem,k4,hE]
           case refine_15=>
            have k13:(sp 13)=.int .i64 KC:=(hdp 13 (mq (by kernel_rfl))).2
            with_reducible refine Ac ?_ ?_
            all_goals simp[Region.wanted,yielded,execOp,Act.eval,Act.put,go_sem,k13,hE]
           all_goals ((with_reducible refine Ac ?_ ?_);all_goals first|(simp only[Region.wanted];done)|simp[Region.wanted,yielded,execOp,Act.eval,Act.put,go_sem])
          .intro sp w16 hsp hb;replace HG:=Aa (HG.out.below hb);replace HT:=Aa (HT.out.below hb HT.out.size);replace HM:=Aa (HM.out.below hb);replace HB:=Aa (Ae HB.out hb);replace HR:=Aa (HR.out.below hb);replace HX6:=Aa (HX6.out.below hb);replace HF0:=Aa (HF0.out.below hb);replace HF1:=Aa (HF1.out.below hb);replace HF2:=Aa (HF2.out.below hb);replace HF3:=Aa (HF3.out.below hb);replace HF4:=Aa (HF4.out.below hb);replace HF5:=Aa (HF5.out.below hb);replace HXA:=Aa (HXA.out.below hb HXA.out.lt);replace HXB:=Aa (HXB.out.below hb HXB.out.lt);replace HFa:=Aa (HFa.out.below hb);replace HFb:=Aa (HFb.out.below hb);replace HCB:=Aa (HCB.out.below hb HCB.out.lt);replace HCA:=Aa (HCA.out.below hb);replace HXU:=Aa (HXU.out.below hb HXU.out.lt);replace HXV:=Aa (HXV.out.below hb HXV.out.lt);replace HFu:=Aa (HFu.out.below hb);replace HFv:=Aa (HFv.out.below hb);replace HXC:=Aa (HXC.out.below hb HXC.out.lt);replace HFc:=Aa (HFc.out.below hb);replace HXS:=Aa (HXS.out.below hb HXS.out.lt);replace HXT:=Aa (HXT.out.below hb HXT.out.lt);replace HFs:=Aa (HFs.out.below hb);replace HFt:=Aa (HFt.out.below hb);replace HPB:=Aa (HPB.out.below hb);clear hsp hb HPB;simp only[Am,Nat.reduceAdd];generalize sp 4=y4,sp 7=y7,sp 13=y13 at *
           go_simp
           have x2e:=HX6.out.cells.1.2.2.1;have x3e:=HX6.out.cells.1.2.2.2.1
           go_wp2_with fail
           clear x2e x3e;refine(Mm HF2.out HF3.out (by decide) (by decide)).mono ?_;rintro en w17 ⟨_,rfl,rfl,hb⟩;replace HG:=Aa (HG.out.below hb);replace HT:=Aa (HT.out.below hb HT.out.size);replace HM:=Aa (HM.out.below hb);replace HB:=Aa (Ae HB.out hb);replace HR:=Aa (HR.out.below hb);replace HX6:=Aa (HX6.out.below hb);replace HF0:=Aa (HF0.out.below hb);replace HF1:=Aa (HF1.out.below hb);replace HF2:=Aa (HF2.out.below hb);replace HF3:=Aa (HF3.out.below hb);replace HF4:=Aa (HF4.out.below hb);replace HF5:=Aa (HF5.out.below hb);replace HXA:=Aa (HXA.out.below hb HXA.out.lt);replace HXB:=Aa (HXB.out.below hb HXB.out.lt);replace HFa:=Aa (HFa.out.below hb);replace HFb:=Aa (HFb.out.below hb);replace HCB:=Aa (HCB.out.below hb HCB.out.lt);replace HCA:=Aa (HCA.out.below hb);replace HXU:=Aa (HXU.out.below hb HXU.out.lt);replace HXV:=Aa (HXV.out.below hb HXV.out.lt);replace HFu:=Aa (HFu.out.below hb);replace HFv:=Aa (HFv.out.below hb);replace HXC:=Aa (HXC.out.below hb HXC.out.lt);replace HFc:=Aa (HFc.out.below hb);replace HXS:=Aa (HXS.out.below hb HXS.out.lt);replace HXT:=Aa (HXT.out.below hb HXT.out.lt);replace HFs:=Aa (HFs.out.below hb);replace HFt:=Aa (HFt.out.below hb);clear hb
           by_cases h23:N2=N3
           .subst h23;rw[Ge];obtain⟨K45,hK45⟩:∃K,Bm N4 N5=K:=⟨_,rfl⟩
            obtain⟨F,hF⟩:∃A,((K45:Int)==0)=A:=⟨_,rfl⟩
            have HK4:=Aa hK45;have h1:S1=S2 ↔ N4=N5:=by
             rw[<-HS1E.out,<-HS2E.out,<-HM1E.out,<-HM2E.out];exact kZ HL4.out HL5.out
            have hEF:((false:Bool)==F)=true:=by
             rw[beq_iff_eq,Bool.eq_iff_iff,HES.out,h1,<-hF,beq_iff_eq,<-hK45];exact Bw.symm
            clear hK45 h1;go_wp2;refine Ai (by kernel_rfl) (by kernel_rfl)
             [some (.agg #[.slice ps ns cs]),some (.agg #[.slice pt nt ct]),none,some (.bool false),some (.pointer (some ⟨b9,4,none⟩)),some (.agg #[.slice x4.1 x4.2.1 x4.2.2]),some (.pointer (some ⟨b9,5,none⟩)),some (.agg #[.slice x5.1 x5.2.1 x5.2.2]),none,some (.bool F),some (.bool true),some (.bool true)]
             [false,false,true,false,false,false,false,false,true,false,false,false] rfl
             (fun w1 w2=>Below w1.heap.size w1 w2)
             (fun _ w'=>Below w17.heap.size w17 w')
             (fun i v w'=>match i with
              | 2=>v=.int .i64 KC
              | 8=>v=.int .i64 K45
              | _=>True)
             ?_ (Bd _ _).drew ?_ ?_
            .intro i v w1 w2 hf hb;split at hf
             .exact hf
             .exact hf
             .trivial
            .simp only[Ba,Nat.reduceAdd];refine⟨?_,?_,?_,?_,?_,?_,?_,?_,?_,?_,?_,?_,trivial⟩
             all_goals intro D sp w' hD hW hdp hbx'
             case refine_1=>
              have c0:=(HXS.out.below hbx' HXS.out.lt).cell
              with_reducible refine Ac ?_ ?_
              all_goals simp[Region.wanted,yielded,execOp,Act.eval,Act.put,go_sem,c0]
             case refine_2=>
              have c0:=(HXT.out.below hbx' HXT.out.lt).cell
              with_reducible refine Ac ?_ ?_
              all_goals simp[Region.wanted,yielded,execOp,Act.eval,Act.put,go_sem,c0]
             case refine_3=>
              (with_reducible refine Ab (w1:=w') (f := 34) (args:=#[.agg #[.slice ps ns cs],.agg #[.slice pt nt ct]]) ?_ ?_ ?_)
              .simp[Region.wanted,yielded,Act.put,go_sem]
              .simp[Act.eval,Act.put,go_sem]
              .refine(Be (HFs.out.below hbx') (HFt.out.below hbx') (by decide) (by decide) HK.out).mono ?_;rintro en w9 ⟨_,rfl,rfl,hb⟩;exact⟨_,rfl,hb,rfl,Ae hbx' hb⟩
             case refine_4=>
              have k2:(sp 2)=.int .i64 KC:=(hdp 2 (mq (by kernel_rfl))).2
              with_reducible refine Ac ?_ ?_
              all_goals simp[Region.wanted,yielded,execOp,Act.eval,Act.put,go_sem,k2,hE]
             case refine_5|refine_6|refine_7|refine_8=>
              have c6:=(HX6.out.below hbx').cells.1
              with_reducible refine Ac ?_ ?_
              all_goals simp[Region.wanted,yielded,execOp,Act.eval,Act.put,go_sem,c6.1,c6.2.1,c6.2.2.1,c6.2.2.2.1,c6.2.2.2.2.1,c6.2.2.2.2.2]
             case refine_9=>
              (with_reducible refine Ab (w1:=w') (f := 34) (args:=#[.agg #[.slice x4.1 x4.2.1 x4.2.2],.agg #[.slice x5.1 x5.2.1 x5.2.2]]) ?_ ?_ ?_)
              .simp[Region.wanted,yielded,Act.put,go_sem]
              .simp[Act.eval,Act.put,go_sem]
              .refine(Be (HF4.out.below hbx') (HF5.out.below hbx') (by decide) (by decide) HK4.out).mono ?_;rintro en w9 ⟨_,rfl,rfl,hb⟩;exact⟨_,rfl,hb,rfl,Ae hbx' hb⟩
             case refine_10=>
              have k8:(sp 8)=.int .i64 K45:=(hdp 8 (mq (by kernel_rfl))).2
              with_reducible refine Ac ?_ ?_
              all_goals simp[Region.wanted,yielded,execOp,Act.eval,Act.put,go_sem,k8,hF]
             case refine_11=>
              (with_reducible refine Ag (w1:=w') (v:=.bool true) ?_ ?_ ?_)
              .simp[Region.wanted,yielded,Act.put,go_sem]
              .simp[execOp,Act.eval,Act.put,go_sem,hEF]
              .exact⟨rfl,rfl⟩
             case refine_12=>
              (with_reducible refine Ag (w1:=w') (v:=.bool true) ?_ ?_ ?_)
              .simp[Region.wanted,yielded,Act.put,go_sem]
              .simp[execOp,Act.eval,Act.put,go_sem]
              .exact⟨rfl,rfl⟩
            .intro sp w18 hsp hb;have HBf:=Aa (Ae HB.out hb);clear hsp hb;simp only[Am,Nat.reduceAdd];generalize sp 2=y2,sp 8=y8 at *
             go_simp
             go_wp2;go_ret;exact⟨rfl,HBf.out⟩
           .have hne:((Bm N2 N3:Int)==0)=false:=by rw[beq_eq_false_iff_ne];exact fun h=>h23 (Bw.1 h)
            obtain⟨K23,hK23⟩:∃K,Bm N2 N3=K:=⟨_,rfl⟩
            rw[hK23]at hne
            rw[hK23];have HGD:Ad (Nat.gcd Q (Fw N3 N2 Q)=1):=⟨HPQ.out.coprime fun hd=>by
             have h2:=HL2.out;have h3:=HL3.out;have h4:0<Fw N3 N2 Q/\Fw N3 N2 Q<Q:=by
              unfold Fw;rw[Nat.mod_eq_of_lt h2,Nat.mod_eq_of_lt h3];split<;>omega
             have h5:=Nat.le_of_dvd h4.1 hd;omega⟩
            have HNE:Ad (N2≠N3):=⟨h23⟩
            clear hK23 h23;have x2e:=HX6.out.cells.1.2.2.1;have x3e:=HX6.out.cells.1.2.2.2.1
            go_wp2_with fail
            clear x2e x3e hne;refine(Ht HR.out HF3.out HF2.out (by decide) (by decide)).mono ?_;rintro en w18 ⟨x18,rfl,h18,hb⟩;have H18:=Aa h18;replace HG:=Aa (HG.out.below hb);replace HT:=Aa (HT.out.below hb HT.out.size);replace HM:=Aa (HM.out.below hb);replace HB:=Aa (Ae HB.out hb);replace HR:=Aa (HR.out.below hb);replace HX6:=Aa (HX6.out.below hb);replace HF0:=Aa (HF0.out.below hb);replace HF1:=Aa (HF1.out.below hb);replace HF2:=Aa (HF2.out.below hb);replace HF3:=Aa (HF3.out.below hb);replace HF4:=Aa (HF4.out.below hb);replace HF5:=Aa (HF5.out.below hb);replace HXA:=Aa (HXA.out.below hb HXA.out.lt);replace HXB:=Aa (HXB.out.below hb HXB.out.lt);replace HFa:=Aa (HFa.out.below hb);replace HFb:=Aa (HFb.out.below hb);replace HCB:=Aa (HCB.out.below hb HCB.out.lt);replace HCA:=Aa (HCA.out.below hb);replace HXU:=Aa (HXU.out.below hb HXU.out.lt);replace HXV:=Aa (HXV.out.below hb HXV.out.lt);replace HFu:=Aa (HFu.out.below hb);replace HFv:=Aa (HFv.out.below hb);replace HXC:=Aa (HXC.out.below hb HXC.out.lt);replace HFc:=Aa (HFc.out.below hb);replace HXS:=Aa (HXS.out.below hb HXS.out.lt);replace HXT:=Aa (HXT.out.below hb HXT.out.lt);replace HFs:=Aa (HFs.out.below hb);replace HFt:=Aa (HFt.out.below hb);clear h18 hb
            go_wp2_with fail
            refine(Wu HR.out H18.out (by decide)).mono ?_;rintro en w19 ⟨_,J,rfl,⟨pj,nj,cj,rfl,h,l⟩,hJ,hb⟩;rw[if_pos HGD.out];have HJ:=Aa hJ;have HFj:=Aa (Fit.of h l);replace HG:=Aa (HG.out.below hb);replace HT:=Aa (HT.out.below hb HT.out.size);replace HM:=Aa (HM.out.below hb);replace HB:=Aa (Ae HB.out hb);replace HR:=Aa (HR.out.below hb);replace HX6:=Aa (HX6.out.below hb);replace HF0:=Aa (HF0.out.below hb);replace HF1:=Aa (HF1.out.below hb);replace HF2:=Aa (HF2.out.below hb);replace HF3:=Aa (HF3.out.below hb);replace HF4:=Aa (HF4.out.below hb);replace HF5:=Aa (HF5.out.below hb);replace HXA:=Aa (HXA.out.below hb HXA.out.lt);replace HXB:=Aa (HXB.out.below hb HXB.out.lt);replace HFa:=Aa (HFa.out.below hb);replace HFb:=Aa (HFb.out.below hb);replace HCB:=Aa (HCB.out.below hb HCB.out.lt);replace HCA:=Aa (HCA.out.below hb);replace HXU:=Aa (HXU.out.below hb HXU.out.lt);replace HXV:=Aa (HXV.out.below hb HXV.out.lt);replace HFu:=Aa (HFu.out.below hb);replace HFv:=Aa (HFv.out.below hb);replace HXC:=Aa (HXC.out.below hb HXC.out.lt);replace HFc:=Aa (HFc.out.below hb);replace HXS:=Aa (HXS.out.below hb HXS.out.lt);replace HXT:=Aa (HXT.out.below hb HXT.out.lt);replace HFs:=Aa (HFs.out.below hb);replace HFt:=Aa (HFt.out.below hb);clear h l hJ hb H18;have hbj:=Af.made w19 (.slice pj nj cj);have hbl:Below w19.heap.size w19 (w19.alloc (.cells #[.slice pj nj cj] 36)):=By;obtain⟨b32,hb32⟩:∃b,w19.heap.size=b:=⟨_,rfl⟩
            obtain⟨w20,hw20⟩:∃W,w19.alloc (.cells #[.slice pj nj cj] 36)=W:=⟨_,rfl⟩
            rw[hw20]at hbj hbl
            rw[hb32]at hbj
            have HXJ:=Aa hbj;clear hbj;replace HG:=Aa (HG.out.below hbl);replace HT:=Aa (HT.out.below hbl HT.out.size);replace HM:=Aa (HM.out.below hbl);replace HB:=Aa (Ae HB.out hbl);replace HR:=Aa (HR.out.below hbl);replace HX6:=Aa (HX6.out.below hbl);replace HF0:=Aa (HF0.out.below hbl);replace HF1:=Aa (HF1.out.below hbl);replace HF2:=Aa (HF2.out.below hbl);replace HF3:=Aa (HF3.out.below hbl);replace HF4:=Aa (HF4.out.below hbl);replace HF5:=Aa (HF5.out.below hbl);replace HXA:=Aa (HXA.out.below hbl HXA.out.lt);replace HXB:=Aa (HXB.out.below hbl HXB.out.lt);replace HFa:=Aa (HFa.out.below hbl);replace HFb:=Aa (HFb.out.below hbl);replace HCB:=Aa (HCB.out.below hbl HCB.out.lt);replace HCA:=Aa (HCA.out.below hbl);replace HXU:=Aa (HXU.out.below hbl HXU.out.lt);replace HXV:=Aa (HXV.out.below hbl HXV.out.lt);replace HFu:=Aa (HFu.out.below hbl);replace HFv:=Aa (HFv.out.below hbl);replace HXC:=Aa (HXC.out.below hbl HXC.out.lt);replace HFc:=Aa (HFc.out.below hbl);replace HXS:=Aa (HXS.out.below hbl HXS.out.lt);replace HXT:=Aa (HXT.out.below hbl HXT.out.lt);replace HFs:=Aa (HFs.out.below hbl);replace HFt:=Aa (HFt.out.below hbl);replace HFj:=Aa (HFj.out.below hbl);clear hbl;obtain⟨DD,hDD⟩:∃A,Fw N4 N5 Q=A:=⟨_,rfl⟩
            obtain⟨LK,hLK⟩:∃A,DD*J%Q=A:=⟨_,rfl⟩
            have HDE:=Aa hDD;have HLK:=Aa hLK;have HLl:Ad (LK<Q):=⟨by rw[<-hLK];exact Nat.mod_lt _ HQ0.out⟩
            clear hDD hLK;go_wp2;clear hw20 hb32;refine Ak (by kernel_rfl) (by kernel_rfl)
             [some (.pointer (some ⟨r,0,none⟩)),some (.pointer (some ⟨r,0,none⟩)),some (.pointer (some ⟨b9,4,none⟩)),some (.agg #[.slice x4.1 x4.2.1 x4.2.2]),some (.pointer (some ⟨b9,5,none⟩)),some (.agg #[.slice x5.1 x5.2.1 x5.2.2]),none,some (.agg #[.slice pj nj cj]),none,none,none]
             [false,false,false,false,false,false,true,false,true,true,true] rfl
             (fun wA wB=>KN (w20.heap.size) wA wB)
             (fun D sp w'=>RG (w20.heap.size) w20 [] w'/\Pa (D 9) (D 10) (sp 9) (w20.heap.size) (LK) w')
             (fun i v w'=>match i with
              | 6=>Fit 33 (DD) v w'
              | 8=>Fit 33 (LK) v w'
              | _=>True)
             ?_ ⟨RG.start (As _) (fun x hx=>by cases hx),Pa.start (As _)⟩ ?_ ?_
            .intro i v wA wB hf hb;split at hf
             .exact hf.kn hb
             .exact hf.kn hb
             .trivial
            .simp only[Az,Nat.reduceAdd];refine⟨?_,?_,?_,?_,?_,?_,?_,?_,?_,?_,?_,trivial⟩
             all_goals intro D sp w' hD hW hdp hg
             case refine_3|refine_4|refine_5|refine_6=>
              have c6:=(HX6.out.below hg.1.keep.bel).cells.1
              with_reducible refine Ac ?_ ?_
              all_goals simp[Region.wanted,yielded,execOp,Act.eval,Act.put,go_sem,c6.1,c6.2.1,c6.2.2.1,c6.2.2.2.1,c6.2.2.2.2.1,c6.2.2.2.2.2]
             case refine_7=>
              (with_reducible refine Ab (w1:=w') (f := 58) (args:=#[.pointer (some ⟨r,0,none⟩),.agg #[.slice x4.1 x4.2.1 x4.2.2],.agg #[.slice x5.1 x5.2.1 x5.2.2]]) ?_ ?_ ?_)
              .simp[Region.wanted,yielded,Act.put,go_sem]
              .simp[Act.eval,Act.put,go_sem]
              .refine(Ht (HR.out.below hg.1.keep.bel) (HF4.out.below hg.1.keep.bel) (HF5.out.below hg.1.keep.bel) (by decide) (by decide)).mono ?_;rintro en w9 ⟨u,rfl,hu,hb⟩;rw[HDE.out]at hu
               exact⟨u,rfl,KN.of hb hg.1.base,hu,hg.1.later hb,by simpa [upd]using hg.2.later hb⟩
             case refine_8=>
              have c0:=(HXJ.out.below hg.1.keep.bel HXJ.out.lt).cell
              with_reducible refine Ac ?_ ?_
              all_goals simp[Region.wanted,yielded,execOp,Act.eval,Act.put,go_sem,c0]
             case refine_9=>
              have k6:Fit 33 (DD) (sp 6) w':=(hdp 6 (mq (by kernel_rfl))).2
              (with_reducible refine Ab (w1:=w') (f := 48) (args:=#[.pointer (some ⟨r,0,none⟩),sp 6,.agg #[.slice pj nj cj]]) ?_ ?_ ?_)
              .simp[Region.wanted,yielded,Act.put,go_sem]
              .simp[Act.eval,Act.put,go_sem]
              .refine(Dm (HR.out.below hg.1.keep.bel) k6 (HFj.out.below hg.1.keep.bel) (by decide) (by decide)).mono ?_;rintro en w9 ⟨u,rfl,hu,hb⟩;rw[HLK.out]at hu
               exact⟨u,rfl,KN.of hb hg.1.base,hu,hg.1.later hb,by simpa [upd]using hg.2.later hb⟩
             case refine_10=>
              have h9:D 10=false:=hW 10 (mq (by kernel_rfl));rw[hD,h9]at hg
              (with_reducible refine Ag (w1:=w'.alloc (.cells #[.slice none 0 0] 36)) (v:=.pointer (some ⟨w'.heap.size,0,none⟩)) ?_ ?_ ?_)
              .simp[Region.wanted,yielded,Act.put,go_sem]
              .simp[execOp,Act.eval,go_sem]
              .have hb:Below w'.heap.size w' (w'.alloc (.cells #[.slice none 0 0] 36)):=By;refine⟨KN.of hb hg.1.base,trivial,hg.1.later hb,?_⟩;have h8:=hg.2.made;simpa [upd,h9]using h8
             case refine_11=>
              have hx:∃p n c,sp 8=.agg #[.slice p n c]/\Aj w' p n c (LK)/\LK<Ap (33):=(hdp 8 (mq (by kernel_rfl))).2
              (with_reducible refine Aq hx fun p hx1=>Aq hx1 fun n hx2=>Aq hx2 fun c hx3=>?_)
              have h1:=hx3.1;have h9:D 9=true:=(hdp 9 (mq (by kernel_rfl))).1;rw[h9]at hg
              have hp:=hg.2.put (hx3.2.1)
              (with_reducible refine Aq hp fun b hy0=>Aq hy0 fun q hy1=>Aq hy1 fun m hy2=>Aq hy2 fun k hy3=>?_)
              have h3:=hy3.1;have h6:=hy3.2.2.1.cell;have h7:=hy3.2.2.1.free
              (with_reducible refine An (w1:=w'.setCell ⟨b,0,none⟩ (.slice p n c)) ?_ ?_ ?_)
              .simp[Region.wanted,yielded,Act.put,go_sem]
              .simp[execOp,Act.eval,Act.put,go_sem,h1,h3,h6,h7]
              .refine⟨KN.store hy3.2.2.1 (Ec (As _) hy3.2.1) _,trivial,hg.1.store_over hy3.2.2.1 (As _) hy3.2.1 (fun x hx=>by cases hx) _,?_⟩;have h8:=hy3.2.2.2;simpa [upd,h9]using h8
             all_goals ((with_reducible refine Ac ?_ ?_);all_goals first|(simp only[Region.wanted];done)|simp[Region.wanted,yielded,execOp,Act.eval,Act.put,go_sem])
            .intro sp w21 hsp hg;obtain⟨hg1,_,hmk⟩:=hg;obtain⟨b34,e34,_,pl,nl,cl,hxl,hnl⟩:=hmk rfl;replace hnl:=hnl rfl;have HXL:=Aa hxl;have HFl:=Aa (Fit.of hnl (Nat.lt_trans HLl.out HQ33.out));have hb:=hg1.keep.bel;replace HG:=Aa (HG.out.below hb);replace HT:=Aa (HT.out.below hb HT.out.size);replace HM:=Aa (HM.out.below hb);replace HB:=Aa (Ae HB.out hb);replace HR:=Aa (HR.out.below hb);replace HX6:=Aa (HX6.out.below hb);replace HF0:=Aa (HF0.out.below hb);replace HF1:=Aa (HF1.out.below hb);replace HF2:=Aa (HF2.out.below hb);replace HF3:=Aa (HF3.out.below hb);replace HF4:=Aa (HF4.out.below hb);replace HF5:=Aa (HF5.out.below hb);replace HXA:=Aa (HXA.out.below hb HXA.out.lt);replace HXB:=Aa (HXB.out.below hb HXB.out.lt);replace HFa:=Aa (HFa.out.below hb);replace HFb:=Aa (HFb.out.below hb);replace HCB:=Aa (HCB.out.below hb HCB.out.lt);replace HCA:=Aa (HCA.out.below hb);replace HXU:=Aa (HXU.out.below hb HXU.out.lt);replace HXV:=Aa (HXV.out.below hb HXV.out.lt);replace HFu:=Aa (HFu.out.below hb);replace HFv:=Aa (HFv.out.below hb);replace HXC:=Aa (HXC.out.below hb HXC.out.lt);replace HFc:=Aa (HFc.out.below hb);replace HXS:=Aa (HXS.out.below hb HXS.out.lt);replace HXT:=Aa (HXT.out.below hb HXT.out.lt);replace HFs:=Aa (HFs.out.below hb);replace HFt:=Aa (HFt.out.below hb);clear hsp hg1 hmk hxl hnl hb;simp only[Am,Nat.reduceAdd];rw[e34];clear e34;generalize sp 6=y6,sp 8=y8,sp 10=y10 at *
             go_simp
             obtain⟨KL,hKL⟩:∃K,Bm CH LK=K:=⟨_,rfl⟩
             obtain⟨F,hF⟩:∃A,((KL:Int)==0)=A:=⟨_,rfl⟩
             have HKL:=Aa hKL;have h1:S1=S2 ↔ CH=LK:=by
              rw[<-HS1E.out,<-HS2E.out,<-HM1E.out,<-HM2E.out,<-HLK.out,<-HDE.out];exact kY HPQ.out HL2.out HL3.out HL4.out HL5.out HCL.out HNE.out HJ.out
             have hEF:((false:Bool)==F)=true:=by
              rw[beq_iff_eq,Bool.eq_iff_iff,HES.out,h1,<-hF,beq_iff_eq,<-hKL];exact Bw.symm
             clear hKL h1;go_wp2;refine Ai (by kernel_rfl) (by kernel_rfl)
              [some (.int .i64 0),some (.bool true),some (.bool true),some (.agg #[.slice ps ns cs]),some (.agg #[.slice pt nt ct]),none,some (.bool false),some (.agg #[.slice pc nc cc]),some (.agg #[.slice pl nl cl]),none,some (.bool F),some (.bool true),some (.bool true),some (.bool true)]
              [false,false,false,false,false,true,false,false,false,true,false,false,false,false] rfl
              (fun w1 w2=>Below w1.heap.size w1 w2)
              (fun _ w'=>Below w21.heap.size w21 w')
              (fun i v w'=>match i with
               | 5=>v=.int .i64 KC
               | 9=>v=.int .i64 KL
               | _=>True)
              ?_ (Bd _ _).drew ?_ ?_
             .intro i v w1 w2 hf hb;split at hf
              .exact hf
              .exact hf
              .trivial
             .simp only[Ba,Nat.reduceAdd];refine⟨?_,?_,?_,?_,?_,?_,?_,?_,?_,?_,?_,?_,?_,?_,trivial⟩
              all_goals intro D sp w' hD hW hdp hbx'
              case refine_4=>
               have c0:=(HXS.out.below hbx' HXS.out.lt).cell
               with_reducible refine Ac ?_ ?_
               all_goals simp[Region.wanted,yielded,execOp,Act.eval,Act.put,go_sem,c0]
              case refine_5=>
               have c0:=(HXT.out.below hbx' HXT.out.lt).cell
               with_reducible refine Ac ?_ ?_
               all_goals simp[Region.wanted,yielded,execOp,Act.eval,Act.put,go_sem,c0]
              case refine_6=>
               (with_reducible refine Ab (w1:=w') (f := 34) (args:=#[.agg #[.slice ps ns cs],.agg #[.slice pt nt ct]]) ?_ ?_ ?_)
               .simp[Region.wanted,yielded,Act.put,go_sem]
               .simp[Act.eval,Act.put,go_sem]
               .refine(Be (HFs.out.below hbx') (HFt.out.below hbx') (by decide) (by decide) HK.out).mono ?_;rintro en w9 ⟨_,rfl,rfl,hb⟩;exact⟨_,rfl,hb,rfl,Ae hbx' hb⟩
              case refine_7=>
               have k5:(sp 5)=.int .i64 KC:=(hdp 5 (mq (by kernel_rfl))).2
               with_reducible refine Ac ?_ ?_
               all_goals simp[Region.wanted,yielded,execOp,Act.eval,Act.put,go_sem,k5,hE]
              case refine_8=>
               have c0:=(HXC.out.below hbx' HXC.out.lt).cell
               with_reducible refine Ac ?_ ?_
               all_goals simp[Region.wanted,yielded,execOp,Act.eval,Act.put,go_sem,c0]
              case refine_9=>
               have c0:=(HXL.out.below hbx' HXL.out.lt).cell
               with_reducible refine Ac ?_ ?_
               all_goals simp[Region.wanted,yielded,execOp,Act.eval,Act.put,go_sem,c0]
              case refine_10=>
               (with_reducible refine Ab (w1:=w') (f := 34) (args:=#[.agg #[.slice pc nc cc],.agg #[.slice pl nl cl]]) ?_ ?_ ?_)
               .simp[Region.wanted,yielded,Act.put,go_sem]
               .simp[Act.eval,Act.put,go_sem]
               .refine(Be (HFc.out.below hbx') (HFl.out.below hbx') (by decide) (by decide) HKL.out).mono ?_;rintro en w9 ⟨_,rfl,rfl,hb⟩;exact⟨_,rfl,hb,rfl,Ae hbx' hb⟩
              case refine_11=>
               have k9:(sp 9)=.int .i64 KL:=(hdp 9 (mq (by kernel_rfl))).2
               with_reducible refine Ac ?_ ?_
               all_goals simp[Region.wanted,yielded,execOp,Act.eval,Act.put,go_sem,k9,hF]
              case refine_12=>
               (with_reducible refine Ag (w1:=w') (v:=.bool true) ?_ ?_ ?_)
               .simp[Region.wanted,yielded,Act.put,go_sem]
               .simp[execOp,Act.eval,Act.put,go_sem,hEF]
               .exact⟨rfl,rfl⟩
              case refine_14=>
               (with_reducible refine Ag (w1:=w') (v:=.bool true) ?_ ?_ ?_)
               .simp[Region.wanted,yielded,Act.put,go_sem]
               .simp[execOp,Act.eval,Act.put,go_sem]
               .exact⟨rfl,rfl⟩
              all_goals ((with_reducible refine Ac ?_ ?_);all_goals first|(simp only[Region.wanted];done)|simp[Region.wanted,yielded,execOp,Act.eval,Act.put,go_sem])
             .intro sp w22 hsp hb;have HBf:=Aa (Ae HB.out hb);clear hsp hb;simp only[Am,Nat.reduceAdd];generalize sp 5=y5,sp 9=y9 at *
              go_simp
              go_wp2;go_ret;exact⟨rfl,HBf.out⟩
end Go.Proofs.YtnbmfaihlefgfaaGreatDoor
