/- DealBack, walked. -/
import Derived.Test.YtokhckjemidbpaaGreatDoorDeT
set_option maxRecDepth 1000000
set_option maxHeartbeats 16000000
set_option linter.all false
namespace Go.Proofs.YtokhckjemidbpaaGreatDoor
open Go Go.RowKit Go.Proofs.YtokhckjemidbpaaGreatDoor.Flow
theorem Rp (t:Int)(m:Nat)(hm:0<m):∃k:Nat,IntKind.u64.wrap t%(m:Int)=(k:Int)/\k<m:=by
 have h3:=Int.emod_nonneg (IntKind.u64.wrap t) (show (m:Int)≠0 by omega);have h4:=Int.emod_lt_of_pos (IntKind.u64.wrap t) (show (0:Int)<m by omega);obtain⟨k,hk⟩:=Int.eq_ofNat_of_zero_le h3;exact⟨k,hk,by omega⟩
theorem aO (w:World)(hr:Tabs w)(A t:Int)(S:Nat)(hS:Su S)(RR:Nat)(hR:Su RR)(p:Option Addr)(n c:Nat)(xs:List Nat)(h:Br w .u64 p n c xs)(h64:∀x∈xs,Su x)(FI SE PE:Int)(pb:Option Addr)(nb cb:Nat)(bad:List (Int×Nat))(hb:Nx w pb nb cb bad) :
  Calls Tryz.prog 9 #[.int .i64 A,.int .i64 t,.int .u64 (S:Nat),.int .u64 (RR:Nat),.slice p n c,.int .i64 FI,.int .i64 SE,.int .i64 PE,.slice pb nb cb] w fun e w'=>e=.returned (.bool true)/\Below w.heap.size w w':=by
 have HLI:=Ab Tj;have HMD:=Ab cP;have HTb:=Ab hr;have HRW:=Ab h;have H64:=Ab h64;have HBAD:=Ab hb;have HBL:=Ab hb.len;have hcap:=hb.cap;have hmax:=hb.max;have HS64:Aa (S<18446744073709551616):=⟨hS⟩
 have HR64:Aa (RR<18446744073709551616):=⟨hR⟩
 obtain⟨i,hi⟩:∃i,((IntKind.u64.wrap A)%3).toNat=i:=⟨_,rfl⟩
 have HI3:Aa (i<3):=⟨by rw[<-hi];exact kN A⟩
 have HI:=Ab hi;obtain⟨hm,hm5⟩:=Zl t;obtain⟨M,hM⟩:∃k,Uv t=k:=⟨_,rfl⟩
 rw[hM]at hm5
 have HM5:=Ab hm5;have HMt:=Ab hM;clear hm hm5 hM hi h h64 hb hr hS hR;go_enter Tryz.func9,Tryz.ntmps9
 go_wp2_with fail
 refine(HLI.out w HTb.out).mono ?_;rintro en w1 ⟨rfl,b1⟩;have HB:=Ab b1;replace HTb:Aa _:=⟨HTb.out.below b1 HTb.out.size⟩
 replace HBAD:Aa _:=⟨HBAD.out.below b1⟩
 clear b1
 by_cases hb6:6<nb
 .have hb6':(6:Int)<nb:=by omega
  go_wp2_with fail
  refine(HLI.out w1 HTb.out).mono ?_;rintro en w2 ⟨rfl,b2⟩;replace HB:Aa _:=⟨Ae HB.out b2⟩
  clear b2;go_wp2;go_ret;exact⟨rfl,HB.out⟩
 have hb6':¬(6:Int)<nb:=by omega
 have HNB:Aa (nb<=6):=⟨by omega⟩
 clear hb6
 go_wp2_with fail
 refine(HMD.out w1 HTb.out A t S RR HS64.out HR64.out p n c xs (HRW.out.below HB.out) H64.out).mono ?_;rintro en w2 ⟨b,q1,c1,q2,c2,aa,bb,rfl,la,lb,hg,h1,h2,b2⟩;rw[HMt.out]at la lb h1 h2 ⊢
 replace HBAD:Aa _:=⟨HBAD.out.below b2⟩
 replace HB:Aa _:=⟨Ae HB.out b2⟩
 clear b2;rw[HI.out]at hg h1 h2
 obtain⟨P,hP⟩:∃q,gP i=q:=⟨_,rfl⟩
 obtain⟨Q,hq⟩:∃q,gQ i=q:=⟨_,rfl⟩
 obtain⟨GG,hgg⟩:∃q,gG i=q:=⟨_,rfl⟩
 obtain⟨HH,hhh⟩:∃q,gH i=q:=⟨_,rfl⟩
 have HP2:Aa (2<=P):=⟨by have:=Ih i HI3.out;omega⟩
 have HQ64:Aa (64<Q):=⟨by have:=Ih i HI3.out;omega⟩
 have HQP:Aa (Bf Q):=⟨by rw[<-hq];exact kW i HI3.out⟩
 have HNO:Aa (GG%P≠1%P):=⟨by rw[<-hgg,<-hP];exact kV i HI3.out⟩
 have HGM:Aa (GG^Q%P=1%P):=⟨by
  have h1:=Vc i HI3.out;rw[hq,hP,hgg]at h1
  rw[h1,Nat.mod_eq_of_lt (by have:=HP2.out;omega)]⟩
 have HHM:Aa (HH^Q%P=1%P):=⟨by
  have h1:=gK i HI3.out;rw[hq,hP,hhh]at h1
  rw[h1,Nat.mod_eq_of_lt (by have:=HP2.out;omega)]⟩
 rw[hP,hq,hgg,hhh]at hg
 rw[hq]at h1 h2
 obtain⟨T,hT⟩:∃k,M+1=k:=⟨_,rfl⟩
 rw[hT]at h1 h2 ⊢
 have HT:Aa (1<=T/\T<=6):=⟨by have:=HM5.out;omega⟩
 obtain⟨VS,hVS⟩:∃l,Gf Q S aa=l:=⟨_,rfl⟩
 obtain⟨MS,hMS⟩:∃l,Gf Q RR bb=l:=⟨_,rfl⟩
 have HVL:Aa (VS.length=T/\MS.length=T):=⟨by rw[<-hVS,<-hMS,Hk,Hk,la,lb,hT];exact⟨rfl,rfl⟩⟩
 have HV0:Aa (Bp Q 0 VS=S%Q/\Bp Q 0 MS=RR%Q):=⟨by rw[<-hVS,<-hMS];exact⟨Ul (by have:=HQ64.out;omega) _ _,Ul (by have:=HQ64.out;omega) _ _⟩⟩
 rw[hVS]at h1
 rw[hMS]at h2
 have HG:=Ab hg;have HA:=Ab h1;have HBB:=Ab h2;clear hg h1 h2 hP hq hgg hhh la lb hVS hMS hT;have b3:Below w2.heap.size w2 (w2.alloc (.cells #[.slice q1 T c1,.slice q2 T c2] 64)):=Bq;have hbx:Bx 64 (w2.alloc (.cells #[.slice q1 T c1,.slice q2 T c2] 64)) w2.heap.size (.slice q1 T c1) (.slice q2 T c2):=Bx.made _ _ _ _;obtain⟨bd,hbd⟩:∃zz,w2.heap.size=zz:=⟨_,rfl⟩
 obtain⟨w3,hw3⟩:∃zz,w2.alloc (.cells #[.slice q1 T c1,.slice q2 T c2] 64)=zz:=⟨_,rfl⟩
 rw[hw3]at b3 hbx
 rw[hbd]at hbx
 have HXD:=Ab hbx;clear hbx;replace HBAD:Aa _:=⟨HBAD.out.below b3⟩
 replace HG:Aa _:=⟨HG.out.below b3⟩
 replace HA:Aa _:=⟨HA.out.below b3⟩
 replace HBB:Aa _:=⟨HBB.out.below b3⟩
 replace HB:Aa _:=⟨Ae HB.out b3⟩
 clear b3
 go_wp2_with fail
 refine(Dx HG.out).mono ?_;rintro en w4 ⟨r,rfl,hr,b4⟩;have HR:=Ab hr;replace HBAD:Aa _:=⟨HBAD.out.below b4⟩
 replace HG:Aa _:=⟨HG.out.below b4⟩
 replace HA:Aa _:=⟨HA.out.below b4⟩
 replace HBB:Aa _:=⟨HBB.out.below b4⟩
 replace HXD:Aa _:=⟨HXD.out.later b4⟩
 replace HB:Aa _:=⟨Ae HB.out b4⟩
 clear b4 hr hw3 hbd;obtain⟨a0,ha0,ha1⟩:=Rp FI 10 (by decide);obtain⟨y0,hy0,hy1⟩:=Rp SE 8 (by decide);obtain⟨e0,he0,he1⟩:=Rp PE 64 (by decide);replace ha0:IntKind.u64.wrap FI%10=(a0:Int):=ha0;replace hy0:IntKind.u64.wrap SE%8=(y0:Int):=hy0;replace he0:IntKind.u64.wrap PE%64=(e0:Int):=he0;obtain⟨AT,hAT⟩:∃k,1+a0=k:=⟨_,rfl⟩
 obtain⟨BY,hBY⟩:∃k,1+y0=k:=⟨_,rfl⟩
 obtain⟨EE,hEE⟩:∃k,1+e0=k:=⟨_,rfl⟩
 have ra:(1:Int)+a0=AT:=by omega
 have ry:(1:Int)+y0=BY:=by omega
 have re:(1:Int)+e0=EE:=by omega
 have HAB:Aa (1<=AT/\AT<=10/\1<=BY/\BY<=8):=⟨by omega⟩
 have HEE:Aa (1<=EE/\EE<=64):=⟨by omega⟩
 have HJs:Aa (∀i,i<T->AT+i*BY<=64):=⟨fun i hi=>by
  have h1:=HT.out;have h2:=HAB.out;have:i*BY<=5*8:=Nat.mul_le_mul (by omega) (by omega);omega⟩
 have ra5:AT<=10:=by omega
 have ry5:BY<=8:=by omega
 have re5:EE<=64:=by omega
 have hUF:0<=IntKind.u64.wrap FI:=by rw[IntKind.wrap_u64];omega
 have hUS:0<=IntKind.u64.wrap SE:=by rw[IntKind.wrap_u64];omega
 have hUE:0<=IntKind.u64.wrap PE:=by rw[IntKind.wrap_u64];omega
 clear hAT hBY hEE;have HW4:Aa (Below w4.heap.size w4 w4):=⟨Ba _ _⟩
 go_wp2;clear ha0 hy0 ra ry ha1 hy1 hUF hUS
 go_loopw [25,27,73] (fun vl _ iv wr=>∃(k:Nat) (LB:List (Int×Nat)),k<=nb/\iv=.int .i64 k/\Aa (LB.length<=k)/\Aa (Below w4.heap.size w4 wr)/\Aa (He wr w4.heap.size vl LB)) (fun _ _ iv _=>nb-(intOf iv).toNat)
 case atStart=>exact⟨0,[],by omega,rfl,⟨Av _⟩,HW4,⟨He.nil⟩⟩
 case round=>
  clear HW4;obtain⟨k,LB,hk,rfl,HLB,HBr,HO⟩:=hrel
  by_cases hkn:k<nb
  .obtain⟨s,hSk⟩:∃s,bad[k]? = some s:=⟨bad[k]'(by rw[<-HBL.out];exact hkn),List.getElem?_eq_getElem _⟩
   obtain⟨bb1,off,rfl,hbl,Bb⟩:=HBAD.out.at_ (by omega)
   obtain⟨x0,x1,x2⟩:=Bb k s hSk;obtain⟨JJ,Y⟩:=s
   dsimp only at x0 x1 x2
   have c0:wr.cell? ⟨bb1,off+k*2,none⟩=some (.int .i64 JJ):=(HBr.out.cell (p:=⟨bb1,off+k*2,none⟩) hbl).trans x0;have cc1:wr.cell? ⟨bb1,off+k*2+1,none⟩=some (.int .u64 (Y:Nat)):=(HBr.out.cell (p:=⟨bb1,off+k*2+1,none⟩) hbl).trans x1;have HY64:Aa (Y<18446744073709551616):=⟨x2⟩
   have hkn':(k:Int)<nb:=by omega
   have b5:Below wr.heap.size wr (wr.alloc (.cells #[.int .i64 JJ,.int .u64 (Y:Nat)] 102)):=Bq;have hbx:Bx 102 (wr.alloc (.cells #[.int .i64 JJ,.int .u64 (Y:Nat)] 102)) wr.heap.size (.int .i64 JJ) (.int .u64 (Y:Nat)):=Bx.made _ _ _ _;obtain⟨bt,hbt⟩:∃zz,wr.heap.size=zz:=⟨_,rfl⟩
   obtain⟨w5,hw5⟩:∃zz,wr.alloc (.cells #[.int .i64 JJ,.int .u64 (Y:Nat)] 102)=zz:=⟨_,rfl⟩
   rw[hw5]at b5 hbx
   rw[hbt]at hbx
   have HBT:=Ab hbx;clear hbx;replace HO:Aa _:=⟨HO.out.below b5⟩
   replace HBr:Aa _:=⟨Ae HBr.out b5⟩
   have HR5:=Ab (HR.out.below HBr.out);have HLL:Aa (LB.length<=1000000/\LB.length<=k):=⟨by have:=HLB.out;have:=HNB.out;omega⟩
   obtain⟨d0,d1⟩:=HBT.out.cells;clear hSk hbl Bb x0 x1 x2 b5 HLB
   go_wp2_with fail
   refine(Bi w5 HY64.out).mono ?_;rintro en w6 ⟨_,rfl,hf6,b6⟩;have HF6:=Ab hf6;replace HO:Aa _:=⟨HO.out.below b6⟩
   replace HR5:Aa _:=⟨HR5.out.below b6⟩
   replace HBT:Aa _:=⟨HBT.out.later b6⟩
   replace HBr:Aa _:=⟨Ae HBr.out b6⟩
   clear b6 hf6 d0 d1 c0 cc1 hw5 hbt
   go_wp2_with fail
   refine(Ce HR5.out HF6.out (by decide)).mono ?_;rintro en w7 ⟨_,rfl,hf7,b7⟩;have HF7:=Ab hf7;replace HO:Aa _:=⟨HO.out.below b7⟩
   replace HBT:Aa _:=⟨HBT.out.later b7⟩
   replace HBr:Aa _:=⟨Ae HBr.out b7⟩
   clear b7 hf7 HF6 HR5;obtain⟨tz,htz⟩:∃tz,decide (Y%Q=0)=tz:=⟨_,rfl⟩
   go_wp2_with fail
   refine(Oe HF7.out htz).mono ?_;rintro en w8 ⟨_,rfl,rfl,b8⟩;replace HO:Aa _:=⟨HO.out.below b8⟩
   replace HBT:Aa _:=⟨HBT.out.later b8⟩
   replace HBr:Aa _:=⟨Ae HBr.out b8⟩
   clear b8 HF7
   cases tz with
   | true=>
    clear htz;go_wp2;go_roundw
    case rel=>exact⟨k+1,LB,by omega,by go_num,⟨by have:=HLL.out;omega⟩,HBr,HO⟩
    case measure=>simp[intOf];omega
   | false=>
    clear htz;obtain⟨d0,d1⟩:=HBT.out.cells;have hb9:Below w8.heap.size w8 (w8.alloc (.cells #[.int .i64 JJ,.int .u64 (Y:Nat)] 102)):=Bq;have hx9:Bx 102 (w8.alloc (.cells #[.int .i64 JJ,.int .u64 (Y:Nat)] 102)) w8.heap.size (.int .i64 JJ) (.int .u64 (Y:Nat)):=Bx.made _ _ _ _;obtain⟨w9,hw9⟩:∃zz,w8.alloc (.cells #[.int .i64 JJ,.int .u64 (Y:Nat)] 102)=zz:=⟨_,rfl⟩
    rw[hw9]at hb9 hx9
    have hB9:=Ae HBr.out hb9;have ho9:=HO.out.below hb9;obtain⟨v9,wz,happ,hoz,hgz⟩:=ho9.app hB9.size (g:=w8.heap.size) (c:=1) (s:=(JJ,Y)) hx9.cells.1 hx9.cells.2 HY64.out HLL.out.1 85;have HOz:=Ab hoz;have HBz:Aa (Below w4.heap.size w4 wz):=⟨hB9.grown hgz hB9.size fun g hg=>(ho9.block g hg).1⟩
    clear hb9 hx9 hB9 ho9 hoz hgz HO HBT
    go_wp2_with (at_builtin;refine Lib.wpList_append_run _ rfl _ _ _ _ rfl _ _ rfl rfl _ _ happ ?_;refine Fd.out ?_)
    refine⟨?_⟩;clear happ d0 d1 hw9;go_wp2;go_roundw
    case rel=>exact⟨k+1,LB++[(JJ,Y)],by omega,by go_num,⟨by rw[List.length_append];have:=HLL.out;simp;omega⟩,HBz,HOz⟩
    case measure=>simp[intOf];omega
  .obtain rfl:k=nb:=by omega
   have hkn':¬(k:Int)<k:=by omega
   have HLBk:Aa (LB.length<=6):=⟨by have:=HLB.out;have:=HNB.out;omega⟩
   clear HLB;go_wp2
   go_loopw [25,28,29,30,90] (fun vl _ _ _ iv wr=>∃(k:Nat),k<=T/\iv=.int .i64 k/\Aa (Below w4.heap.size w4 wr)/\Aa (He wr w4.heap.size vl (LB++(List.range k).map fun i=>(((AT+i*BY:Nat):Int),0)))) (fun _ _ _ _ iv _=>T-(intOf iv).toNat)
   case atStart=>exact⟨0,by omega,rfl,HBr,⟨by rw[show (List.range 0).map (fun i=>(((AT+i*BY:Nat):Int),0))=([]:List (Int×Nat)) from rfl,List.append_nil];exact HO.out⟩⟩
   case round=>
    clear HBr HO;obtain⟨k,hk,rfl,HBr,HO⟩:=hrel
    by_cases hkT:k<T
    .obtain⟨KB,hKB'⟩:∃z,k*BY=z:=⟨_,rfl⟩
     obtain⟨J,hJ'⟩:∃z,AT+KB=z:=⟨_,rfl⟩
     have hKB:(k:Int)*(BY:Int)=(KB:Int):=by rw[<-hKB',Int.natCast_mul]
     have hJJ:(AT:Int)+(KB:Int)=(J:Int):=by omega
     have hJ64:J<=64:=by rw[<-hJ',<-hKB'];exact HJs.out k hkT
     have HJ:Aa (1<=J/\J<=64):=⟨by have:=HAB.out;omega⟩
     have hwKB:IntKind.i64.wrap (KB:Int)=KB:=IntWalk.i64_in _ (by omega);have hwJ:IntKind.i64.wrap (J:Int)=J:=IntWalk.i64_in _ (by omega);have hKB5:KB<=64:=by omega
     have HLs:Aa (LB++(List.range (k+1)).map (fun i=>(((AT+i*BY:Nat):Int),0))=(LB++(List.range k).map fun i=>(((AT+i*BY:Nat):Int),0))++[((J:Int),0)]):=⟨by
      rw[List.range_succ,List.map_append,List.append_assoc,List.map_singleton,hKB',hJ']⟩
     have HLl:Aa ((LB++(List.range k).map fun i=>(((AT+i*BY:Nat):Int),0)).length<=1000000):=⟨by
      rw[List.length_append,List.length_map,List.length_range];have:=HLBk.out;have:=HT.out;omega⟩
     obtain⟨LS,hLS⟩:∃l,LB++(List.range k).map (fun i=>(((AT+i*BY:Nat):Int),0))=l:=⟨_,rfl⟩
     rw[hLS]at HLs HLl HO
     have hkT':(k:Int)<T:=by omega
     have hT6:T<=6:=HT.out.2;have HG5:=Ab (HG.out.below HBr.out);have HXDr:=Ab (HXD.out.later HBr.out);obtain⟨d0,d1⟩:=HXDr.out.cells;clear hKB' hJ' hLS HXDr
     go_wp2_with fail
     refine(My (As:=VS) (Bs:=MS) HG5.out (HA.out.below HBr.out) (HBB.out.below HBr.out) (by decide) (by decide) (by have:=HT.out;omega) (by have:=HT.out;omega) HJ.out rfl rfl).mono ?_;rintro en w5 ⟨x,y,rfl,s1,s2,b5⟩;have HSX:Aa (Cr w5 x (Bp Q J VS)/\Bp Q J VS<An 33):=⟨s1,Nat.lt_trans (Fa (by have:=HQ64.out;omega) _) HG.out.lims.2.2.2⟩
     have HSY:Aa (Cr w5 y (Bp Q J MS)/\Bp Q J MS<An 33):=⟨s2,Nat.lt_trans (Fa (by have:=HQ64.out;omega) _) HG.out.lims.2.2.2⟩
     replace HO:Aa _:=⟨HO.out.below b5⟩
     replace HBr:Aa _:=⟨Ae HBr.out b5⟩
     clear s1 s2 b5 HG5 d0 d1;have b6:Below w5.heap.size w5 (w5.alloc (.cells #[.slice x.1 x.2.1 x.2.2,.slice y.1 y.2.1 y.2.2] 75)):=Bq;have hbx:Bx 75 (w5.alloc (.cells #[.slice x.1 x.2.1 x.2.2,.slice y.1 y.2.1 y.2.2] 75)) w5.heap.size (.slice x.1 x.2.1 x.2.2) (.slice y.1 y.2.1 y.2.2):=Bx.made _ _ _ _;obtain⟨bs,hbs⟩:∃zz,w5.heap.size=zz:=⟨_,rfl⟩
     obtain⟨w6,hw6⟩:∃zz,w5.alloc (.cells #[.slice x.1 x.2.1 x.2.2,.slice y.1 y.2.1 y.2.2] 75)=zz:=⟨_,rfl⟩
     rw[hw6]at b6 hbx
     rw[hbs]at hbx
     have HXS:=Ab hbx;clear hbx;replace HO:Aa _:=⟨HO.out.below b6⟩
     replace HBr:Aa _:=⟨Ae HBr.out b6⟩
     replace HSX:Aa (Cr w6 x (Bp Q J VS)/\Bp Q J VS<An 33):=⟨HSX.out.1.below b6,HSX.out.2⟩
     replace HSY:Aa (Cr w6 y (Bp Q J MS)/\Bp Q J MS<An 33):=⟨HSY.out.1.below b6,HSY.out.2⟩
     have HMB:Aa ((Cw P Q GG HH VS MS).all (Ov P Q)=true):=⟨Ut HP2.out (by have:=HQ64.out;omega) HGM.out HHM.out⟩
     have HOP:Aa (Ht P Q GG HH (Cw P Q GG HH VS MS) J (Bp Q J VS) (Bp Q J MS)=true):=⟨cJ HP2.out (by have:=HQ64.out;omega) HGM.out HHM.out⟩
     have HGr:=Ab (HG.out.below HBr.out);have HAr:=Ab (HA.out.below HBr.out);have HBBr:=Ab (HBB.out.below HBr.out);have HXDr:=Ab (HXD.out.later HBr.out);clear b6;go_wp2;refine Ak (by kernel_rfl) (by kernel_rfl)
      [some (.int .i64 0),some (.bool false),some (.bool false),some (.pointer (some ⟨b,0,none⟩)),some (.int .i64 (T:Int)),some (.agg #[.slice q1 T c1,.slice q2 T c2]),some (.pointer (some ⟨b,0,none⟩)),none,some (.int .i64 (AT:Int)),some (.int .i64 (k:Int)),some (.int .i64 (BY:Int)),some (.int .i64 (KB:Int)),some (.int .i64 (J:Int)),some (.agg #[.slice x.1 x.2.1 x.2.2,.slice y.1 y.2.1 y.2.2]),none,some (.bool false),some (.bool false)]
      [false,false,false,false,false,false,false,true,false,false,false,false,false,false,true,false,false] rfl
      (fun w1 w2=>Below w1.heap.size w1 w2)
      (fun _ w'=>Below w6.heap.size w6 w')
      (fun i v w'=>match i with
       | 7=>pR T (Cw P Q GG HH VS MS) v w'
       | 14=>v=.bool true
       | _=>True)
      ?_ (Ba _ _).drew ?_ ?_
     .intro i v w1 w2 hf hb;split at hf
      .exact hf.below hb
      .exact hf
      .trivial
     .simp only[Be,Nat.reduceAdd];refine⟨?_,?_,?_,?_,?_,?_,?_,?_,?_,?_,?_,?_,?_,?_,?_,?_,?_,trivial⟩
      all_goals intro D sp w' hD hW hdp hbx'
      case refine_6=>
       have cz0:=(HXDr.out.below hbx' HXDr.out.lt).cells.1;have cz1:=(HXDr.out.below hbx' HXDr.out.lt).cells.2
       with_reducible refine Ad ?_ ?_
       all_goals simp[Region.wanted,yielded,execOp,Act.eval,Act.put,go_sem,cz0,cz1]
      case refine_8=>
       (with_reducible refine Ac (w1:=w') (f := 43) (args:=#[.agg #[.slice q1 T c1,.slice q2 T c2],.pointer (some ⟨b,0,none⟩)]) ?_ ?_ ?_)
       .simp[Region.wanted,yielded,Act.put,go_sem]
       .simp[Act.eval,Act.put,go_sem]
       .refine(Pc (HGr.out.below hbx') (HAr.out.below hbx') (HBBr.out.below hbx') (by have:=HT.out;omega)).mono ?_;rintro en w9 ⟨u,rfl,hu,hb⟩;exact⟨u,rfl,hb,hu,Ae hbx' hb⟩
      case refine_12=>
       (with_reducible refine Ai (w1:=w') (v:=.int .i64 (KB:Int)) ?_ ?_ ?_)
       .simp[Region.wanted,yielded,Act.put,go_sem]
       .simp[execOp,Act.eval,Act.put,go_sem,hKB,hwKB]
       .exact⟨rfl,rfl⟩
      case refine_13=>
       (with_reducible refine Ai (w1:=w') (v:=.int .i64 (J:Int)) ?_ ?_ ?_)
       .simp[Region.wanted,yielded,Act.put,go_sem]
       .simp[execOp,Act.eval,Act.put,go_sem,hJJ,hwJ]
       .exact⟨rfl,rfl⟩
      case refine_14=>
       have cz0:=(HXS.out.below hbx' HXS.out.lt).cells.1;have cz1:=(HXS.out.below hbx' HXS.out.lt).cells.2
       with_reducible refine Ad ?_ ?_
       all_goals simp[Region.wanted,yielded,execOp,Act.eval,Act.put,go_sem,cz0,cz1]
      case refine_15=>
       have hx:∃g,sp 7=.slice (some ⟨g,0,none⟩) T T/\Aq w' 33 (some ⟨g,0,none⟩) T T (Cw P Q GG HH VS MS):=(hdp 7 (mq (by kernel_rfl))).2
       (with_reducible refine Aw hx fun g7 hx1=>?_)
       have h7:=hx1.1
       (with_reducible refine Ac (w1:=w') (f := 52) (args:=#[.pointer (some ⟨b,0,none⟩),.int .i64 (T:Int),.slice (some ⟨g7,0,none⟩) T T,.int .i64 (J:Int),.agg #[.slice x.1 x.2.1 x.2.2,.slice y.1 y.2.1 y.2.2]]) ?_ ?_ ?_)
       .simp[Region.wanted,yielded,Act.put,go_sem]
       .simp[Act.eval,Act.put,go_sem,h7]
       .refine(aN (es:=33) (er:=33) (HGr.out.below hbx') (HSX.out.1.below hbx') HSX.out.2 (HSY.out.1.below hbx') HSY.out.2 hx1.2 (by decide) (by decide) (by decide) (by have:=HT.out;omega) HMB.out HJ.out).mono ?_;rintro en w9 ⟨rfl,hb⟩;rw[HOP.out];exact⟨_,rfl,hb,rfl,Ae hbx' hb⟩
      case refine_16=>
       have k14:(sp 14)=.bool true:=(hdp 14 (mq (by kernel_rfl))).2
       with_reducible refine Ad ?_ ?_
       all_goals simp[Region.wanted,yielded,execOp,Act.eval,Act.put,go_sem,k14]
      all_goals ((with_reducible refine Ad ?_ ?_);all_goals first|(simp only[Region.wanted];done)|simp[Region.wanted,yielded,execOp,Act.eval,Act.put,go_sem])
     .intro sp w9 hsp hbx';replace HO:Aa _:=⟨HO.out.below hbx'⟩
      replace HBr:Aa _:=⟨Ae HBr.out hbx'⟩
      clear hsp hbx' HGr HAr HBBr HXDr HSX HSY HMB HOP HXS hw6 hbs hwKB hwJ;simp only[Al,Nat.reduceAdd];generalize sp 7=y7,sp 14=y14 at *
      go_simp
      have hbA:Below w9.heap.size w9 (w9.alloc (.cells #[.int .i64 (J:Int),.int .u64 0] 102)):=Bq;have hxA:Bx 102 (w9.alloc (.cells #[.int .i64 (J:Int),.int .u64 0] 102)) w9.heap.size (.int .i64 (J:Int)) (.int .u64 0):=Bx.made _ _ _ _;obtain⟨wA,hwA⟩:∃zz,w9.alloc (.cells #[.int .i64 (J:Int),.int .u64 0] 102)=zz:=⟨_,rfl⟩
      rw[hwA]at hbA hxA
      have hBA:=Ae HBr.out hbA;have hoA:=HO.out.below hbA;obtain⟨vz,wz,happ,hoz,hgz⟩:=hoA.app hBA.size (g:=w9.heap.size) (c:=1) (s:=((J:Int),0)) hxA.cells.1 hxA.cells.2 (show Su 0 by unfold Su;omega) HLl.out 85;have HOz:=Ab hoz;have HBz:Aa (Below w4.heap.size w4 wz):=⟨hBA.grown hgz hBA.size fun g hg=>(hoA.block g hg).1⟩
      clear hbA hxA hBA hoA hoz hgz HO
      go_wp2_with (at_builtin;refine Lib.wpList_append_run _ rfl _ _ _ _ rfl _ _ rfl rfl _ _ happ ?_;refine Fd.out ?_)
      refine⟨?_⟩;clear happ hwA;go_wp2;go_roundw
      case rel=>exact⟨k+1,by omega,by go_num,HBz,⟨by rw[HLs.out];exact HOz.out⟩⟩
      case measure=>simp[intOf];omega
    .obtain rfl:k=T:=by omega
     have hkT':¬(k:Int)<k:=by omega
     obtain⟨LL,hLL⟩:∃l,LB++(List.range k).map (fun i=>(((AT+i*BY:Nat):Int),0))=l:=⟨_,rfl⟩
     rw[hLL]at HO
     have HIN:Aa (∀i,i<k->(((AT+i*BY:Nat):Int),0)∈LL):=⟨fun i hi=>by rw[<-hLL];exact List.mem_append_right _ (List.mem_map.2 ⟨i,List.mem_range.2 hi,rfl⟩)⟩
     have hLn:LL.length<=12:=by
      rw[<-hLL,List.length_append,List.length_map,List.length_range];have:=HLBk.out;have:=HT.out;omega
     obtain⟨ql,cl,rfl,hpt⟩:=HO.out.told;obtain⟨nl,hnl⟩:∃z,LL.length=z:=⟨_,rfl⟩
     rw[hnl]at hpt hLn ⊢
     have HPT:=Ab hpt;have HNL:Aa (nl<=1000):=⟨by omega⟩
     have HCNT:=Ab (dQ (LL:=LL) (vs:=VS) (ms:=MS) HQP.out HP2.out HGM.out HHM.out HNO.out HAB.out.1 HAB.out.2.2.1 HJs.out HIN.out);have HTLD:=Ab (iK (vs:=VS) (ms:=MS) HQP.out HQ64.out HP2.out HGM.out HHM.out HNO.out HVL.out.1 HVL.out.2 HCNT.out);have HMB:Aa ((Cw P Q GG HH VS MS).all (Ov P Q)=true):=⟨Ut HP2.out (by have:=HQ64.out;omega) HGM.out HHM.out⟩
     obtain⟨PCS,hPCS⟩:∃l,LL.map (fun x=>Cg Q VS MS x.1 x.2)=l:=⟨_,rfl⟩
     rw[hPCS]at HCNT HTLD
     have HPCS:=Ab hPCS;have hk1000:k<=1000:=by have:=HT.out;omega
     replace HG:Aa _:=⟨HG.out.below HBr.out⟩
     replace HA:Aa _:=⟨HA.out.below HBr.out⟩
     replace HBB:Aa _:=⟨HBB.out.below HBr.out⟩
     replace HXD:Aa _:=⟨HXD.out.later HBr.out⟩
     replace HR:Aa _:=⟨HR.out.below HBr.out⟩
     replace HB:Aa _:=⟨Ae HB.out HBr.out⟩
     obtain⟨d0,d1⟩:=HXD.out.cells;clear hLL hLn hpt hnl HO HBr HLBk hPCS
     go_wp2_with fail
     refine(Wj HG.out HA.out HBB.out HPT.out hk1000 hk1000 HNL.out).mono ?_;rintro en w5 ⟨pq,cq,rfl,hpc,b5⟩;rw[HPCS.out]at hpc ⊢
     obtain⟨np,hnp⟩:∃z,PCS.length=z:=⟨_,rfl⟩
     rw[hnp]at hpc ⊢
     have HPC:=Ab hpc;replace HG:Aa _:=⟨HG.out.below b5⟩
     replace HA:Aa _:=⟨HA.out.below b5⟩
     replace HBB:Aa _:=⟨HBB.out.below b5⟩
     replace HXD:Aa _:=⟨HXD.out.later b5⟩
     replace HR:Aa _:=⟨HR.out.below b5⟩
     replace HB:Aa _:=⟨Ae HB.out b5⟩
     clear b5 hpc hnp d0 d1 HPT;obtain⟨d0,d1⟩:=HXD.out.cells
     go_wp2_with fail
     refine(Pc HG.out HA.out HBB.out hk1000).mono ?_;rintro en w6 ⟨_,rfl,⟨gp,rfl,hpl⟩,bb5⟩;have HPL:=Ab hpl;replace HG:Aa _:=⟨HG.out.below bb5⟩
     replace HA:Aa _:=⟨HA.out.below bb5⟩
     replace HBB:Aa _:=⟨HBB.out.below bb5⟩
     replace HXD:Aa _:=⟨HXD.out.later bb5⟩
     replace HR:Aa _:=⟨HR.out.below bb5⟩
     replace HPC:Aa _:=⟨HPC.out.below bb5⟩
     replace HB:Aa _:=⟨Ae HB.out bb5⟩
     clear bb5 hpl d0 d1
     go_wp2_with fail
     refine(Rq (X:=0) (A1:=S%Q) (A2:=RR%Q) HQP.out HQ64.out HG.out HPL.out HPC.out (eM _) (by decide) (by decide) (by have:=HT.out;omega) HMB.out HCNT.out (by rw[(HTLD.out 0).1];exact HV0.out.1) (by rw[(HTLD.out 0).2];exact HV0.out.2)).mono ?_;rintro en w7 ⟨a1,a2,rfl,hn1,hn2,bb6⟩;have HN1:=Ab hn1;have HN2:=Ab hn2;replace HG:Aa _:=⟨HG.out.below bb6⟩
     replace HA:Aa _:=⟨HA.out.below bb6⟩
     replace HBB:Aa _:=⟨HBB.out.below bb6⟩
     replace HXD:Aa _:=⟨HXD.out.later bb6⟩
     replace HR:Aa _:=⟨HR.out.below bb6⟩
     replace HPC:Aa _:=⟨HPC.out.below bb6⟩
     replace HB:Aa _:=⟨Ae HB.out bb6⟩
     clear bb6 hn1 hn2 HPL;have bq:Below w7.heap.size w7 (w7.alloc (.cells #[.slice a1.1 a1.2.1 a1.2.2,.slice a2.1 a2.2.1 a2.2.2] 75)):=Bq;have hbx:Bx 75 (w7.alloc (.cells #[.slice a1.1 a1.2.1 a1.2.2,.slice a2.1 a2.2.1 a2.2.2] 75)) w7.heap.size (.slice a1.1 a1.2.1 a1.2.2) (.slice a2.1 a2.2.1 a2.2.2):=Bx.made _ _ _ _;obtain⟨b1,hb1⟩:∃zz,w7.heap.size=zz:=⟨_,rfl⟩
     obtain⟨w8,hw8⟩:∃zz,w7.alloc (.cells #[.slice a1.1 a1.2.1 a1.2.2,.slice a2.1 a2.2.1 a2.2.2] 75)=zz:=⟨_,rfl⟩
     rw[hw8]at bq hbx
     rw[hb1]at hbx
     have HXb1:=Ab hbx;clear hbx;replace HG:Aa _:=⟨HG.out.below bq⟩
     replace HA:Aa _:=⟨HA.out.below bq⟩
     replace HBB:Aa _:=⟨HBB.out.below bq⟩
     replace HXD:Aa _:=⟨HXD.out.later bq⟩
     replace HR:Aa _:=⟨HR.out.below bq⟩
     replace HPC:Aa _:=⟨HPC.out.below bq⟩
     replace HB:Aa _:=⟨Ae HB.out bq⟩
     replace HN1:Aa (_/\_):=⟨HN1.out.1.below bq,HN1.out.2⟩
     replace HN2:Aa (_/\_):=⟨HN2.out.1.below bq,HN2.out.2⟩
     clear bq;obtain⟨d0,d1⟩:=HXD.out.cells
     go_wp2_with fail
     refine(Pc HG.out HA.out HBB.out hk1000).mono ?_;rintro en w9 ⟨_,rfl,⟨gp,rfl,hpl⟩,bb5⟩;have HPL:=Ab hpl;replace HG:Aa _:=⟨HG.out.below bb5⟩
     replace HA:Aa _:=⟨HA.out.below bb5⟩
     replace HBB:Aa _:=⟨HBB.out.below bb5⟩
     replace HXD:Aa _:=⟨HXD.out.later bb5⟩
     replace HR:Aa _:=⟨HR.out.below bb5⟩
     replace HPC:Aa _:=⟨HPC.out.below bb5⟩
     replace HXb1:Aa _:=⟨HXb1.out.later bb5⟩
     replace HB:Aa _:=⟨Ae HB.out bb5⟩
     replace HN1:Aa (_/\_):=⟨HN1.out.1.below bb5,HN1.out.2⟩
     replace HN2:Aa (_/\_):=⟨HN2.out.1.below bb5,HN2.out.2⟩
     clear bb5 hpl d0 d1;have hwE:IntKind.u64.wrap (EE:Int)=EE:=IntWalk.u64_in _ (by have:=HEE.out;omega);have HEL:Aa (EE<18446744073709551616):=⟨by have:=HEE.out;omega⟩
     go_wp2_with fail
     refine(Bi _ HEL.out).mono ?_;rintro en wA ⟨xe,rfl,hxe,bb7⟩;have HXE:=Ab hxe;replace HG:Aa _:=⟨HG.out.below bb7⟩
     replace HA:Aa _:=⟨HA.out.below bb7⟩
     replace HBB:Aa _:=⟨HBB.out.below bb7⟩
     replace HXD:Aa _:=⟨HXD.out.later bb7⟩
     replace HR:Aa _:=⟨HR.out.below bb7⟩
     replace HPC:Aa _:=⟨HPC.out.below bb7⟩
     replace HXb1:Aa _:=⟨HXb1.out.later bb7⟩
     replace HPL:Aa _:=⟨HPL.out.below bb7⟩
     replace HB:Aa _:=⟨Ae HB.out bb7⟩
     replace HN1:Aa (_/\_):=⟨HN1.out.1.below bb7,HN1.out.2⟩
     replace HN2:Aa (_/\_):=⟨HN2.out.1.below bb7,HN2.out.2⟩
     clear bb7 hxe
     go_wp2_with fail
     refine(Rq (X:=EE) (A1:=Bp Q EE VS) (A2:=Bp Q EE MS) HQP.out HQ64.out HG.out HPL.out HPC.out HXE.out (by decide) (by decide) (by have:=HT.out;omega) HMB.out HCNT.out (HTLD.out EE).1 (HTLD.out EE).2).mono ?_;rintro en wB ⟨a3,a4,rfl,hn1,hn2,bb6⟩;have HN3:=Ab hn1;have HN4:=Ab hn2;replace HG:Aa _:=⟨HG.out.below bb6⟩
     replace HA:Aa _:=⟨HA.out.below bb6⟩
     replace HBB:Aa _:=⟨HBB.out.below bb6⟩
     replace HXD:Aa _:=⟨HXD.out.later bb6⟩
     replace HR:Aa _:=⟨HR.out.below bb6⟩
     replace HPC:Aa _:=⟨HPC.out.below bb6⟩
     replace HXb1:Aa _:=⟨HXb1.out.later bb6⟩
     replace HB:Aa _:=⟨Ae HB.out bb6⟩
     replace HN1:Aa (_/\_):=⟨HN1.out.1.below bb6,HN1.out.2⟩
     replace HN2:Aa (_/\_):=⟨HN2.out.1.below bb6,HN2.out.2⟩
     clear bb6 hn1 hn2 HPL HXE hwE;have bq:Below wB.heap.size wB (wB.alloc (.cells #[.slice a3.1 a3.2.1 a3.2.2,.slice a4.1 a4.2.1 a4.2.2] 75)):=Bq;have hbx:Bx 75 (wB.alloc (.cells #[.slice a3.1 a3.2.1 a3.2.2,.slice a4.1 a4.2.1 a4.2.2] 75)) wB.heap.size (.slice a3.1 a3.2.1 a3.2.2) (.slice a4.1 a4.2.1 a4.2.2):=Bx.made _ _ _ _;obtain⟨b2,hb2⟩:∃zz,wB.heap.size=zz:=⟨_,rfl⟩
     obtain⟨wC,hwC⟩:∃zz,wB.alloc (.cells #[.slice a3.1 a3.2.1 a3.2.2,.slice a4.1 a4.2.1 a4.2.2] 75)=zz:=⟨_,rfl⟩
     rw[hwC]at bq hbx
     rw[hb2]at hbx
     have HXb2:=Ab hbx;clear hbx;replace HG:Aa _:=⟨HG.out.below bq⟩
     replace HA:Aa _:=⟨HA.out.below bq⟩
     replace HBB:Aa _:=⟨HBB.out.below bq⟩
     replace HXD:Aa _:=⟨HXD.out.later bq⟩
     replace HR:Aa _:=⟨HR.out.below bq⟩
     replace HPC:Aa _:=⟨HPC.out.below bq⟩
     replace HXb1:Aa _:=⟨HXb1.out.later bq⟩
     replace HB:Aa _:=⟨Ae HB.out bq⟩
     replace HN1:Aa (_/\_):=⟨HN1.out.1.below bq,HN1.out.2⟩
     replace HN2:Aa (_/\_):=⟨HN2.out.1.below bq,HN2.out.2⟩
     replace HN3:Aa (_/\_):=⟨HN3.out.1.below bq,HN3.out.2⟩
     replace HN4:Aa (_/\_):=⟨HN4.out.1.below bq,HN4.out.2⟩
     clear bq;obtain⟨d0,d1⟩:=HXD.out.cells
     go_wp2_with fail
     refine(My (As:=VS) (Bs:=MS) HG.out HA.out HBB.out (by decide) (by decide) hk1000 hk1000 HEE.out rfl rfl).mono ?_;rintro en wD ⟨a5,a6,rfl,hn1,hn2,bb8⟩;have HN5:Aa (Cr wD a5 (Bp Q EE VS)/\Bp Q EE VS<An 33):=⟨hn1,Nat.lt_trans (Fa (by have:=HQ64.out;omega) _) HG.out.lims.2.2.2⟩
     have HN6:Aa (Cr wD a6 (Bp Q EE MS)/\Bp Q EE MS<An 33):=⟨hn2,Nat.lt_trans (Fa (by have:=HQ64.out;omega) _) HG.out.lims.2.2.2⟩
     replace HG:Aa _:=⟨HG.out.below bb8⟩
     replace HA:Aa _:=⟨HA.out.below bb8⟩
     replace HBB:Aa _:=⟨HBB.out.below bb8⟩
     replace HXD:Aa _:=⟨HXD.out.later bb8⟩
     replace HR:Aa _:=⟨HR.out.below bb8⟩
     replace HXb1:Aa _:=⟨HXb1.out.later bb8⟩
     replace HXb2:Aa _:=⟨HXb2.out.later bb8⟩
     replace HB:Aa _:=⟨Ae HB.out bb8⟩
     replace HN1:Aa (_/\_):=⟨HN1.out.1.below bb8,HN1.out.2⟩
     replace HN2:Aa (_/\_):=⟨HN2.out.1.below bb8,HN2.out.2⟩
     replace HN3:Aa (_/\_):=⟨HN3.out.1.below bb8,HN3.out.2⟩
     replace HN4:Aa (_/\_):=⟨HN4.out.1.below bb8,HN4.out.2⟩
     clear bb8 hn1 hn2 d0 d1 HPC;have bq:Below wD.heap.size wD (wD.alloc (.cells #[.slice a5.1 a5.2.1 a5.2.2,.slice a6.1 a6.2.1 a6.2.2] 75)):=Bq;have hbx:Bx 75 (wD.alloc (.cells #[.slice a5.1 a5.2.1 a5.2.2,.slice a6.1 a6.2.1 a6.2.2] 75)) wD.heap.size (.slice a5.1 a5.2.1 a5.2.2) (.slice a6.1 a6.2.1 a6.2.2):=Bx.made _ _ _ _;obtain⟨b3,hb3⟩:∃zz,wD.heap.size=zz:=⟨_,rfl⟩
     obtain⟨wE,hwE⟩:∃zz,wD.alloc (.cells #[.slice a5.1 a5.2.1 a5.2.2,.slice a6.1 a6.2.1 a6.2.2] 75)=zz:=⟨_,rfl⟩
     rw[hwE]at bq hbx
     rw[hb3]at hbx
     have HXb3:=Ab hbx;clear hbx;replace HG:Aa _:=⟨HG.out.below bq⟩
     replace HA:Aa _:=⟨HA.out.below bq⟩
     replace HBB:Aa _:=⟨HBB.out.below bq⟩
     replace HXD:Aa _:=⟨HXD.out.later bq⟩
     replace HR:Aa _:=⟨HR.out.below bq⟩
     replace HXb1:Aa _:=⟨HXb1.out.later bq⟩
     replace HXb2:Aa _:=⟨HXb2.out.later bq⟩
     replace HB:Aa _:=⟨Ae HB.out bq⟩
     replace HN1:Aa (_/\_):=⟨HN1.out.1.below bq,HN1.out.2⟩
     replace HN2:Aa (_/\_):=⟨HN2.out.1.below bq,HN2.out.2⟩
     replace HN3:Aa (_/\_):=⟨HN3.out.1.below bq,HN3.out.2⟩
     replace HN4:Aa (_/\_):=⟨HN4.out.1.below bq,HN4.out.2⟩
     replace HN5:Aa (_/\_):=⟨HN5.out.1.below bq,HN5.out.2⟩
     replace HN6:Aa (_/\_):=⟨HN6.out.1.below bq,HN6.out.2⟩
     clear bq;go_wp2;refine Ak (by kernel_rfl) (by kernel_rfl)
      [some (.int .i64 0),some (.bool true),some (.bool true),some (.int .i64 0),some (.bool true),some (.bool true),some (.bool true),some (.pointer (some ⟨b1,0,none⟩)),some (.agg #[.slice a1.1 a1.2.1 a1.2.2]),some (.pointer (some ⟨r,0,none⟩)),some (.int .u64 (S:Nat)),none,none,none,some (.bool true),some (.bool true),some (.bool true),some (.pointer (some ⟨b1,1,none⟩)),some (.agg #[.slice a2.1 a2.2.1 a2.2.2]),some (.pointer (some ⟨r,0,none⟩)),some (.int .u64 (RR:Nat)),none,none,none,some (.bool true),some (.bool true),some (.bool true),some (.pointer (some ⟨b2,0,none⟩)),some (.agg #[.slice a3.1 a3.2.1 a3.2.2]),some (.pointer (some ⟨b3,0,none⟩)),some (.agg #[.slice a5.1 a5.2.1 a5.2.2]),none,some (.bool true),some (.bool true),some (.bool true),some (.pointer (some ⟨b2,1,none⟩)),some (.agg #[.slice a4.1 a4.2.1 a4.2.2]),some (.pointer (some ⟨b3,1,none⟩)),some (.agg #[.slice a6.1 a6.2.1 a6.2.2]),none,some (.bool true),some (.bool true),some (.bool true)]
      [false,false,false,false,false,false,false,false,false,false,false,true,true,true,false,false,false,false,false,false,false,true,true,true,false,false,false,false,false,false,false,true,false,false,false,false,false,false,false,true,false,false,false] rfl
      (fun w1 w2=>Below w1.heap.size w1 w2)
      (fun _ w'=>Below wE.heap.size wE w')
      (fun i v w'=>match i with
       | 11=>Fit 2 S v w'
       | 12=>Fit 33 (S%Q) v w'
       | 13=>v=.int .i64 0
       | 21=>Fit 2 RR v w'
       | 22=>Fit 33 (RR%Q) v w'
       | 23=>v=.int .i64 0
       | 31=>v=.int .i64 0
       | 39=>v=.int .i64 0
       | _=>True)
      ?_ (Ba _ _).drew ?_ ?_
     .intro i v w1 w2 hf hb;split at hf
      .exact hf.below hb
      .exact hf.below hb
      .exact hf
      .exact hf.below hb
      .exact hf.below hb
      .exact hf
      .exact hf
      .exact hf
      .trivial
     .simp only[Be,Nat.reduceAdd];refine⟨?_,?_,?_,?_,?_,?_,?_,?_,?_,?_,?_,?_,?_,?_,?_,?_,?_,?_,?_,?_,?_,?_,?_,?_,?_,?_,?_,?_,?_,?_,?_,?_,?_,?_,?_,?_,?_,?_,?_,?_,?_,?_,?_,trivial⟩
      all_goals intro D sp w' hD hW hdp hbx'
      case refine_9=>
       have c0:=(HXb1.out.below hbx' HXb1.out.lt).cells.1
       with_reducible refine Ad ?_ ?_
       all_goals simp[Region.wanted,yielded,execOp,Act.eval,Act.put,go_sem,c0]
      case refine_12=>
       (with_reducible refine Ac (w1:=w') (f := 17) (args:=#[.int .u64 (S:Nat)]) ?_ ?_ ?_)
       .simp[Region.wanted,yielded,Act.put,go_sem]
       .simp[Act.eval,Act.put,go_sem]
       .refine(Bi _ HS64.out).mono ?_;rintro en w9 ⟨u,rfl,hu,hb⟩;exact⟨u,rfl,hb,hu,Ae hbx' hb⟩
      case refine_13=>
       have k11:Fit 2 S (sp 11) w':=(hdp 11 (mq (by kernel_rfl))).2
       (with_reducible refine Ac (w1:=w') (f := 31) (args:=#[.pointer (some ⟨r,0,none⟩),sp 11]) ?_ ?_ ?_)
       .simp[Region.wanted,yielded,Act.put,go_sem]
       .simp[Act.eval,Act.put,go_sem]
       .refine(Ce (HR.out.below hbx') k11 (by decide)).mono ?_;rintro en w9 ⟨u,rfl,hu,hb⟩;exact⟨u,rfl,hb,hu,Ae hbx' hb⟩
      case refine_14=>
       have k12:Fit 33 (S%Q) (sp 12) w':=(hdp 12 (mq (by kernel_rfl))).2
       (with_reducible refine Ac (w1:=w') (f := 24) (args:=#[.agg #[.slice a1.1 a1.2.1 a1.2.2],sp 12]) ?_ ?_ ?_)
       .simp[Region.wanted,yielded,Act.put,go_sem]
       .simp[Act.eval,Act.put,go_sem]
       .refine(Bc (Fit.of (HN1.out.1.below hbx') HN1.out.2) k12 (by decide) (by decide) (Bn.2 rfl)).mono ?_;rintro en w9 ⟨_,rfl,rfl,hb⟩;exact⟨_,rfl,hb,rfl,Ae hbx' hb⟩
      case refine_15=>
       have k13:(sp 13)=.int .i64 0:=(hdp 13 (mq (by kernel_rfl))).2
       with_reducible refine Ad ?_ ?_
       all_goals simp[Region.wanted,yielded,execOp,Act.eval,Act.put,go_sem,k13]
      case refine_19=>
       have c0:=(HXb1.out.below hbx' HXb1.out.lt).cells.2
       with_reducible refine Ad ?_ ?_
       all_goals simp[Region.wanted,yielded,execOp,Act.eval,Act.put,go_sem,c0]
      case refine_22=>
       (with_reducible refine Ac (w1:=w') (f := 17) (args:=#[.int .u64 (RR:Nat)]) ?_ ?_ ?_)
       .simp[Region.wanted,yielded,Act.put,go_sem]
       .simp[Act.eval,Act.put,go_sem]
       .refine(Bi _ HR64.out).mono ?_;rintro en w9 ⟨u,rfl,hu,hb⟩;exact⟨u,rfl,hb,hu,Ae hbx' hb⟩
      case refine_23=>
       have k21:Fit 2 RR (sp 21) w':=(hdp 21 (mq (by kernel_rfl))).2
       (with_reducible refine Ac (w1:=w') (f := 31) (args:=#[.pointer (some ⟨r,0,none⟩),sp 21]) ?_ ?_ ?_)
       .simp[Region.wanted,yielded,Act.put,go_sem]
       .simp[Act.eval,Act.put,go_sem]
       .refine(Ce (HR.out.below hbx') k21 (by decide)).mono ?_;rintro en w9 ⟨u,rfl,hu,hb⟩;exact⟨u,rfl,hb,hu,Ae hbx' hb⟩
      case refine_24=>
       have k22:Fit 33 (RR%Q) (sp 22) w':=(hdp 22 (mq (by kernel_rfl))).2
       (with_reducible refine Ac (w1:=w') (f := 24) (args:=#[.agg #[.slice a2.1 a2.2.1 a2.2.2],sp 22]) ?_ ?_ ?_)
       .simp[Region.wanted,yielded,Act.put,go_sem]
       .simp[Act.eval,Act.put,go_sem]
       .refine(Bc (Fit.of (HN2.out.1.below hbx') HN2.out.2) k22 (by decide) (by decide) (Bn.2 rfl)).mono ?_;rintro en w9 ⟨_,rfl,rfl,hb⟩;exact⟨_,rfl,hb,rfl,Ae hbx' hb⟩
      case refine_25=>
       have k23:(sp 23)=.int .i64 0:=(hdp 23 (mq (by kernel_rfl))).2
       with_reducible refine Ad ?_ ?_
       all_goals simp[Region.wanted,yielded,execOp,Act.eval,Act.put,go_sem,k23]
      case refine_29=>
       have c0:=(HXb2.out.below hbx' HXb2.out.lt).cells.1
       with_reducible refine Ad ?_ ?_
       all_goals simp[Region.wanted,yielded,execOp,Act.eval,Act.put,go_sem,c0]
      case refine_31=>
       have c0:=(HXb3.out.below hbx' HXb3.out.lt).cells.1
       with_reducible refine Ad ?_ ?_
       all_goals simp[Region.wanted,yielded,execOp,Act.eval,Act.put,go_sem,c0]
      case refine_32=>
       (with_reducible refine Ac (w1:=w') (f := 24) (args:=#[.agg #[.slice a3.1 a3.2.1 a3.2.2],.agg #[.slice a5.1 a5.2.1 a5.2.2]]) ?_ ?_ ?_)
       .simp[Region.wanted,yielded,Act.put,go_sem]
       .simp[Act.eval,Act.put,go_sem]
       .refine(Bc (Fit.of (HN3.out.1.below hbx') HN3.out.2) (Fit.of (HN5.out.1.below hbx') HN5.out.2) (by decide) (by decide) (Bn.2 rfl)).mono ?_;rintro en w9 ⟨_,rfl,rfl,hb⟩;exact⟨_,rfl,hb,rfl,Ae hbx' hb⟩
      case refine_33=>
       have k31:(sp 31)=.int .i64 0:=(hdp 31 (mq (by kernel_rfl))).2
       with_reducible refine Ad ?_ ?_
       all_goals simp[Region.wanted,yielded,execOp,Act.eval,Act.put,go_sem,k31]
      case refine_37=>
       have c0:=(HXb2.out.below hbx' HXb2.out.lt).cells.2
       with_reducible refine Ad ?_ ?_
       all_goals simp[Region.wanted,yielded,execOp,Act.eval,Act.put,go_sem,c0]
      case refine_39=>
       have c0:=(HXb3.out.below hbx' HXb3.out.lt).cells.2
       with_reducible refine Ad ?_ ?_
       all_goals simp[Region.wanted,yielded,execOp,Act.eval,Act.put,go_sem,c0]
      case refine_40=>
       (with_reducible refine Ac (w1:=w') (f := 24) (args:=#[.agg #[.slice a4.1 a4.2.1 a4.2.2],.agg #[.slice a6.1 a6.2.1 a6.2.2]]) ?_ ?_ ?_)
       .simp[Region.wanted,yielded,Act.put,go_sem]
       .simp[Act.eval,Act.put,go_sem]
       .refine(Bc (Fit.of (HN4.out.1.below hbx') HN4.out.2) (Fit.of (HN6.out.1.below hbx') HN6.out.2) (by decide) (by decide) (Bn.2 rfl)).mono ?_;rintro en w9 ⟨_,rfl,rfl,hb⟩;exact⟨_,rfl,hb,rfl,Ae hbx' hb⟩
      case refine_41=>
       have k39:(sp 39)=.int .i64 0:=(hdp 39 (mq (by kernel_rfl))).2
       with_reducible refine Ad ?_ ?_
       all_goals simp[Region.wanted,yielded,execOp,Act.eval,Act.put,go_sem,k39]
      all_goals ((with_reducible refine Ad ?_ ?_);all_goals first|(simp only[Region.wanted];done)|simp[Region.wanted,yielded,execOp,Act.eval,Act.put,go_sem])
     .intro sp wF hsp hbx';replace HB:Aa _:=⟨Ae HB.out hbx'⟩
      clear hsp hbx';simp only[Al,Nat.reduceAdd];generalize sp 11=y11,sp 12=y12,sp 13=y13,sp 21=y21,sp 22=y22,sp 23=y23,sp 31=y31,sp 39=y39 at *
      go_simp
      go_wp2;go_ret;exact⟨rfl,HB.out⟩
end Go.Proofs.YtokhckjemidbpaaGreatDoor
