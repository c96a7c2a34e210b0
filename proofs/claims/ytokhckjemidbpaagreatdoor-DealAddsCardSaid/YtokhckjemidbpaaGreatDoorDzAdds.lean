/- DealAdds, walked. -/
import Derived.Test.YtokhckjemidbpaaGreatDoorDeW
set_option maxRecDepth 1000000
set_option maxHeartbeats 16000000
set_option linter.all false
namespace Go.Proofs.YtokhckjemidbpaaGreatDoor
open Go Go.RowKit Go.Proofs.YtokhckjemidbpaaGreatDoor.Flow
theorem jN (t:Int)(m:Nat)(hm:0<m):∃k:Nat,IntKind.u64.wrap t%(m:Int)=(k:Int)/\k<m:=by
 have h3:=Int.emod_nonneg (IntKind.u64.wrap t) (show (m:Int)≠0 by omega);have h4:=Int.emod_lt_of_pos (IntKind.u64.wrap t) (show (0:Int)<m by omega);obtain⟨k,hk⟩:=Int.eq_ofNat_of_zero_le h3;exact⟨k,hk,by omega⟩
theorem aT (w:World)(hr:Tabs w)(A t:Int)(S:Nat)(hS:bM S)(RR:Nat)(hR:bM RR)(p:Option Addr)(n c:Nat)(xs:List Nat)(h:Bq w .u64 p n c xs)(h64:∀x∈xs,bM x)(p':Option Addr)(n' c':Nat)(xs':List Nat)(h':Bq w .u64 p' n' c' xs')(h64':∀x∈xs',bM x)(PE:Int) :
  Calls Tryz.prog 12 #[.int .i64 A,.int .i64 t,.int .u64 (S:Nat),.int .u64 (RR:Nat),.slice p n c,.slice p' n' c',.int .i64 PE] w fun e w'=>e=.returned (.bool true)/\Below w.heap.size w w':=by
 have HLI:=Ab Ts;have HMD:=Ab cW;have HTb:=Ab hr;have HRW:=Ab h;have H64:=Ab h64;have HRW2:=Ab h';have H642:=Ab h64';have HS64:Aa (S<18446744073709551616):=⟨hS⟩
 have HR64:Aa (RR<18446744073709551616):=⟨hR⟩
 obtain⟨i,hi⟩:∃i,((IntKind.u64.wrap A)%3).toNat=i:=⟨_,rfl⟩
 have HI3:Aa (i<3):=⟨by rw[<-hi];exact kT A⟩
 have HI:=Ab hi;obtain⟨hm,hm5⟩:=Zq t;obtain⟨M,hM⟩:∃k,Nv t=k:=⟨_,rfl⟩
 rw[hM]at hm5
 have HM5:=Ab hm5;have HMt:=Ab hM;have HMt2:Aa (Nv ((M:Nat):Int)=M):=⟨Zp hm5⟩
 clear hm hm5 hM hi h h64 h' h64' hr hS hR;go_enter Tryz.func12,Tryz.ntmps12
 go_wp2_with fail
 refine(HLI.out w HTb.out).mono ?_;rintro en w1 ⟨rfl,b1⟩;have HB:=Ab b1;replace HTb:Aa _:=⟨HTb.out.below b1 HTb.out.size⟩
 clear b1
 go_wp2_with fail
 refine(HMD.out w1 HTb.out A t S RR HS64.out HR64.out p n c xs (HRW.out.below HB.out) H64.out).mono ?_;rintro en w2 ⟨b,q1,c1,q2,c2,aa,bb,rfl,la,lb,hg,h1,h2,b2⟩;rw[HMt.out]at la lb h1 h2 ⊢
 replace HTb:Aa _:=⟨HTb.out.below b2 HTb.out.size⟩
 replace HB:Aa _:=⟨Af HB.out b2⟩
 clear b2;rw[HI.out]at hg h1 h2
 obtain⟨P,hP⟩:∃q,gP i=q:=⟨_,rfl⟩
 obtain⟨Q,hq⟩:∃q,gQ i=q:=⟨_,rfl⟩
 obtain⟨GG,hgg⟩:∃q,gG i=q:=⟨_,rfl⟩
 obtain⟨HH,hhh⟩:∃q,gH i=q:=⟨_,rfl⟩
 have HP2:Aa (2<=P):=⟨by have:=Ip i HI3.out;omega⟩
 have HQ64:Aa (64<Q):=⟨by have:=Ip i HI3.out;omega⟩
 have HQP:Aa (Bl Q):=⟨by rw[<-hq];exact lB i HI3.out⟩
 have HNO:Aa (GG%P≠1%P):=⟨by rw[<-hgg,<-hP];exact lA i HI3.out⟩
 have HGM:Aa (GG^Q%P=1%P):=⟨by
  have h1:=Vj i HI3.out;rw[hq,hP,hgg]at h1
  rw[h1,Nat.mod_eq_of_lt (by have:=HP2.out;omega)]⟩
 have HHM:Aa (HH^Q%P=1%P):=⟨by
  have h1:=gV i HI3.out;rw[hq,hP,hhh]at h1
  rw[h1,Nat.mod_eq_of_lt (by have:=HP2.out;omega)]⟩
 have HGQ:=Ab hq;rw[hP,hq,hgg,hhh]at hg
 rw[hq]at h1 h2
 obtain⟨T,hT⟩:∃k,M+1=k:=⟨_,rfl⟩
 rw[hT]at h1 h2 ⊢
 have HT:Aa (1<=T/\T<=6):=⟨by have:=HM5.out;omega⟩
 obtain⟨VS,hVS⟩:∃l,Fv Q S aa=l:=⟨_,rfl⟩
 obtain⟨MS,hMS⟩:∃l,Fv Q RR bb=l:=⟨_,rfl⟩
 have HVL:Aa (VS.length=T/\MS.length=T):=⟨by rw[<-hVS,<-hMS,Fd,Fd,la,lb,hT];exact⟨rfl,rfl⟩⟩
 have HV0:Aa (Be Q 0 VS=S%Q/\Be Q 0 MS=RR%Q):=⟨by rw[<-hVS,<-hMS];exact⟨Pc (by have:=HQ64.out;omega) _ _,Pc (by have:=HQ64.out;omega) _ _⟩⟩
 rw[hVS]at h1
 rw[hMS]at h2
 have HG:=Ab hg;have HA:=Ab h1;have HBB:=Ab h2;have HTM:Aa (T=M+1):=⟨hT.symm⟩
 clear hg h1 h2 hP hq hgg hhh la lb hVS hMS hT;have b3:Below w2.heap.size w2 (w2.alloc (.cells #[.slice q1 T c1,.slice q2 T c2] 64)):=Bt;have hbx:Cx 64 (w2.alloc (.cells #[.slice q1 T c1,.slice q2 T c2] 64)) w2.heap.size (.slice q1 T c1) (.slice q2 T c2):=Cx.made _ _ _ _;obtain⟨bd,hbd⟩:∃zz,w2.heap.size=zz:=⟨_,rfl⟩
 obtain⟨w3,hw3⟩:∃zz,w2.alloc (.cells #[.slice q1 T c1,.slice q2 T c2] 64)=zz:=⟨_,rfl⟩
 rw[hw3]at b3 hbx
 rw[hbd]at hbx
 have HXD:=Ab hbx;clear hbx;replace HTb:Aa _:=⟨HTb.out.below b3 HTb.out.size⟩
 replace HG:Aa _:=⟨HG.out.below b3⟩
 replace HA:Aa _:=⟨HA.out.below b3⟩
 replace HBB:Aa _:=⟨HBB.out.below b3⟩
 replace HB:Aa _:=⟨Af HB.out b3⟩
 clear b3;have r1:(T:Int)-1=M:=by have:=HTM.out;omega
 have hM5:=HM5.out;have hwM:wrap64 (M:Int)=M:=by unfold wrap64;omega
 go_wp2_with fail
 refine(HMD.out w3 HTb.out A (M:Int) RR S HR64.out HS64.out p' n' c' xs' (HRW2.out.below HB.out) H642.out).mono ?_;rintro en w4 ⟨bo',q3,c3,q4,c4,aa2,bb2,rfl,la2,lb2,-,h1,h2,b4⟩;rw[HI.out,HMt2.out]at h1 h2
 rw[HMt2.out]at la2 lb2 ⊢
 rw[show gQ i=Q from HGQ.out]at h1 h2
 rw[<-HTM.out]at h1 h2 ⊢
 obtain⟨US,hUS⟩:∃l,Fv Q RR aa2=l:=⟨_,rfl⟩
 obtain⟨NS,hNS⟩:∃l,Fv Q S bb2=l:=⟨_,rfl⟩
 have HUL:Aa (US.length=T/\NS.length=T):=⟨by rw[<-hUS,<-hNS,Fd,Fd,la2,lb2,HTM.out];exact⟨rfl,rfl⟩⟩
 have HU0:Aa (Be Q 0 US=RR%Q):=⟨by rw[<-hUS];exact Pc (by have:=HQ64.out;omega) _ _⟩
 rw[hUS]at h1
 rw[hNS]at h2
 have HA2:=Ab h1;have HB2:=Ab h2;replace HG:Aa _:=⟨HG.out.below b4⟩
 replace HA:Aa _:=⟨HA.out.below b4⟩
 replace HBB:Aa _:=⟨HBB.out.below b4⟩
 replace HXD:Aa _:=⟨HXD.out.later b4⟩
 replace HB:Aa _:=⟨Af HB.out b4⟩
 clear h1 h2 la2 lb2 hUS hNS b4 r1 hw3 hbd hM5 hwM;have b5:Below w4.heap.size w4 (w4.alloc (.cells #[.slice q3 T c3,.slice q4 T c4] 64)):=Bt;have hbx:Cx 64 (w4.alloc (.cells #[.slice q3 T c3,.slice q4 T c4] 64)) w4.heap.size (.slice q3 T c3) (.slice q4 T c4):=Cx.made _ _ _ _;obtain⟨bo,hbo⟩:∃zz,w4.heap.size=zz:=⟨_,rfl⟩
 obtain⟨w5,hw5⟩:∃zz,w4.alloc (.cells #[.slice q3 T c3,.slice q4 T c4] 64)=zz:=⟨_,rfl⟩
 rw[hw5]at b5 hbx
 rw[hbo]at hbx
 have HXO:=Ab hbx;clear hbx;replace HG:Aa _:=⟨HG.out.below b5⟩
 replace HA:Aa _:=⟨HA.out.below b5⟩
 replace HBB:Aa _:=⟨HBB.out.below b5⟩
 replace HXD:Aa _:=⟨HXD.out.later b5⟩
 replace HA2:Aa _:=⟨HA2.out.below b5⟩
 replace HB2:Aa _:=⟨HB2.out.below b5⟩
 replace HB:Aa _:=⟨Af HB.out b5⟩
 have hk1000:T<=1000:=by have:=HT.out;omega
 obtain⟨d0,d1⟩:=HXD.out.cells;obtain⟨d2,d3⟩:=HXO.out.cells;clear b5
 go_wp2_with fail
 refine(Ez HG.out).mono ?_;rintro en w6 ⟨r,rfl,hr,b6⟩;have HR:=Ab hr;replace HG:Aa _:=⟨HG.out.below b6⟩
 replace HA:Aa _:=⟨HA.out.below b6⟩
 replace HBB:Aa _:=⟨HBB.out.below b6⟩
 replace HXD:Aa _:=⟨HXD.out.later b6⟩
 replace HA2:Aa _:=⟨HA2.out.below b6⟩
 replace HB2:Aa _:=⟨HB2.out.below b6⟩
 replace HXO:Aa _:=⟨HXO.out.later b6⟩
 replace HB:Aa _:=⟨Af HB.out b6⟩
 clear b6 hr hw5 hbo d0 d1 d2 d3;obtain⟨e0,he0,he1⟩:=jN PE 64 (by decide);replace he0:IntKind.u64.wrap PE%64=(e0:Int):=he0;obtain⟨EE,hEE⟩:∃k,1+e0=k:=⟨_,rfl⟩
 have re:(1:Int)+e0=EE:=by omega
 have HEE:Aa (1<=EE/\EE<=64):=⟨by omega⟩
 have re5:EE<=64:=by omega
 have hUE:0<=IntKind.u64.wrap PE:=by rw[IntKind.wrap_u64];omega
 obtain⟨d0,d1⟩:=HXD.out.cells;clear hEE
 go_wp2_with fail
 refine(Ki (As:=VS) (Bs:=MS) HG.out HA.out HBB.out (by decide) (by decide) hk1000 hk1000 HEE.out rfl rfl).mono ?_;rintro en w7 ⟨a1,a2,rfl,hn1,hn2,bb8⟩;have HN1:Aa (Cw w7 a1 (Be Q EE VS)/\Be Q EE VS<An 33):=⟨hn1,Nat.lt_trans (Eu (by have:=HQ64.out;omega) _) HG.out.lims.2.2.2⟩
 have HN2:Aa (Cw w7 a2 (Be Q EE MS)/\Be Q EE MS<An 33):=⟨hn2,Nat.lt_trans (Eu (by have:=HQ64.out;omega) _) HG.out.lims.2.2.2⟩
 replace HG:Aa _:=⟨HG.out.below bb8⟩
 replace HA:Aa _:=⟨HA.out.below bb8⟩
 replace HBB:Aa _:=⟨HBB.out.below bb8⟩
 replace HXD:Aa _:=⟨HXD.out.later bb8⟩
 replace HA2:Aa _:=⟨HA2.out.below bb8⟩
 replace HB2:Aa _:=⟨HB2.out.below bb8⟩
 replace HXO:Aa _:=⟨HXO.out.later bb8⟩
 replace HR:Aa _:=⟨HR.out.below bb8⟩
 replace HB:Aa _:=⟨Af HB.out bb8⟩
 clear bb8 hn1 hn2 d0 d1;clear he0 he1 re hUE;have bq:Below w7.heap.size w7 (w7.alloc (.cells #[.slice a1.1 a1.2.1 a1.2.2,.slice a2.1 a2.2.1 a2.2.2] 75)):=Bt;have hbx:Cx 75 (w7.alloc (.cells #[.slice a1.1 a1.2.1 a1.2.2,.slice a2.1 a2.2.1 a2.2.2] 75)) w7.heap.size (.slice a1.1 a1.2.1 a1.2.2) (.slice a2.1 a2.2.1 a2.2.2):=Cx.made _ _ _ _;obtain⟨b1,hb1⟩:∃zz,w7.heap.size=zz:=⟨_,rfl⟩
 obtain⟨w8,hw8⟩:∃zz,w7.alloc (.cells #[.slice a1.1 a1.2.1 a1.2.2,.slice a2.1 a2.2.1 a2.2.2] 75)=zz:=⟨_,rfl⟩
 rw[hw8]at bq hbx
 rw[hb1]at hbx
 have HXb1:=Ab hbx;clear hbx;replace HG:Aa _:=⟨HG.out.below bq⟩
 replace HA:Aa _:=⟨HA.out.below bq⟩
 replace HBB:Aa _:=⟨HBB.out.below bq⟩
 replace HXD:Aa _:=⟨HXD.out.later bq⟩
 replace HA2:Aa _:=⟨HA2.out.below bq⟩
 replace HB2:Aa _:=⟨HB2.out.below bq⟩
 replace HXO:Aa _:=⟨HXO.out.later bq⟩
 replace HR:Aa _:=⟨HR.out.below bq⟩
 replace HB:Aa _:=⟨Af HB.out bq⟩
 replace HN1:Aa (_/\_):=⟨HN1.out.1.below bq,HN1.out.2⟩
 replace HN2:Aa (_/\_):=⟨HN2.out.1.below bq,HN2.out.2⟩
 clear bq;obtain⟨d0,d1⟩:=HXO.out.cells
 go_wp2_with fail
 refine(Ki (As:=US) (Bs:=NS) HG.out HA2.out HB2.out (by decide) (by decide) hk1000 hk1000 HEE.out rfl rfl).mono ?_;rintro en w9 ⟨a3,a4,rfl,hn1,hn2,bb8⟩;have HN3:Aa (Cw w9 a3 (Be Q EE US)/\Be Q EE US<An 33):=⟨hn1,Nat.lt_trans (Eu (by have:=HQ64.out;omega) _) HG.out.lims.2.2.2⟩
 have HN4:Aa (Cw w9 a4 (Be Q EE NS)/\Be Q EE NS<An 33):=⟨hn2,Nat.lt_trans (Eu (by have:=HQ64.out;omega) _) HG.out.lims.2.2.2⟩
 replace HG:Aa _:=⟨HG.out.below bb8⟩
 replace HA:Aa _:=⟨HA.out.below bb8⟩
 replace HBB:Aa _:=⟨HBB.out.below bb8⟩
 replace HXD:Aa _:=⟨HXD.out.later bb8⟩
 replace HA2:Aa _:=⟨HA2.out.below bb8⟩
 replace HB2:Aa _:=⟨HB2.out.below bb8⟩
 replace HXO:Aa _:=⟨HXO.out.later bb8⟩
 replace HR:Aa _:=⟨HR.out.below bb8⟩
 replace HXb1:Aa _:=⟨HXb1.out.later bb8⟩
 replace HB:Aa _:=⟨Af HB.out bb8⟩
 replace HN1:Aa (_/\_):=⟨HN1.out.1.below bb8,HN1.out.2⟩
 replace HN2:Aa (_/\_):=⟨HN2.out.1.below bb8,HN2.out.2⟩
 clear bb8 hw8 hb1 hn1 hn2 d0 d1;have bq:Below w9.heap.size w9 (w9.alloc (.cells #[.slice a3.1 a3.2.1 a3.2.2,.slice a4.1 a4.2.1 a4.2.2] 75)):=Bt;have hbx:Cx 75 (w9.alloc (.cells #[.slice a3.1 a3.2.1 a3.2.2,.slice a4.1 a4.2.1 a4.2.2] 75)) w9.heap.size (.slice a3.1 a3.2.1 a3.2.2) (.slice a4.1 a4.2.1 a4.2.2):=Cx.made _ _ _ _;obtain⟨b2,hb2⟩:∃zz,w9.heap.size=zz:=⟨_,rfl⟩
 obtain⟨wA,hwA⟩:∃zz,w9.alloc (.cells #[.slice a3.1 a3.2.1 a3.2.2,.slice a4.1 a4.2.1 a4.2.2] 75)=zz:=⟨_,rfl⟩
 rw[hwA]at bq hbx
 rw[hb2]at hbx
 have HXb2:=Ab hbx;clear hbx;replace HG:Aa _:=⟨HG.out.below bq⟩
 replace HA:Aa _:=⟨HA.out.below bq⟩
 replace HBB:Aa _:=⟨HBB.out.below bq⟩
 replace HXD:Aa _:=⟨HXD.out.later bq⟩
 replace HA2:Aa _:=⟨HA2.out.below bq⟩
 replace HB2:Aa _:=⟨HB2.out.below bq⟩
 replace HXO:Aa _:=⟨HXO.out.later bq⟩
 replace HR:Aa _:=⟨HR.out.below bq⟩
 replace HXb1:Aa _:=⟨HXb1.out.later bq⟩
 replace HB:Aa _:=⟨Af HB.out bq⟩
 replace HN1:Aa (_/\_):=⟨HN1.out.1.below bq,HN1.out.2⟩
 replace HN2:Aa (_/\_):=⟨HN2.out.1.below bq,HN2.out.2⟩
 replace HN3:Aa (_/\_):=⟨HN3.out.1.below bq,HN3.out.2⟩
 replace HN4:Aa (_/\_):=⟨HN4.out.1.below bq,HN4.out.2⟩
 clear bq;have HLen:Aa (∀L∈[(Bj P Q GG HH VS MS),(Bj P Q GG HH US NS)],L.length<=1000):=⟨fun L hL=>by
  simp only[List.mem_cons,List.not_mem_nil,or_false]at hL;have h1:=HVL.out;have h2:=HUL.out;rcases hL with rfl|rfl<;>rw[Ek]<;>omega⟩
 have HJN:Aa (El P [(Bj P Q GG HH VS MS),(Bj P Q GG HH US NS)] []=Bj P Q GG HH (Dc Q VS US) (Dc Q MS NS)):=⟨cN HP2.out HGM.out HHM.out VS MS US NS⟩
 have HJL:Aa ((Bj P Q GG HH (Dc Q VS US) (Dc Q MS NS)).length=T):=⟨by
  rw[Ek,Do,Do];have h1:=HVL.out;have h2:=HUL.out;omega⟩
 go_wp2;refine Ak (by kernel_rfl) (by kernel_rfl)
  [some (.pointer (some ⟨b,0,none⟩)),some (.agg #[.slice q1 T c1,.slice q2 T c2]),some (.pointer (some ⟨b,0,none⟩)),none,some (.agg #[.slice q3 T c3,.slice q4 T c4]),some (.pointer (some ⟨b,0,none⟩)),none,none,none,none]
  [false,false,false,true,false,false,true,true,true,true] rfl
  (fun w1 w2=>Below w1.heap.size w1 w2)
  (fun _ w'=>Below wA.heap.size wA w')
  (fun i v w'=>match i with
   | 3=>oW T (Bj P Q GG HH VS MS) v w'
   | 6=>oW T (Bj P Q GG HH US NS) v w'
   | 7=>eU 33 (Bj P Q GG HH VS MS) (Bj P Q GG HH US NS) v w'
   | 8=>pV T (Bj P Q GG HH (Dc Q VS US) (Dc Q MS NS)) v w'
   | 9=>pV T (Bj P Q GG HH (Dc Q VS US) (Dc Q MS NS)) v w'
   | _=>True)
  ?_ (Ba _ _).drew ?_ ?_
 .intro i v w1 w2 hf hb;split at hf
  .exact hf.below hb
  .exact hf.below hb
  .exact hf.below hb
  .exact hf.below hb
  .exact hf.below hb
  .trivial
 .simp only[Bb,Nat.reduceAdd];refine⟨?_,?_,?_,?_,?_,?_,?_,?_,?_,?_,trivial⟩
  all_goals intro D sp w' hD hW hdp hbx'
  case refine_2=>
   have cz0:=(HXD.out.below hbx' HXD.out.lt).cells.1;have cz1:=(HXD.out.below hbx' HXD.out.lt).cells.2
   with_reducible refine Ad ?_ ?_
   all_goals simp[Region.wanted,yielded,execOp,Act.eval,Act.put,go_sem,cz0,cz1]
  case refine_4=>
   (with_reducible refine Ac (w1:=w') (f := 43) (args:=#[.agg #[.slice q1 T c1,.slice q2 T c2],.pointer (some ⟨b,0,none⟩)]) ?_ ?_ ?_)
   .simp[Region.wanted,yielded,Act.put,go_sem]
   .simp[Act.eval,Act.put,go_sem]
   .refine(Vz (HG.out.below hbx') (HA.out.below hbx') (HBB.out.below hbx') hk1000).mono ?_;rintro en w9 ⟨u,rfl,hu,hb⟩;exact⟨u,rfl,hb,hu,Af hbx' hb⟩
  case refine_5=>
   have cz0:=(HXO.out.below hbx' HXO.out.lt).cells.1;have cz1:=(HXO.out.below hbx' HXO.out.lt).cells.2
   with_reducible refine Ad ?_ ?_
   all_goals simp[Region.wanted,yielded,execOp,Act.eval,Act.put,go_sem,cz0,cz1]
  case refine_7=>
   (with_reducible refine Ac (w1:=w') (f := 43) (args:=#[.agg #[.slice q3 T c3,.slice q4 T c4],.pointer (some ⟨b,0,none⟩)]) ?_ ?_ ?_)
   .simp[Region.wanted,yielded,Act.put,go_sem]
   .simp[Act.eval,Act.put,go_sem]
   .refine(Vz (HG.out.below hbx') (HA2.out.below hbx') (HB2.out.below hbx') hk1000).mono ?_;rintro en w9 ⟨u,rfl,hu,hb⟩;exact⟨u,rfl,hb,hu,Af hbx' hb⟩
  case refine_8=>
   have hx:∃g,sp 3=.slice (some ⟨g,0,none⟩) T T/\Aq w' 33 (some ⟨g,0,none⟩) T T (Bj P Q GG HH VS MS):=(hdp 3 (mq (by kernel_rfl))).2
   (with_reducible refine Av hx fun g3 hx3=>?_)
   have e3:=hx3.1;have hx:∃g,sp 6=.slice (some ⟨g,0,none⟩) T T/\Aq w' 33 (some ⟨g,0,none⟩) T T (Bj P Q GG HH US NS):=(hdp 6 (mq (by kernel_rfl))).2
   (with_reducible refine Av hx fun g6 hx6=>?_)
   have e6:=hx6.1;have hbl:Below w'.heap.size w' (w'.alloc (.cells #[.slice (some ⟨g3,0,none⟩) T T,.slice (some ⟨g6,0,none⟩) T T] 62)):=Bt
   (with_reducible refine Ah (w1:=w'.alloc (.cells #[.slice (some ⟨g3,0,none⟩) T T,.slice (some ⟨g6,0,none⟩) T T] 62)) (v:=.slice (some ⟨w'.heap.size,0,none⟩) 2 2) ?_ ?_ ?_)
   .simp only[Region.wanted]
   .simp[execOp,Act.eval,Act.put,go_sem,e3,e6]
   .exact⟨hbl,⟨_,rfl,pH hx3.2 hx6.2⟩,Af hbx' hbl⟩
  case refine_9=>
   have hx:∃p,sp 7=.slice p 2 2/\Te w' 33 p 2 [(Bj P Q GG HH VS MS),(Bj P Q GG HH US NS)]:=(hdp 7 (mq (by kernel_rfl))).2
   (with_reducible refine Av hx fun g7 hx7=>?_)
   have e7:=hx7.1
   (with_reducible refine Ac (w1:=w') (f := 61) (args:=#[.pointer (some ⟨b,0,none⟩),.slice g7 2 2]) ?_ ?_ ?_)
   .simp only[Region.wanted]
   .simp[Act.eval,Act.put,go_sem,e7]
   .refine(fT (HG.out.below hbx') hx7.2 (by decide) (by decide) HLen.out).mono ?_;rintro en w9 ⟨q9,m9,d9,rfl,hm9,hu,hb⟩;rw[HJN.out]at hu hm9
    rw[HJL.out]at hm9
    subst hm9;exact⟨_,rfl,hb,⟨q9,d9,rfl,hu⟩,Af hbx' hb⟩
  case refine_10=>
   have k8:pV T (Bj P Q GG HH (Dc Q VS US) (Dc Q MS NS)) (sp 8) w':=(hdp 8 (mq (by kernel_rfl))).2
   (with_reducible refine Ah (w1:=w') (v:=sp 8) ?_ ?_ ?_)
   .simp only[Region.wanted]
   .simp[execOp,Act.eval,Act.put,go_sem]
   .exact⟨Ba _ _,k8,hbx'⟩
  all_goals ((with_reducible refine Ad ?_ ?_);all_goals first|(simp only[Region.wanted];done)|simp[Region.wanted,yielded,execOp,Act.eval,Act.put,go_sem])
 .intro sp wB hsp hbx';obtain⟨qc,dc,ec,hpc⟩:pV T (Bj P Q GG HH (Dc Q VS US) (Dc Q MS NS)) (sp 9) wB:=hsp 9 rfl;have HC:=Ab hpc;replace HG:Aa _:=⟨HG.out.below hbx'⟩
  replace HA:Aa _:=⟨HA.out.below hbx'⟩
  replace HBB:Aa _:=⟨HBB.out.below hbx'⟩
  replace HXD:Aa _:=⟨HXD.out.later hbx'⟩
  replace HA2:Aa _:=⟨HA2.out.below hbx'⟩
  replace HB2:Aa _:=⟨HB2.out.below hbx'⟩
  replace HXO:Aa _:=⟨HXO.out.later hbx'⟩
  replace HR:Aa _:=⟨HR.out.below hbx'⟩
  replace HXb1:Aa _:=⟨HXb1.out.later hbx'⟩
  replace HXb2:Aa _:=⟨HXb2.out.later hbx'⟩
  replace HB:Aa _:=⟨Af HB.out hbx'⟩
  replace HN1:Aa (_/\_):=⟨HN1.out.1.below hbx',HN1.out.2⟩
  replace HN2:Aa (_/\_):=⟨HN2.out.1.below hbx',HN2.out.2⟩
  replace HN3:Aa (_/\_):=⟨HN3.out.1.below hbx',HN3.out.2⟩
  replace HN4:Aa (_/\_):=⟨HN4.out.1.below hbx',HN4.out.2⟩
  clear hsp hbx' hpc hwA hb2;simp only[Al,Nat.reduceAdd];rw[ec];clear ec;generalize sp 3=y3,sp 6=y6,sp 7=y7,sp 8=y8 at *
  go_simp
  obtain⟨SS1,hSS1⟩:∃z,(Be Q EE VS+Be Q EE US)%Q=z:=⟨_,rfl⟩
  obtain⟨SS2,hSS2⟩:∃z,(Be Q EE MS+Be Q EE NS)%Q=z:=⟨_,rfl⟩
  have HSS1:=Ab hSS1;have HSS2:=Ab hSS2;have HMB:Aa ((Bj P Q GG HH (Dc Q VS US) (Dc Q MS NS)).all (Qw P Q)=true):=⟨gK HP2.out (by have:=HQ64.out;omega) HGM.out HHM.out⟩
  have HOP:Aa (Hy P Q GG HH (Bj P Q GG HH (Dc Q VS US) (Dc Q MS NS)) EE SS1 SS2=true):=⟨by
   have h2:2<=Q:=by have:=HQ64.out;omega
   rw[<-hSS1,<-hSS2,<-Jl h2,<-Jl h2];exact cQ HP2.out h2 HGM.out HHM.out⟩
  clear hSS1 hSS2;go_wp2;refine Ak (by kernel_rfl) (by kernel_rfl)
   [some (.pointer (some ⟨b,0,none⟩)),some (.int .i64 (T:Int)),some (.slice qc T dc),some (.int .i64 (EE:Int)),some (.pointer (some ⟨r,0,none⟩)),some (.pointer (some ⟨b1,0,none⟩)),some (.agg #[.slice a1.1 a1.2.1 a1.2.2]),some (.pointer (some ⟨b2,0,none⟩)),some (.agg #[.slice a3.1 a3.2.1 a3.2.2]),none,some (.pointer (some ⟨r,0,none⟩)),some (.pointer (some ⟨b1,1,none⟩)),some (.agg #[.slice a2.1 a2.2.1 a2.2.2]),some (.pointer (some ⟨b2,1,none⟩)),some (.agg #[.slice a4.1 a4.2.1 a4.2.2]),none,none,none,some (.bool false)]
   [false,false,false,false,false,false,false,false,false,true,false,false,false,false,false,true,true,true,false] rfl
   (fun w1 w2=>Below w1.heap.size w1 w2)
   (fun _ w'=>Below wB.heap.size wB w')
   (fun i v w'=>match i with
    | 9=>Fit 33 SS1 v w'
    | 15=>Fit 33 SS2 v w'
    | 16=>qQ SS1 SS2 v w'
    | 17=>v=.bool true
    | _=>True)
   ?_ (Ba _ _).drew ?_ ?_
  .intro i v w1 w2 hf hb;split at hf
   .exact hf.below hb
   .exact hf.below hb
   .exact hf.below hb
   .exact hf
   .trivial
  .simp only[Bb,Nat.reduceAdd];refine⟨?_,?_,?_,?_,?_,?_,?_,?_,?_,?_,?_,?_,?_,?_,?_,?_,?_,?_,?_,trivial⟩
   all_goals intro D sp w' hD hW hdp hbx'
   case refine_7=>
    have cz0:=(HXb1.out.below hbx' HXb1.out.lt).cells.1
    with_reducible refine Ad ?_ ?_
    all_goals simp[Region.wanted,yielded,execOp,Act.eval,Act.put,go_sem,cz0]
   case refine_9=>
    have cz0:=(HXb2.out.below hbx' HXb2.out.lt).cells.1
    with_reducible refine Ad ?_ ?_
    all_goals simp[Region.wanted,yielded,execOp,Act.eval,Act.put,go_sem,cz0]
   case refine_10=>
    (with_reducible refine Ac (w1:=w') (f := 32) (args:=#[.pointer (some ⟨r,0,none⟩),.agg #[.slice a1.1 a1.2.1 a1.2.2],.agg #[.slice a3.1 a3.2.1 a3.2.2]]) ?_ ?_ ?_)
    .simp[Region.wanted,yielded,Act.put,go_sem]
    .simp[Act.eval,Act.put,go_sem]
    .refine(Ew (HR.out.below hbx') (Fit.of (HN1.out.1.below hbx') HN1.out.2) (Fit.of (HN3.out.1.below hbx') HN3.out.2) (by decide) (by decide)).mono ?_;rintro en w9 ⟨u,rfl,hu,hb⟩;rw[HSS1.out]at hu
     exact⟨u,rfl,hb,hu,Af hbx' hb⟩
   case refine_13=>
    have cz0:=(HXb1.out.below hbx' HXb1.out.lt).cells.2
    with_reducible refine Ad ?_ ?_
    all_goals simp[Region.wanted,yielded,execOp,Act.eval,Act.put,go_sem,cz0]
   case refine_15=>
    have cz0:=(HXb2.out.below hbx' HXb2.out.lt).cells.2
    with_reducible refine Ad ?_ ?_
    all_goals simp[Region.wanted,yielded,execOp,Act.eval,Act.put,go_sem,cz0]
   case refine_16=>
    (with_reducible refine Ac (w1:=w') (f := 32) (args:=#[.pointer (some ⟨r,0,none⟩),.agg #[.slice a2.1 a2.2.1 a2.2.2],.agg #[.slice a4.1 a4.2.1 a4.2.2]]) ?_ ?_ ?_)
    .simp[Region.wanted,yielded,Act.put,go_sem]
    .simp[Act.eval,Act.put,go_sem]
    .refine(Ew (HR.out.below hbx') (Fit.of (HN2.out.1.below hbx') HN2.out.2) (Fit.of (HN4.out.1.below hbx') HN4.out.2) (by decide) (by decide)).mono ?_;rintro en w9 ⟨u,rfl,hu,hb⟩;rw[HSS2.out]at hu
     exact⟨u,rfl,hb,hu,Af hbx' hb⟩
   case refine_17=>
    have hxa:∃p n c,sp 9=.agg #[.slice p n c]/\Ag w' p n c (SS1)/\SS1<An 33:=(hdp 9 (mq (by kernel_rfl))).2
    (with_reducible refine Av hxa fun pa hxa1=>Av hxa1 fun na hxa2=>Av hxa2 fun ca hxa3=>?_)
    have ha:=hxa3.1;have hxb:∃p n c,sp 15=.agg #[.slice p n c]/\Ag w' p n c (SS2)/\SS2<An 33:=(hdp 15 (mq (by kernel_rfl))).2
    (with_reducible refine Av hxb fun pb hxb1=>Av hxb1 fun nb hxb2=>Av hxb2 fun cb hxb3=>?_)
    have hb:=hxb3.1
    (with_reducible refine Ah (w1:=w') (v:=.agg #[.slice pa na ca,.slice pb nb cb]) ?_ ?_ ?_)
    .simp only[Region.wanted]
    .simp[execOp,Act.eval,Act.put,go_sem,ha,hb]
    .exact⟨Ba _ _,⟨(pa,na,ca),(pb,nb,cb),rfl,hxa3.2,hxb3.2⟩,hbx'⟩
   case refine_18=>
    have hx:∃x y:P3,sp 16=.agg #[.slice x.1 x.2.1 x.2.2,.slice y.1 y.2.1 y.2.2]/\(Cw w' x SS1/\SS1<An 33)/\(Cw w' y SS2/\SS2<An 33):=(hdp 16 (mq (by kernel_rfl))).2
    (with_reducible refine Av hx fun x hx1=>Av hx1 fun y hx2=>?_)
    have h16:=hx2.1
    (with_reducible refine Ac (w1:=w') (f := 52) (args:=#[.pointer (some ⟨b,0,none⟩),.int .i64 (T:Int),.slice qc T dc,.int .i64 (EE:Int),.agg #[.slice x.1 x.2.1 x.2.2,.slice y.1 y.2.1 y.2.2]]) ?_ ?_ ?_)
    .simp only[Region.wanted]
    .simp[Act.eval,Act.put,go_sem,h16]
    .refine(aS (HG.out.below hbx') hx2.2.1.1 hx2.2.1.2 hx2.2.2.1 hx2.2.2.2 (HC.out.below hbx') (by decide) (by decide) (by decide) (by have:=HT.out;omega) HMB.out HEE.out).mono ?_;rintro en w9 ⟨rfl,hb⟩;rw[HOP.out];exact⟨_,rfl,hb,rfl,Af hbx' hb⟩
   case refine_19=>
    have k17:(sp 17)=.bool true:=(hdp 17 (mq (by kernel_rfl))).2
    with_reducible refine Ad ?_ ?_
    all_goals simp[Region.wanted,yielded,execOp,Act.eval,Act.put,go_sem,k17]
   all_goals ((with_reducible refine Ad ?_ ?_);all_goals first|(simp only[Region.wanted];done)|simp[Region.wanted,yielded,execOp,Act.eval,Act.put,go_sem])
  .intro sp w4 hsp hbx';replace HG:Aa _:=⟨HG.out.below hbx'⟩
   replace HA:Aa _:=⟨HA.out.below hbx'⟩
   replace HBB:Aa _:=⟨HBB.out.below hbx'⟩
   replace HXD:Aa _:=⟨HXD.out.later hbx'⟩
   replace HA2:Aa _:=⟨HA2.out.below hbx'⟩
   replace HB2:Aa _:=⟨HB2.out.below hbx'⟩
   replace HXO:Aa _:=⟨HXO.out.later hbx'⟩
   replace HR:Aa _:=⟨HR.out.below hbx'⟩
   replace HC:Aa _:=⟨HC.out.below hbx'⟩
   replace HB:Aa _:=⟨Af HB.out hbx'⟩
   clear hsp hbx' HXb1 HXb2 HN1 HN2 HN3 HN4 HSS1 HSS2 HOP;simp only[Al,Nat.reduceAdd];generalize sp 9=y9,sp 15=y15,sp 16=y16,sp 17=y17 at *
   go_simp
   have HW4:Aa (Below w4.heap.size w4 w4):=⟨Ba _ _⟩
   go_wp2
   go_loopw [28,29,30,31,32,33,126] (fun vl _ _ _ _ _ iv wr=>∃(k:Nat),k<=T/\iv=.int .i64 k/\Aa (Below w4.heap.size w4 wr)/\Aa (Iz (Pn 33) 92 w4.heap.size wr vl (sumP Q VS MS US NS k))) (fun _ _ _ _ _ _ iv _=>T-(intOf iv).toNat)
   case atStart=>exact⟨0,by omega,rfl,HW4,⟨Iz.nil⟩⟩
   case round=>
    clear HW4;obtain⟨k,hk,rfl,HBr,HO⟩:=hrel
    by_cases hkT:k<T
    .have hT6:T<=6:=HT.out.2;have hkT':(k:Int)<T:=by omega
     obtain⟨K1,hK1'⟩:∃z,k+1=z:=⟨_,rfl⟩
     have hK1:(k:Int)+1=K1:=by omega
     have hwK1:IntKind.i64.wrap (K1:Int)=K1:=IntWalk.i64_in _ (by omega);have HJ:Aa (1<=K1/\K1<=64):=⟨by omega⟩
     obtain⟨PC,hPC⟩:∃z:Fi,((K1:Int),(Be Q K1 VS+Be Q K1 US)%Q,(Be Q K1 MS+Be Q K1 NS)%Q)=z:=⟨_,rfl⟩
     have HPJ:Aa (PC.1=(K1:Int)):=⟨by rw[<-hPC]⟩
     have HPS:Aa ((Be Q K1 VS+Be Q K1 US)%Q=PC.2.1):=⟨by rw[<-hPC]⟩
     have HPR:Aa ((Be Q K1 MS+Be Q K1 NS)%Q=PC.2.2):=⟨by rw[<-hPC]⟩
     have HLs:Aa (sumP Q VS MS US NS (k+1)=sumP Q VS MS US NS k++[PC]):=⟨by rw[fH,hK1',<-hPC]⟩
     obtain⟨LS,hLS⟩:∃l,sumP Q VS MS US NS k=l:=⟨_,rfl⟩
     have HLl:Aa (LS.length<=1000000):=⟨by rw[<-hLS];unfold sumP;rw[List.length_map,List.length_range];omega⟩
     rw[hLS]at HLs HO
     obtain⟨pv,cv,hv,-⟩:=HO.out.elim;obtain⟨nv,hnv⟩:∃z,LS.length=z:=⟨_,rfl⟩
     rw[hnv]at hv
     subst hv;have HOX:∀(s:Fi) (x y:P3) (w1 w2:World),Below w1.heap.size w1 w2->Pn 33 s x y w1->Pn 33 s x y w2:=fun s x y w1 w2 hb h=>h.below hb
     have HXDr:=Ab (HXD.out.later HBr.out);obtain⟨d0,d1⟩:=HXDr.out.cells;clear hK1' hPC hLS hnv HXDr
     go_wp2_with fail
     refine(Ki (As:=VS) (Bs:=MS) (HG.out.below HBr.out) (HA.out.below HBr.out) (HBB.out.below HBr.out) (by decide) (by decide) hk1000 hk1000 HJ.out rfl rfl).mono ?_;rintro en w5 ⟨a5,a6,rfl,s1,s2,b5⟩;have HN5:Aa (Cw w5 a5 (Be Q K1 VS)/\Be Q K1 VS<An 33):=⟨s1,Nat.lt_trans (Eu (by have:=HQ64.out;omega) _) HG.out.lims.2.2.2⟩
     have HN6:Aa (Cw w5 a6 (Be Q K1 MS)/\Be Q K1 MS<An 33):=⟨s2,Nat.lt_trans (Eu (by have:=HQ64.out;omega) _) HG.out.lims.2.2.2⟩
     replace HO:Aa _:=⟨HO.out.below b5 fun s x y h=>h.below b5⟩
     replace HBr:Aa _:=⟨Af HBr.out b5⟩
     clear s1 s2 b5 d0 d1;have bq:Below w5.heap.size w5 (w5.alloc (.cells #[.slice a5.1 a5.2.1 a5.2.2,.slice a6.1 a6.2.1 a6.2.2] 75)):=Bt;have hbx:Cx 75 (w5.alloc (.cells #[.slice a5.1 a5.2.1 a5.2.2,.slice a6.1 a6.2.1 a6.2.2] 75)) w5.heap.size (.slice a5.1 a5.2.1 a5.2.2) (.slice a6.1 a6.2.1 a6.2.2):=Cx.made _ _ _ _;obtain⟨b3,hb3⟩:∃zz,w5.heap.size=zz:=⟨_,rfl⟩
     obtain⟨w6,hw6⟩:∃zz,w5.alloc (.cells #[.slice a5.1 a5.2.1 a5.2.2,.slice a6.1 a6.2.1 a6.2.2] 75)=zz:=⟨_,rfl⟩
     rw[hw6]at bq hbx
     rw[hb3]at hbx
     have HXb3:=Ab hbx;clear hbx;replace HBr:Aa _:=⟨Af HBr.out bq⟩
     replace HO:Aa _:=⟨HO.out.below bq fun s x y h=>h.below bq⟩
     replace HN5:Aa (_/\_):=⟨HN5.out.1.below bq,HN5.out.2⟩
     replace HN6:Aa (_/\_):=⟨HN6.out.1.below bq,HN6.out.2⟩
     clear bq;have HXOr:=Ab (HXO.out.later HBr.out);obtain⟨d0,d1⟩:=HXOr.out.cells;clear HXOr
     go_wp2_with fail
     refine(Ki (As:=US) (Bs:=NS) (HG.out.below HBr.out) (HA2.out.below HBr.out) (HB2.out.below HBr.out) (by decide) (by decide) hk1000 hk1000 HJ.out rfl rfl).mono ?_;rintro en w7 ⟨a7,a8,rfl,s1,s2,b7⟩;have HN7:Aa (Cw w7 a7 (Be Q K1 US)/\Be Q K1 US<An 33):=⟨s1,Nat.lt_trans (Eu (by have:=HQ64.out;omega) _) HG.out.lims.2.2.2⟩
     have HN8:Aa (Cw w7 a8 (Be Q K1 NS)/\Be Q K1 NS<An 33):=⟨s2,Nat.lt_trans (Eu (by have:=HQ64.out;omega) _) HG.out.lims.2.2.2⟩
     replace HO:Aa _:=⟨HO.out.below b7 fun s x y h=>h.below b7⟩
     replace HBr:Aa _:=⟨Af HBr.out b7⟩
     replace HXb3:Aa _:=⟨HXb3.out.later b7⟩
     replace HN5:Aa (_/\_):=⟨HN5.out.1.below b7,HN5.out.2⟩
     replace HN6:Aa (_/\_):=⟨HN6.out.1.below b7,HN6.out.2⟩
     clear s1 s2 b7 d0 d1 hw6 hb3;have bq:Below w7.heap.size w7 (w7.alloc (.cells #[.slice a7.1 a7.2.1 a7.2.2,.slice a8.1 a8.2.1 a8.2.2] 75)):=Bt;have hbx:Cx 75 (w7.alloc (.cells #[.slice a7.1 a7.2.1 a7.2.2,.slice a8.1 a8.2.1 a8.2.2] 75)) w7.heap.size (.slice a7.1 a7.2.1 a7.2.2) (.slice a8.1 a8.2.1 a8.2.2):=Cx.made _ _ _ _;obtain⟨b4,hb4⟩:∃zz,w7.heap.size=zz:=⟨_,rfl⟩
     obtain⟨w8,hw8⟩:∃zz,w7.alloc (.cells #[.slice a7.1 a7.2.1 a7.2.2,.slice a8.1 a8.2.1 a8.2.2] 75)=zz:=⟨_,rfl⟩
     rw[hw8]at bq hbx
     rw[hb4]at hbx
     have HXb4:=Ab hbx;clear hbx;replace HXb3:Aa _:=⟨HXb3.out.later bq⟩
     replace HBr:Aa _:=⟨Af HBr.out bq⟩
     replace HO:Aa _:=⟨HO.out.below bq fun s x y h=>h.below bq⟩
     replace HN5:Aa (_/\_):=⟨HN5.out.1.below bq,HN5.out.2⟩
     replace HN6:Aa (_/\_):=⟨HN6.out.1.below bq,HN6.out.2⟩
     replace HN7:Aa (_/\_):=⟨HN7.out.1.below bq,HN7.out.2⟩
     replace HN8:Aa (_/\_):=⟨HN8.out.1.below bq,HN8.out.2⟩
     clear bq;have HO8:=Ab HO.out;have HBW:=Ab HBr.out.size;have HR8:=Ab (HR.out.below HBr.out);go_wp2;refine Aj (by kernel_rfl) (by kernel_rfl)
      [some (.slice pv nv cv),some (.int .i64 (k:Int)),some (.int .i64 (K1:Int)),some (.pointer (some ⟨r,0,none⟩)),some (.pointer (some ⟨b3,0,none⟩)),some (.agg #[.slice a5.1 a5.2.1 a5.2.2]),some (.pointer (some ⟨b4,0,none⟩)),some (.agg #[.slice a7.1 a7.2.1 a7.2.2]),none,some (.pointer (some ⟨r,0,none⟩)),some (.pointer (some ⟨b3,1,none⟩)),some (.agg #[.slice a6.1 a6.2.1 a6.2.2]),some (.pointer (some ⟨b4,1,none⟩)),some (.agg #[.slice a8.1 a8.2.1 a8.2.2]),none,none,none,none,none,none]
      [false,false,false,false,false,false,false,false,true,false,false,false,false,false,true,true,true,true,true,true] rfl
      (fun _ _=>True) (fun D sp w'=>PA w8 w4.heap.size (.slice pv nv cv) LS PC (D 8) (D 14) (D 15) (D 16) (D 17) (D 18) (D 19) (sp 8) (sp 14) (sp 15) (sp 16) (sp 17) (sp 18) (sp 19) w') (fun _ _ _=>True) (fun _ _ _ _ _ _=>trivial)
      PA.start ?_ ?_
     .simp only[Az,Nat.reduceAdd];refine⟨?_,?_,?_,?_,?_,?_,?_,?_,?_,?_,?_,?_,?_,?_,?_,?_,?_,?_,?_,?_,trivial⟩
      case refine_6=>
       intro D sp w' hD hW hdp hg;have dc:D 8=false:=hW 8 (mq (by kernel_rfl));rw[dc]at hg
       have d6:=hg.n1;rw[d6]at hg
       have hp:=hg.pre rfl;have cz0:=(HXb3.out.below hp HXb3.out.lt).cells.1
       (with_reducible refine Ah (w1:=w') (v:=.agg #[.slice a5.1 a5.2.1 a5.2.2]) ?_ ?_ ?_)
       .simp only[Region.wanted]
       .simp[execOp,Act.eval,Act.put,go_sem,cz0]
       .exact⟨rfl,rfl⟩
      case refine_8=>
       intro D sp w' hD hW hdp hg;have dc:D 8=false:=hW 8 (mq (by kernel_rfl));rw[dc]at hg
       have d6:=hg.n1;rw[d6]at hg
       have hp:=hg.pre rfl;have cz0:=(HXb4.out.below hp HXb4.out.lt).cells.1
       (with_reducible refine Ah (w1:=w') (v:=.agg #[.slice a7.1 a7.2.1 a7.2.2]) ?_ ?_ ?_)
       .simp only[Region.wanted]
       .simp[execOp,Act.eval,Act.put,go_sem,cz0]
       .exact⟨rfl,rfl⟩
      case refine_12=>
       intro D sp w' hD hW hdp hg;have dc:D 14=false:=hW 14 (mq (by kernel_rfl));rw[dc]at hg
       have d6:=hg.n2;rw[d6]at hg
       have hp:=hg.pre rfl;have cz0:=(HXb3.out.below hp HXb3.out.lt).cells.2
       (with_reducible refine Ah (w1:=w') (v:=.agg #[.slice a6.1 a6.2.1 a6.2.2]) ?_ ?_ ?_)
       .simp only[Region.wanted]
       .simp[execOp,Act.eval,Act.put,go_sem,cz0]
       .exact⟨rfl,rfl⟩
      case refine_14=>
       intro D sp w' hD hW hdp hg;have dc:D 14=false:=hW 14 (mq (by kernel_rfl));rw[dc]at hg
       have d6:=hg.n2;rw[d6]at hg
       have hp:=hg.pre rfl;have cz0:=(HXb4.out.below hp HXb4.out.lt).cells.2
       (with_reducible refine Ah (w1:=w') (v:=.agg #[.slice a8.1 a8.2.1 a8.2.2]) ?_ ?_ ?_)
       .simp only[Region.wanted]
       .simp[execOp,Act.eval,Act.put,go_sem,cz0]
       .exact⟨rfl,rfl⟩
      case refine_9=>
       intro D sp w' hD hW hdp hg;rw[hD]at hg
       have d6:=hg.n1;rw[d6]at hg
       have hp:=hg.pre rfl
       (with_reducible refine Ac (w1:=w') (f := 32) (args:=#[.pointer (some ⟨r,0,none⟩),.agg #[.slice a5.1 a5.2.1 a5.2.2],.agg #[.slice a7.1 a7.2.1 a7.2.2]]) ?_ ?_ ?_)
       .simp only[Region.wanted]
       .simp[Act.eval,Act.put,go_sem]
       .refine(Ew (HR8.out.below hp) (Fit.of (HN5.out.1.below hp) HN5.out.2) (Fit.of (HN7.out.1.below hp) HN7.out.2) (by decide) (by decide)).mono ?_;rintro en w9 ⟨u,rfl,hu,hb⟩;rw[HPS.out]at hu
        exact⟨_,rfl,trivial,trivial,by simpa [upd,d6]using(hg.later hb).put1 hu⟩
      case refine_15=>
       intro D sp w' hD hW hdp hg;rw[hD]at hg
       have d6:=hg.n2;rw[d6]at hg
       have hp:=hg.pre rfl
       (with_reducible refine Ac (w1:=w') (f := 32) (args:=#[.pointer (some ⟨r,0,none⟩),.agg #[.slice a6.1 a6.2.1 a6.2.2],.agg #[.slice a8.1 a8.2.1 a8.2.2]]) ?_ ?_ ?_)
       .simp only[Region.wanted]
       .simp[Act.eval,Act.put,go_sem]
       .refine(Ew (HR8.out.below hp) (Fit.of (HN6.out.1.below hp) HN6.out.2) (Fit.of (HN8.out.1.below hp) HN8.out.2) (by decide) (by decide)).mono ?_;rintro en w9 ⟨u,rfl,hu,hb⟩;rw[HPR.out]at hu
        exact⟨_,rfl,trivial,trivial,by simpa [upd,d6]using(hg.later hb).put2 hu⟩
      case refine_16=>
       intro D sp w' hD hW hdp hg;have d1:D 8=true:=(hdp 8 (mq (by kernel_rfl))).1;have d2:D 14=true:=(hdp 14 (mq (by kernel_rfl))).1;rw[hD,d1,d2]at hg
       have d6:=hg.n3;rw[d6]at hg
       have hp:=hg.pre rfl;have hxa:∃p n c,sp 8=.agg #[.slice p n c]/\Ag w' p n c PC.2.1/\PC.2.1<An 33:=hg.p1 rfl rfl
       (with_reducible refine Av hxa fun pa hxa1=>Av hxa1 fun na hxa2=>Av hxa2 fun ca hxa3=>?_)
       have ha:=hxa3.1;have hxb:∃p n c,sp 14=.agg #[.slice p n c]/\Ag w' p n c PC.2.2/\PC.2.2<An 33:=hg.p2 rfl rfl
       (with_reducible refine Av hxb fun pb hxb1=>Av hxb1 fun nb hxb2=>Av hxb2 fun cb hxb3=>?_)
       have hb:=hxb3.1
       (with_reducible refine Ah (w1:=w') (v:=.agg #[.slice pa na ca,.slice pb nb cb]) ?_ ?_ ?_)
       .simp only[Region.wanted]
       .simp[execOp,Act.eval,Act.put,go_sem,ha,hb]
       .exact⟨trivial,trivial,by simpa [upd,d1,d2,d6]using hg.put3 (x:=(pa,na,ca)) (y:=(pb,nb,cb)) ⟨hxa3.2.1,hxb3.2.1,hxa3.2.2,hxb3.2.2⟩⟩
      case refine_17=>
       intro D sp w' hD hW hdp hg;have d3:D 15=true:=(hdp 15 (mq (by kernel_rfl))).1;rw[hD,d3]at hg
       have d6:=hg.n4;rw[d6]at hg
       have hp:=hg.pre rfl
       (with_reducible refine Av (hg.p3 rfl rfl) fun x hx=>Av hx fun y hy=>?_)
       have h1:=hy.1
       (with_reducible refine Ah (w1:=w') (v:=.agg #[.int .i64 PC.1,.slice x.1 x.2.1 x.2.2,.slice y.1 y.2.1 y.2.2]) ?_ ?_ ?_)
       .simp only[Region.wanted]
       .simp[execOp,Act.eval,Act.put,go_sem,h1,HPJ.out]
       .exact⟨trivial,trivial,by simpa [upd,d3,d6]using hg.put4 hy.2⟩
      case refine_18=>
       intro D sp w' hD hW hdp hg;have d4:D 16=true:=(hdp 16 (mq (by kernel_rfl))).1;rw[hD,d4]at hg
       have d6:=hg.n5;rw[d6]at hg
       have hp:=hg.pre rfl
       (with_reducible refine Av (hg.p4 rfl rfl) fun x hx=>Av hx fun y hy=>?_)
       have h1:=hy.1;have hba:Below w'.heap.size w' (w'.alloc (.cells #[.int .i64 PC.1,.slice x.1 x.2.1 x.2.2,.slice y.1 y.2.1 y.2.2] 92)):=Bt;have hN:=(hg.later hba).put5 (If.made 92 w' (.int .i64 PC.1) (.slice x.1 x.2.1 x.2.2) (.slice y.1 y.2.1 y.2.2)) (hy.2.below hba)
       (with_reducible refine Ah (w1:=w'.alloc (.cells #[.int .i64 PC.1,.slice x.1 x.2.1 x.2.2,.slice y.1 y.2.1 y.2.2] 92)) (v:=.slice (some ⟨w'.heap.size,0,none⟩) 1 1) ?_ ?_ ?_)
       .simp only[Region.wanted]
       .simp[execOp,Act.eval,Act.put,go_sem,h1]
       .exact⟨trivial,trivial,by simpa [upd,d4,d6]using hN⟩
      case refine_19=>
       intro D sp w' hD hW hdp hg;have d5:D 17=true:=(hdp 17 (mq (by kernel_rfl))).1;rw[hD,d5]at hg
       (with_reducible refine Av (hg.put6 HO8.out HBW.out HLl.out 88) fun g hg1=>Av hg1 fun v' hg2=>Av hg2 fun w5 hg3=>?_)
       have h4:=hg3.1;have hr:=hg3.2.1
       (with_reducible refine Ah (w1:=w5) (v:=v') ?_ ?_ ?_)
       .simp only[Region.wanted]
       .simp[execOp,resolve,invoke,builtin,Act.eval,Act.put,h4,hr,Result.andThen]
       .exact⟨trivial,trivial,by simpa [upd,d5]using hg3.2.2⟩
      case refine_20=>
       intro D sp w' hD hW hdp hg;have d6:D 18=true:=(hdp 18 (mq (by kernel_rfl))).1;rw[hD,d6]at hg
       (with_reducible refine Ah (w1:=w') (v:=sp 18) ?_ ?_ ?_)
       .simp only[Region.wanted]
       .simp[execOp,Act.eval,Act.put,go_sem]
       .exact⟨trivial,trivial,by simpa [upd,d6]using hg.put7⟩
      all_goals
       intro D sp w' hD hW hdp hg;simp[asked,Region.wanted,Oper.gives,execOp,Act.eval,Act.put,go_sem,hK1,hwK1]
     .intro sp wz hsp hg;obtain⟨w1',k1,k2,k3⟩:=hg.fin rfl;have e8:=(hg.same rfl).2;have HBz:Aa (Below w4.heap.size w4 wz):=⟨(Af HBr.out k1).grown k2 (Af HBr.out k1).size (fun g hg=>(HO8.out.block g hg).1)⟩
      have HOz:=Ab k3;clear hsp hg k1 k2 k3 HO HO8 HXb3 HXb4 HN5 HN6 HN7 HN8 HR8 hw8 hb4 hwK1;simp only[Al,Nat.reduceAdd];generalize sp 8=z8,sp 14=z14,sp 15=z15,sp 16=z16,sp 17=z17,sp 18=z18,sp 19=z19 at *;subst e8
      go_simp
      go_wp2;go_roundw
      case rel=>exact⟨k+1,by omega,by go_num,HBz,⟨by rw[HLs.out];exact HOz.out⟩⟩
      case measure=>simp[intOf];omega
    .obtain rfl:k=T:=by omega
     have hkT':¬(k:Int)<k:=by omega
     obtain⟨ql,cl,rfl,hpp⟩:=HO.out.ppcs;obtain⟨nl,hnl⟩:∃z,(sumP Q VS MS US NS k).length=z:=⟨_,rfl⟩
     rw[hnl]at hpp ⊢
     have HPP:=Ab hpp;have h2Q:Aa (2<=Q):=⟨by have:=HQ64.out;omega⟩
     have HCNT:=Ab (Up (vs:=VS) (ms:=MS) (us:=US) (ns:=NS) HP2.out h2Q.out HGM.out HHM.out (show k<=64 by have:=HT.out;omega));have HTLD:=Ab (jI (ms:=MS) (ns:=NS) HQP.out HQ64.out HP2.out HGM.out HHM.out HVL.out.1 HUL.out.1 (show k<=64 by have:=HT.out;omega) 0);have HV00:Aa (Be Q 0 (Dc Q VS US)=(S+RR)%Q):=⟨by rw[Jl h2Q.out,HV0.out.1,HU0.out,<-Nat.add_mod]⟩
     replace HG:Aa _:=⟨HG.out.below HBr.out⟩
     replace HR:Aa _:=⟨HR.out.below HBr.out⟩
     replace HC:Aa _:=⟨HC.out.below HBr.out⟩
     replace HB:Aa _:=⟨Af HB.out HBr.out⟩
     clear hpp hnl HO HBr
     go_wp2_with fail
     refine(cG (X:=0) (A1:=(S+RR)%Q) (A2:=Px Q 0 (fun p=>p.2.2) (Cg P Q GG HH k (Bj P Q GG HH (Dc Q VS US) (Dc Q MS NS)) (sumP Q VS MS US NS k) 64)) HQP.out HQ64.out HG.out HC.out HPP.out (eR _) (by decide) (by decide) (by have:=HT.out;omega) HMB.out HCNT.out (by rw[HTLD.out];exact HV00.out) rfl).mono ?_;rintro en wD ⟨a9,a0,rfl,hn1,hn2,bb6⟩;have HN9:=Ab hn1;replace HR:Aa _:=⟨HR.out.below bb6⟩
     replace HB:Aa _:=⟨Af HB.out bb6⟩
     clear bb6 hn1 hn2;have bq:Below wD.heap.size wD (wD.alloc (.cells #[.slice a9.1 a9.2.1 a9.2.2,.slice a0.1 a0.2.1 a0.2.2] 75)):=Bt;have hbx:Cx 75 (wD.alloc (.cells #[.slice a9.1 a9.2.1 a9.2.2,.slice a0.1 a0.2.1 a0.2.2] 75)) wD.heap.size (.slice a9.1 a9.2.1 a9.2.2) (.slice a0.1 a0.2.1 a0.2.2):=Cx.made _ _ _ _;obtain⟨b5,hb5⟩:∃zz,wD.heap.size=zz:=⟨_,rfl⟩
     obtain⟨wE,hwE⟩:∃zz,wD.alloc (.cells #[.slice a9.1 a9.2.1 a9.2.2,.slice a0.1 a0.2.1 a0.2.2] 75)=zz:=⟨_,rfl⟩
     rw[hwE]at bq hbx
     rw[hb5]at hbx
     have HXb5:=Ab hbx;clear hbx;replace HR:Aa _:=⟨HR.out.below bq⟩
     replace HB:Aa _:=⟨Af HB.out bq⟩
     replace HN9:Aa (_/\_):=⟨HN9.out.1.below bq,HN9.out.2⟩
     clear bq;go_wp2;refine Ak (by kernel_rfl) (by kernel_rfl)
      [some (.int .i64 0),some (.bool true),some (.bool true),some (.pointer (some ⟨b5,0,none⟩)),some (.agg #[.slice a9.1 a9.2.1 a9.2.2]),some (.pointer (some ⟨r,0,none⟩)),some (.int .u64 (S:Nat)),none,some (.int .u64 (RR:Nat)),none,none,none,some (.bool true),some (.bool true),some (.bool true)]
      [false,false,false,false,false,false,false,true,false,true,true,true,false,false,false] rfl
      (fun w1 w2=>Below w1.heap.size w1 w2)
      (fun _ w'=>Below wE.heap.size wE w')
      (fun i v w'=>match i with
       | 7=>Fit 2 S v w'
       | 9=>Fit 2 RR v w'
       | 10=>Fit 33 ((S+RR)%Q) v w'
       | 11=>v=.int .i64 0
       | _=>True)
      ?_ (Ba _ _).drew ?_ ?_
     .intro i v w1 w2 hf hb;split at hf
      .exact hf.below hb
      .exact hf.below hb
      .exact hf.below hb
      .exact hf
      .trivial
     .simp only[Bb,Nat.reduceAdd];refine⟨?_,?_,?_,?_,?_,?_,?_,?_,?_,?_,?_,?_,?_,?_,?_,trivial⟩
      all_goals intro D sp w' hD hW hdp hbx'
      case refine_5=>
       have cz0:=(HXb5.out.below hbx' HXb5.out.lt).cells.1
       with_reducible refine Ad ?_ ?_
       all_goals simp[Region.wanted,yielded,execOp,Act.eval,Act.put,go_sem,cz0]
      case refine_8=>
       (with_reducible refine Ac (w1:=w') (f := 17) (args:=#[.int .u64 (S:Nat)]) ?_ ?_ ?_)
       .simp[Region.wanted,yielded,Act.put,go_sem]
       .simp[Act.eval,Act.put,go_sem]
       .refine(Br _ HS64.out).mono ?_;rintro en w9 ⟨u,rfl,hu,hb⟩;exact⟨u,rfl,hb,hu,Af hbx' hb⟩
      case refine_10=>
       (with_reducible refine Ac (w1:=w') (f := 17) (args:=#[.int .u64 (RR:Nat)]) ?_ ?_ ?_)
       .simp[Region.wanted,yielded,Act.put,go_sem]
       .simp[Act.eval,Act.put,go_sem]
       .refine(Br _ HR64.out).mono ?_;rintro en w9 ⟨u,rfl,hu,hb⟩;exact⟨u,rfl,hb,hu,Af hbx' hb⟩
      case refine_11=>
       have k7:Fit 2 S (sp 7) w':=(hdp 7 (mq (by kernel_rfl))).2;have k9:Fit 2 RR (sp 9) w':=(hdp 9 (mq (by kernel_rfl))).2
       (with_reducible refine Ac (w1:=w') (f := 32) (args:=#[.pointer (some ⟨r,0,none⟩),sp 7,sp 9]) ?_ ?_ ?_)
       .simp[Region.wanted,yielded,Act.put,go_sem]
       .simp[Act.eval,Act.put,go_sem]
       .refine(Ew (HR.out.below hbx') k7 k9 (by decide) (by decide)).mono ?_;rintro en w9 ⟨u,rfl,hu,hb⟩;exact⟨u,rfl,hb,hu,Af hbx' hb⟩
      case refine_12=>
       have k10:Fit 33 ((S+RR)%Q) (sp 10) w':=(hdp 10 (mq (by kernel_rfl))).2
       (with_reducible refine Ac (w1:=w') (f := 24) (args:=#[.agg #[.slice a9.1 a9.2.1 a9.2.2],sp 10]) ?_ ?_ ?_)
       .simp[Region.wanted,yielded,Act.put,go_sem]
       .simp[Act.eval,Act.put,go_sem]
       .refine(Bf (Fit.of (HN9.out.1.below hbx') HN9.out.2) k10 (by decide) (by decide) (Bv.2 rfl)).mono ?_;rintro en w9 ⟨_,rfl,rfl,hb⟩;exact⟨_,rfl,hb,rfl,Af hbx' hb⟩
      case refine_13=>
       have k11:(sp 11)=.int .i64 0:=(hdp 11 (mq (by kernel_rfl))).2
       with_reducible refine Ad ?_ ?_
       all_goals simp[Region.wanted,yielded,execOp,Act.eval,Act.put,go_sem,k11]
      all_goals ((with_reducible refine Ad ?_ ?_);all_goals first|(simp only[Region.wanted];done)|simp[Region.wanted,yielded,execOp,Act.eval,Act.put,go_sem])
     .intro sp wF hsp hbx';replace HB:Aa _:=⟨Af HB.out hbx'⟩
      clear hsp hbx';simp only[Al,Nat.reduceAdd];generalize sp 7=y7,sp 9=y9,sp 10=y10,sp 11=y11 at *
      go_simp
      go_wp2;go_ret;exact⟨rfl,HB.out⟩
end Go.Proofs.YtokhckjemidbpaaGreatDoor
