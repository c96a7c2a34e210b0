/- Which primes a step may have, of the program. -/
import Derived.Test.YtokhckjemidbpaaGreatDoorCertK
import Derived.Deep.Cut
set_option maxRecDepth 1000000
set_option maxHeartbeats 16000000
set_option linter.all false
namespace Go.Proofs.YtokhckjemidbpaaGreatDoor
open Go Go.RowKit Go.Proofs.YtokhckjemidbpaaGreatDoor.Flow
open Classical in
theorem Je:iU:=by
 intro w N e v hv he;obtain⟨p,n,c,rfl,h1,h2⟩:=hv;have hn:n<1000000:=by have:=h1.len_le h2;omega
 have hbx:=Dw.mk1 w (.slice p n c) 37;have H1:=Ab (h1.below hbx.bel);have HBX:=Ab hbx.bel;clear h1 h2 hbx
 by_cases hb:Bh N<=64
 .by_cases hlow:N<2
  .have hno:Aa (decide (Ch N)=false):=⟨decide_eq_false fun hs=>by have:=hs.1;omega⟩
   have hlow':(N:Int)<2:=by omega
   have HB:=Ab hb;clear hb hlow;go_enter Tryz.func178,Tryz.ntmps178
   go_wp2_with fail
   refine(Jd _ p n c N H1.out hn).mono ?_;rintro en w1 ⟨rfl,hb1⟩;rw[if_pos HB.out,decide_eq_true HB.out];have HB1:=Ab (Af HBX.out hb1);clear hb1;go_wp2;go_ret;exact⟨by rw[hno.out];rfl,HB1.out⟩
  .by_cases hhigh:65536<=N
   .have hno:Aa (decide (Ch N)=false):=⟨decide_eq_false fun hs=>by have:=hs.2.1;omega⟩
    have hlow':¬(N:Int)<2:=by omega
    have hhigh':(65536:Int)<=N:=by omega
    obtain⟨K,hgK⟩:∃K:Int,(65536:Int)=K:=⟨_,rfl⟩
    rw[hgK]at hhigh'
    have HB:=Ab hb;clear hb hlow hhigh;go_enter Tryz.func178,Tryz.ntmps178
    go_wp2_with fail
    refine(Jd _ p n c N H1.out hn).mono ?_;rintro en w1 ⟨rfl,hb1⟩;rw[if_pos HB.out,decide_eq_true HB.out];have HB1:=Ab (Af HBX.out hb1);clear hb1
    go_upto_region 2 with fail
    rw[hgK];clear hgK;go_wp2;go_ret;exact⟨by rw[hno.out];rfl,HB1.out⟩
   .have hlow':¬(N:Int)<2:=by omega
    have hhigh':¬(65536:Int)<=N:=by omega
    have HLT:Aa (N<65536):=⟨by omega⟩
    have H2:Aa (2<=N):=⟨by omega⟩
    obtain⟨K,hgK⟩:∃K:Int,(65536:Int)=K:=⟨_,rfl⟩
    rw[hgK]at hhigh'
    have HB:=Ab hb;clear hb hlow hhigh;go_enter Tryz.func178,Tryz.ntmps178
    go_wp2_with fail
    refine(Jd _ p n c N H1.out hn).mono ?_;rintro en w1 ⟨rfl,hb1⟩;rw[if_pos HB.out,decide_eq_true HB.out];have HB1:=Ab (Af HBX.out hb1);clear hb1
    go_upto_region 2 with fail
    rw[hgK];clear hgK;go_wp2
    go_loopw [5] (fun dv wr=>w1=wr/\∃d:Nat,2<=d/\d<=256/\dv=.int .u64 d/\Aa (∀e,2<=e->e<d->N%e≠0)) (fun dv _=>300-(intOf dv).toNat)
    case atStart=>exact⟨rfl,2,by omega,by omega,rfl,⟨fun e h1 h2=>by omega⟩⟩
    case round=>
     obtain⟨rfl,d,hd2,hd,rfl,HD⟩:=hrel;obtain⟨S,hS⟩:∃S,d*d=S:=⟨_,rfl⟩
     have hS':(d:Int)*d=(S:Nat):=by rw[<-hS];simp
     have hSl:S<=65536:=by rw[<-hS];exact Nat.mul_le_mul hd hd
     have HSl:=Ab hSl;have hSw:IntKind.u64.wrap ((S:Nat):Int)=S:=IntWalk.u64_in _ ⟨by omega,by omega⟩;clear hSl
     by_cases hdd:S<=N
     .have hdlt:d<256:=Nat.lt_of_not_le fun hge=>by
       have:=Nat.mul_le_mul hge hge;have:=HLT.out;omega
      have hmod:(N:Int).tmod d=((N%d:Nat):Int):=by rw[Int.tmod_eq_emod_of_nonneg (by omega)];simp
      obtain⟨R,hR⟩:∃R,N%d=R:=⟨_,rfl⟩
      rw[hR]at hmod
      have hd0:¬(d:Int)=0:=by omega
      have hdd':(S:Int)<=N:=by omega
      rcases Nat.eq_zero_or_pos R with h0|h0
      .have hno:Aa (decide (Ch N)=false):=⟨decide_eq_false fun hs=>hs.2.2 d hd2 (by omega) (by omega)⟩
       subst h0;have hS2:=Ai hS;have hR2:=Ai hR;clear hS hR;go_wp2;go_ret;exact⟨by rw[hno.out];rfl,HB1.out⟩
      .have hR0:((R:Int)==0)=false:=by rw[beq_eq_false_iff_ne];omega
       have HD':Aa (∀e,2<=e->e<d+1->N%e≠0):=⟨fun e h1 h2=>by
        rcases(by omega:e<d ∨ e=d) with h3|rfl
        .exact HD.out e h1 h3
        .omega⟩
       have hS2:=Ai hS;have hR2:=Ai hR;clear hS hR;go_wp2;go_roundw
       case rel=>exact⟨trivial,d+1,by omega,by omega,by go_num,HD'⟩
       case measure=>simp[intOf];omega
     .have hdd':¬(S:Int)<=N:=by omega
      have hyes:Aa (decide (Ch N)=true):=⟨decide_eq_true ⟨H2.out,HLT.out,fun e h1 h2=>HD.out e h1 (Nat.lt_of_not_le fun hge=>by
       have:=Nat.mul_le_mul hge hge;omega)⟩⟩
      have hS2:=Ai hS;clear hS;go_wp2;go_ret;exact⟨by rw[hyes.out];rfl,HB1.out⟩
 .have hno:Aa (decide (Ch N)=false):=⟨decide_eq_false fun hs=>hb ((Ec N 64).2 (Nat.lt_trans hs.2.1 (by decide)))⟩
  have HB:=Ab hb;clear hb;go_enter Tryz.func178,Tryz.ntmps178
  go_wp2_with fail
  refine(Jd _ p n c N H1.out hn).mono ?_;rintro en w1 ⟨rfl,hb1⟩;rw[if_neg HB.out,decide_eq_false HB.out];have HB1:=Ab (Af HBX.out hb1);clear hb1;go_wp2;go_ret;exact⟨by rw[hno.out];rfl,HB1.out⟩
theorem Aq.take {w:World}{e:Nat}{b off n c k:Nat}{Ns:List Nat}(h:Aq w e (Option.some ⟨b,off,Option.none⟩) n c Ns)(hk:k<=n):Aq w e (Option.some ⟨b,off,Option.none⟩) k c (Ns.take k):=by
 refine⟨by rw[List.length_take];have:=h.len;omega,Er hk h.cap,h.max,(fun x=>by cases x),fun h0=>?_⟩;obtain⟨b',off',h1,h2,h3⟩:=h.at_ (by omega)
 exact⟨b',off',h1,h2,fun i N hN=>by
  have hi:i<k:=by
   have:=(List.getElem?_eq_some_iff.1 hN).1;rw[List.length_take]at this;omega
  rw[List.getElem?_take,if_pos hi]at hN
  exact h3 i N hN⟩
def Lk (bs:List Nat)(p:Nat):Prop:=Ch p ∨ (2<=p/\p∈bs)
open Classical in
theorem Qh {w:World}{v:Value}{e PP:Nat}{pb:Option Addr}{nb cb:Nat}{bs:List Nat}(h:Fit e PP v w)(hb:Aq w e pb nb cb bs)(he:e<=200) :
  Calls Tryz.prog 248 #[v,.slice pb nb cb] w fun en w'=>en=.returned (.bool (decide (Lk bs PP)))/\Below w.heap.size w w':=by
 obtain⟨q,m,d,rfl,h1,h2⟩:=h;have hba:Below w.heap.size w (w.alloc (.cells #[.slice q m d] 37)):=Bt;have HB:=Ab (Ae.made w (.slice q m d));obtain⟨wa,hwa⟩:∃wa,w.alloc (.cells #[.slice q m d] 37)=wa:=⟨_,rfl⟩
 rw[hwa]at hba HB
 have HBX:=Ab hba;have HF:=Ab ((Fit.of h1 h2).below hba);have HL:=Ab (hb.below hba);obtain⟨ANS,hANS⟩:∃X,decide (Lk bs PP)=X:=⟨_,rfl⟩
 have HANS:=Ab hANS;rw[hANS];clear hANS h1 h2 hb hba;obtain⟨K,hK⟩:∃K,Bm PP 2=K:=⟨_,rfl⟩
 have HK:=Ab hK;clear hK
 by_cases hS:Ch PP
 .have HS:Aa (decide (Ch PP)=true):=⟨decide_eq_true hS⟩
  have HA:Aa (ANS=true):=⟨by rw[<-HANS.out];exact decide_eq_true (.inl hS)⟩
  clear hS;go_enter Tryz.func248,Tryz.ntmps248;go_wp2;refine Ak (by kernel_rfl) (by kernel_rfl)
   [some (.agg #[.slice q m d]),none,some (.bool true),some (undef),some (undef),some (undef),some (undef),some (undef),some (undef),some (undef),some (undef),some (undef),some (.bool true),some (.bool true)]
   [false,true,false,false,false,false,false,false,false,false,false,false,false,false] rfl
   (fun w1 w2=>Below w1.heap.size w1 w2)
   (fun _ w'=>Below wa.heap.size wa w')
   (fun i v w'=>match i with
    | 1=>v=.bool true
    | _=>True)
   ?_ (Ba _ _).drew ?_ ?_
  .intro i v w1 w2 hf hb;split at hf
   .exact hf
   .trivial
  .simp only[Bb,Nat.reduceAdd];refine⟨?_,?_,?_,?_,?_,?_,?_,?_,?_,?_,?_,?_,?_,?_,trivial⟩
   all_goals intro D sp w' hD hW hdp hbx'
   case refine_1=>
    have c0:=(HB.out.below hbx' HB.out.lt).cell
    with_reducible refine Ad ?_ ?_
    all_goals simp[Region.wanted,yielded,execOp,Act.eval,Act.put,go_sem,c0]
   case refine_2=>
    (with_reducible refine Ac (w1:=w') (f := 178) (args:=#[.agg #[.slice q m d]]) ?_ ?_ ?_)
    .simp[Region.wanted,yielded,Act.put,go_sem]
    .simp[Act.eval,Act.put,go_sem]
    .refine(Je w' PP e _ (HF.out.below hbx') he).mono ?_;rintro en w9 ⟨rfl,hb⟩;rw[HS.out];exact⟨_,rfl,hb,rfl,Af hbx' hb⟩
   case refine_3=>
    have k1:(sp 1)=.bool true:=(hdp 1 (mq (by kernel_rfl))).2
    with_reducible refine Ad ?_ ?_
    all_goals simp[Region.wanted,yielded,execOp,Act.eval,Act.put,go_sem,k1]
   case refine_4|refine_5|refine_6|refine_7|refine_8|refine_9|refine_10|refine_11|refine_12=>
    (with_reducible refine Fh ?_ ?_)
    ·(simp[Region.wanted,yielded,Act.put,go_sem]<;>exact fun h=>by cases h)
    .exact⟨rfl,rfl⟩
   all_goals ((with_reducible refine Ad ?_ ?_);all_goals first|(simp only[Region.wanted];done)|simp[Region.wanted,yielded,execOp,Act.eval,Act.put,go_sem])
  .intro sp w7 hsp hbx';have HBe:=Ab (Af HBX.out hbx');clear hsp hbx';simp only[Al,Nat.reduceAdd];generalize sp 1=y1 at *
   go_simp
   go_wp2;go_ret;exact⟨by rw[HA.out];rfl,HBe.out⟩
 .have HS:Aa (decide (Ch PP)=false):=⟨decide_eq_false hS⟩
  have HnS:Aa (¬Ch PP):=⟨hS⟩
  clear hS
  by_cases h2:2<=PP
  .have HG:Aa (decide (0<=K)=true):=⟨decide_eq_true (by
    rw[<-HK.out];rcases Nat.lt_or_ge PP 2 with h|h
    .omega
    .rcases Nat.eq_or_lt_of_le h with h|h
     .rw[<-h,Iu];decide
     .have:=Iv.2 h;omega)⟩
   obtain⟨CC,hCC⟩:∃X,decide (PP∈bs)=X:=⟨_,rfl⟩
   have HC:=Ab hCC;have HA:Aa (ANS=CC):=⟨by
    rw[<-HANS.out,<-hCC];exact decide_eq_decide.2 ⟨fun h=>by
     rcases h with h|h
     .exact absurd h HnS.out
     .exact h.2,fun h=>.inr ⟨h2,h⟩⟩⟩
   clear hCC h2;go_enter Tryz.func248,Tryz.ntmps248;go_wp2;have hG:=HG.out;refine Ak (by kernel_rfl) (by kernel_rfl)
    [some (.agg #[.slice q m d]),none,some (.bool false),some (.agg #[.slice q m d]),none,none,some (.bool true),some (.bool true),some (.slice pb nb cb),some (.agg #[.slice q m d]),none,some (.bool CC),some (.bool CC),some (.bool CC)]
    [false,true,false,false,true,true,false,false,false,false,true,false,false,false] rfl
    (fun w1 w2=>Below w1.heap.size w1 w2)
    (fun _ w'=>Below wa.heap.size wa w')
    (fun i v w'=>match i with
     | 1=>v=.bool false
     | 4=>Fit 1 2 v w'
     | 5=>v=.int .i64 K
     | 10=>v=.bool CC
     | _=>True)
    ?_ (Ba _ _).drew ?_ ?_
   .intro i v w1 w2 hf hb;split at hf
    .exact hf
    .exact hf.below hb
    .exact hf
    .exact hf
    .trivial
   .simp only[Bb,Nat.reduceAdd];refine⟨?_,?_,?_,?_,?_,?_,?_,?_,?_,?_,?_,?_,?_,?_,trivial⟩
    all_goals intro D sp w' hD hW hdp hbx'
    case refine_1|refine_4|refine_10=>
     have c0:=(HB.out.below hbx' HB.out.lt).cell
     with_reducible refine Ad ?_ ?_
     all_goals simp[Region.wanted,yielded,execOp,Act.eval,Act.put,go_sem,c0]
    case refine_2=>
     (with_reducible refine Ac (w1:=w') (f := 178) (args:=#[.agg #[.slice q m d]]) ?_ ?_ ?_)
     .simp[Region.wanted,yielded,Act.put,go_sem]
     .simp[Act.eval,Act.put,go_sem]
     .refine(Je w' PP e _ (HF.out.below hbx') he).mono ?_;rintro en w9 ⟨rfl,hb⟩;rw[HS.out];exact⟨_,rfl,hb,rfl,Af hbx' hb⟩
    case refine_3=>
     have k1:(sp 1)=.bool false:=(hdp 1 (mq (by kernel_rfl))).2
     with_reducible refine Ad ?_ ?_
     all_goals simp[Region.wanted,yielded,execOp,Act.eval,Act.put,go_sem,k1]
    case refine_5=>
     (with_reducible refine Ac (w1:=w') (f := 17) (args:=#[.int .u64 2]) ?_ ?_ ?_)
     .simp[Region.wanted,yielded,Act.put,go_sem]
     .simp[Act.eval,Act.put,go_sem]
     .refine(Wf w').mono ?_;rintro en w9 ⟨u,rfl,hu,hb⟩;exact⟨u,rfl,hb,hu,Af hbx' hb⟩
    case refine_6=>
     have k4:Fit 1 2 (sp 4) w':=(hdp 4 (mq (by kernel_rfl))).2
     (with_reducible refine Ac (w1:=w') (f := 24) (args:=#[.agg #[.slice q m d],sp 4]) ?_ ?_ ?_)
     .simp[Region.wanted,yielded,Act.put,go_sem]
     .simp[Act.eval,Act.put,go_sem]
     .refine(Bf (HF.out.below hbx') k4 (by omega) (by omega) HK.out).mono ?_;rintro en w9 ⟨u,rfl,rfl,hb⟩;exact⟨_,rfl,hb,rfl,Af hbx' hb⟩
    case refine_7=>
     have k5:(sp 5)=.int .i64 K:=(hdp 5 (mq (by kernel_rfl))).2
     with_reducible refine Ad ?_ ?_
     all_goals simp[Region.wanted,yielded,execOp,Act.eval,Act.put,go_sem,k5,hG]
    case refine_11=>
     (with_reducible refine Ac (w1:=w') (f := 249) (args:=#[.slice pb nb cb,.agg #[.slice q m d]]) ?_ ?_ ?_)
     .simp[Region.wanted,yielded,Act.put,go_sem]
     .simp[Act.eval,Act.put,go_sem]
     .refine(Lg w' e pb nb cb bs _ PP (HL.out.below hbx') (HF.out.below hbx') (by omega)).mono ?_;rintro en w9 ⟨rfl,hb⟩;rw[HC.out];exact⟨_,rfl,hb,rfl,Af hbx' hb⟩
    case refine_12=>
     have k10:(sp 10)=.bool CC:=(hdp 10 (mq (by kernel_rfl))).2
     with_reducible refine Ad ?_ ?_
     all_goals simp[Region.wanted,yielded,execOp,Act.eval,Act.put,go_sem,k10]
    all_goals ((with_reducible refine Ad ?_ ?_);all_goals first|(simp only[Region.wanted];done)|simp[Region.wanted,yielded,execOp,Act.eval,Act.put,go_sem])
   .intro sp w7 hsp hbx';have HBe:=Ab (Af HBX.out hbx');clear hsp hbx';simp only[Al,Nat.reduceAdd];generalize sp 1=y1,sp 4=y4,sp 5=y5,sp 10=y10 at *
    go_simp
    go_wp2;go_ret;exact⟨by rw[HA.out];rfl,HBe.out⟩
  .have HG:Aa (decide (0<=K)=false):=⟨decide_eq_false (by
    rw[<-HK.out,Eb (by omega)];decide)⟩
   have HA:Aa (ANS=false):=⟨by
    rw[<-HANS.out];refine decide_eq_false fun h=>?_
    rcases h with h|h
    .exact HnS.out h
    .exact h2 h.1⟩
   clear h2;go_enter Tryz.func248,Tryz.ntmps248;go_wp2;have hG:=HG.out;refine Ak (by kernel_rfl) (by kernel_rfl)
    [some (.agg #[.slice q m d]),none,some (.bool false),some (.agg #[.slice q m d]),none,none,some (.bool false),some (.bool false),some (undef),some (undef),some (undef),some (.bool false),some (.bool false),some (.bool false)]
    [false,true,false,false,true,true,false,false,false,false,false,false,false,false] rfl
    (fun w1 w2=>Below w1.heap.size w1 w2)
    (fun _ w'=>Below wa.heap.size wa w')
    (fun i v w'=>match i with
     | 1=>v=.bool false
     | 4=>Fit 1 2 v w'
     | 5=>v=.int .i64 K
     | _=>True)
    ?_ (Ba _ _).drew ?_ ?_
   .intro i v w1 w2 hf hb;split at hf
    .exact hf
    .exact hf.below hb
    .exact hf
    .trivial
   .simp only[Bb,Nat.reduceAdd];refine⟨?_,?_,?_,?_,?_,?_,?_,?_,?_,?_,?_,?_,?_,?_,trivial⟩
    all_goals intro D sp w' hD hW hdp hbx'
    case refine_1|refine_4=>
     have c0:=(HB.out.below hbx' HB.out.lt).cell
     with_reducible refine Ad ?_ ?_
     all_goals simp[Region.wanted,yielded,execOp,Act.eval,Act.put,go_sem,c0]
    case refine_2=>
     (with_reducible refine Ac (w1:=w') (f := 178) (args:=#[.agg #[.slice q m d]]) ?_ ?_ ?_)
     .simp[Region.wanted,yielded,Act.put,go_sem]
     .simp[Act.eval,Act.put,go_sem]
     .refine(Je w' PP e _ (HF.out.below hbx') he).mono ?_;rintro en w9 ⟨rfl,hb⟩;rw[HS.out];exact⟨_,rfl,hb,rfl,Af hbx' hb⟩
    case refine_3=>
     have k1:(sp 1)=.bool false:=(hdp 1 (mq (by kernel_rfl))).2
     with_reducible refine Ad ?_ ?_
     all_goals simp[Region.wanted,yielded,execOp,Act.eval,Act.put,go_sem,k1]
    case refine_5=>
     (with_reducible refine Ac (w1:=w') (f := 17) (args:=#[.int .u64 2]) ?_ ?_ ?_)
     .simp[Region.wanted,yielded,Act.put,go_sem]
     .simp[Act.eval,Act.put,go_sem]
     .refine(Wf w').mono ?_;rintro en w9 ⟨u,rfl,hu,hb⟩;exact⟨u,rfl,hb,hu,Af hbx' hb⟩
    case refine_6=>
     have k4:Fit 1 2 (sp 4) w':=(hdp 4 (mq (by kernel_rfl))).2
     (with_reducible refine Ac (w1:=w') (f := 24) (args:=#[.agg #[.slice q m d],sp 4]) ?_ ?_ ?_)
     .simp[Region.wanted,yielded,Act.put,go_sem]
     .simp[Act.eval,Act.put,go_sem]
     .refine(Bf (HF.out.below hbx') k4 (by omega) (by omega) HK.out).mono ?_;rintro en w9 ⟨u,rfl,rfl,hb⟩;exact⟨_,rfl,hb,rfl,Af hbx' hb⟩
    case refine_7=>
     have k5:(sp 5)=.int .i64 K:=(hdp 5 (mq (by kernel_rfl))).2
     with_reducible refine Ad ?_ ?_
     all_goals simp[Region.wanted,yielded,execOp,Act.eval,Act.put,go_sem,k5,hG]
    case refine_9|refine_10|refine_11=>
     (with_reducible refine Fh ?_ ?_)
     ·(simp[Region.wanted,yielded,Act.put,go_sem]<;>exact fun h=>by cases h)
     .exact⟨rfl,rfl⟩
    all_goals ((with_reducible refine Ad ?_ ?_);all_goals first|(simp only[Region.wanted];done)|simp[Region.wanted,yielded,execOp,Act.eval,Act.put,go_sem])
   .intro sp w7 hsp hbx';have HBe:=Ab (Af HBX.out hbx');clear hsp hbx';simp only[Al,Nat.reduceAdd];generalize sp 1=y1,sp 4=y4,sp 5=y5 at *
    go_simp
    go_wp2;go_ret;exact⟨by rw[HA.out];rfl,HBe.out⟩
end Go.Proofs.YtokhckjemidbpaaGreatDoor
