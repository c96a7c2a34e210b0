/- Numbers taken into a group's ring, in a row; how many bits the greatest of a row has. -/
import Derived.Deep.Cut
import Derived.Test.YtokhckjemidbpaaGreatDoorGqB
set_option maxRecDepth 1000000
set_option maxHeartbeats 16000000
set_option linter.all false
namespace Go.Proofs.YtokhckjemidbpaaGreatDoor
open Go Go.RowKit Go.Proofs.YtokhckjemidbpaaGreatDoor.Flow
open Classical in
theorem Ky:iU:=by
 intro w N e v hv he;obtain⟨p,n,c,rfl,h1,h2⟩:=hv;have hn:n<1000000:=by have:=h1.len_le h2;omega
 have hbx:=Ef.mk1 w (.slice p n c) 37;have H1:=Ab (h1.below hbx.bel);have HBX:=Ab hbx.bel;clear h1 h2 hbx
 by_cases hb:Ao N<=64
 .by_cases hlow:N<2
  .have hno:Aa (decide (Dd N)=false):=⟨decide_eq_false fun hs=>by have:=hs.1;omega⟩
   have hlow':(N:Int)<2:=by omega
   have HB:=Ab hb;clear hb hlow;go_enter Tryz.func178,Tryz.ntmps178
   go_wp2_with fail
   refine(Kx _ p n c N H1.out hn).mono ?_;rintro en w1 ⟨rfl,hb1⟩;rw[if_pos HB.out,decide_eq_true HB.out];have HB1:=Ab (Ae HBX.out hb1);clear hb1;go_wp2;go_ret;exact⟨by rw[hno.out];rfl,HB1.out⟩
  .by_cases hhigh:65536<=N
   .have hno:Aa (decide (Dd N)=false):=⟨decide_eq_false fun hs=>by have:=hs.2.1;omega⟩
    have hlow':¬(N:Int)<2:=by omega
    have hhigh':(65536:Int)<=N:=by omega
    obtain⟨K,hgK⟩:∃K:Int,(65536:Int)=K:=⟨_,rfl⟩
    rw[hgK]at hhigh'
    have HB:=Ab hb;clear hb hlow hhigh;go_enter Tryz.func178,Tryz.ntmps178
    go_wp2_with fail
    refine(Kx _ p n c N H1.out hn).mono ?_;rintro en w1 ⟨rfl,hb1⟩;rw[if_pos HB.out,decide_eq_true HB.out];have HB1:=Ab (Ae HBX.out hb1);clear hb1
    go_upto_region 2 with fail
    rw[hgK];clear hgK;go_wp2;go_ret;exact⟨by rw[hno.out];rfl,HB1.out⟩
   .have hlow':¬(N:Int)<2:=by omega
    have hhigh':¬(65536:Int)<=N:=by omega
    have HLT:Aa (N<65536):=⟨by omega⟩
    have H2:Aa (2<=N):=⟨by omega⟩
    obtain⟨K,hgK⟩:∃K:Int,(65536:Int)=K:=⟨_,rfl⟩
    rw[hgK]at hhigh'
    have HB:=Ab hb;clear hb hlow hhigh;go_enter Tryz.func178,Tryz.ntmps178
    go_wp2_with fail
    refine(Kx _ p n c N H1.out hn).mono ?_;rintro en w1 ⟨rfl,hb1⟩;rw[if_pos HB.out,decide_eq_true HB.out];have HB1:=Ab (Ae HBX.out hb1);clear hb1
    go_upto_region 2 with fail
    rw[hgK];clear hgK;go_wp2
    go_loopw [5] (fun dv wr=>w1=wr/\∃d:Nat,2<=d/\d<=256/\dv=.int .u64 d/\Aa (∀e,2<=e->e<d->N%e≠0)) (fun dv _=>300-(intOf dv).toNat)
    case atStart=>exact⟨rfl,2,by omega,by omega,rfl,⟨fun e h1 h2=>by omega⟩⟩
    case round=>
     obtain⟨rfl,d,hd2,hd,rfl,HD⟩:=hrel;obtain⟨S,hS⟩:∃S,d*d=S:=⟨_,rfl⟩
     have hS':(d:Int)*d=(S:Nat):=by rw[<-hS];simp
     have hSl:S<=65536:=by rw[<-hS];exact Nat.mul_le_mul hd hd
     have HSl:=Ab hSl;have hSw:IntKind.u64.wrap ((S:Nat):Int)=S:=IntWalk.u64_in _ ⟨by omega,by omega⟩;clear hSl
     by_cases hdd:S<=N
     .have hdlt:d<256:=Nat.lt_of_not_le fun hge=>by
       have:=Nat.mul_le_mul hge hge;have:=HLT.out;omega
      have hmod:(N:Int).tmod d=((N%d:Nat):Int):=by rw[Int.tmod_eq_emod_of_nonneg (by omega)];simp
      obtain⟨R,hR⟩:∃R,N%d=R:=⟨_,rfl⟩
      rw[hR]at hmod
      have hd0:¬(d:Int)=0:=by omega
      have hdd':(S:Int)<=N:=by omega
      rcases Nat.eq_zero_or_pos R with h0|h0
      .have hno:Aa (decide (Dd N)=false):=⟨decide_eq_false fun hs=>hs.2.2 d hd2 (by omega) (by omega)⟩
       subst h0;have hS2:=Ag hS;have hR2:=Ag hR;clear hS hR;go_wp2;go_ret;exact⟨by rw[hno.out];rfl,HB1.out⟩
      .have hR0:((R:Int)==0)=false:=by rw[beq_eq_false_iff_ne];omega
       have HD':Aa (∀e,2<=e->e<d+1->N%e≠0):=⟨fun e h1 h2=>by
        rcases(by omega:e<d ∨ e=d) with h3|rfl
        .exact HD.out e h1 h3
        .omega⟩
       have hS2:=Ag hS;have hR2:=Ag hR;clear hS hR;go_wp2;go_roundw
       case rel=>exact⟨trivial,d+1,by omega,by omega,by go_num,HD'⟩
       case measure=>simp[intOf];omega
     .have hdd':¬(S:Int)<=N:=by omega
      have hyes:Aa (decide (Dd N)=true):=⟨decide_eq_true ⟨H2.out,HLT.out,fun e h1 h2=>HD.out e h1 (Nat.lt_of_not_le fun hge=>by
       have:=Nat.mul_le_mul hge hge;omega)⟩⟩
      have hS2:=Ag hS;clear hS;go_wp2;go_ret;exact⟨by rw[hyes.out];rfl,HB1.out⟩
 .have hno:Aa (decide (Dd N)=false):=⟨decide_eq_false fun hs=>hb ((Bg N 64).2 (Nat.lt_trans hs.2.1 (by decide)))⟩
  have HB:=Ab hb;clear hb;go_enter Tryz.func178,Tryz.ntmps178
  go_wp2_with fail
  refine(Kx _ p n c N H1.out hn).mono ?_;rintro en w1 ⟨rfl,hb1⟩;rw[if_neg HB.out,decide_eq_false HB.out];have HB1:=Ab (Ae HBX.out hb1);clear hb1;go_wp2;go_ret;exact⟨by rw[hno.out];rfl,HB1.out⟩
theorem Cp.take {w:World}{e:Nat}{b off n c k:Nat}{Ns:List Nat}(h:Cp w e (Option.some ⟨b,off,Option.none⟩) n c Ns)(hk:k<=n):Cp w e (Option.some ⟨b,off,Option.none⟩) k c (Ns.take k):=by
 refine⟨by rw[List.length_take];have:=h.len;omega,Dn hk h.cap,h.max,(fun x=>by cases x),fun h0=>?_⟩;obtain⟨b',off',h1,h2,h3⟩:=h.at_ (by omega)
 exact⟨b',off',h1,h2,fun i N hN=>by
  have hi:i<k:=by
   have:=(List.getElem?_eq_some_iff.1 hN).1;rw[List.length_take]at this;omega
  rw[List.getElem?_take,if_pos hi]at hN
  exact h3 i N hN⟩
def Mw (bs:List Nat)(p:Nat):Prop:=Dd p ∨ (2<=p/\p∈bs)
open Classical in
theorem Rj {w:World}{v:Value}{e PP:Nat}{pb:Option Addr}{nb cb:Nat}{bs:List Nat}(h:Fit e PP v w)(hb:Cp w e pb nb cb bs)(he:e<=200) :
  Calls Tryz.prog 248 #[v,.slice pb nb cb] w fun en w'=>en=.returned (.bool (decide (Mw bs PP)))/\Below w.heap.size w w':=by
 obtain⟨q,m,d,rfl,h1,h2⟩:=h;have hba:Below w.heap.size w (w.alloc (.cells #[.slice q m d] 37)):=Bx;have HB:=Ab (Af.made w (.slice q m d));obtain⟨wa,hwa⟩:∃wa,w.alloc (.cells #[.slice q m d] 37)=wa:=⟨_,rfl⟩
 rw[hwa]at hba HB
 have HBX:=Ab hba;have HF:=Ab ((Fit.of h1 h2).below hba);have HL:=Ab (hb.below hba);obtain⟨ANS,hANS⟩:∃X,decide (Mw bs PP)=X:=⟨_,rfl⟩
 have HANS:=Ab hANS;rw[hANS];clear hANS h1 h2 hb hba;obtain⟨K,hK⟩:∃K,Bo PP 2=K:=⟨_,rfl⟩
 have HK:=Ab hK;clear hK
 by_cases hS:Dd PP
 .have HS:Aa (decide (Dd PP)=true):=⟨decide_eq_true hS⟩
  have HA:Aa (ANS=true):=⟨by rw[<-HANS.out];exact decide_eq_true (.inl hS)⟩
  clear hS;go_enter Tryz.func248,Tryz.ntmps248;go_wp2;refine Ah (by kernel_rfl) (by kernel_rfl)
   [some (.agg #[.slice q m d]),none,some (.bool true),some (undef),some (undef),some (undef),some (undef),some (undef),some (undef),some (undef),some (undef),some (undef),some (.bool true),some (.bool true)]
   [false,true,false,false,false,false,false,false,false,false,false,false,false,false] rfl
   (fun w1 w2=>Below w1.heap.size w1 w2)
   (fun _ w'=>Below wa.heap.size wa w')
   (fun i v w'=>match i with
    | 1=>v=.bool true
    | _=>True)
   ?_ (Bb _ _).drew ?_ ?_
  .intro i v w1 w2 hf hb;split at hf
   .exact hf
   .trivial
  .simp only[Ba,Nat.reduceAdd];refine⟨?_,?_,?_,?_,?_,?_,?_,?_,?_,?_,?_,?_,?_,?_,trivial⟩
   all_goals intro D sp w' hD hW hdp hbx'
   case refine_1=>
    have c0:=(HB.out.below hbx' HB.out.lt).cell
    with_reducible refine Ad ?_ ?_
    all_goals simp[Region.wanted,yielded,execOp,Act.eval,Act.put,go_sem,c0]
   case refine_2=>
    (with_reducible refine Ac (w1:=w') (f := 178) (args:=#[.agg #[.slice q m d]]) ?_ ?_ ?_)
    .simp[Region.wanted,yielded,Act.put,go_sem]
    .simp[Act.eval,Act.put,go_sem]
    .refine(Ky w' PP e _ (HF.out.below hbx') he).mono ?_;rintro en w9 ⟨rfl,hb⟩;rw[HS.out];exact⟨_,rfl,hb,rfl,Ae hbx' hb⟩
   case refine_3=>
    have k1:(sp 1)=.bool true:=(hdp 1 (mq (by kernel_rfl))).2
    with_reducible refine Ad ?_ ?_
    all_goals simp[Region.wanted,yielded,execOp,Act.eval,Act.put,go_sem,k1]
   case refine_4|refine_5|refine_6|refine_7|refine_8|refine_9|refine_10|refine_11|refine_12=>
    (with_reducible refine Gp ?_ ?_)
    ·(simp[Region.wanted,yielded,Act.put,go_sem]<;>exact fun h=>by cases h)
    .exact⟨rfl,rfl⟩
   all_goals ((with_reducible refine Ad ?_ ?_);all_goals first|(simp only[Region.wanted];done)|simp[Region.wanted,yielded,execOp,Act.eval,Act.put,go_sem])
  .intro sp w7 hsp hbx';have HBe:=Ab (Ae HBX.out hbx');clear hsp hbx';simp only[An,Nat.reduceAdd];generalize sp 1=y1 at *
   go_simp
   go_wp2;go_ret;exact⟨by rw[HA.out];rfl,HBe.out⟩
 .have HS:Aa (decide (Dd PP)=false):=⟨decide_eq_false hS⟩
  have HnS:Aa (¬Dd PP):=⟨hS⟩
  clear hS
  by_cases h2:2<=PP
  .have HG:Aa (decide (0<=K)=true):=⟨decide_eq_true (by
    rw[<-HK.out];rcases Nat.lt_or_ge PP 2 with h|h
    .omega
    .rcases Nat.eq_or_lt_of_le h with h|h
     .rw[<-h,Iu];decide
     .have:=Je.2 h;omega)⟩
   obtain⟨CC,hCC⟩:∃X,decide (PP∈bs)=X:=⟨_,rfl⟩
   have HC:=Ab hCC;have HA:Aa (ANS=CC):=⟨by
    rw[<-HANS.out,<-hCC];exact decide_eq_decide.2 ⟨fun h=>by
     rcases h with h|h
     .exact absurd h HnS.out
     .exact h.2,fun h=>.inr ⟨h2,h⟩⟩⟩
   clear hCC h2;go_enter Tryz.func248,Tryz.ntmps248;go_wp2;have hG:=HG.out;refine Ah (by kernel_rfl) (by kernel_rfl)
    [some (.agg #[.slice q m d]),none,some (.bool false),some (.agg #[.slice q m d]),none,none,some (.bool true),some (.bool true),some (.slice pb nb cb),some (.agg #[.slice q m d]),none,some (.bool CC),some (.bool CC),some (.bool CC)]
    [false,true,false,false,true,true,false,false,false,false,true,false,false,false] rfl
    (fun w1 w2=>Below w1.heap.size w1 w2)
    (fun _ w'=>Below wa.heap.size wa w')
    (fun i v w'=>match i with
     | 1=>v=.bool false
     | 4=>Fit 1 2 v w'
     | 5=>v=.int .i64 K
     | 10=>v=.bool CC
     | _=>True)
    ?_ (Bb _ _).drew ?_ ?_
   .intro i v w1 w2 hf hb;split at hf
    .exact hf
    .exact hf.below hb
    .exact hf
    .exact hf
    .trivial
   .simp only[Ba,Nat.reduceAdd];refine⟨?_,?_,?_,?_,?_,?_,?_,?_,?_,?_,?_,?_,?_,?_,trivial⟩
    all_goals intro D sp w' hD hW hdp hbx'
    case refine_1|refine_4|refine_10=>
     have c0:=(HB.out.below hbx' HB.out.lt).cell
     with_reducible refine Ad ?_ ?_
     all_goals simp[Region.wanted,yielded,execOp,Act.eval,Act.put,go_sem,c0]
    case refine_2=>
     (with_reducible refine Ac (w1:=w') (f := 178) (args:=#[.agg #[.slice q m d]]) ?_ ?_ ?_)
     .simp[Region.wanted,yielded,Act.put,go_sem]
     .simp[Act.eval,Act.put,go_sem]
     .refine(Ky w' PP e _ (HF.out.below hbx') he).mono ?_;rintro en w9 ⟨rfl,hb⟩;rw[HS.out];exact⟨_,rfl,hb,rfl,Ae hbx' hb⟩
    case refine_3=>
     have k1:(sp 1)=.bool false:=(hdp 1 (mq (by kernel_rfl))).2
     with_reducible refine Ad ?_ ?_
     all_goals simp[Region.wanted,yielded,execOp,Act.eval,Act.put,go_sem,k1]
    case refine_5=>
     (with_reducible refine Ac (w1:=w') (f := 17) (args:=#[.int .u64 2]) ?_ ?_ ?_)
     .simp[Region.wanted,yielded,Act.put,go_sem]
     .simp[Act.eval,Act.put,go_sem]
     .refine(Wt w').mono ?_;rintro en w9 ⟨u,rfl,hu,hb⟩;exact⟨u,rfl,hb,hu,Ae hbx' hb⟩
    case refine_6=>
     have k4:Fit 1 2 (sp 4) w':=(hdp 4 (mq (by kernel_rfl))).2
     (with_reducible refine Ac (w1:=w') (f := 24) (args:=#[.agg #[.slice q m d],sp 4]) ?_ ?_ ?_)
     .simp[Region.wanted,yielded,Act.put,go_sem]
     .simp[Act.eval,Act.put,go_sem]
     .refine(Bu (HF.out.below hbx') k4 (by omega) (by omega) HK.out).mono ?_;rintro en w9 ⟨u,rfl,rfl,hb⟩;exact⟨_,rfl,hb,rfl,Ae hbx' hb⟩
    case refine_7=>
     have k5:(sp 5)=.int .i64 K:=(hdp 5 (mq (by kernel_rfl))).2
     with_reducible refine Ad ?_ ?_
     all_goals simp[Region.wanted,yielded,execOp,Act.eval,Act.put,go_sem,k5,hG]
    case refine_11=>
     (with_reducible refine Ac (w1:=w') (f := 249) (args:=#[.slice pb nb cb,.agg #[.slice q m d]]) ?_ ?_ ?_)
     .simp[Region.wanted,yielded,Act.put,go_sem]
     .simp[Act.eval,Act.put,go_sem]
     .refine(Ms w' e pb nb cb bs _ PP (HL.out.below hbx') (HF.out.below hbx') (by omega)).mono ?_;rintro en w9 ⟨rfl,hb⟩;rw[HC.out];exact⟨_,rfl,hb,rfl,Ae hbx' hb⟩
    case refine_12=>
     have k10:(sp 10)=.bool CC:=(hdp 10 (mq (by kernel_rfl))).2
     with_reducible refine Ad ?_ ?_
     all_goals simp[Region.wanted,yielded,execOp,Act.eval,Act.put,go_sem,k10]
    all_goals ((with_reducible refine Ad ?_ ?_);all_goals first|(simp only[Region.wanted];done)|simp[Region.wanted,yielded,execOp,Act.eval,Act.put,go_sem])
   .intro sp w7 hsp hbx';have HBe:=Ab (Ae HBX.out hbx');clear hsp hbx';simp only[An,Nat.reduceAdd];generalize sp 1=y1,sp 4=y4,sp 5=y5,sp 10=y10 at *
    go_simp
    go_wp2;go_ret;exact⟨by rw[HA.out];rfl,HBe.out⟩
  .have HG:Aa (decide (0<=K)=false):=⟨decide_eq_false (by
    rw[<-HK.out,Dl (by omega)];decide)⟩
   have HA:Aa (ANS=false):=⟨by
    rw[<-HANS.out];refine decide_eq_false fun h=>?_
    rcases h with h|h
    .exact HnS.out h
    .exact h2 h.1⟩
   clear h2;go_enter Tryz.func248,Tryz.ntmps248;go_wp2;have hG:=HG.out;refine Ah (by kernel_rfl) (by kernel_rfl)
    [some (.agg #[.slice q m d]),none,some (.bool false),some (.agg #[.slice q m d]),none,none,some (.bool false),some (.bool false),some (undef),some (undef),some (undef),some (.bool false),some (.bool false),some (.bool false)]
    [false,true,false,false,true,true,false,false,false,false,false,false,false,false] rfl
    (fun w1 w2=>Below w1.heap.size w1 w2)
    (fun _ w'=>Below wa.heap.size wa w')
    (fun i v w'=>match i with
     | 1=>v=.bool false
     | 4=>Fit 1 2 v w'
     | 5=>v=.int .i64 K
     | _=>True)
    ?_ (Bb _ _).drew ?_ ?_
   .intro i v w1 w2 hf hb;split at hf
    .exact hf
    .exact hf.below hb
    .exact hf
    .trivial
   .simp only[Ba,Nat.reduceAdd];refine⟨?_,?_,?_,?_,?_,?_,?_,?_,?_,?_,?_,?_,?_,?_,trivial⟩
    all_goals intro D sp w' hD hW hdp hbx'
    case refine_1|refine_4=>
     have c0:=(HB.out.below hbx' HB.out.lt).cell
     with_reducible refine Ad ?_ ?_
     all_goals simp[Region.wanted,yielded,execOp,Act.eval,Act.put,go_sem,c0]
    case refine_2=>
     (with_reducible refine Ac (w1:=w') (f := 178) (args:=#[.agg #[.slice q m d]]) ?_ ?_ ?_)
     .simp[Region.wanted,yielded,Act.put,go_sem]
     .simp[Act.eval,Act.put,go_sem]
     .refine(Ky w' PP e _ (HF.out.below hbx') he).mono ?_;rintro en w9 ⟨rfl,hb⟩;rw[HS.out];exact⟨_,rfl,hb,rfl,Ae hbx' hb⟩
    case refine_3=>
     have k1:(sp 1)=.bool false:=(hdp 1 (mq (by kernel_rfl))).2
     with_reducible refine Ad ?_ ?_
     all_goals simp[Region.wanted,yielded,execOp,Act.eval,Act.put,go_sem,k1]
    case refine_5=>
     (with_reducible refine Ac (w1:=w') (f := 17) (args:=#[.int .u64 2]) ?_ ?_ ?_)
     .simp[Region.wanted,yielded,Act.put,go_sem]
     .simp[Act.eval,Act.put,go_sem]
     .refine(Wt w').mono ?_;rintro en w9 ⟨u,rfl,hu,hb⟩;exact⟨u,rfl,hb,hu,Ae hbx' hb⟩
    case refine_6=>
     have k4:Fit 1 2 (sp 4) w':=(hdp 4 (mq (by kernel_rfl))).2
     (with_reducible refine Ac (w1:=w') (f := 24) (args:=#[.agg #[.slice q m d],sp 4]) ?_ ?_ ?_)
     .simp[Region.wanted,yielded,Act.put,go_sem]
     .simp[Act.eval,Act.put,go_sem]
     .refine(Bu (HF.out.below hbx') k4 (by omega) (by omega) HK.out).mono ?_;rintro en w9 ⟨u,rfl,rfl,hb⟩;exact⟨_,rfl,hb,rfl,Ae hbx' hb⟩
    case refine_7=>
     have k5:(sp 5)=.int .i64 K:=(hdp 5 (mq (by kernel_rfl))).2
     with_reducible refine Ad ?_ ?_
     all_goals simp[Region.wanted,yielded,execOp,Act.eval,Act.put,go_sem,k5,hG]
    case refine_9|refine_10|refine_11=>
     (with_reducible refine Gp ?_ ?_)
     ·(simp[Region.wanted,yielded,Act.put,go_sem]<;>exact fun h=>by cases h)
     .exact⟨rfl,rfl⟩
    all_goals ((with_reducible refine Ad ?_ ?_);all_goals first|(simp only[Region.wanted];done)|simp[Region.wanted,yielded,execOp,Act.eval,Act.put,go_sem])
   .intro sp w7 hsp hbx';have HBe:=Ab (Ae HBX.out hbx');clear hsp hbx';simp only[An,Nat.reduceAdd];generalize sp 1=y1,sp 4=y4,sp 5=y5 at *
    go_simp
    go_wp2;go_ret;exact⟨by rw[HA.out];rfl,HBe.out⟩
def sv (x:Option Addr×Nat×Nat):Value:=.slice x.1 x.2.1 x.2.2
def Gb (w:World)(g:Nat)(us:List (Option Addr×Nat×Nat)):Prop:=w.heap[g]? = some (.cells (us.map sv).toArray 37 (0,0))
theorem Gb.lt {w:World}{g:Nat}{us:List (Option Addr×Nat×Nat)}(h:Gb w g us):g<w.heap.size:=(Kv h).1
theorem Gb.below {w w':World}{g B:Nat}{us:List (Option Addr×Nat×Nat)}(h:Gb w g us)(hb:Below B w w')(hg:g<B):Gb w' g us:=by
 unfold Gb at *;rw[hb.block g hg];exact h
theorem Gb.cell {w:World}{g j:Nat}{us:List (Option Addr×Nat×Nat)}{x:Option Addr×Nat×Nat}(h:Gb w g us)(hj:us[j]? = some x):w.cell? ⟨g,j,none⟩=some (.slice x.1 x.2.1 x.2.2):=by
 unfold Gb at h;simp[World.cell?,h,hj,sv]
theorem Gb.free {w:World}{g:Nat}{us:List (Option Addr×Nat×Nat)}(h:Gb w g us)(j:Nat):w.frozen? ⟨g,j,none⟩=false:=by
 unfold Gb at h;simp[World.frozen?,h]
theorem Gb.set {w:World}{g:Nat}{us:List (Option Addr×Nat×Nat)}(h:Gb w g us)(j:Nat)(p:Option Addr)(n c:Nat):Gb (w.setCell ⟨g,j,none⟩ (.slice p n c)) g (us.set j (p,n,c)):=by
 unfold Gb at *;simp[World.setCell,Array.getElem?_modify,h,List.map_set,sv]
theorem Gb.apart {w:World}{p:Option Addr}{n c N g:Nat}{us:List (Option Addr×Nat×Nat)}(hb:Gb w g us)(h:Aj w p n c N)(h0:0<n):∀q,p=some q->q.block≠g:=by
 obtain⟨ws,r1,r2,r3,r4⟩:=h.ex;intro a ha hab;obtain⟨b',off,k1,k2,k3⟩:=r1.pos h0;rw[k1]at ha;cases ha
 have hbb:b'=g:=hab;subst hbb;have h1:=k3 0 (ws.getD 0 0) (by rw[Du];simp[show 0<ws.length by rw[<-r1.len];exact h0]);rw[Nat.add_zero]at h1
 rcases Nat.lt_or_ge off us.length with h2|h2
 .rw[hb.cell (List.getElem?_eq_getElem h2)]at h1
  cases h1
 .unfold Gb at hb;simp[World.cell?,hb,List.getElem?_eq_none h2]at h1
theorem Gb.nat {w:World}{p:Option Addr}{n c N g:Nat}{us:List (Option Addr×Nat×Nat)}(hb:Gb w g us)(h:Aj w p n c N)(j:Nat)(v:Value):Aj (w.setCell ⟨g,j,none⟩ v) p n c N:=by
 rcases Nat.eq_zero_or_pos n with rfl|h0
 .exact h.empty (by simp)
 .exact h.setCell (a:=⟨g,j,none⟩) (fun q hq=>hb.apart h h0 q hq) v
theorem Ap.store_row {B:Nat}{w:World}{g:Nat}{us:List (Option Addr×Nat×Nat)}(hb:Gb w g us)(hB:B<=g)(j:Nat)(v:Value):Ap B w (w.setCell ⟨g,j,none⟩ v) :=
 ⟨(Bb _ _).setCell hB _,fun _ _ _ _ k=>hb.nat k j v⟩
theorem RG.store_row {B:Nat}{wx:World}{l:List (Nat×Obj)}{w:World}{g:Nat}{us:List (Option Addr×Nat×Nat)}(h:RG B wx l w)(hb:Gb w g us)(hB:B<=g)(hn:∀x∈l,x.1≠g)(j:Nat)(v:Value):RG B wx l (w.setCell ⟨g,j,none⟩ v) :=
 ⟨h.keep.trans (Ap.store_row hb hB j v),by simpa using h.base,fun x hx=>by
  have:=hn x hx;simp[World.setCell,Array.getElem?_modify,this.symm];exact h.blk x hx⟩
structure dW (d:Bool) (g:Nat) (us:List (Option Addr×Nat×Nat)) (k N:Nat) (w:World):Prop where
 z:d=false->Gb w g us
 o:d=true->∃p n c,Gb w g (us.set k (p,n,c))/\Aj w p n c N
theorem dW.later {d:Bool}{g k N:Nat}{us:List (Option Addr×Nat×Nat)}{w w':World}(h:dW d g us k N w)(hb:Below w.heap.size w w'):dW d g us k N w' :=
 ⟨fun e=>(h.z e).below hb (h.z e).lt,fun e=>let ⟨p,n,c,h1,h2⟩:=h.o e;⟨p,n,c,h1.below hb h1.lt,h2.below hb⟩⟩
theorem dW.put {g k N:Nat}{us:List (Option Addr×Nat×Nat)}{w:World}(h:dW false g us k N w){p:Option Addr}{n c:Nat}(hx:Aj w p n c N):dW true g us k N (w.setCell ⟨g,k,none⟩ (.slice p n c)) :=
 ⟨(fun e=>by cases e),fun _=>⟨p,n,c,(h.z rfl).set k p n c,(h.z rfl).nat hx k _⟩⟩
theorem kQ (n:Nat)(h:n<=1000000)(w:World):(Instr.makeSlice 62 (.int .i64 (n:Nat)) (.int .i64 (n:Nat))).run Tryz.prog w =
  .ok (.slice (some ⟨w.heap.size,0,none⟩) n n) (w.alloc (.cells (madeCells #[.slice none 0 0] n) 37)):=by
 obtain⟨i,hi,hz,hs,hb⟩:=info_parts Tryz.info_Nat;have:=run_make (P:=Tryz.prog) w 62 37 i (.agg #[.slice none 0 0]) Tryz.underlying62 hi hz .i64 .i64 n n (by omega) (by omega) (by rw[hb];omega) (by omega);simp only[Int.toNat_natCast,hs,Nat.mul_one]at this;rw[this];rfl
theorem Gb.made (w:World)(n:Nat):Gb (w.alloc (.cells (madeCells #[.slice none 0 0] n) 37)) w.heap.size (List.replicate n (none,0,0)):=by
 unfold Gb;have h:=toList_madeCells_one (Value.slice none 0 0) n;have h2:madeCells #[Value.slice none 0 0] n=((List.replicate n ((none,0,0):Option Addr×Nat×Nat)).map sv).toArray:=by
  rw[<-Array.toArray_toList (xs:=madeCells #[Value.slice none 0 0] n),h,List.map_replicate];rfl
 rw[<-h2];exact heap_alloc_new w _
def Yi (w:World)(e:Nat)(us:List (Option Addr×Nat×Nat))(Ns:List Nat)(k:Nat):Prop:=∀j N,j<k->Ns[j]? = some N->∃x,us[j]? = some x/\Aj w x.1 x.2.1 x.2.2 N/\N<Ar e
theorem Yi.keep {w w':World}{B e k:Nat}{us:List (Option Addr×Nat×Nat)}{Ns:List Nat}(h:Yi w e us Ns k)(hk:Ap B w w'):Yi w' e us Ns k:=fun j N hj hN=>
 let ⟨x,h1,h2,h3⟩:=h j N hj hN
 ⟨x,h1,hk.nat _ _ _ _ h2,h3⟩
theorem Yi.step {w:World}{e k N:Nat}{us:List (Option Addr×Nat×Nat)}{Ns:List Nat}(h:Yi w e us Ns k)(hk:k<us.length)(hN:Ns[k]? = some N){p:Option Addr}{n c:Nat}(hn:Aj w p n c N)(hl:N<Ar e):Yi w e (us.set k (p,n,c)) Ns (k+1):=fun j M hj hM=>by
 rcases Nat.lt_or_ge j k with h1|h1
 .obtain⟨x,h2,h3⟩:=h j M h1 hM;exact⟨x,by rw[List.getElem?_set_ne (by omega)];exact h2,h3⟩
 .obtain rfl:j=k:=by omega
  rw[hN]at hM;cases hM
  exact⟨(p,n,c),List.getElem?_set_self hk,hn,hl⟩
theorem Yi.plist {w:World}{g e n:Nat}{us:List (Option Addr×Nat×Nat)}{Ns:List Nat}(h:Yi w e us Ns n)(hr:Gb w g us)(hn:Ns.length=n)(hl:n<=1000000):Cp w e (some ⟨g,0,none⟩) n n Ns :=
 ⟨hn.symm,As _,by omega,(fun e=>by cases e),fun _=>⟨g,0,rfl,hr.lt,fun i N hN=>by
  have hi:i<n:=by have:=(List.getElem?_eq_some_iff.1 hN).1;omega
  obtain⟨x,h1,h2,h3⟩:=h i N hi hN;exact⟨x.1,x.2.1,x.2.2,by rw[Nat.zero_add];exact hr.cell h1,h2,h3⟩⟩⟩
theorem kM {w:World}{e n c:Nat}{p:Option Addr}{Es:List Nat}(h:Cp w e p n c Es)(he:e<=200)(hn:n<=1000000) :
  Calls Tryz.prog 197 #[.slice p n c] w fun en w'=>en=.returned (.int .i64 (Ii Es:Nat))/\Below w.heap.size w w':=by
 have HP:=Ab h;have HLN:=Ab h.len;clear h;go_enter Tryz.func197,Tryz.ntmps197;go_wp2
 go_loopw [3,5,8] (fun mv _ iv wr=>∃k:Nat,k<=n/\iv=.int .i64 k/\mv=.int .i64 (Ii (Es.take k):Nat)/\Aa (Below w.heap.size w wr)) (fun _ _ iv _=>n-(intOf iv).toNat)
 case atStart=>exact⟨0,by omega,rfl,rfl,⟨Bb _ _⟩⟩
 case round=>
  obtain⟨k,hk,rfl,hm,HB⟩:=hrel;obtain⟨M,hM⟩:∃M,Ii (Es.take k)=M:=⟨_,rfl⟩
  rw[hM]at hm
  subst hm
  by_cases hkn:k<n
  .obtain⟨X,hXk⟩:∃X,Es[k]? = some X:=⟨Es[k]'(by rw[<-HLN.out];exact hkn),List.getElem?_eq_getElem _⟩
   obtain⟨b,off,rfl,hb,hc⟩:=(HP.out.below HB.out).at_ (by omega)
   obtain⟨q,m,d,hx,hnx,hlim⟩:=hc k X hXk;have hm9:m<1000000:=by have:=hnx.len_le hlim;omega
   have hbw:Below wr.heap.size wr (wr.alloc (.cells #[.slice q m d] 37)):=Bx;have hbx:=Af.made wr (.slice q m d);obtain⟨wb,hwb⟩:∃wb,wr.alloc (.cells #[.slice q m d] 37)=wb:=⟨_,rfl⟩
   rw[hwb]at hbw hbx
   have HNX:=Ab (hnx.below hbw);have HBW:=Ab (Ae HB.out hbw);have cb:=hbx.cell;have HT:Aa (Ii (Es.take (k+1))=max M (Ao X)):=⟨by rw[Hh hXk,Tn,hM]⟩
   have HL:Aa (Ao X<=10000):=⟨by have:=Gu hlim;omega⟩
   have hkn':(k:Int)<n:=by omega
   clear hc hnx hlim hXk hM hbw hbx hb
   go_wp2_with fail
   refine(Fj wb q m d X HNX.out hm9).mono ?_;rintro en w1 ⟨rfl,hb1⟩;have HB1:=Ab (Ae HBW.out hb1);obtain⟨L,hL⟩:∃L,Ao X=L:=⟨_,rfl⟩
   rw[hL]at HT HL ⊢
   clear hb1 hL cb
   by_cases hml:M<L
   .have hml':(M:Int)<L:=by omega
    have hml2:¬(L:Int)<=M:=by omega
    have hml3:¬(L:Int)<M:=by omega
    have hmx:max (M:Int) (L:Int)=(L:Int):=by omega
    have HTT:Aa (Ii (Es.take (k+1))=L):=⟨by rw[HT.out];omega⟩
    go_wp2;go_roundw
    case rel=>exact⟨k+1,by omega,by go_num,by rw[HTT.out],HB1⟩
    case measure=>simp[intOf];omega
   .have hml':¬(M:Int)<L:=by omega
    have hml2:(L:Int)<=M:=by omega
    have hmx:max (M:Int) (L:Int)=(M:Int):=by omega
    have HTT:Aa (Ii (Es.take (k+1))=M):=⟨by rw[HT.out];omega⟩
    go_wp2;go_roundw
    case rel=>exact⟨k+1,by omega,by go_num,by rw[HTT.out],HB1⟩
    case measure=>simp[intOf];omega
  .obtain rfl:k=n:=by omega
   have hkn':¬(k:Int)<k:=by omega
   have HMM:Aa (Ii Es=M):=⟨by rw[<-hM,List.take_of_length_le (by rw[<-HLN.out];exact As _)]⟩
   clear hM;go_wp2;go_ret;exact⟨by rw[HMM.out];rfl,HB.out⟩
theorem lL {w:World}{e b P Q G H n c:Nat}{p:Option Addr}{Bs:List Nat}(hg:Bc w b P Q G H)(h:Cp w e p n c Bs)(he:e<=200)(hn:n<=1000) :
  Calls Tryz.prog 196 #[.pointer (some ⟨b,0,none⟩),.slice p n c] w fun en w'=>∃g,en=.returned (.slice (some ⟨g,0,none⟩) n n)/\Cp w' 33 (some ⟨g,0,none⟩) n n (Bs.map fun x=>x%P)/\Below w.heap.size w w':=by
 obtain⟨rp,rq,pg,ng,cg,ph,nh,ch,g1,g2,_⟩:=hg.ex;have HL:Aa (b<w.heap.size/\rp<w.heap.size):=⟨hg.lt,g2.at_.lt⟩
 have HLN:=Ab h.len;have HP:=Ab h;have HGA:=Ab g1;have HR:=Ab g2;have hmk:=fun w=>kQ n (by omega) w
 obtain⟨w0,hw0⟩:∃w0,w.alloc (.cells (madeCells #[.slice none 0 0] n) 37)=w0:=⟨_,rfl⟩
 have hb0:Below w.heap.size w w0:=by rw[<-hw0];exact(Bb _ _).alloc (As _) _
 have HS0:Aa (Gb w0 w.heap.size (List.replicate n (none,0,0))):=⟨by rw[<-hw0];exact Gb.made w n⟩
 have HB0:=Ab hb0;clear hg h g1 g2 hb0;go_enter Tryz.func196,Tryz.ntmps196;go_wp2
 go_loopw [6,7,13] (fun _ _ iv wr=>∃(k:Nat) (us:List (Option Addr×Nat×Nat)),k<=n/\iv=.int .i64 k/\us.length=n/\Aa (Gb wr w.heap.size us)/\Aa (Yi wr 33 us (Bs.map fun x=>x%P) k)/\Aa (Below w.heap.size w wr)) (fun _ _ iv _=>n-(intOf iv).toNat)
 case atStart=>exact⟨0,List.replicate n (none,0,0),by omega,rfl,by simp,HS0,⟨fun j N hj=>by omega⟩,HB0⟩
 case round=>
  obtain⟨k,us,hk,rfl,hus,HSr,HVr,HBr⟩:=hrel
  by_cases hkn:k<n
  .obtain⟨X,hXk⟩:∃X,Bs[k]? = some X:=⟨Bs[k]'(by rw[<-HLN.out];exact hkn),List.getElem?_eq_getElem _⟩
   obtain⟨b2,off,rfl,hb,hc⟩:=(HP.out.below HBr.out).at_ (by omega)
   obtain⟨q,m,d,hx,hnx,hlim⟩:=hc k X hXk;have HUK:Aa (us[k]? = some (us[k]'(by omega))):=⟨List.getElem?_eq_getElem _⟩
   have hbw:Below wr.heap.size wr (wr.alloc (.cells #[.slice q m d] 37)):=Bx;have hbx:=Af.made wr (.slice q m d);obtain⟨wb,hwb⟩:∃wb,wr.alloc (.cells #[.slice q m d] 37)=wb:=⟨_,rfl⟩
   rw[hwb]at hbw hbx
   have HBX:=Ab hbx;have HXb:=Ab ((Fit.of hnx hlim).below hbw);have HBb:=Ab (Ae HBr.out hbw);have HGr:=Ab ((HBb.out.block b HL.out.1).trans HGA.out);have HRb:=Ab (HR.out.below HBb.out);have HSb:=Ab (HSr.out.below hbw HSr.out.lt);have HVb:=Ab (HVr.out.keep (B:=w.heap.size) (Ap.of hbw HBr.out.size));have HNE:Aa (∀x∈([(wr.heap.size,.cells #[.slice q m d] 37 (0,0))]:List (Nat×Obj)),x.1≠w.heap.size):=⟨List.forall_mem_cons.2 ⟨by simp only;have:=HSr.out.lt;omega,fun x hx=>by cases hx⟩⟩
   have HNk:Aa ((Bs.map fun x=>x%P)[k]? = some (X%P)):=⟨by rw[List.getElem?_map,hXk];rfl⟩
   have HPl:Aa (X%P<Ar 33):=⟨Nat.lt_trans (Nat.mod_lt _ (by have:=HR.out.two;omega)) HR.out.lim⟩
   have hkn':(k:Int)<n:=by omega
   clear hc hnx hlim hXk hbw hbx hb hmk;go_wp2;refine Am (by kernel_rfl) (by kernel_rfl)
    [some (.slice (some ⟨w.heap.size,0,none⟩) n n),some (.int .i64 (k:Nat)),some (.pointer (some ⟨b,0,none⟩)),some (.pointer (some ⟨b,0,none⟩)),some (.pointer (some ⟨b,0,none⟩)),some (.pointer (some ⟨rp,0,none⟩)),some (.agg #[.slice q m d]),none,some (.pointer (some ⟨w.heap.size,k,none⟩)),none]
    [false,false,false,false,false,false,false,true,false,true] rfl
    (fun w1 w2=>Ap (w.heap.size) w1 w2)
    (fun D sp w'=>RG (w.heap.size) wb [(wr.heap.size,.cells #[.slice q m d] 37 (0,0))] w'/\dW (D 9) (w.heap.size) us k (X%P) w')
    (fun i v w'=>match i with
     | 7=>Fit 33 (X%P) v w'
     | _=>True)
    ?_ ⟨RG.start HBb.out.size (List.forall_mem_cons.2 ⟨HBX.out,fun x hx=>by cases hx⟩),⟨fun _=>HSb.out,fun e=>by cases e⟩⟩ ?_ ?_
   .intro i v w1 w2 hf hb;split at hf
    .exact hf.keep hb
    .trivial
   .simp only[Bf,Nat.reduceAdd];refine⟨?_,?_,?_,?_,?_,?_,?_,?_,?_,?_,trivial⟩
    all_goals intro D sp w' hD hW hdp hg
    case refine_6=>
     have c0:=(Dc ((hg.1.keep.bel.block b HL.out.1).trans HGr.out)).1
     with_reducible refine Ad ?_ ?_
     all_goals simp[Region.wanted,yielded,execOp,Act.eval,Act.put,go_sem,c0]
    case refine_7=>
     have c0:w'.cell? ⟨wr.heap.size,0,none⟩=some (.slice q m d):=Af.cell (hg.1.of List.mem_cons_self)
     with_reducible refine Ad ?_ ?_
     all_goals simp[Region.wanted,yielded,execOp,Act.eval,Act.put,go_sem,c0]
    case refine_8=>
     (with_reducible refine Ac (w1:=w') (f := 31) (args:=#[.pointer (some ⟨rp,0,none⟩),.agg #[.slice q m d]]) ?_ ?_ ?_)
     .simp[Region.wanted,yielded,Act.put,go_sem]
     .simp[Act.eval,Act.put,go_sem]
     .refine(Eb (HRb.out.keep HL.out.2 hg.1.keep) (HXb.out.keep hg.1.keep) (by omega)).mono ?_;rintro en w9 ⟨u,rfl,hu,hb⟩;exact⟨u,rfl,Ap.of hb hg.1.base,hu,hg.1.later hb,by simpa [upd]using hg.2.later hb⟩
    case refine_9=>
     have hnk:¬n<=k:=Nat.not_le.2 hkn
     with_reducible refine Ad ?_ ?_
     all_goals simp[Region.wanted,yielded,execOp,Act.eval,Act.put,go_sem,hnk]
    case refine_10=>
     have hx:∃p n c,sp 7=.agg #[.slice p n c]/\Aj w' p n c (X%P)/\X%P<Ar (33):=(hdp 7 (mq (by kernel_rfl))).2
     (with_reducible refine Ay hx fun p hx1=>Ay hx1 fun n hx2=>Ay hx2 fun c hx3=>?_)
     have h1:=hx3.1;rw[hD]at hg
     have hs:=hg.2.1 rfl;have h6:=hs.cell HUK.out;have h7:=hs.free k
     (with_reducible refine Aq (w1:=w'.setCell ⟨w.heap.size,k,none⟩ (.slice p n c)) ?_ ?_ ?_)
     .simp[Region.wanted,yielded,Act.put,go_sem]
     .simp[execOp,Act.eval,Act.put,go_sem,h1,h6,h7]
     .refine⟨Ap.store_row hs (As _) _ _,trivial,hg.1.store_row hs (As _) HNE.out _ _,?_⟩;have h8:=hg.2.put hx3.2.1;simpa [upd]using h8
    all_goals ((with_reducible refine Ad ?_ ?_);all_goals first|(simp only[Region.wanted];done)|simp[Region.wanted,yielded,execOp,Act.eval,Act.put,go_sem])
   .intro sp w8 hsp hg;obtain⟨hg1,hg2⟩:=hg;obtain⟨pz,nz,cz,hs8,hn8⟩:=hg2.o rfl;have HS8:=Ab hs8;have HV8:=Ab ((HVb.out.keep hg1.keep).step (by omega) HNk.out hn8 HPl.out);have HB8:=Ab (HBb.out.trans hg1.keep.bel);have hlen:(us.set k (pz,nz,cz)).length=n:=by rw[List.length_set];exact hus
    have HLEN:=Ab hlen;clear hsp hg1 hg2 hs8 hn8 hlen;simp only[An,Nat.reduceAdd];generalize sp 7=y7,sp 9=y9 at *
    go_simp
    go_wp2;go_roundw
    case rel=>exact⟨k+1,us.set k (pz,nz,cz),by omega,by go_num,HLEN.out,HS8,HV8,HB8⟩
    case measure=>simp[intOf];omega
  .obtain rfl:k=n:=by omega
   have hkn':¬(k:Int)<k:=by omega
   have HPL:=Ab (HVr.out.plist HSr.out (by rw[List.length_map];exact HLN.out.symm) (by omega));clear hmk;go_wp2;go_ret;exact⟨w.heap.size,rfl,HPL.out,HBr.out⟩
end Go.Proofs.YtokhckjemidbpaaGreatDoor
