/- Which primes a step may have, of the program. -/
import Derived.Test.YtokhckjemidbpaaGreatDoorCpI
set_option maxRecDepth 1000000
set_option maxHeartbeats 16000000
set_option linter.all false
namespace Go.Proofs.YtokhckjemidbpaaGreatDoor
open Go Go.RowKit Go.Proofs.YtokhckjemidbpaaGreatDoor.Flow
theorem Ba.take {w:World}{e:Nat}{b off n c k:Nat}{Ns:List Nat}(h:Ba w e (Option.some ⟨b,off,Option.none⟩) n c Ns)(hk:k<=n):Ba w e (Option.some ⟨b,off,Option.none⟩) k c (Ns.take k):=by
 refine⟨by rw[List.length_take];have:=h.len;omega,Eo hk h.cap,h.max,(fun x=>by cases x),fun h0=>?_⟩;obtain⟨b',off',h1,h2,h3⟩:=h.at_ (by omega)
 exact⟨b',off',h1,h2,fun i N hN=>by
  have hi:i<k:=by
   have:=(List.getElem?_eq_some_iff.1 hN).1;rw[List.length_take]at this;omega
  rw[List.getElem?_take,if_pos hi]at hN
  exact h3 i N hN⟩
def Jq (bs:List Nat)(p:Nat):Prop:=Ce p ∨ (2<=p/\p∈bs)
open Classical in
theorem Nj {w:World}{v:Value}{e PP:Nat}{pb:Option Addr}{nb cb:Nat}{bs:List Nat}(h:Fit e PP v w)(hb:Ba w e pb nb cb bs)(he:e<=200) :
  Calls Tryz.prog 248 #[v,.slice pb nb cb] w fun en w'=>en=.returned (.bool (decide (Jq bs PP)))/\Below w.heap.size w w':=by
 obtain⟨q,m,d,rfl,h1,h2⟩:=h;have hba:Below w.heap.size w (w.alloc (.cells #[.slice q m d] 37)):=By;have HB:=Ac (Ae.made w (.slice q m d));obtain⟨wa,hwa⟩:∃wa,w.alloc (.cells #[.slice q m d] 37)=wa:=⟨_,rfl⟩
 rw[hwa]at hba HB
 have HBX:=Ac hba;have HF:=Ac ((Fit.of h1 h2).below hba);have HL:=Ac (hb.below hba);obtain⟨ANS,hANS⟩:∃X,decide (Jq bs PP)=X:=⟨_,rfl⟩
 have HANS:=Ac hANS;rw[hANS];clear hANS h1 h2 hb hba;obtain⟨K,hK⟩:∃K,Bp PP 2=K:=⟨_,rfl⟩
 have HK:=Ac hK;clear hK
 by_cases hS:Ce PP
 .have HS:Aa (decide (Ce PP)=true):=⟨decide_eq_true hS⟩
  have HA:Aa (ANS=true):=⟨by rw[<-HANS.out];exact decide_eq_true (.inl hS)⟩
  clear hS;go_enter Tryz.func248,Tryz.ntmps248;go_wp2;refine Aj (by kernel_rfl) (by kernel_rfl)
   [some (.agg #[.slice q m d]),none,some (.bool true),some (undef),some (undef),some (undef),some (undef),some (undef),some (undef),some (undef),some (undef),some (undef),some (.bool true),some (.bool true)]
   [false,true,false,false,false,false,false,false,false,false,false,false,false,false] rfl
   (fun w1 w2=>Below w1.heap.size w1 w2)
   (fun _ w'=>Below wa.heap.size wa w')
   (fun i v w'=>match i with
    | 1=>v=.bool true
    | _=>True)
   ?_ (Bd _ _).drew ?_ ?_
  .intro i v w1 w2 hf hb;split at hf
   .exact hf
   .trivial
  .simp only[Bh,Nat.reduceAdd];refine⟨?_,?_,?_,?_,?_,?_,?_,?_,?_,?_,?_,?_,?_,?_,trivial⟩
   all_goals intro D sp w' hD hW hdp hbx'
   case refine_1=>
    have c0:=(HB.out.below hbx' HB.out.lt).cell
    with_reducible refine Ag ?_ ?_
    all_goals simp[Region.wanted,yielded,execOp,Act.eval,Act.put,go_sem,c0]
   case refine_2=>
    (with_reducible refine Ad (w1:=w') (f := 178) (args:=#[.agg #[.slice q m d]]) ?_ ?_ ?_)
    .simp[Region.wanted,yielded,Act.put,go_sem]
    .simp[Act.eval,Act.put,go_sem]
    .refine(Hp w' PP e _ (HF.out.below hbx') he).mono ?_;rintro en w9 ⟨rfl,hb⟩;rw[HS.out];exact⟨_,rfl,hb,rfl,Ab hbx' hb⟩
   case refine_3=>
    have k1:(sp 1)=.bool true:=(hdp 1 (mq (by kernel_rfl))).2
    with_reducible refine Ag ?_ ?_
    all_goals simp[Region.wanted,yielded,execOp,Act.eval,Act.put,go_sem,k1]
   case refine_4|refine_5|refine_6|refine_7|refine_8|refine_9|refine_10|refine_11|refine_12=>
    (with_reducible refine Hl ?_ ?_)
    ·(simp[Region.wanted,yielded,Act.put,go_sem]<;>exact fun h=>by cases h)
    .exact⟨rfl,rfl⟩
   all_goals ((with_reducible refine Ag ?_ ?_);all_goals first|(simp only[Region.wanted];done)|simp[Region.wanted,yielded,execOp,Act.eval,Act.put,go_sem])
  .intro sp w7 hsp hbx';have HBe:=Ac (Ab HBX.out hbx');clear hsp hbx';simp only[Ak,Nat.reduceAdd];generalize sp 1=y1 at *
   go_simp
   go_wp2;go_ret;exact⟨by rw[HA.out];rfl,HBe.out⟩
 .have HS:Aa (decide (Ce PP)=false):=⟨decide_eq_false hS⟩
  have HnS:Aa (¬Ce PP):=⟨hS⟩
  clear hS
  by_cases h2:2<=PP
  .have HG:Aa (decide (0<=K)=true):=⟨decide_eq_true (by
    rw[<-HK.out];rcases Nat.lt_or_ge PP 2 with h|h
    .omega
    .rcases Nat.eq_or_lt_of_le h with h|h
     .rw[<-h,Kb];decide
     .have:=Jl.2 h;omega)⟩
   obtain⟨CC,hCC⟩:∃X,decide (PP∈bs)=X:=⟨_,rfl⟩
   have HC:=Ac hCC;have HA:Aa (ANS=CC):=⟨by
    rw[<-HANS.out,<-hCC];exact decide_eq_decide.2 ⟨fun h=>by
     rcases h with h|h
     .exact absurd h HnS.out
     .exact h.2,fun h=>.inr ⟨h2,h⟩⟩⟩
   clear hCC h2;go_enter Tryz.func248,Tryz.ntmps248;go_wp2;have hG:=HG.out;refine Aj (by kernel_rfl) (by kernel_rfl)
    [some (.agg #[.slice q m d]),none,some (.bool false),some (.agg #[.slice q m d]),none,none,some (.bool true),some (.bool true),some (.slice pb nb cb),some (.agg #[.slice q m d]),none,some (.bool CC),some (.bool CC),some (.bool CC)]
    [false,true,false,false,true,true,false,false,false,false,true,false,false,false] rfl
    (fun w1 w2=>Below w1.heap.size w1 w2)
    (fun _ w'=>Below wa.heap.size wa w')
    (fun i v w'=>match i with
     | 1=>v=.bool false
     | 4=>Fit 1 2 v w'
     | 5=>v=.int .i64 K
     | 10=>v=.bool CC
     | _=>True)
    ?_ (Bd _ _).drew ?_ ?_
   .intro i v w1 w2 hf hb;split at hf
    .exact hf
    .exact hf.below hb
    .exact hf
    .exact hf
    .trivial
   .simp only[Bh,Nat.reduceAdd];refine⟨?_,?_,?_,?_,?_,?_,?_,?_,?_,?_,?_,?_,?_,?_,trivial⟩
    all_goals intro D sp w' hD hW hdp hbx'
    case refine_1|refine_4|refine_10=>
     have c0:=(HB.out.below hbx' HB.out.lt).cell
     with_reducible refine Ag ?_ ?_
     all_goals simp[Region.wanted,yielded,execOp,Act.eval,Act.put,go_sem,c0]
    case refine_2=>
     (with_reducible refine Ad (w1:=w') (f := 178) (args:=#[.agg #[.slice q m d]]) ?_ ?_ ?_)
     .simp[Region.wanted,yielded,Act.put,go_sem]
     .simp[Act.eval,Act.put,go_sem]
     .refine(Hp w' PP e _ (HF.out.below hbx') he).mono ?_;rintro en w9 ⟨rfl,hb⟩;rw[HS.out];exact⟨_,rfl,hb,rfl,Ab hbx' hb⟩
    case refine_3=>
     have k1:(sp 1)=.bool false:=(hdp 1 (mq (by kernel_rfl))).2
     with_reducible refine Ag ?_ ?_
     all_goals simp[Region.wanted,yielded,execOp,Act.eval,Act.put,go_sem,k1]
    case refine_5=>
     (with_reducible refine Ad (w1:=w') (f := 17) (args:=#[.int .u64 2]) ?_ ?_ ?_)
     .simp[Region.wanted,yielded,Act.put,go_sem]
     .simp[Act.eval,Act.put,go_sem]
     .refine(Rq w').mono ?_;rintro en w9 ⟨u,rfl,hu,hb⟩;exact⟨u,rfl,hb,hu,Ab hbx' hb⟩
    case refine_6=>
     have k4:Fit 1 2 (sp 4) w':=(hdp 4 (mq (by kernel_rfl))).2
     (with_reducible refine Ad (w1:=w') (f := 24) (args:=#[.agg #[.slice q m d],sp 4]) ?_ ?_ ?_)
     .simp[Region.wanted,yielded,Act.put,go_sem]
     .simp[Act.eval,Act.put,go_sem]
     .refine(Az (HF.out.below hbx') k4 (by omega) (by omega) HK.out).mono ?_;rintro en w9 ⟨u,rfl,rfl,hb⟩;exact⟨_,rfl,hb,rfl,Ab hbx' hb⟩
    case refine_7=>
     have k5:(sp 5)=.int .i64 K:=(hdp 5 (mq (by kernel_rfl))).2
     with_reducible refine Ag ?_ ?_
     all_goals simp[Region.wanted,yielded,execOp,Act.eval,Act.put,go_sem,k5,hG]
    case refine_11=>
     (with_reducible refine Ad (w1:=w') (f := 249) (args:=#[.slice pb nb cb,.agg #[.slice q m d]]) ?_ ?_ ?_)
     .simp[Region.wanted,yielded,Act.put,go_sem]
     .simp[Act.eval,Act.put,go_sem]
     .refine(Jk w' e pb nb cb bs _ PP (HL.out.below hbx') (HF.out.below hbx') (by omega)).mono ?_;rintro en w9 ⟨rfl,hb⟩;rw[HC.out];exact⟨_,rfl,hb,rfl,Ab hbx' hb⟩
    case refine_12=>
     have k10:(sp 10)=.bool CC:=(hdp 10 (mq (by kernel_rfl))).2
     with_reducible refine Ag ?_ ?_
     all_goals simp[Region.wanted,yielded,execOp,Act.eval,Act.put,go_sem,k10]
    all_goals ((with_reducible refine Ag ?_ ?_);all_goals first|(simp only[Region.wanted];done)|simp[Region.wanted,yielded,execOp,Act.eval,Act.put,go_sem])
   .intro sp w7 hsp hbx';have HBe:=Ac (Ab HBX.out hbx');clear hsp hbx';simp only[Ak,Nat.reduceAdd];generalize sp 1=y1,sp 4=y4,sp 5=y5,sp 10=y10 at *
    go_simp
    go_wp2;go_ret;exact⟨by rw[HA.out];rfl,HBe.out⟩
  .have HG:Aa (decide (0<=K)=false):=⟨decide_eq_false (by
    rw[<-HK.out,Dp (by omega)];decide)⟩
   have HA:Aa (ANS=false):=⟨by
    rw[<-HANS.out];refine decide_eq_false fun h=>?_
    rcases h with h|h
    .exact HnS.out h
    .exact h2 h.1⟩
   clear h2;go_enter Tryz.func248,Tryz.ntmps248;go_wp2;have hG:=HG.out;refine Aj (by kernel_rfl) (by kernel_rfl)
    [some (.agg #[.slice q m d]),none,some (.bool false),some (.agg #[.slice q m d]),none,none,some (.bool false),some (.bool false),some (undef),some (undef),some (undef),some (.bool false),some (.bool false),some (.bool false)]
    [false,true,false,false,true,true,false,false,false,false,false,false,false,false] rfl
    (fun w1 w2=>Below w1.heap.size w1 w2)
    (fun _ w'=>Below wa.heap.size wa w')
    (fun i v w'=>match i with
     | 1=>v=.bool false
     | 4=>Fit 1 2 v w'
     | 5=>v=.int .i64 K
     | _=>True)
    ?_ (Bd _ _).drew ?_ ?_
   .intro i v w1 w2 hf hb;split at hf
    .exact hf
    .exact hf.below hb
    .exact hf
    .trivial
   .simp only[Bh,Nat.reduceAdd];refine⟨?_,?_,?_,?_,?_,?_,?_,?_,?_,?_,?_,?_,?_,?_,trivial⟩
    all_goals intro D sp w' hD hW hdp hbx'
    case refine_1|refine_4=>
     have c0:=(HB.out.below hbx' HB.out.lt).cell
     with_reducible refine Ag ?_ ?_
     all_goals simp[Region.wanted,yielded,execOp,Act.eval,Act.put,go_sem,c0]
    case refine_2=>
     (with_reducible refine Ad (w1:=w') (f := 178) (args:=#[.agg #[.slice q m d]]) ?_ ?_ ?_)
     .simp[Region.wanted,yielded,Act.put,go_sem]
     .simp[Act.eval,Act.put,go_sem]
     .refine(Hp w' PP e _ (HF.out.below hbx') he).mono ?_;rintro en w9 ⟨rfl,hb⟩;rw[HS.out];exact⟨_,rfl,hb,rfl,Ab hbx' hb⟩
    case refine_3=>
     have k1:(sp 1)=.bool false:=(hdp 1 (mq (by kernel_rfl))).2
     with_reducible refine Ag ?_ ?_
     all_goals simp[Region.wanted,yielded,execOp,Act.eval,Act.put,go_sem,k1]
    case refine_5=>
     (with_reducible refine Ad (w1:=w') (f := 17) (args:=#[.int .u64 2]) ?_ ?_ ?_)
     .simp[Region.wanted,yielded,Act.put,go_sem]
     .simp[Act.eval,Act.put,go_sem]
     .refine(Rq w').mono ?_;rintro en w9 ⟨u,rfl,hu,hb⟩;exact⟨u,rfl,hb,hu,Ab hbx' hb⟩
    case refine_6=>
     have k4:Fit 1 2 (sp 4) w':=(hdp 4 (mq (by kernel_rfl))).2
     (with_reducible refine Ad (w1:=w') (f := 24) (args:=#[.agg #[.slice q m d],sp 4]) ?_ ?_ ?_)
     .simp[Region.wanted,yielded,Act.put,go_sem]
     .simp[Act.eval,Act.put,go_sem]
     .refine(Az (HF.out.below hbx') k4 (by omega) (by omega) HK.out).mono ?_;rintro en w9 ⟨u,rfl,rfl,hb⟩;exact⟨_,rfl,hb,rfl,Ab hbx' hb⟩
    case refine_7=>
     have k5:(sp 5)=.int .i64 K:=(hdp 5 (mq (by kernel_rfl))).2
     with_reducible refine Ag ?_ ?_
     all_goals simp[Region.wanted,yielded,execOp,Act.eval,Act.put,go_sem,k5,hG]
    case refine_9|refine_10|refine_11=>
     (with_reducible refine Hl ?_ ?_)
     ·(simp[Region.wanted,yielded,Act.put,go_sem]<;>exact fun h=>by cases h)
     .exact⟨rfl,rfl⟩
    all_goals ((with_reducible refine Ag ?_ ?_);all_goals first|(simp only[Region.wanted];done)|simp[Region.wanted,yielded,execOp,Act.eval,Act.put,go_sem])
   .intro sp w7 hsp hbx';have HBe:=Ac (Ab HBX.out hbx');clear hsp hbx';simp only[Ak,Nat.reduceAdd];generalize sp 1=y1,sp 4=y4,sp 5=y5 at *
    go_simp
    go_wp2;go_ret;exact⟨by rw[HA.out];rfl,HBe.out⟩
end Go.Proofs.YtokhckjemidbpaaGreatDoor
