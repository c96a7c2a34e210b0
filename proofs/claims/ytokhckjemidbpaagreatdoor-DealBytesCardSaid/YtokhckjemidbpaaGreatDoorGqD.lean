/- Whether a group's parameters are right. -/
import Derived.Test.YtokhckjemidbpaaGreatDoorGqC
set_option maxRecDepth 1000000
set_option maxHeartbeats 16000000
set_option linter.all false
namespace Go.Proofs.YtokhckjemidbpaaGreatDoor
open Go Go.RowKit Go.Proofs.YtokhckjemidbpaaGreatDoor.Flow
theorem Ev (w:World):Calls Tryz.prog 17 #[.int .u64 64] w fun en w'=>∃x,en=.returned x/\Fit 2 64 x w'/\Below w.heap.size w w':=Cm (n:=64) w (by decide)
theorem Br.keep' {w w':World}{B N:Nat}{x:Option Addr×Nat×Nat}(h:Br w x N)(k:Ap B w w'):Br w' x N:=k.nat _ _ _ _ h
open Classical in
theorem Zb {w:World}{e r f P Q G:Nat}{x y z:Option Addr×Nat×Nat}{ps:Option Addr}{ns cs:Nat}(hr:Ring w r P f)(hP0:Br w x P)(lP:P<Al e)(hQ0:Br w y Q)(lQ:Q<Al e)(hG0:Br w z G)(lG:G<Al e)(h1:1<=P)(h2:1<=Q)(he:e<=32)(hf:f<=33) :
  Calls Tryz.prog 127 #[.agg #[.slice x.1 x.2.1 x.2.2,.slice y.1 y.2.1 y.2.2,.slice z.1 z.2.1 z.2.2,.slice ps ns cs],.pointer (some ⟨r,0,none⟩)] w fun en w'=>en=.returned (.bool (decide (Pu P Q G)))/\Below w.heap.size w w':=by
 have hX0:=Cr.made 118 w (.slice x.1 x.2.1 x.2.2) (.slice y.1 y.2.1 y.2.2) (.slice z.1 z.2.1 z.2.2) (.slice ps ns cs);have hbel:Below w.heap.size w (w.alloc (.cells #[.slice x.1 x.2.1 x.2.2,.slice y.1 y.2.1 y.2.2,.slice z.1 z.2.1 z.2.2,.slice ps ns cs] 118)):=By;obtain⟨wa,hwa⟩:∃wa,w.alloc (.cells #[.slice x.1 x.2.1 x.2.2,.slice y.1 y.2.1 y.2.2,.slice z.1 z.2.1 z.2.2,.slice ps ns cs] 118)=wa:=⟨_,rfl⟩
 rw[hwa]at hX0 hbel
 have HX:=Ac hX0;have HB:=Ac hbel;have hP:Br wa x P:=Ah.below hP0 hbel;have hQ:Br wa y Q:=Ah.below hQ0 hbel;have HP:Aa (Fit e P (.agg #[.slice x.1 x.2.1 x.2.2]) wa):=⟨Fit.of hP lP⟩
 have HQ:Aa (Fit e Q (.agg #[.slice y.1 y.2.1 y.2.2]) wa):=⟨Fit.of hQ lQ⟩
 have HG:Aa (Fit e G (.agg #[.slice z.1 z.2.1 z.2.2]) wa):=⟨(Fit.of hG0 lG).below hbel⟩
 have HR:=Ac (hr.below hbel);have HRL:Aa (r<w.heap.size):=⟨hr.at_.lt⟩
 have H1:=Ac h1;have H2:=Ac h2;obtain⟨ANS,hANS⟩:∃X,decide (Pu P Q G)=X:=⟨_,rfl⟩
 have HANS:=Ac hANS;rw[hANS];obtain⟨Y1,hY⟩:∃X,decide (G^Q%P=1)=X:=⟨_,rfl⟩
 have HY:=Ac hY;obtain⟨K1,hK10⟩:∃K,Bp Q 64=K:=⟨_,rfl⟩
 obtain⟨K2,hK20⟩:∃K,Bp G 1=K:=⟨_,rfl⟩
 obtain⟨K3,hK30⟩:∃K,Bp G P=K:=⟨_,rfl⟩
 have HK1:=Ac hK10;have HK2:=Ac hK20;have HK3:=Ac hK30;have le0:∀a b:Nat,decide (Bp a b<=0)=decide (a<=b):=fun a b=>by
  rcases Nat.lt_trichotomy a b with h|h|h
  .rw[Dp h,decide_eq_true (show a<=b by omega)];decide
  .rw[h,Kb,decide_eq_true (Av b)];decide
  .have:=Jl.2 h;rw[decide_eq_false (show ¬a<=b by omega),decide_eq_false (by omega)]
 have ge0:∀a b:Nat,decide (0<=Bp a b)=decide (b<=a):=fun a b=>by
  rcases Nat.lt_trichotomy a b with h|h|h
  .rw[Dp h,decide_eq_false (show ¬b<=a by omega)];decide
  .rw[h,Kb,decide_eq_true (Av b)];decide
  .have:=Jl.2 h;rw[decide_eq_true (show b<=a by omega),decide_eq_true (by omega)]
 by_cases hq:Q<=64
 .have hK1:decide (K1<=0)=true:=by rw[<-hK10,le0];exact decide_eq_true hq
  have HA:Aa (ANS=false):=⟨by rw[<-hANS];exact decide_eq_false fun h=>by have:=h.2.1;omega⟩
  clear le0 ge0 hq hANS hY hK10 hK20 hK30 hX0 hbel hr hG0 hP0 hQ0 HK2 HK3 HY HANS h1 h2;go_enter Tryz.func127,Tryz.ntmps127;go_wp2;refine Am (by kernel_rfl) (by kernel_rfl)
   [some (.pointer (some ⟨w.heap.size,1,none⟩)),some (.agg #[.slice y.1 y.2.1 y.2.2]),none,none,some (.bool true),some (.bool true),some (undef),some (undef),some (undef),some (undef),some (undef),some (.bool true),some (.bool true),some (undef),some (undef),some (undef),some (undef),some (undef),some (undef),some (.bool true)]
   [false,false,true,true,false,false,false,false,false,false,false,false,false,false,false,false,false,false,false,false] rfl
   (fun w1 w2=>Ap (w.heap.size) w1 w2)
   (fun D sp w'=>RG (w.heap.size) wa [(w.heap.size,.cells #[.slice x.1 x.2.1 x.2.2,.slice y.1 y.2.1 y.2.2,.slice z.1 z.2.1 z.2.2,.slice ps ns cs] 118 (0,0))] w'/\True)
   (fun i v w'=>match i with
    | 2=>Fit 2 64 v w'
    | 3=>v=.int .i64 K1
    | _=>True)
   ?_ ⟨RG.start HB.out.size (List.forall_mem_cons.2 ⟨HX.out.at_,fun x hx=>by cases hx⟩),trivial⟩ ?_ ?_
  .intro i v w1 w2 hf hb;split at hf
   .exact hf.keep hb
   .exact hf
   .trivial
  .simp only[Bg,Nat.reduceAdd];refine⟨?_,?_,?_,?_,?_,?_,?_,?_,?_,?_,?_,?_,?_,?_,?_,?_,?_,?_,?_,?_,trivial⟩
   all_goals intro D sp w' hD hW hdp hg
   case refine_2=>
    have c1:=(Cr.cells ⟨hg.1.of List.mem_cons_self⟩).2.1
    with_reducible refine Ag ?_ ?_
    all_goals simp[Region.wanted,yielded,execOp,Act.eval,Act.put,go_sem,c1]
   case refine_3=>
    (with_reducible refine Ad (w1:=w') (f := 17) (args:=#[.int .u64 64]) ?_ ?_ ?_)
    .simp[Region.wanted,yielded,Act.put,go_sem]
    .simp[Act.eval,Act.put,go_sem]
    .refine(Ev w').mono ?_;rintro en w9 ⟨u,rfl,hu,hb⟩;exact⟨u,rfl,Ap.of hb hg.1.base,hu,hg.1.later hb,trivial⟩
   case refine_4=>
    have k2:Fit 2 64 (sp 2) w':=(hdp 2 (mq (by kernel_rfl))).2
    (with_reducible refine Ad (w1:=w') (f := 24) (args:=#[.agg #[.slice y.1 y.2.1 y.2.2],sp 2]) ?_ ?_ ?_)
    .simp[Region.wanted,yielded,Act.put,go_sem]
    .simp[Act.eval,Act.put,go_sem]
    .refine(Az (HQ.out.keep hg.1.keep) k2 (by omega) (by decide) HK1.out).mono ?_;rintro en w9 ⟨u,rfl,rfl,hb⟩;exact⟨_,rfl,Ap.of hb hg.1.base,rfl,hg.1.later hb,trivial⟩
   case refine_5=>
    have k3:(sp 3)=.int .i64 K1:=(hdp 3 (mq (by kernel_rfl))).2
    with_reducible refine Ag ?_ ?_
    all_goals simp[Region.wanted,yielded,execOp,Act.eval,Act.put,go_sem,k3,hK1]
   case refine_7|refine_8|refine_9|refine_10|refine_11|refine_14|refine_15|refine_16|refine_17|refine_18|refine_19=>
    (with_reducible refine Hl ?_ ?_)
    ·(simp[Region.wanted,yielded,Act.put,go_sem]<;>exact fun h=>by cases h)
    .exact⟨rfl,rfl⟩
   all_goals ((with_reducible refine Ag ?_ ?_);all_goals first|(simp only[Region.wanted];done)|simp[Region.wanted,yielded,execOp,Act.eval,Act.put,go_sem])
  .intro sp w2 hsp hg;have HE7:=Ac (HB.out.trans hg.1.keep.bel);clear hsp hg;simp only[Ak,Nat.reduceAdd];generalize sp 2=y2,sp 3=y3 at *
   go_simp
   go_wp2;go_ret;exact⟨by rw[HA.out];rfl,HE7.out⟩
 have hK1:decide (K1<=0)=false:=by rw[<-hK10,le0];exact decide_eq_false hq
 by_cases hg:G<=1
 .have hK2:decide (K2<=0)=true:=by rw[<-hK20,le0];exact decide_eq_true hg
  have HA:Aa (ANS=false):=⟨by rw[<-hANS];exact decide_eq_false fun h=>by have:=h.2.2.1;omega⟩
  clear le0 ge0 hq hg hANS hY hK10 hK20 hK30 hX0 hbel hr hG0 hP0 hQ0 HK3 HY HANS h1 h2;go_enter Tryz.func127,Tryz.ntmps127;go_wp2;refine Am (by kernel_rfl) (by kernel_rfl)
   [some (.pointer (some ⟨w.heap.size,1,none⟩)),some (.agg #[.slice y.1 y.2.1 y.2.2]),none,none,some (.bool false),some (.bool false),some (.pointer (some ⟨w.heap.size,2,none⟩)),some (.agg #[.slice z.1 z.2.1 z.2.2]),none,none,some (.bool true),some (.bool true),some (.bool true),some (undef),some (undef),some (undef),some (undef),some (undef),some (undef),some (.bool true)]
   [false,false,true,true,false,false,false,false,true,true,false,false,false,false,false,false,false,false,false,false] rfl
   (fun w1 w2=>Ap (w.heap.size) w1 w2)
   (fun D sp w'=>RG (w.heap.size) wa [(w.heap.size,.cells #[.slice x.1 x.2.1 x.2.2,.slice y.1 y.2.1 y.2.2,.slice z.1 z.2.1 z.2.2,.slice ps ns cs] 118 (0,0))] w'/\True)
   (fun i v w'=>match i with
    | 2=>Fit 2 64 v w'
    | 3=>v=.int .i64 K1
    | 8=>Fit 1 1 v w'
    | 9=>v=.int .i64 K2
    | _=>True)
   ?_ ⟨RG.start HB.out.size (List.forall_mem_cons.2 ⟨HX.out.at_,fun x hx=>by cases hx⟩),trivial⟩ ?_ ?_
  .intro i v w1 w2 hf hb;split at hf
   .exact hf.keep hb
   .exact hf
   .exact hf.keep hb
   .exact hf
   .trivial
  .simp only[Bg,Nat.reduceAdd];refine⟨?_,?_,?_,?_,?_,?_,?_,?_,?_,?_,?_,?_,?_,?_,?_,?_,?_,?_,?_,?_,trivial⟩
   all_goals intro D sp w' hD hW hdp hg
   case refine_2=>
    have c1:=(Cr.cells ⟨hg.1.of List.mem_cons_self⟩).2.1
    with_reducible refine Ag ?_ ?_
    all_goals simp[Region.wanted,yielded,execOp,Act.eval,Act.put,go_sem,c1]
   case refine_3=>
    (with_reducible refine Ad (w1:=w') (f := 17) (args:=#[.int .u64 64]) ?_ ?_ ?_)
    .simp[Region.wanted,yielded,Act.put,go_sem]
    .simp[Act.eval,Act.put,go_sem]
    .refine(Ev w').mono ?_;rintro en w9 ⟨u,rfl,hu,hb⟩;exact⟨u,rfl,Ap.of hb hg.1.base,hu,hg.1.later hb,trivial⟩
   case refine_4=>
    have k2:Fit 2 64 (sp 2) w':=(hdp 2 (mq (by kernel_rfl))).2
    (with_reducible refine Ad (w1:=w') (f := 24) (args:=#[.agg #[.slice y.1 y.2.1 y.2.2],sp 2]) ?_ ?_ ?_)
    .simp[Region.wanted,yielded,Act.put,go_sem]
    .simp[Act.eval,Act.put,go_sem]
    .refine(Az (HQ.out.keep hg.1.keep) k2 (by omega) (by decide) HK1.out).mono ?_;rintro en w9 ⟨u,rfl,rfl,hb⟩;exact⟨_,rfl,Ap.of hb hg.1.base,rfl,hg.1.later hb,trivial⟩
   case refine_5=>
    have k3:(sp 3)=.int .i64 K1:=(hdp 3 (mq (by kernel_rfl))).2
    with_reducible refine Ag ?_ ?_
    all_goals simp[Region.wanted,yielded,execOp,Act.eval,Act.put,go_sem,k3,hK1]
   case refine_8=>
    have c2:=(Cr.cells ⟨hg.1.of List.mem_cons_self⟩).2.2.1
    with_reducible refine Ag ?_ ?_
    all_goals simp[Region.wanted,yielded,execOp,Act.eval,Act.put,go_sem,c2]
   case refine_9=>
    (with_reducible refine Ad (w1:=w') (f := 17) (args:=#[.int .u64 1]) ?_ ?_ ?_)
    .simp[Region.wanted,yielded,Act.put,go_sem]
    .simp[Act.eval,Act.put,go_sem]
    .refine(Ex w').mono ?_;rintro en w9 ⟨u,rfl,hu,hb⟩;exact⟨u,rfl,Ap.of hb hg.1.base,hu,hg.1.later hb,trivial⟩
   case refine_10=>
    have k8:Fit 1 1 (sp 8) w':=(hdp 8 (mq (by kernel_rfl))).2
    (with_reducible refine Ad (w1:=w') (f := 24) (args:=#[.agg #[.slice z.1 z.2.1 z.2.2],sp 8]) ?_ ?_ ?_)
    .simp[Region.wanted,yielded,Act.put,go_sem]
    .simp[Act.eval,Act.put,go_sem]
    .refine(Az (HG.out.keep hg.1.keep) k8 (by omega) (by decide) HK2.out).mono ?_;rintro en w9 ⟨u,rfl,rfl,hb⟩;exact⟨_,rfl,Ap.of hb hg.1.base,rfl,hg.1.later hb,trivial⟩
   case refine_11=>
    have k9:(sp 9)=.int .i64 K2:=(hdp 9 (mq (by kernel_rfl))).2
    with_reducible refine Ag ?_ ?_
    all_goals simp[Region.wanted,yielded,execOp,Act.eval,Act.put,go_sem,k9,hK2]
   case refine_14|refine_15|refine_16|refine_17|refine_18|refine_19=>
    (with_reducible refine Hl ?_ ?_)
    ·(simp[Region.wanted,yielded,Act.put,go_sem]<;>exact fun h=>by cases h)
    .exact⟨rfl,rfl⟩
   all_goals ((with_reducible refine Ag ?_ ?_);all_goals first|(simp only[Region.wanted];done)|simp[Region.wanted,yielded,execOp,Act.eval,Act.put,go_sem])
  .intro sp w2 hsp hg;have HE7:=Ac (HB.out.trans hg.1.keep.bel);clear hsp hg;simp only[Ak,Nat.reduceAdd];generalize sp 2=y2,sp 3=y3,sp 8=y8,sp 9=y9 at *
   go_simp
   go_wp2;go_ret;exact⟨by rw[HA.out];rfl,HE7.out⟩
 have hK2:decide (K2<=0)=false:=by rw[<-hK20,le0];exact decide_eq_false hg
 by_cases hp:P<=G
 .have hK3:decide (0<=K3)=true:=by rw[<-hK30,ge0];exact decide_eq_true hp
  have HA:Aa (ANS=false):=⟨by rw[<-hANS];exact decide_eq_false fun h=>by have:=h.2.2.2.1;omega⟩
  clear le0 ge0 hq hg hp hANS hY hK10 hK20 hK30 hX0 hbel hr hG0 hP0 hQ0 HY HANS h1 h2;go_enter Tryz.func127,Tryz.ntmps127;go_wp2;refine Am (by kernel_rfl) (by kernel_rfl)
   [some (.pointer (some ⟨w.heap.size,1,none⟩)),some (.agg #[.slice y.1 y.2.1 y.2.2]),none,none,some (.bool false),some (.bool false),some (.pointer (some ⟨w.heap.size,2,none⟩)),some (.agg #[.slice z.1 z.2.1 z.2.2]),none,none,some (.bool false),some (.bool false),some (.bool false),some (.pointer (some ⟨w.heap.size,2,none⟩)),some (.agg #[.slice z.1 z.2.1 z.2.2]),some (.pointer (some ⟨w.heap.size,0,none⟩)),some (.agg #[.slice x.1 x.2.1 x.2.2]),none,some (.bool true),some (.bool true)]
   [false,false,true,true,false,false,false,false,true,true,false,false,false,false,false,false,false,true,false,false] rfl
   (fun w1 w2=>Ap (w.heap.size) w1 w2)
   (fun D sp w'=>RG (w.heap.size) wa [(w.heap.size,.cells #[.slice x.1 x.2.1 x.2.2,.slice y.1 y.2.1 y.2.2,.slice z.1 z.2.1 z.2.2,.slice ps ns cs] 118 (0,0))] w'/\True)
   (fun i v w'=>match i with
    | 2=>Fit 2 64 v w'
    | 3=>v=.int .i64 K1
    | 8=>Fit 1 1 v w'
    | 9=>v=.int .i64 K2
    | 17=>v=.int .i64 K3
    | _=>True)
   ?_ ⟨RG.start HB.out.size (List.forall_mem_cons.2 ⟨HX.out.at_,fun x hx=>by cases hx⟩),trivial⟩ ?_ ?_
  .intro i v w1 w2 hf hb;split at hf
   .exact hf.keep hb
   .exact hf
   .exact hf.keep hb
   .exact hf
   .exact hf
   .trivial
  .simp only[Bg,Nat.reduceAdd];refine⟨?_,?_,?_,?_,?_,?_,?_,?_,?_,?_,?_,?_,?_,?_,?_,?_,?_,?_,?_,?_,trivial⟩
   all_goals intro D sp w' hD hW hdp hg
   case refine_2=>
    have c1:=(Cr.cells ⟨hg.1.of List.mem_cons_self⟩).2.1
    with_reducible refine Ag ?_ ?_
    all_goals simp[Region.wanted,yielded,execOp,Act.eval,Act.put,go_sem,c1]
   case refine_3=>
    (with_reducible refine Ad (w1:=w') (f := 17) (args:=#[.int .u64 64]) ?_ ?_ ?_)
    .simp[Region.wanted,yielded,Act.put,go_sem]
    .simp[Act.eval,Act.put,go_sem]
    .refine(Ev w').mono ?_;rintro en w9 ⟨u,rfl,hu,hb⟩;exact⟨u,rfl,Ap.of hb hg.1.base,hu,hg.1.later hb,trivial⟩
   case refine_4=>
    have k2:Fit 2 64 (sp 2) w':=(hdp 2 (mq (by kernel_rfl))).2
    (with_reducible refine Ad (w1:=w') (f := 24) (args:=#[.agg #[.slice y.1 y.2.1 y.2.2],sp 2]) ?_ ?_ ?_)
    .simp[Region.wanted,yielded,Act.put,go_sem]
    .simp[Act.eval,Act.put,go_sem]
    .refine(Az (HQ.out.keep hg.1.keep) k2 (by omega) (by decide) HK1.out).mono ?_;rintro en w9 ⟨u,rfl,rfl,hb⟩;exact⟨_,rfl,Ap.of hb hg.1.base,rfl,hg.1.later hb,trivial⟩
   case refine_5=>
    have k3:(sp 3)=.int .i64 K1:=(hdp 3 (mq (by kernel_rfl))).2
    with_reducible refine Ag ?_ ?_
    all_goals simp[Region.wanted,yielded,execOp,Act.eval,Act.put,go_sem,k3,hK1]
   case refine_8|refine_15=>
    have c2:=(Cr.cells ⟨hg.1.of List.mem_cons_self⟩).2.2.1
    with_reducible refine Ag ?_ ?_
    all_goals simp[Region.wanted,yielded,execOp,Act.eval,Act.put,go_sem,c2]
   case refine_9=>
    (with_reducible refine Ad (w1:=w') (f := 17) (args:=#[.int .u64 1]) ?_ ?_ ?_)
    .simp[Region.wanted,yielded,Act.put,go_sem]
    .simp[Act.eval,Act.put,go_sem]
    .refine(Ex w').mono ?_;rintro en w9 ⟨u,rfl,hu,hb⟩;exact⟨u,rfl,Ap.of hb hg.1.base,hu,hg.1.later hb,trivial⟩
   case refine_10=>
    have k8:Fit 1 1 (sp 8) w':=(hdp 8 (mq (by kernel_rfl))).2
    (with_reducible refine Ad (w1:=w') (f := 24) (args:=#[.agg #[.slice z.1 z.2.1 z.2.2],sp 8]) ?_ ?_ ?_)
    .simp[Region.wanted,yielded,Act.put,go_sem]
    .simp[Act.eval,Act.put,go_sem]
    .refine(Az (HG.out.keep hg.1.keep) k8 (by omega) (by decide) HK2.out).mono ?_;rintro en w9 ⟨u,rfl,rfl,hb⟩;exact⟨_,rfl,Ap.of hb hg.1.base,rfl,hg.1.later hb,trivial⟩
   case refine_11=>
    have k9:(sp 9)=.int .i64 K2:=(hdp 9 (mq (by kernel_rfl))).2
    with_reducible refine Ag ?_ ?_
    all_goals simp[Region.wanted,yielded,execOp,Act.eval,Act.put,go_sem,k9,hK2]
   case refine_17=>
    have c0:=(Cr.cells ⟨hg.1.of List.mem_cons_self⟩).1
    with_reducible refine Ag ?_ ?_
    all_goals simp[Region.wanted,yielded,execOp,Act.eval,Act.put,go_sem,c0]
   case refine_18=>
    (with_reducible refine Ad (w1:=w') (f := 24) (args:=#[.agg #[.slice z.1 z.2.1 z.2.2],.agg #[.slice x.1 x.2.1 x.2.2]]) ?_ ?_ ?_)
    .simp[Region.wanted,yielded,Act.put,go_sem]
    .simp[Act.eval,Act.put,go_sem]
    .refine(Az (HG.out.keep hg.1.keep) (HP.out.keep hg.1.keep) (by omega) (by omega) HK3.out).mono ?_;rintro en w9 ⟨u,rfl,rfl,hb⟩;exact⟨_,rfl,Ap.of hb hg.1.base,rfl,hg.1.later hb,trivial⟩
   case refine_19=>
    have k17:(sp 17)=.int .i64 K3:=(hdp 17 (mq (by kernel_rfl))).2
    with_reducible refine Ag ?_ ?_
    all_goals simp[Region.wanted,yielded,execOp,Act.eval,Act.put,go_sem,k17,hK3]
   all_goals ((with_reducible refine Ag ?_ ?_);all_goals first|(simp only[Region.wanted];done)|simp[Region.wanted,yielded,execOp,Act.eval,Act.put,go_sem])
  .intro sp w2 hsp hg;have HE7:=Ac (HB.out.trans hg.1.keep.bel);clear hsp hg;simp only[Ak,Nat.reduceAdd];generalize sp 2=y2,sp 3=y3,sp 8=y8,sp 9=y9,sp 17=y17 at *
   go_simp
   go_wp2;go_ret;exact⟨by rw[HA.out];rfl,HE7.out⟩
 have hK3:decide (0<=K3)=false:=by rw[<-hK30,ge0];exact decide_eq_false hp
 have HC:Aa (64<Q/\1<G/\G<P):=⟨by omega⟩
 clear le0 ge0 hq hg hp hANS hY hK10 hK20 hK30 hX0 hbel hr hG0 hP0 hQ0 h1 h2;go_enter Tryz.func127,Tryz.ntmps127;go_wp2;refine Am (by kernel_rfl) (by kernel_rfl)
  [some (.pointer (some ⟨w.heap.size,1,none⟩)),some (.agg #[.slice y.1 y.2.1 y.2.2]),none,none,some (.bool false),some (.bool false),some (.pointer (some ⟨w.heap.size,2,none⟩)),some (.agg #[.slice z.1 z.2.1 z.2.2]),none,none,some (.bool false),some (.bool false),some (.bool false),some (.pointer (some ⟨w.heap.size,2,none⟩)),some (.agg #[.slice z.1 z.2.1 z.2.2]),some (.pointer (some ⟨w.heap.size,0,none⟩)),some (.agg #[.slice x.1 x.2.1 x.2.2]),none,some (.bool false),some (.bool false)]
  [false,false,true,true,false,false,false,false,true,true,false,false,false,false,false,false,false,true,false,false] rfl
  (fun w1 w2=>Ap (w.heap.size) w1 w2)
  (fun D sp w'=>RG (w.heap.size) wa [(w.heap.size,.cells #[.slice x.1 x.2.1 x.2.2,.slice y.1 y.2.1 y.2.2,.slice z.1 z.2.1 z.2.2,.slice ps ns cs] 118 (0,0))] w'/\True)
  (fun i v w'=>match i with
   | 2=>Fit 2 64 v w'
   | 3=>v=.int .i64 K1
   | 8=>Fit 1 1 v w'
   | 9=>v=.int .i64 K2
   | 17=>v=.int .i64 K3
   | _=>True)
  ?_ ⟨RG.start HB.out.size (List.forall_mem_cons.2 ⟨HX.out.at_,fun x hx=>by cases hx⟩),trivial⟩ ?_ ?_
 .intro i v w1 w2 hf hb;split at hf
  .exact hf.keep hb
  .exact hf
  .exact hf.keep hb
  .exact hf
  .exact hf
  .trivial
 .simp only[Bg,Nat.reduceAdd];refine⟨?_,?_,?_,?_,?_,?_,?_,?_,?_,?_,?_,?_,?_,?_,?_,?_,?_,?_,?_,?_,trivial⟩
  all_goals intro D sp w' hD hW hdp hg
  case refine_2=>
   have c1:=(Cr.cells ⟨hg.1.of List.mem_cons_self⟩).2.1
   with_reducible refine Ag ?_ ?_
   all_goals simp[Region.wanted,yielded,execOp,Act.eval,Act.put,go_sem,c1]
  case refine_3=>
   (with_reducible refine Ad (w1:=w') (f := 17) (args:=#[.int .u64 64]) ?_ ?_ ?_)
   .simp[Region.wanted,yielded,Act.put,go_sem]
   .simp[Act.eval,Act.put,go_sem]
   .refine(Ev w').mono ?_;rintro en w9 ⟨u,rfl,hu,hb⟩;exact⟨u,rfl,Ap.of hb hg.1.base,hu,hg.1.later hb,trivial⟩
  case refine_4=>
   have k2:Fit 2 64 (sp 2) w':=(hdp 2 (mq (by kernel_rfl))).2
   (with_reducible refine Ad (w1:=w') (f := 24) (args:=#[.agg #[.slice y.1 y.2.1 y.2.2],sp 2]) ?_ ?_ ?_)
   .simp[Region.wanted,yielded,Act.put,go_sem]
   .simp[Act.eval,Act.put,go_sem]
   .refine(Az (HQ.out.keep hg.1.keep) k2 (by omega) (by decide) HK1.out).mono ?_;rintro en w9 ⟨u,rfl,rfl,hb⟩;exact⟨_,rfl,Ap.of hb hg.1.base,rfl,hg.1.later hb,trivial⟩
  case refine_5=>
   have k3:(sp 3)=.int .i64 K1:=(hdp 3 (mq (by kernel_rfl))).2
   with_reducible refine Ag ?_ ?_
   all_goals simp[Region.wanted,yielded,execOp,Act.eval,Act.put,go_sem,k3,hK1]
  case refine_8|refine_15=>
   have c2:=(Cr.cells ⟨hg.1.of List.mem_cons_self⟩).2.2.1
   with_reducible refine Ag ?_ ?_
   all_goals simp[Region.wanted,yielded,execOp,Act.eval,Act.put,go_sem,c2]
  case refine_9=>
   (with_reducible refine Ad (w1:=w') (f := 17) (args:=#[.int .u64 1]) ?_ ?_ ?_)
   .simp[Region.wanted,yielded,Act.put,go_sem]
   .simp[Act.eval,Act.put,go_sem]
   .refine(Ex w').mono ?_;rintro en w9 ⟨u,rfl,hu,hb⟩;exact⟨u,rfl,Ap.of hb hg.1.base,hu,hg.1.later hb,trivial⟩
  case refine_10=>
   have k8:Fit 1 1 (sp 8) w':=(hdp 8 (mq (by kernel_rfl))).2
   (with_reducible refine Ad (w1:=w') (f := 24) (args:=#[.agg #[.slice z.1 z.2.1 z.2.2],sp 8]) ?_ ?_ ?_)
   .simp[Region.wanted,yielded,Act.put,go_sem]
   .simp[Act.eval,Act.put,go_sem]
   .refine(Az (HG.out.keep hg.1.keep) k8 (by omega) (by decide) HK2.out).mono ?_;rintro en w9 ⟨u,rfl,rfl,hb⟩;exact⟨_,rfl,Ap.of hb hg.1.base,rfl,hg.1.later hb,trivial⟩
  case refine_11=>
   have k9:(sp 9)=.int .i64 K2:=(hdp 9 (mq (by kernel_rfl))).2
   with_reducible refine Ag ?_ ?_
   all_goals simp[Region.wanted,yielded,execOp,Act.eval,Act.put,go_sem,k9,hK2]
  case refine_17=>
   have c0:=(Cr.cells ⟨hg.1.of List.mem_cons_self⟩).1
   with_reducible refine Ag ?_ ?_
   all_goals simp[Region.wanted,yielded,execOp,Act.eval,Act.put,go_sem,c0]
  case refine_18=>
   (with_reducible refine Ad (w1:=w') (f := 24) (args:=#[.agg #[.slice z.1 z.2.1 z.2.2],.agg #[.slice x.1 x.2.1 x.2.2]]) ?_ ?_ ?_)
   .simp[Region.wanted,yielded,Act.put,go_sem]
   .simp[Act.eval,Act.put,go_sem]
   .refine(Az (HG.out.keep hg.1.keep) (HP.out.keep hg.1.keep) (by omega) (by omega) HK3.out).mono ?_;rintro en w9 ⟨u,rfl,rfl,hb⟩;exact⟨_,rfl,Ap.of hb hg.1.base,rfl,hg.1.later hb,trivial⟩
  case refine_19=>
   have k17:(sp 17)=.int .i64 K3:=(hdp 17 (mq (by kernel_rfl))).2
   with_reducible refine Ag ?_ ?_
   all_goals simp[Region.wanted,yielded,execOp,Act.eval,Act.put,go_sem,k17,hK3]
  all_goals ((with_reducible refine Ag ?_ ?_);all_goals first|(simp only[Region.wanted];done)|simp[Region.wanted,yielded,execOp,Act.eval,Act.put,go_sem])
 .intro sp w2 hsp hg;have HK2:=Ac hg.1;obtain⟨c0,cy,c2,c3⟩:=Cr.cells ⟨hg.1.of List.mem_cons_self⟩;clear hsp hg hK1 hK2 hK3;simp only[Ak,Nat.reduceAdd];generalize sp 2=y2,sp 3=y3,sp 8=y8,sp 9=y9,sp 17=y17 at *
  go_simp
  go_wp2_with fail
  refine(Qz (x:=x) (y:=y) (z:=z) (hP.keep' HK2.out.keep) lP (hQ.keep' HK2.out.keep) lQ H1.out H2.out he).mono ?_;rintro en w3 ⟨_,rfl,⟨p5,n5,c5,rfl,hn5,_⟩,hb3⟩;have hb4:Below w3.heap.size w3 (w3.alloc (.cells #[.slice p5 n5 c5] 37)):=By;obtain⟨w4,hw4⟩:∃w4,w3.alloc (.cells #[.slice p5 n5 c5] 37)=w4:=⟨_,rfl⟩
  rw[hw4]at hb4
  have HK4:=Ac (HK2.out.later (Ab hb3 hb4));obtain⟨d0,dy,d2,d3⟩:=Cr.cells ⟨HK4.out.of List.mem_cons_self⟩;have HE4:=Ac (HB.out.trans HK4.out.keep.bel);clear hb3 hb4 hn5 c0 cy c2 c3
  by_cases hm:(P-1)%Q=0
  .have HM:Aa (ANS=Y1):=⟨by
    rw[<-HANS.out,<-HY.out];exact decide_eq_decide.2 ⟨fun h=>h.2.2.2.2,fun h=>⟨hm,HC.out.1,HC.out.2.1,HC.out.2.2,h⟩⟩⟩
   rw[decide_eq_true hm];clear hm
   go_wp2_with fail
   refine(Iw (HR.out.keep HRL.out HK4.out.keep) (HG.out.keep HK4.out.keep) (HQ.out.keep HK4.out.keep) (by omega) (by omega)).mono ?_;rintro en w5 ⟨x6,rfl,hx6,hb5⟩;have HX6:=Ac hx6;have HE5:=Ac (Ab HE4.out hb5);clear hx6 hb5 d0 dy d2 d3
   go_wp2_with fail
   refine(Zx HX6.out (by omega)).mono ?_;rintro en w6 ⟨rfl,hb6⟩;rw[HY.out];have HE6:=Ac (Ab HE5.out hb6);clear hb6;go_wp2;go_ret;exact⟨by rw[HM.out];rfl,HE6.out⟩
  .have HM:Aa (ANS=false):=⟨by
    rw[<-HANS.out];exact decide_eq_false fun h=>hm h.1⟩
   rw[decide_eq_false hm];clear hm;go_wp2;go_ret;exact⟨by rw[HM.out];rfl,HE4.out⟩
end Go.Proofs.YtokhckjemidbpaaGreatDoor
