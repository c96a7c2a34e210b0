/- Which primes a step may have, of the program. -/
import Derived.Test.YtnbmfaihlefgfaaGreatDoorMacB
import Derived.Deep.Cut
set_option maxRecDepth 1000000
set_option maxHeartbeats 16000000
set_option linter.all false
namespace Go.Proofs.YtnbmfaihlefgfaaGreatDoor
open Go Go.RowKit Go.Proofs.YtnbmfaihlefgfaaGreatDoor.Flow
structure Asks (g:Nat) (lb:Array Value) (w:World) (e:Nat) (Ns:List Nat) (p:Nat->Bool):Prop where
 out:∀(W:World) (N:Nat) (v:Value),Below w.heap.size w W->N∈Ns->Fit e N v W->Calls Tryz.prog g (#[v]++lb) W fun en w'=>en=.returned (.bool (p N))/\Below W.heap.size W w'
theorem oU {Ns:List Nat}{p:Nat->Bool}{k X:Nat}(h:Ns[k]? = some X)(hp:p X=true):Ns.any p=true :=
 List.any_eq_true.2 ⟨X,List.mem_of_getElem? h,hp⟩
theorem mN {Ns:List Nat}{p:Nat->Bool}(h:∀(i X:Nat),Ns[i]? = some X->p X=false):Ns.any p=false:=by
 rw[List.any_eq_false];intro x hx;obtain⟨i,hi⟩:=List.getElem?_of_mem hx;rw[h i x hi];exact Bool.false_ne_true
theorem Yz (w:World)(e:Nat)(p0:Option Addr)(n c:Nat)(Ns:List Nat)(g:Nat)(lb:Array Value)(eg:∀args w,(callFunc g args).run Tryz.prog w=.ok (.enter g args) w)(p:Nat->Bool)(h:Aw w e p0 n c Ns)(hp:Asks g lb w e Ns p) :
  Calls Tryz.prog 184 #[.slice p0 n c,.func (.func g) #[] lb] w fun en w'=>∃K:Int,en=.returned (.int .i64 K)/\decide (0<=K)=Ns.any p/\Below w.heap.size w w':=by
 have HH:=Aa h;have hn:=h.len;have hmax:n<=9223372036854775807:=Dm h.cap h.max;have HLN:=Aa hn;clear h hn;go_enter Tryz.func184,Tryz.ntmps184;go_wp2
 go_loopw [5,8] (fun _ iv wr=>∃k:Nat,k<=n/\iv=.int .i64 k/\Ab (∀i X,i<k->Ns[i]? = some X->p X=false)/\Ab (Below w.heap.size w wr)) (fun _ iv _=>n-(intOf iv).toNat)
 case atStart=>exact⟨0,by omega,rfl,⟨fun i X h=>by omega⟩,⟨Br _ _⟩⟩
 case round=>
  obtain⟨k,hk,rfl,HJ,HB⟩:=hrel
  by_cases hkn:k<n
  .obtain⟨X,hXk⟩:∃X,Ns[k]? = some X:=⟨Ns[k]'(by rw[<-HLN.out];exact hkn),List.getElem?_eq_getElem _⟩
   obtain⟨b,off,rfl,hb,hc⟩:=(HH.out.below HB.out).at_ (by omega)
   obtain⟨q,m,d,hx,hnx,hlim⟩:=hc k X hXk;have HC:=Aa (hp.out wr X _ HB.out (List.mem_of_getElem? hXk) (Fit.of hnx hlim));have HX:=Aa hXk;have hkn':(k:Int)<n:=by omega
   clear hc hnx hlim hXk hp;obtain⟨P,hP⟩:∃P,p X=P:=⟨_,rfl⟩
   rw[hP]at HC
   have HP:=Aa hP;clear hP
   cases P with
   | true=>
    go_wp2_with (go_at_fn g;refine HC.out.mono ?_;rintro en w1 ⟨rfl,hb1⟩)
    go_ret;exact⟨_,rfl,by rw[oU HX.out HP.out];exact decide_eq_true (by omega),Ae HB.out hb1⟩
   | false=>
    have HJ':Ab (∀i Y,i<k+1->Ns[i]? = some Y->p Y=false):=⟨fun i Y hi hY=>by
     rcases(by omega:i<k ∨ i=k) with h|rfl
     .exact HJ.out i Y h hY
     .have:=HX.out;rw[hY]at this
      cases this;exact HP.out⟩
    go_wp2_with (go_at_fn g;refine HC.out.mono ?_;rintro en w1 ⟨rfl,hb1⟩)
    go_roundw
    case rel=>exact⟨k+1,by omega,by go_num,HJ',⟨Ae HB.out hb1⟩⟩
    case measure=>simp[intOf];omega
  .obtain rfl:k=n:=by omega
   have hkn':¬(k:Int)<k:=by omega
   go_wp2;go_ret;refine⟨_,rfl,?_,HB.out⟩;rw[mN fun i X hX=>HJ.out i X (by rw[HLN.out];exact(List.getElem?_eq_some_iff.1 hX).1) hX];rfl
theorem Nn (w:World)(e:Nat)(p0:Option Addr)(n c:Nat)(Ns:List Nat)(g:Nat)(lb:Array Value)(eg:∀args w,(callFunc g args).run Tryz.prog w=.ok (.enter g args) w)(p:Nat->Bool)(h:Aw w e p0 n c Ns)(hp:Asks g lb w e Ns p) :
  Calls Tryz.prog 136 #[.slice p0 n c,.func (.func g) #[] lb] w fun en w'=>en=.returned (.bool (Ns.any p))/\Below w.heap.size w w':=by
 go_enter Tryz.func136,Tryz.ntmps136
 go_wp2_with fail
 refine(Yz w e p0 n c Ns g lb eg p h hp).mono ?_;rintro en w1 ⟨K,rfl,hK,hb⟩;have HB:=Aa hb;have HK:=Aa hK;clear hK hb;go_wp2;go_ret;exact⟨by rw[<-HK.out];rfl,HB.out⟩
theorem bY (w:World)(e:Nat)(Ns:List Nat)(b q:Nat)(v:Value)(N:Nat)(hb:b<w.heap.size)(hc:w.cell? ⟨b,0,none⟩=some v)(hv:Fit e N (.agg #[v]) w)(he:e<=900000) :
  Asks 265 #[.pointer (some ⟨b,0,none⟩)] w e Ns (fun M=>decide (M=N)):=by
 refine⟨fun W M u hbw _ hu=>?_⟩;have hc':W.cell? ⟨b,0,none⟩=some v:=(hbw.cell (p:=⟨b,0,none⟩) hb).trans hc;have hv':=hv.below hbw;obtain⟨pu,nu,cu,rfl,hu1,hu2⟩:=hu;have hbx:=Dq.mk1 W (.slice pu nu cu) 36;have hbW:b<W.heap.size:=Eh hb hbw.size;have hc2:(W.alloc (.cells #[.slice pu nu cu] 36)).cell? ⟨b,0,none⟩=some v:=(hbx.bel.cell (p:=⟨b,0,none⟩) hbW).trans hc';have HA:=Aa ((Fit.of hu1 hu2).below hbx.bel);have HV:=Aa (hv'.below hbx.bel);have HBX:=Aa hbx.bel;obtain⟨pv,nv,cv,hev,_,_⟩:=hv;cases hev;clear hu1 hu2 hbx hv' hc' hc;go_enter Tryz.func265,Tryz.ntmps265
 go_wp2_with fail
 refine(Im HA.out HV.out he he).mono ?_;rintro en w1 ⟨_,rfl,rfl,hb1⟩;have HB1:=Aa (Ae HBX.out hb1);have e0:((By M N:Int)==0)=decide (M=N):=by
  by_cases hnm:M=N
  .simp[hnm,Cr.2]
  .have:By M N≠0:=fun h0=>hnm (Cr.1 h0)
   simp[hnm,this]
 have HE:=Aa e0;clear e0 hb1 hc2;generalize By M N=K at *;go_wp2;go_ret;exact⟨by rw[<-HE.out];rfl,HB1.out⟩
open Classical in
theorem Lt (w:World)(e:Nat)(p0:Option Addr)(n c:Nat)(Ns:List Nat)(v:Value)(N:Nat)(h:Aw w e p0 n c Ns)(hv:Fit e N v w)(he:e<=900000) :
  Calls Tryz.prog 251 #[.slice p0 n c,v] w fun en w'=>en=.returned (.bool (decide (N∈Ns)))/\Below w.heap.size w w':=by
 obtain⟨pu,nu,cu,rfl,hu1,hu2⟩:=hv;have hbx:=Dq.mk1 w (.slice pu nu cu) 36;have HP:=Aa (h.below hbx.bel);have HA:=Aa (bY (w.alloc (.cells #[.slice pu nu cu] 36)) e Ns w.heap.size 0 (.slice pu nu cu) N (by simp) hbx.c0 ((Fit.of hu1 hu2).below hbx.bel) he);have HBX:=Aa hbx.bel;have HANS:Ab (Ns.any (fun M=>decide (M=N))=decide (N∈Ns)):=⟨by
  by_cases hm:N∈Ns
  .rw[decide_eq_true hm,List.any_eq_true];exact⟨N,hm,by simp⟩
  .rw[decide_eq_false hm,List.any_eq_false];intro x hx;have:x≠N:=fun e=>hm (e ▸ hx)
   simp[this]⟩
 clear h hu1 hu2 hbx;go_enter Tryz.func251,Tryz.ntmps251
 go_wp2_with fail
 refine(Nn _ e p0 n c Ns _ _ (enters_of Tryz.func265 (by kernel_rfl) rfl) _ HP.out HA.out).mono ?_;rintro en w1 ⟨rfl,hb1⟩;have HB1:=Aa (Ae HBX.out hb1);clear hb1;rw[HANS.out];go_wp2;go_ret;exact⟨rfl,HB1.out⟩
open Classical in
theorem Ju:iR:=by
 intro w N e v hv he;obtain⟨p,n,c,rfl,h1,h2⟩:=hv;have hn:n<1000000:=by have:=h1.len_le h2;omega
 have hbx:=Dq.mk1 w (.slice p n c) 36;have H1:=Aa (h1.below hbx.bel);have HBX:=Aa hbx.bel;clear h1 h2 hbx
 by_cases hb:Ak N<=64
 .by_cases hlow:N<2
  .have hno:Ab (decide (Cy N)=false):=⟨decide_eq_false fun hs=>by have:=hs.1;omega⟩
   have hlow':(N:Int)<2:=by omega
   have HB:=Aa hb;clear hb hlow;go_enter Tryz.func190,Tryz.ntmps190
   go_wp2_with fail
   refine(Js _ p n c N H1.out hn).mono ?_;rintro en w1 ⟨rfl,hb1⟩;rw[if_pos HB.out,decide_eq_true HB.out];have HB1:=Aa (Ae HBX.out hb1);clear hb1;go_wp2;go_ret;exact⟨by rw[hno.out];rfl,HB1.out⟩
  .by_cases hhigh:65536<=N
   .have hno:Ab (decide (Cy N)=false):=⟨decide_eq_false fun hs=>by have:=hs.2.1;omega⟩
    have hlow':¬(N:Int)<2:=by omega
    have hhigh':(65536:Int)<=N:=by omega
    obtain⟨K,hgK⟩:∃K:Int,(65536:Int)=K:=⟨_,rfl⟩
    rw[hgK]at hhigh'
    have HB:=Aa hb;clear hb hlow hhigh;go_enter Tryz.func190,Tryz.ntmps190
    go_wp2_with fail
    refine(Js _ p n c N H1.out hn).mono ?_;rintro en w1 ⟨rfl,hb1⟩;rw[if_pos HB.out,decide_eq_true HB.out];have HB1:=Aa (Ae HBX.out hb1);clear hb1
    go_upto_region 2 with fail
    rw[hgK];clear hgK;go_wp2;go_ret;exact⟨by rw[hno.out];rfl,HB1.out⟩
   .have hlow':¬(N:Int)<2:=by omega
    have hhigh':¬(65536:Int)<=N:=by omega
    have HLT:Ab (N<65536):=⟨by omega⟩
    have H2:Ab (2<=N):=⟨by omega⟩
    obtain⟨K,hgK⟩:∃K:Int,(65536:Int)=K:=⟨_,rfl⟩
    rw[hgK]at hhigh'
    have HB:=Aa hb;clear hb hlow hhigh;go_enter Tryz.func190,Tryz.ntmps190
    go_wp2_with fail
    refine(Js _ p n c N H1.out hn).mono ?_;rintro en w1 ⟨rfl,hb1⟩;rw[if_pos HB.out,decide_eq_true HB.out];have HB1:=Aa (Ae HBX.out hb1);clear hb1
    go_upto_region 2 with fail
    rw[hgK];clear hgK;go_wp2
    go_loopw [5] (fun dv wr=>w1=wr/\∃d:Nat,2<=d/\d<=256/\dv=.int .u64 d/\Ab (∀e,2<=e->e<d->N%e≠0)) (fun dv _=>300-(intOf dv).toNat)
    case atStart=>exact⟨rfl,2,by omega,by omega,rfl,⟨fun e h1 h2=>by omega⟩⟩
    case round=>
     obtain⟨rfl,d,hd2,hd,rfl,HD⟩:=hrel;obtain⟨S,hS⟩:∃S,d*d=S:=⟨_,rfl⟩
     have hS':(d:Int)*d=(S:Nat):=by rw[<-hS];simp
     have hSl:S<=65536:=by rw[<-hS];exact Nat.mul_le_mul hd hd
     have HSl:=Aa hSl;have hSw:IntKind.u64.wrap ((S:Nat):Int)=S:=IntWalk.u64_in _ ⟨by omega,by omega⟩;clear hSl
     by_cases hdd:S<=N
     .have hdlt:d<256:=Nat.lt_of_not_le fun hge=>by
       have:=Nat.mul_le_mul hge hge;have:=HLT.out;omega
      have hmod:(N:Int).tmod d=((N%d:Nat):Int):=by rw[Int.tmod_eq_emod_of_nonneg (by omega)];simp
      obtain⟨R,hR⟩:∃R,N%d=R:=⟨_,rfl⟩
      rw[hR]at hmod
      have hd0:¬(d:Int)=0:=by omega
      have hdd':(S:Int)<=N:=by omega
      rcases Nat.eq_zero_or_pos R with h0|h0
      .have hno:Ab (decide (Cy N)=false):=⟨decide_eq_false fun hs=>hs.2.2 d hd2 (by omega) (by omega)⟩
       subst h0;have hS2:=Ag hS;have hR2:=Ag hR;clear hS hR;go_wp2;go_ret;exact⟨by rw[hno.out];rfl,HB1.out⟩
      .have hR0:((R:Int)==0)=false:=by rw[beq_eq_false_iff_ne];omega
       have HD':Ab (∀e,2<=e->e<d+1->N%e≠0):=⟨fun e h1 h2=>by
        rcases(by omega:e<d ∨ e=d) with h3|rfl
        .exact HD.out e h1 h3
        .omega⟩
       have hS2:=Ag hS;have hR2:=Ag hR;clear hS hR;go_wp2;go_roundw
       case rel=>exact⟨trivial,d+1,by omega,by omega,by go_num,HD'⟩
       case measure=>simp[intOf];omega
     .have hdd':¬(S:Int)<=N:=by omega
      have hyes:Ab (decide (Cy N)=true):=⟨decide_eq_true ⟨H2.out,HLT.out,fun e h1 h2=>HD.out e h1 (Nat.lt_of_not_le fun hge=>by
       have:=Nat.mul_le_mul hge hge;omega)⟩⟩
      have hS2:=Ag hS;clear hS;go_wp2;go_ret;exact⟨by rw[hyes.out];rfl,HB1.out⟩
 .have hno:Ab (decide (Cy N)=false):=⟨decide_eq_false fun hs=>hb ((Bq N 64).2 (Nat.lt_trans hs.2.1 (by decide)))⟩
  have HB:=Aa hb;clear hb;go_enter Tryz.func190,Tryz.ntmps190
  go_wp2_with fail
  refine(Js _ p n c N H1.out hn).mono ?_;rintro en w1 ⟨rfl,hb1⟩;rw[if_neg HB.out,decide_eq_false HB.out];have HB1:=Aa (Ae HBX.out hb1);clear hb1;go_wp2;go_ret;exact⟨by rw[hno.out];rfl,HB1.out⟩
theorem Aw.take {w:World}{e:Nat}{b off n c k:Nat}{Ns:List Nat}(h:Aw w e (Option.some ⟨b,off,Option.none⟩) n c Ns)(hk:k<=n):Aw w e (Option.some ⟨b,off,Option.none⟩) k c (Ns.take k):=by
 refine⟨by rw[List.length_take];have:=h.len;omega,Dm hk h.cap,h.max,(fun x=>by cases x),fun h0=>?_⟩;obtain⟨b',off',h1,h2,h3⟩:=h.at_ (by omega)
 exact⟨b',off',h1,h2,fun i N hN=>by
  have hi:i<k:=by
   have:=(List.getElem?_eq_some_iff.1 hN).1;rw[List.length_take]at this;omega
  rw[List.getElem?_take,if_pos hi]at hN
  exact h3 i N hN⟩
def Ma (bs:List Nat)(p:Nat):Prop:=Cy p ∨ (2<=p/\p∈bs)
open Classical in
theorem Qt {w:World}{v:Value}{e PP:Nat}{pb:Option Addr}{nb cb:Nat}{bs:List Nat}(h:Fit e PP v w)(hb:Aw w e pb nb cb bs)(he:e<=200) :
  Calls Tryz.prog 250 #[v,.slice pb nb cb] w fun en w'=>en=.returned (.bool (decide (Ma bs PP)))/\Below w.heap.size w w':=by
 obtain⟨q,m,d,rfl,h1,h2⟩:=h;have hba:Below w.heap.size w (w.alloc (.cells #[.slice q m d] 36)):=Dl;have HB:=Aa (Af.made w (.slice q m d));obtain⟨wa,hwa⟩:∃wa,w.alloc (.cells #[.slice q m d] 36)=wa:=⟨_,rfl⟩
 rw[hwa]at hba HB
 have HBX:=Aa hba;have HF:=Aa ((Fit.of h1 h2).below hba);have HL:=Aa (hb.below hba);obtain⟨ANS,hANS⟩:∃X,decide (Ma bs PP)=X:=⟨_,rfl⟩
 have HANS:=Aa hANS;rw[hANS];clear hANS h1 h2 hb hba;obtain⟨K,hK⟩:∃K,By PP 2=K:=⟨_,rfl⟩
 have HK:=Aa hK;clear hK
 by_cases hS:Cy PP
 .have HS:Ab (decide (Cy PP)=true):=⟨decide_eq_true hS⟩
  have HA:Ab (ANS=true):=⟨by rw[<-HANS.out];exact decide_eq_true (.inl hS)⟩
  clear hS;go_enter Tryz.func250,Tryz.ntmps250;go_wp2;refine Aj (by kernel_rfl) (by kernel_rfl)
   [some (.agg #[.slice q m d]),none,some (.bool true),some (undef),some (undef),some (undef),some (undef),some (undef),some (undef),some (undef),some (undef),some (undef),some (.bool true),some (.bool true)]
   [false,true,false,false,false,false,false,false,false,false,false,false,false,false] rfl
   (fun w1 w2=>Below w1.heap.size w1 w2)
   (fun _ w'=>Below wa.heap.size wa w')
   (fun i v w'=>match i with
    | 1=>v=.bool true
    | _=>True)
   ?_ (Br _ _).drew ?_ ?_
  .intro i v w1 w2 hf hb;split at hf
   .exact hf
   .trivial
  .simp only[Bu,Nat.reduceAdd];refine⟨?_,?_,?_,?_,?_,?_,?_,?_,?_,?_,?_,?_,?_,?_,trivial⟩
   all_goals intro D sp w' hD hW hdp hbx'
   case refine_1=>
    have c0:=(HB.out.below hbx' HB.out.lt).cell
    with_reducible refine Ad ?_ ?_
    all_goals simp[Region.wanted,yielded,execOp,Act.eval,Act.put,go_sem,c0]
   case refine_2=>
    (with_reducible refine Ac (w1:=w') (f := 190) (args:=#[.agg #[.slice q m d]]) ?_ ?_ ?_)
    .simp[Region.wanted,yielded,Act.put,go_sem]
    .simp[Act.eval,Act.put,go_sem]
    .refine(Ju w' PP e _ (HF.out.below hbx') he).mono ?_;rintro en w9 ⟨rfl,hb⟩;rw[HS.out];exact⟨_,rfl,hb,rfl,Ae hbx' hb⟩
   case refine_3=>
    have k1:(sp 1)=.bool true:=(hdp 1 (mq (by kernel_rfl))).2
    with_reducible refine Ad ?_ ?_
    all_goals simp[Region.wanted,yielded,execOp,Act.eval,Act.put,go_sem,k1]
   case refine_4|refine_5|refine_6|refine_7|refine_8|refine_9|refine_10|refine_11|refine_12=>
    (with_reducible refine Hi ?_ ?_)
    ·(simp[Region.wanted,yielded,Act.put,go_sem]<;>exact fun h=>by cases h)
    .exact⟨rfl,rfl⟩
   all_goals ((with_reducible refine Ad ?_ ?_);all_goals first|(simp only[Region.wanted];done)|simp[Region.wanted,yielded,execOp,Act.eval,Act.put,go_sem])
  .intro sp w7 hsp hbx';have HBe:=Aa (Ae HBX.out hbx');clear hsp hbx';simp only[An,Nat.reduceAdd];generalize sp 1=y1 at *
   go_simp
   go_wp2;go_ret;exact⟨by rw[HA.out];rfl,HBe.out⟩
 .have HS:Ab (decide (Cy PP)=false):=⟨decide_eq_false hS⟩
  have HnS:Ab (¬Cy PP):=⟨hS⟩
  clear hS
  by_cases h2:2<=PP
  .have HG:Ab (decide (0<=K)=true):=⟨decide_eq_true (by
    rw[<-HK.out];rcases Nat.lt_or_ge PP 2 with h|h
    .omega
    .rcases Nat.eq_or_lt_of_le h with h|h
     .rw[<-h,Mq];decide
     .have:=Lu.2 h;omega)⟩
   obtain⟨CC,hCC⟩:∃X,decide (PP∈bs)=X:=⟨_,rfl⟩
   have HC:=Aa hCC;have HA:Ab (ANS=CC):=⟨by
    rw[<-HANS.out,<-hCC];exact decide_eq_decide.2 ⟨fun h=>by
     rcases h with h|h
     .exact absurd h HnS.out
     .exact h.2,fun h=>.inr ⟨h2,h⟩⟩⟩
   clear hCC h2;go_enter Tryz.func250,Tryz.ntmps250;go_wp2;have hG:=HG.out;refine Aj (by kernel_rfl) (by kernel_rfl)
    [some (.agg #[.slice q m d]),none,some (.bool false),some (.agg #[.slice q m d]),none,none,some (.bool true),some (.bool true),some (.slice pb nb cb),some (.agg #[.slice q m d]),none,some (.bool CC),some (.bool CC),some (.bool CC)]
    [false,true,false,false,true,true,false,false,false,false,true,false,false,false] rfl
    (fun w1 w2=>Below w1.heap.size w1 w2)
    (fun _ w'=>Below wa.heap.size wa w')
    (fun i v w'=>match i with
     | 1=>v=.bool false
     | 4=>Fit 1 2 v w'
     | 5=>v=.int .i64 K
     | 10=>v=.bool CC
     | _=>True)
    ?_ (Br _ _).drew ?_ ?_
   .intro i v w1 w2 hf hb;split at hf
    .exact hf
    .exact hf.below hb
    .exact hf
    .exact hf
    .trivial
   .simp only[Bu,Nat.reduceAdd];refine⟨?_,?_,?_,?_,?_,?_,?_,?_,?_,?_,?_,?_,?_,?_,trivial⟩
    all_goals intro D sp w' hD hW hdp hbx'
    case refine_1|refine_4|refine_10=>
     have c0:=(HB.out.below hbx' HB.out.lt).cell
     with_reducible refine Ad ?_ ?_
     all_goals simp[Region.wanted,yielded,execOp,Act.eval,Act.put,go_sem,c0]
    case refine_2=>
     (with_reducible refine Ac (w1:=w') (f := 190) (args:=#[.agg #[.slice q m d]]) ?_ ?_ ?_)
     .simp[Region.wanted,yielded,Act.put,go_sem]
     .simp[Act.eval,Act.put,go_sem]
     .refine(Ju w' PP e _ (HF.out.below hbx') he).mono ?_;rintro en w9 ⟨rfl,hb⟩;rw[HS.out];exact⟨_,rfl,hb,rfl,Ae hbx' hb⟩
    case refine_3=>
     have k1:(sp 1)=.bool false:=(hdp 1 (mq (by kernel_rfl))).2
     with_reducible refine Ad ?_ ?_
     all_goals simp[Region.wanted,yielded,execOp,Act.eval,Act.put,go_sem,k1]
    case refine_5=>
     (with_reducible refine Ac (w1:=w') (f := 21) (args:=#[.int .u64 2]) ?_ ?_ ?_)
     .simp[Region.wanted,yielded,Act.put,go_sem]
     .simp[Act.eval,Act.put,go_sem]
     .refine(Rl w').mono ?_;rintro en w9 ⟨u,rfl,hu,hb⟩;exact⟨u,rfl,hb,hu,Ae hbx' hb⟩
    case refine_6=>
     have k4:Fit 1 2 (sp 4) w':=(hdp 4 (mq (by kernel_rfl))).2
     (with_reducible refine Ac (w1:=w') (f := 34) (args:=#[.agg #[.slice q m d],sp 4]) ?_ ?_ ?_)
     .simp[Region.wanted,yielded,Act.put,go_sem]
     .simp[Act.eval,Act.put,go_sem]
     .refine(Cj (HF.out.below hbx') k4 (by omega) (by omega) HK.out).mono ?_;rintro en w9 ⟨u,rfl,rfl,hb⟩;exact⟨_,rfl,hb,rfl,Ae hbx' hb⟩
    case refine_7=>
     have k5:(sp 5)=.int .i64 K:=(hdp 5 (mq (by kernel_rfl))).2
     with_reducible refine Ad ?_ ?_
     all_goals simp[Region.wanted,yielded,execOp,Act.eval,Act.put,go_sem,k5,hG]
    case refine_11=>
     (with_reducible refine Ac (w1:=w') (f := 251) (args:=#[.slice pb nb cb,.agg #[.slice q m d]]) ?_ ?_ ?_)
     .simp[Region.wanted,yielded,Act.put,go_sem]
     .simp[Act.eval,Act.put,go_sem]
     .refine(Lt w' e pb nb cb bs _ PP (HL.out.below hbx') (HF.out.below hbx') (by omega)).mono ?_;rintro en w9 ⟨rfl,hb⟩;rw[HC.out];exact⟨_,rfl,hb,rfl,Ae hbx' hb⟩
    case refine_12=>
     have k10:(sp 10)=.bool CC:=(hdp 10 (mq (by kernel_rfl))).2
     with_reducible refine Ad ?_ ?_
     all_goals simp[Region.wanted,yielded,execOp,Act.eval,Act.put,go_sem,k10]
    all_goals ((with_reducible refine Ad ?_ ?_);all_goals first|(simp only[Region.wanted];done)|simp[Region.wanted,yielded,execOp,Act.eval,Act.put,go_sem])
   .intro sp w7 hsp hbx';have HBe:=Aa (Ae HBX.out hbx');clear hsp hbx';simp only[An,Nat.reduceAdd];generalize sp 1=y1,sp 4=y4,sp 5=y5,sp 10=y10 at *
    go_simp
    go_wp2;go_ret;exact⟨by rw[HA.out];rfl,HBe.out⟩
  .have HG:Ab (decide (0<=K)=false):=⟨decide_eq_false (by
    rw[<-HK.out,Dn (by omega)];decide)⟩
   have HA:Ab (ANS=false):=⟨by
    rw[<-HANS.out];refine decide_eq_false fun h=>?_
    rcases h with h|h
    .exact HnS.out h
    .exact h2 h.1⟩
   clear h2;go_enter Tryz.func250,Tryz.ntmps250;go_wp2;have hG:=HG.out;refine Aj (by kernel_rfl) (by kernel_rfl)
    [some (.agg #[.slice q m d]),none,some (.bool false),some (.agg #[.slice q m d]),none,none,some (.bool false),some (.bool false),some (undef),some (undef),some (undef),some (.bool false),some (.bool false),some (.bool false)]
    [false,true,false,false,true,true,false,false,false,false,false,false,false,false] rfl
    (fun w1 w2=>Below w1.heap.size w1 w2)
    (fun _ w'=>Below wa.heap.size wa w')
    (fun i v w'=>match i with
     | 1=>v=.bool false
     | 4=>Fit 1 2 v w'
     | 5=>v=.int .i64 K
     | _=>True)
    ?_ (Br _ _).drew ?_ ?_
   .intro i v w1 w2 hf hb;split at hf
    .exact hf
    .exact hf.below hb
    .exact hf
    .trivial
   .simp only[Bu,Nat.reduceAdd];refine⟨?_,?_,?_,?_,?_,?_,?_,?_,?_,?_,?_,?_,?_,?_,trivial⟩
    all_goals intro D sp w' hD hW hdp hbx'
    case refine_1|refine_4=>
     have c0:=(HB.out.below hbx' HB.out.lt).cell
     with_reducible refine Ad ?_ ?_
     all_goals simp[Region.wanted,yielded,execOp,Act.eval,Act.put,go_sem,c0]
    case refine_2=>
     (with_reducible refine Ac (w1:=w') (f := 190) (args:=#[.agg #[.slice q m d]]) ?_ ?_ ?_)
     .simp[Region.wanted,yielded,Act.put,go_sem]
     .simp[Act.eval,Act.put,go_sem]
     .refine(Ju w' PP e _ (HF.out.below hbx') he).mono ?_;rintro en w9 ⟨rfl,hb⟩;rw[HS.out];exact⟨_,rfl,hb,rfl,Ae hbx' hb⟩
    case refine_3=>
     have k1:(sp 1)=.bool false:=(hdp 1 (mq (by kernel_rfl))).2
     with_reducible refine Ad ?_ ?_
     all_goals simp[Region.wanted,yielded,execOp,Act.eval,Act.put,go_sem,k1]
    case refine_5=>
     (with_reducible refine Ac (w1:=w') (f := 21) (args:=#[.int .u64 2]) ?_ ?_ ?_)
     .simp[Region.wanted,yielded,Act.put,go_sem]
     .simp[Act.eval,Act.put,go_sem]
     .refine(Rl w').mono ?_;rintro en w9 ⟨u,rfl,hu,hb⟩;exact⟨u,rfl,hb,hu,Ae hbx' hb⟩
    case refine_6=>
     have k4:Fit 1 2 (sp 4) w':=(hdp 4 (mq (by kernel_rfl))).2
     (with_reducible refine Ac (w1:=w') (f := 34) (args:=#[.agg #[.slice q m d],sp 4]) ?_ ?_ ?_)
     .simp[Region.wanted,yielded,Act.put,go_sem]
     .simp[Act.eval,Act.put,go_sem]
     .refine(Cj (HF.out.below hbx') k4 (by omega) (by omega) HK.out).mono ?_;rintro en w9 ⟨u,rfl,rfl,hb⟩;exact⟨_,rfl,hb,rfl,Ae hbx' hb⟩
    case refine_7=>
     have k5:(sp 5)=.int .i64 K:=(hdp 5 (mq (by kernel_rfl))).2
     with_reducible refine Ad ?_ ?_
     all_goals simp[Region.wanted,yielded,execOp,Act.eval,Act.put,go_sem,k5,hG]
    case refine_9|refine_10|refine_11=>
     (with_reducible refine Hi ?_ ?_)
     ·(simp[Region.wanted,yielded,Act.put,go_sem]<;>exact fun h=>by cases h)
     .exact⟨rfl,rfl⟩
    all_goals ((with_reducible refine Ad ?_ ?_);all_goals first|(simp only[Region.wanted];done)|simp[Region.wanted,yielded,execOp,Act.eval,Act.put,go_sem])
   .intro sp w7 hsp hbx';have HBe:=Aa (Ae HBX.out hbx');clear hsp hbx';simp only[An,Nat.reduceAdd];generalize sp 1=y1,sp 4=y4,sp 5=y5 at *
    go_simp
    go_wp2;go_ret;exact⟨by rw[HA.out];rfl,HBe.out⟩
end Go.Proofs.YtnbmfaihlefgfaaGreatDoor
