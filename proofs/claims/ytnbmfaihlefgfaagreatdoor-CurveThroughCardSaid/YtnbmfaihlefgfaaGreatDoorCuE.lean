/- slices.SortedFunc of a few numbers; whether one is there twice. -/
import Derived.Test.YtnbmfaihlefgfaaGreatDoorCuC
set_option maxRecDepth 1000000
set_option maxHeartbeats 16000000
set_option linter.all false
namespace Go.Proofs.YtnbmfaihlefgfaaGreatDoor
open Go Go.RowKit Go.Proofs.YtnbmfaihlefgfaaGreatDoor.Flow
theorem Wq (x:Int)(w:World)(h0:0<=x)(hx:x<=12) :
  Calls Tryz.prog 263 #[.int .u64 x] w fun e w'=>(∃y:Int,e=.returned (.int .i64 y))/\w=w':=by
 have hs:Lib.len8tab.size=256:=Lib.len8tab_size;go_enter Tryz.func263,Tryz.ntmps263;rw[Mx];go_wp2
 all_goals first
  | (go_ret;exact⟨⟨_,rfl⟩,rfl⟩)
  | (exfalso;omega)
theorem aB (x:Int)(w:World)(h0:0<=x)(hx:x<=12) :
  Calls Tryz.prog 246 #[.int .u64 x] w fun e w'=>(∃y:Int,e=.returned (.int .i64 y))/\w=w':=by
 have HL:=Ab (Wq x w h0 hx);go_enter Tryz.func246,Tryz.ntmps246
 go_wp2_with fail
 refine HL.out.mono ?_;rintro en w1 ⟨⟨y,rfl⟩,rfl⟩;go_wp2;go_ret;exact⟨⟨_,rfl⟩,rfl⟩
theorem Yx {w0 w:World}{e g n cap:Nat}{rest:List Value}{Ns Ms0:List Nat}{us0:List (Option Addr×Nat×Nat)}(h:Gt w0 e g rest Ns us0 Ms0 w)(hn:Ns.length=n)(hn2:n<=12)(he:e<=900000)(L:Int) :
  Calls Tryz.prog 245 #[.slice (some ⟨g,0,none⟩) n cap,.int .i64 0,.int .i64 n,.int .i64 L,.func (.func 34) #[] #[]] w fun en w'=>(∃v,en=.returned v)/\∃us Ms,Gt w0 e g rest Ns us Ms w'/\aM n Ms:=by
 have HI:=Ab (Zn (cap:=cap) h hn (by omega) he);clear h hn;have hn12:(n:Int)<=12:=by omega
 go_enter Tryz.func245,Tryz.ntmps245;go_wp2
 go_loopw [1,2,3,10,11,12,13,14,15,16,17,18,19,20] (fun v1 v2 _ _ _ _ _ _ _ _ _ _ _ _ wr=>v1=.int .i64 0/\v2=.int .i64 n/\wr=w) (fun _ _ _ _ _ _ _ _ _ _ _ _ _ _ _=>0)
 case atStart=>exact⟨rfl,rfl,rfl⟩
 case round=>
  obtain⟨rfl,rfl,rfl⟩:=hrel
  go_wp2_with fail
  refine HI.out.mono ?_;rintro en w1 ⟨⟨v,rfl⟩,us,Ms,h1,h2⟩;have H1:=Ab h1;have H2:=Ab h2;clear h1 h2;go_wp2;exact bodyPost_ret (v:=.tuple #[]) (by simp[results,Tryz.results245,go_sem]) rfl ⟨⟨_,rfl⟩,us,Ms,H1.out,H2.out⟩
theorem Om {w0 w:World}{e g n cap:Nat}{rest:List Value}{Ns Ms0:List Nat}{us0:List (Option Addr×Nat×Nat)}(h:Gt w0 e g rest Ns us0 Ms0 w)(hn:Ns.length=n)(hn2:n<=12)(he:e<=900000) :
  Calls Tryz.prog 225 #[.slice (some ⟨g,0,none⟩) n cap,.func (.func 34) #[] #[]] w fun en w'=>(∃v,en=.returned v)/\∃us Ms,Gt w0 e g rest Ns us Ms w'/\aM n Ms:=by
 have HI:Aa _:=⟨fun L=>Yx (cap:=cap) h hn hn2 he L⟩
 have HB:=Ab (aB n w (by omega) (by omega));clear h hn;go_enter Tryz.func225,Tryz.ntmps225
 go_wp2_with fail
 refine HB.out.mono ?_;rintro en w1 ⟨⟨y,rfl⟩,rfl⟩
 go_wp2_with fail
 refine(HI.out y).mono ?_;rintro en w1 ⟨⟨v,rfl⟩,us,Ms,h1,h2⟩;have H1:=Ab h1;have H2:=Ab h2;clear h1 h2;go_wp2
 go_end0
 exact⟨⟨_,rfl⟩,us,Ms,H1.out,H2.out⟩
theorem Lz {w0 w:World}{e n c b1 b off:Nat}{p:Option Addr}{Ns:List Nat}{us:List (Option Addr×Nat×Nat)}(hr:Ln w p n c b off us)(ht:Cs w0 e us Ns)(hb:Below w0.heap.size w0 w)(hc1:w.cell? ⟨b1,0,none⟩=some (.slice p n c))(hb1:b1<w.heap.size)(hn1:1<=n)(hn2:n<=12)(he:e<=900000) :
  Calls Tryz.prog 196 #[.func (.func 226) #[] #[.pointer (some ⟨b1,0,none⟩)],.func (.func 34) #[] #[]] w fun en w'=>
   ∃g cap rest us Ms,en=.returned (.slice (some ⟨g,0,none⟩) n cap)/\n<=cap/\Gt w0 e g rest Ns us Ms w'/\aM n Ms:=by
 have HC:=Ab (Qo w b1 b off n c p us hr (by omega) hc1 hb1);have HN:Aa (Ns.length=n):=⟨ht.len.symm.trans hr.len⟩
 have HT:=Ab ht;have HB:=Ab hb;have HUL:=Ab hr.len;clear hr ht hb hc1 hb1;go_enter Tryz.func196,Tryz.ntmps196
 go_wp2_with fail
 refine HC.out.mono ?_;rintro en w1 ⟨v,rfl,hv,hb1⟩;rcases hv.2 with ⟨_,h0⟩|⟨g,cap,cur,rfl,hbg,hgg,hnc,hcm,hcs,htk⟩
 .omega
 have hrow:Dr w1 g us (cur.toList.drop n):=by
  unfold Dr;rw[hgg];have:us.map sv++cur.toList.drop n=cur.toList:=by rw[<-htk,Nat.mul_one,List.take_append_drop]
  rw[this]
 have HS1:=Ab (Gt.mk (w0:=w0) (e:=e) (Ns:=Ns) hrow HT.out (List.Perm.refl _) (Ae HB.out hb1) (Eu HB.out.size hbg));have HNC:=Ab hnc;clear hrow hgg hbg hcs htk hb1 HC hcm hnc
 go_wp2_with fail
 refine(Om (cap:=cap) HS1.out HN.out hn2 he).mono ?_;rintro en w2 ⟨⟨v,rfl⟩,us2,Ms,h1,h2⟩;have H1:=Ab h1;have H2:=Ab h2;clear h1 h2;go_wp2;go_ret;exact⟨g,cap,_,us2,Ms,rfl,HNC.out,H1.out,H2.out⟩
theorem Yj {w:World}{e n c:Nat}{p:Option Addr}{Ns:List Nat}(h:Au w e p n c Ns)(hn1:1<=n)(hn2:n<=12)(he:e<=900000) :
  Calls Tryz.prog 147 #[.slice p n c] w fun en w'=>en=.returned (.bool (!decide Ns.Nodup))/\Below w.heap.size w w':=by
 obtain⟨us,b,off,ht,hr⟩:=Mv h;obtain⟨ANS,hANS⟩:∃X,(!decide Ns.Nodup)=X:=⟨_,rfl⟩
 have HANS:=Ab hANS;rw[hANS];have hbw:Below w.heap.size w (w.alloc (.cells #[.slice p n c] 32)):=Cu;have hcw:(w.alloc (.cells #[.slice p n c] 32)).cell? ⟨w.heap.size,0,none⟩=some (.slice p n c):=by
  simp[go_sem]
 have HSF:=Ab (Lz (hr.below hbw) ht hbw hcw (by simp) hn1 hn2 he);have HN:Aa (Ns.length=n):=⟨h.len.symm⟩
 clear h ht hr hANS hbw hcw;go_enter Tryz.func147,Tryz.ntmps147
 go_wp2_with fail
 refine(Rt w p n c).mono ?_;rintro en w1 ⟨rfl,rfl⟩
 go_wp2_with fail
 refine HSF.out.mono ?_;rintro en w2 ⟨g,cap,rest,us2,Ms,rfl,hnc,hso,hsr⟩;have HS2:=Ab hso;have HSR:=Ab hsr;have HML:Aa (Ms.length=n):=⟨hso.perm.length_eq.trans HN.out⟩
 clear hso hsr HSF;have hwn:IntKind.i64.wrap ((n:Int)-1)=((n-1:Nat):Int):=by rw[IntKind.wrap_i64];omega
 go_wp2
 go_loopw [4,11] (fun _ iv wr=>∃k:Nat,k+1<=n/\iv=.int .i64 k/\Aa (Gt w e g rest Ns us2 Ms wr)/\Aa (∀i a b,i<k->Ms[i]? = some a->Ms[i+1]? = some b->a≠b)) (fun _ iv _=>n-(intOf iv).toNat)
 case atStart=>exact⟨0,by omega,rfl,HS2,⟨fun i a b h=>by omega⟩⟩
 case round=>
  obtain⟨k,hk,rfl,HSO,HD⟩:=hrel
  by_cases hkn:k+1<n
  .have hkn':(k:Int)<(n:Int)-1:=by omega
   have hlen:us2.length=n:=HSO.out.len.trans HN.out;obtain⟨xa,hxa⟩:∃x,us2[k]? = some x:=⟨_,List.getElem?_eq_getElem (by omega)⟩
   obtain⟨xb,hxb⟩:∃x,us2[k+1]? = some x:=⟨_,List.getElem?_eq_getElem (by omega)⟩
   obtain⟨A,hA,ha2,ha3⟩:=HSO.out.trip.get hxa;obtain⟨B,hB,hb2,hb3⟩:=HSO.out.trip.get hxb;have HXA:=Ab hxa;have HXB:=Ab hxb;have HA:=Ab hA;have HB:=Ab hB;have HFA:Aa (Fit e A (.agg #[.slice xa.1 xa.2.1 xa.2.2]) wr):=⟨(Fit.of ha2 ha3).below HSO.out.bel⟩
   have HFB:Aa (Fit e B (.agg #[.slice xb.1 xb.2.1 xb.2.2]) wr):=⟨(Fit.of hb2 hb3).below HSO.out.bel⟩
   obtain⟨K,hKe⟩:∃K,Bl A B=K:=⟨_,rfl⟩
   have HK:=Ab hKe;have HKN:Aa (K=0 ↔ A=B):=⟨by rw[<-hKe];exact Bt⟩
   have hn1':¬(n:Int)<=(k:Int)+1:=by omega
   have hn1:=hn1';have hj9:(0:Int)<=(k:Int)+1:=by omega
   have htn:((k:Int)+1).toNat=k+1:=by omega
   have hwk:IntKind.i64.wrap ((k:Int)+1)=(k:Int)+1:=by rw[IntKind.wrap_i64];omega
   have hn2:¬n<=k:=by omega
   clear hxa hxb hA hB ha2 ha3 hb2 hb3 hKe hlen hn1'
   by_cases hK:K=0
   .have HAN:Aa (ANS=true):=⟨by
     rw[<-HANS.out];have e1:=HKN.out.1 hK;have e2:=HA.out;rw[e1]at e2
     have:¬Ns.Nodup:=fun h=>fC e2 HB.out (HSO.out.perm.nodup_iff.2 h)
     rw[decide_eq_false this];rfl⟩
    go_wp2;refine Aj (by kernel_rfl) (by kernel_rfl)
     [some (.slice (some ⟨g,0,none⟩) n cap),some (.int .i64 (k:Nat)),some (.pointer (some ⟨g,k,none⟩)),some (.agg #[.slice xa.1 xa.2.1 xa.2.2]),some (.slice (some ⟨g,0,none⟩) n cap),some (.int .i64 (k:Nat)),some (.int .i64 ((k:Int)+1)),some (.pointer (some ⟨g,k+1,none⟩)),some (.agg #[.slice xb.1 xb.2.1 xb.2.2]),none,some (.bool true)]
     [false,false,false,false,false,false,false,false,false,true,false] rfl
     (fun w1 w2=>Below w1.heap.size w1 w2)
     (fun _ w'=>Below wr.heap.size wr w')
     (fun i v w'=>match i with
      | 9=>v=.int .i64 K
      | _=>True)
     ?_ (Aw _ _).drew ?_ ?_
    .intro i v w1 w2 hf hb;split at hf
     .exact hf
     .trivial
    .simp only[Bc,Nat.reduceAdd];refine⟨?_,?_,?_,?_,?_,?_,?_,?_,?_,?_,?_,trivial⟩
     all_goals intro D sp w' hD hW hdp hbx'
     case refine_3=>
      (with_reducible refine Ai (w1:=w') (v:=.pointer (some ⟨g,k,none⟩)) ?_ ?_ ?_)
      .simp[Region.wanted,yielded,Act.put,go_sem]
      .simp[execOp,Act.eval,Act.put,go_sem,hn2]
      .exact⟨rfl,rfl⟩
     case refine_4=>
      have c0:=(HSO.out.row.below hbx' HSO.out.row.lt).cell HXA.out
      with_reducible refine Af ?_ ?_
      all_goals simp[Region.wanted,yielded,execOp,Act.eval,Act.put,go_sem,c0]
     case refine_7=>
      (with_reducible refine Ai (w1:=w') (v:=.int .i64 ((k:Int)+1)) ?_ ?_ ?_)
      .simp[Region.wanted,yielded,Act.put,go_sem]
      .simp[execOp,Act.eval,Act.put,go_sem,hwk]
      .exact⟨rfl,rfl⟩
     case refine_8=>
      (with_reducible refine Ai (w1:=w') (v:=.pointer (some ⟨g,k+1,none⟩)) ?_ ?_ ?_)
      .simp[Region.wanted,yielded,Act.put,go_sem]
      .simp[execOp,Act.eval,Act.put,go_sem,hn1,hj9,htn]
      .exact⟨rfl,rfl⟩
     case refine_9=>
      have c0:=(HSO.out.row.below hbx' HSO.out.row.lt).cell HXB.out
      with_reducible refine Af ?_ ?_
      all_goals simp[Region.wanted,yielded,execOp,Act.eval,Act.put,go_sem,c0]
     case refine_10=>
      (with_reducible refine Ac (w1:=w') (f := 34) (args:=#[.agg #[.slice xa.1 xa.2.1 xa.2.2],.agg #[.slice xb.1 xb.2.1 xb.2.2]]) ?_ ?_ ?_)
      .simp[Region.wanted,yielded,Act.put,go_sem]
      .simp[Act.eval,Act.put,go_sem]
      .refine(Fz (HFA.out.below hbx') (HFB.out.below hbx') he he).mono ?_;rintro en w9 ⟨_,rfl,rfl,hb⟩;rw[HK.out];exact⟨_,rfl,hb,rfl,Ae hbx' hb⟩
     case refine_11=>
      have k9:(sp 9)=.int .i64 K:=(hdp 9 (mq (by kernel_rfl))).2
      with_reducible refine Af ?_ ?_
      all_goals simp[Region.wanted,yielded,execOp,Act.eval,Act.put,go_sem,k9,hK]
     all_goals ((with_reducible refine Af ?_ ?_);all_goals first|(simp only[Region.wanted];done)|simp[Region.wanted,yielded,execOp,Act.eval,Act.put,go_sem])
    .intro sp w7 hsp hbx';have HS7:=Ab (HSO.out.later hbx');clear hsp hbx';simp only[Al,Nat.reduceAdd];generalize sp 9=y9 at *
     go_simp
     go_wp2;go_ret;exact⟨by rw[HAN.out];rfl,HS7.out.bel⟩
   .have HD':Aa (∀i a b,i<k+1->Ms[i]? = some a->Ms[i+1]? = some b->a≠b):=⟨fun i a b hi h1 h2=>by
     rcases(by omega:i<k ∨ i=k) with h|rfl
     .exact HD.out i a b h h1 h2
     .have e1:=HA.out;have e2:=HB.out;rw[h1]at e1;cases e1
      rw[h2]at e2;cases e2
      exact fun e=>hK (HKN.out.2 e)⟩
    go_wp2;refine Aj (by kernel_rfl) (by kernel_rfl)
     [some (.slice (some ⟨g,0,none⟩) n cap),some (.int .i64 (k:Nat)),some (.pointer (some ⟨g,k,none⟩)),some (.agg #[.slice xa.1 xa.2.1 xa.2.2]),some (.slice (some ⟨g,0,none⟩) n cap),some (.int .i64 (k:Nat)),some (.int .i64 ((k:Int)+1)),some (.pointer (some ⟨g,k+1,none⟩)),some (.agg #[.slice xb.1 xb.2.1 xb.2.2]),none,some (.bool false)]
     [false,false,false,false,false,false,false,false,false,true,false] rfl
     (fun w1 w2=>Below w1.heap.size w1 w2)
     (fun _ w'=>Below wr.heap.size wr w')
     (fun i v w'=>match i with
      | 9=>v=.int .i64 K
      | _=>True)
     ?_ (Aw _ _).drew ?_ ?_
    .intro i v w1 w2 hf hb;split at hf
     .exact hf
     .trivial
    .simp only[Bc,Nat.reduceAdd];refine⟨?_,?_,?_,?_,?_,?_,?_,?_,?_,?_,?_,trivial⟩
     all_goals intro D sp w' hD hW hdp hbx'
     case refine_3=>
      (with_reducible refine Ai (w1:=w') (v:=.pointer (some ⟨g,k,none⟩)) ?_ ?_ ?_)
      .simp[Region.wanted,yielded,Act.put,go_sem]
      .simp[execOp,Act.eval,Act.put,go_sem,hn2]
      .exact⟨rfl,rfl⟩
     case refine_4=>
      have c0:=(HSO.out.row.below hbx' HSO.out.row.lt).cell HXA.out
      with_reducible refine Af ?_ ?_
      all_goals simp[Region.wanted,yielded,execOp,Act.eval,Act.put,go_sem,c0]
     case refine_7=>
      (with_reducible refine Ai (w1:=w') (v:=.int .i64 ((k:Int)+1)) ?_ ?_ ?_)
      .simp[Region.wanted,yielded,Act.put,go_sem]
      .simp[execOp,Act.eval,Act.put,go_sem,hwk]
      .exact⟨rfl,rfl⟩
     case refine_8=>
      (with_reducible refine Ai (w1:=w') (v:=.pointer (some ⟨g,k+1,none⟩)) ?_ ?_ ?_)
      .simp[Region.wanted,yielded,Act.put,go_sem]
      .simp[execOp,Act.eval,Act.put,go_sem,hn1,hj9,htn]
      .exact⟨rfl,rfl⟩
     case refine_9=>
      have c0:=(HSO.out.row.below hbx' HSO.out.row.lt).cell HXB.out
      with_reducible refine Af ?_ ?_
      all_goals simp[Region.wanted,yielded,execOp,Act.eval,Act.put,go_sem,c0]
     case refine_10=>
      (with_reducible refine Ac (w1:=w') (f := 34) (args:=#[.agg #[.slice xa.1 xa.2.1 xa.2.2],.agg #[.slice xb.1 xb.2.1 xb.2.2]]) ?_ ?_ ?_)
      .simp[Region.wanted,yielded,Act.put,go_sem]
      .simp[Act.eval,Act.put,go_sem]
      .refine(Fz (HFA.out.below hbx') (HFB.out.below hbx') he he).mono ?_;rintro en w9 ⟨_,rfl,rfl,hb⟩;rw[HK.out];exact⟨_,rfl,hb,rfl,Ae hbx' hb⟩
     case refine_11=>
      have k9:(sp 9)=.int .i64 K:=(hdp 9 (mq (by kernel_rfl))).2
      with_reducible refine Af ?_ ?_
      all_goals simp[Region.wanted,yielded,execOp,Act.eval,Act.put,go_sem,k9,hK]
     all_goals ((with_reducible refine Af ?_ ?_);all_goals first|(simp only[Region.wanted];done)|simp[Region.wanted,yielded,execOp,Act.eval,Act.put,go_sem])
    .intro sp w7 hsp hbx';have HS7:=Ab (HSO.out.later hbx');clear hsp hbx';simp only[Al,Nat.reduceAdd];generalize sp 9=y9 at *
     go_simp
     go_wp2;go_roundw
     case rel=>exact⟨k+1,by omega,by go_num,HS7,HD'⟩
     case measure=>simp[intOf];omega
  .have hkn':¬(k:Int)<(n:Int)-1:=by omega
   have HAN:Aa (ANS=false):=⟨by
    rw[<-HANS.out];have h1:Ms.Nodup:=bL (aM.pairwise (by rw[HML.out];exact HSR.out)) fun i a b h1 h2=>HD.out i a b (by have:=(List.getElem?_eq_some_iff.1 h2).1;rw[HML.out]at this;omega) h1 h2
    rw[decide_eq_true (HSO.out.perm.nodup_iff.1 h1)];rfl⟩
   go_wp2;go_ret;exact⟨by rw[HAN.out];rfl,HSO.out.bel⟩
end Go.Proofs.YtnbmfaihlefgfaaGreatDoor
