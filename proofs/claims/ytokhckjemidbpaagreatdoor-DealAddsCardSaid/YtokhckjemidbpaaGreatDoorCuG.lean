/- One place's weight (curve.weightOf): all differences multiplied, and divided at once. -/
import Derived.Test.YtokhckjemidbpaaGreatDoorEuc
import Derived.Test.YtokhckjemidbpaaGreatDoorGqI
set_option maxRecDepth 1000000
set_option maxHeartbeats 16000000
set_option linter.all false
namespace Go.Proofs.YtokhckjemidbpaaGreatDoor
open Go Go.RowKit Go.Proofs.YtokhckjemidbpaaGreatDoor.Flow
theorem cZ (x:Int)(w:World)(h0:0<=x)(hx:x<=12) :
  Calls Tryz.prog 262 #[.int .u64 x] w fun e w'=>(∃y:Int,e=.returned (.int .i64 y))/\w=w':=by
 have hs:Lib.len8tab.size=256:=Lib.len8tab_size;go_enter Tryz.func262,Tryz.ntmps262;rw[Qf];go_wp2
 all_goals first
  | (go_ret;exact⟨⟨_,rfl⟩,rfl⟩)
  | (exfalso;omega)
theorem iO (x:Int)(w:World)(h0:0<=x)(hx:x<=12) :
  Calls Tryz.prog 247 #[.int .u64 x] w fun e w'=>(∃y:Int,e=.returned (.int .i64 y))/\w=w':=by
 have HL:=Ab (cZ x w h0 hx);go_enter Tryz.func247,Tryz.ntmps247
 go_wp2_with fail
 refine HL.out.mono ?_;rintro en w1 ⟨⟨y,rfl⟩,rfl⟩;go_wp2;go_ret;exact⟨⟨_,rfl⟩,rfl⟩
theorem fU {w0 w:World}{e g n cap:Nat}{rest:List Value}{Ns Ms0:List Nat}{us0:List (Option Addr×Nat×Nat)}(h:Iw w0 e g rest Ns us0 Ms0 w)(hn:Ns.length=n)(hn2:n<=12)(he:e<=900000)(L:Int) :
  Calls Tryz.prog 246 #[.slice (some ⟨g,0,none⟩) n cap,.int .i64 0,.int .i64 n,.int .i64 L,.func (.func 24) #[] #[]] w fun en w'=>(∃v,en=.returned v)/\∃us Ms,Iw w0 e g rest Ns us Ms w'/\jD n Ms:=by
 have HI:=Ab (gS (cap:=cap) h hn (by omega) he);clear h hn;have hn12:(n:Int)<=12:=by omega
 go_enter Tryz.func246,Tryz.ntmps246;go_wp2
 go_loopw [1,2,3,10,11,12,13,14,15,16,17,18,19,20] (fun v1 v2 _ _ _ _ _ _ _ _ _ _ _ _ wr=>v1=.int .i64 0/\v2=.int .i64 n/\wr=w) (fun _ _ _ _ _ _ _ _ _ _ _ _ _ _ _=>0)
 case atStart=>exact⟨rfl,rfl,rfl⟩
 case round=>
  obtain⟨rfl,rfl,rfl⟩:=hrel
  go_wp2_with fail
  refine HI.out.mono ?_;rintro en w1 ⟨⟨v,rfl⟩,us,Ms,h1,h2⟩;have H1:=Ab h1;have H2:=Ab h2;clear h1 h2;go_wp2;exact bodyPost_ret (v:=.tuple #[]) (by simp[results,Tryz.results246,go_sem]) rfl ⟨⟨_,rfl⟩,us,Ms,H1.out,H2.out⟩
theorem Rt {w0 w:World}{e g n cap:Nat}{rest:List Value}{Ns Ms0:List Nat}{us0:List (Option Addr×Nat×Nat)}(h:Iw w0 e g rest Ns us0 Ms0 w)(hn:Ns.length=n)(hn2:n<=12)(he:e<=900000) :
  Calls Tryz.prog 235 #[.slice (some ⟨g,0,none⟩) n cap,.func (.func 24) #[] #[]] w fun en w'=>(∃v,en=.returned v)/\∃us Ms,Iw w0 e g rest Ns us Ms w'/\jD n Ms:=by
 have HI:Aa _:=⟨fun L=>fU (cap:=cap) h hn hn2 he L⟩
 have HB:=Ab (iO n w (by omega) (by omega));clear h hn;go_enter Tryz.func235,Tryz.ntmps235
 go_wp2_with fail
 refine HB.out.mono ?_;rintro en w1 ⟨⟨y,rfl⟩,rfl⟩
 go_wp2_with fail
 refine(HI.out y).mono ?_;rintro en w1 ⟨⟨v,rfl⟩,us,Ms,h1,h2⟩;have H1:=Ab h1;have H2:=Ab h2;clear h1 h2;go_wp2
 go_end0
 exact⟨⟨_,rfl⟩,us,Ms,H1.out,H2.out⟩
theorem Oy {w0 w:World}{e n c b1 b off:Nat}{p:Option Addr}{Ns:List Nat}{us:List (Option Addr×Nat×Nat)}(hr:Oj w p n c b off us)(ht:Cn w0 e us Ns)(hb:Below w0.heap.size w0 w)(hc1:w.cell? ⟨b1,0,none⟩=some (.slice p n c))(hb1:b1<w.heap.size)(hn1:1<=n)(hn2:n<=12)(he:e<=900000) :
  Calls Tryz.prog 212 #[.func (.func 236) #[] #[.pointer (some ⟨b1,0,none⟩)],.func (.func 24) #[] #[]] w fun en w'=>
   ∃g cap rest us Ms,en=.returned (.slice (some ⟨g,0,none⟩) n cap)/\n<=cap/\Iw w0 e g rest Ns us Ms w'/\jD n Ms:=by
 have HC:=Ab (Tw w b1 b off n c p us hr (by omega) hc1 hb1);have HN:Aa (Ns.length=n):=⟨ht.len.symm.trans hr.len⟩
 have HT:=Ab ht;have HB:=Ab hb;have HUL:=Ab hr.len;clear hr ht hb hc1 hb1;go_enter Tryz.func212,Tryz.ntmps212
 go_wp2_with fail
 refine HC.out.mono ?_;rintro en w1 ⟨v,rfl,hv,hb1⟩;rcases hv.2 with ⟨_,h0⟩|⟨g,cap,cur,rfl,hbg,hgg,hnc,hcm,hcs,htk⟩
 .omega
 have hrow:Eh w1 g us (cur.toList.drop n):=by
  unfold Eh;rw[hgg];have:us.map sv++cur.toList.drop n=cur.toList:=by rw[<-htk,Nat.mul_one,List.take_append_drop]
  rw[this]
 have HS1:=Ab (Iw.mk (w0:=w0) (e:=e) (Ns:=Ns) hrow HT.out (List.Perm.refl _) (Af HB.out hb1) (Er HB.out.size hbg));have HNC:=Ab hnc;clear hrow hgg hbg hcs htk hb1 HC hcm hnc
 go_wp2_with fail
 refine(Rt (cap:=cap) HS1.out HN.out hn2 he).mono ?_;rintro en w2 ⟨⟨v,rfl⟩,us2,Ms,h1,h2⟩;have H1:=Ab h1;have H2:=Ab h2;clear h1 h2;go_wp2;go_ret;exact⟨g,cap,_,us2,Ms,rfl,HNC.out,H1.out,H2.out⟩
theorem fC {w:World}{e n c:Nat}{p:Option Addr}{Ns:List Nat}(h:Aq w e p n c Ns)(hn1:1<=n)(hn2:n<=12)(he:e<=900000) :
  Calls Tryz.prog 173 #[.slice p n c] w fun en w'=>en=.returned (.bool (!decide Ns.Nodup))/\Below w.heap.size w w':=by
 obtain⟨us,b,off,ht,hr⟩:=Qa h;obtain⟨ANS,hANS⟩:∃X,(!decide Ns.Nodup)=X:=⟨_,rfl⟩
 have HANS:=Ab hANS;rw[hANS];have hbw:Below w.heap.size w (w.alloc (.cells #[.slice p n c] 62)):=Bt;have hcw:(w.alloc (.cells #[.slice p n c] 62)).cell? ⟨w.heap.size,0,none⟩=some (.slice p n c):=by
  simp[go_sem]
 have HSF:=Ab (Oy (hr.below hbw) ht hbw hcw (by simp) hn1 hn2 he);have HN:Aa (Ns.length=n):=⟨h.len.symm⟩
 clear h ht hr hANS hbw hcw;go_enter Tryz.func173,Tryz.ntmps173
 go_wp2_with fail
 refine(We w p n c).mono ?_;rintro en w1 ⟨rfl,rfl⟩
 go_wp2_with fail
 refine HSF.out.mono ?_;rintro en w2 ⟨g,cap,rest,us2,Ms,rfl,hnc,hso,hsr⟩;have HS2:=Ab hso;have HSR:=Ab hsr;have HML:Aa (Ms.length=n):=⟨hso.perm.length_eq.trans HN.out⟩
 clear hso hsr HSF;have hwn:IntKind.i64.wrap ((n:Int)-1)=((n-1:Nat):Int):=by rw[IntKind.wrap_i64];omega
 go_wp2
 go_loopw [4,11] (fun _ iv wr=>∃k:Nat,k+1<=n/\iv=.int .i64 k/\Aa (Iw w e g rest Ns us2 Ms wr)/\Aa (∀i a b,i<k->Ms[i]? = some a->Ms[i+1]? = some b->a≠b)) (fun _ iv _=>n-(intOf iv).toNat)
 case atStart=>exact⟨0,by omega,rfl,HS2,⟨fun i a b h=>by omega⟩⟩
 case round=>
  obtain⟨k,hk,rfl,HSO,HD⟩:=hrel
  by_cases hkn:k+1<n
  .have hkn':(k:Int)<(n:Int)-1:=by omega
   have hlen:us2.length=n:=HSO.out.len.trans HN.out;obtain⟨xa,hxa⟩:∃x,us2[k]? = some x:=⟨_,List.getElem?_eq_getElem (by omega)⟩
   obtain⟨xb,hxb⟩:∃x,us2[k+1]? = some x:=⟨_,List.getElem?_eq_getElem (by omega)⟩
   obtain⟨A,hA,ha2,ha3⟩:=HSO.out.trip.get hxa;obtain⟨B,hB,hb2,hb3⟩:=HSO.out.trip.get hxb;have HXA:=Ab hxa;have HXB:=Ab hxb;have HA:=Ab hA;have HB:=Ab hB;have HFA:Aa (Fit e A (.agg #[.slice xa.1 xa.2.1 xa.2.2]) wr):=⟨(Fit.of ha2 ha3).below HSO.out.bel⟩
   have HFB:Aa (Fit e B (.agg #[.slice xb.1 xb.2.1 xb.2.2]) wr):=⟨(Fit.of hb2 hb3).below HSO.out.bel⟩
   obtain⟨K,hKe⟩:∃K,Bm A B=K:=⟨_,rfl⟩
   have HK:=Ab hKe;have HKN:Aa (K=0 ↔ A=B):=⟨by rw[<-hKe];exact Bv⟩
   have hn1':¬(n:Int)<=(k:Int)+1:=by omega
   have hn1:=hn1';have hj9:(0:Int)<=(k:Int)+1:=by omega
   have htn:((k:Int)+1).toNat=k+1:=by omega
   have hwk:IntKind.i64.wrap ((k:Int)+1)=(k:Int)+1:=by rw[IntKind.wrap_i64];omega
   have hn2:¬n<=k:=by omega
   clear hxa hxb hA hB ha2 ha3 hb2 hb3 hKe hlen hn1'
   by_cases hK:K=0
   .have HAN:Aa (ANS=true):=⟨by
     rw[<-HANS.out];have e1:=HKN.out.1 hK;have e2:=HA.out;rw[e1]at e2
     have:¬Ns.Nodup:=fun h=>oM e2 HB.out (HSO.out.perm.nodup_iff.2 h)
     rw[decide_eq_false this];rfl⟩
    go_wp2;refine Ak (by kernel_rfl) (by kernel_rfl)
     [some (.slice (some ⟨g,0,none⟩) n cap),some (.int .i64 (k:Nat)),some (.pointer (some ⟨g,k,none⟩)),some (.agg #[.slice xa.1 xa.2.1 xa.2.2]),some (.slice (some ⟨g,0,none⟩) n cap),some (.int .i64 (k:Nat)),some (.int .i64 ((k:Int)+1)),some (.pointer (some ⟨g,k+1,none⟩)),some (.agg #[.slice xb.1 xb.2.1 xb.2.2]),none,some (.bool true)]
     [false,false,false,false,false,false,false,false,false,true,false] rfl
     (fun w1 w2=>Below w1.heap.size w1 w2)
     (fun _ w'=>Below wr.heap.size wr w')
     (fun i v w'=>match i with
      | 9=>v=.int .i64 K
      | _=>True)
     ?_ (Ba _ _).drew ?_ ?_
    .intro i v w1 w2 hf hb;split at hf
     .exact hf
     .trivial
    .simp only[Bb,Nat.reduceAdd];refine⟨?_,?_,?_,?_,?_,?_,?_,?_,?_,?_,?_,trivial⟩
     all_goals intro D sp w' hD hW hdp hbx'
     case refine_3=>
      (with_reducible refine Ah (w1:=w') (v:=.pointer (some ⟨g,k,none⟩)) ?_ ?_ ?_)
      .simp[Region.wanted,yielded,Act.put,go_sem]
      .simp[execOp,Act.eval,Act.put,go_sem,hn2]
      .exact⟨rfl,rfl⟩
     case refine_4=>
      have c0:=(HSO.out.row.below hbx' HSO.out.row.lt).cell HXA.out
      with_reducible refine Ad ?_ ?_
      all_goals simp[Region.wanted,yielded,execOp,Act.eval,Act.put,go_sem,c0]
     case refine_7=>
      (with_reducible refine Ah (w1:=w') (v:=.int .i64 ((k:Int)+1)) ?_ ?_ ?_)
      .simp[Region.wanted,yielded,Act.put,go_sem]
      .simp[execOp,Act.eval,Act.put,go_sem,hwk]
      .exact⟨rfl,rfl⟩
     case refine_8=>
      (with_reducible refine Ah (w1:=w') (v:=.pointer (some ⟨g,k+1,none⟩)) ?_ ?_ ?_)
      .simp[Region.wanted,yielded,Act.put,go_sem]
      .simp[execOp,Act.eval,Act.put,go_sem,hn1,hj9,htn]
      .exact⟨rfl,rfl⟩
     case refine_9=>
      have c0:=(HSO.out.row.below hbx' HSO.out.row.lt).cell HXB.out
      with_reducible refine Ad ?_ ?_
      all_goals simp[Region.wanted,yielded,execOp,Act.eval,Act.put,go_sem,c0]
     case refine_10=>
      (with_reducible refine Ac (w1:=w') (f := 24) (args:=#[.agg #[.slice xa.1 xa.2.1 xa.2.2],.agg #[.slice xb.1 xb.2.1 xb.2.2]]) ?_ ?_ ?_)
      .simp[Region.wanted,yielded,Act.put,go_sem]
      .simp[Act.eval,Act.put,go_sem]
      .refine(Hs (HFA.out.below hbx') (HFB.out.below hbx') he he).mono ?_;rintro en w9 ⟨_,rfl,rfl,hb⟩;rw[HK.out];exact⟨_,rfl,hb,rfl,Af hbx' hb⟩
     case refine_11=>
      have k9:(sp 9)=.int .i64 K:=(hdp 9 (mq (by kernel_rfl))).2
      with_reducible refine Ad ?_ ?_
      all_goals simp[Region.wanted,yielded,execOp,Act.eval,Act.put,go_sem,k9,hK]
     all_goals ((with_reducible refine Ad ?_ ?_);all_goals first|(simp only[Region.wanted];done)|simp[Region.wanted,yielded,execOp,Act.eval,Act.put,go_sem])
    .intro sp w7 hsp hbx';have HS7:=Ab (HSO.out.later hbx');clear hsp hbx';simp only[Al,Nat.reduceAdd];generalize sp 9=y9 at *
     go_simp
     go_wp2;go_ret;exact⟨by rw[HAN.out];rfl,HS7.out.bel⟩
   .have HD':Aa (∀i a b,i<k+1->Ms[i]? = some a->Ms[i+1]? = some b->a≠b):=⟨fun i a b hi h1 h2=>by
     rcases(by omega:i<k ∨ i=k) with h|rfl
     .exact HD.out i a b h h1 h2
     .have e1:=HA.out;have e2:=HB.out;rw[h1]at e1;cases e1
      rw[h2]at e2;cases e2
      exact fun e=>hK (HKN.out.2 e)⟩
    go_wp2;refine Ak (by kernel_rfl) (by kernel_rfl)
     [some (.slice (some ⟨g,0,none⟩) n cap),some (.int .i64 (k:Nat)),some (.pointer (some ⟨g,k,none⟩)),some (.agg #[.slice xa.1 xa.2.1 xa.2.2]),some (.slice (some ⟨g,0,none⟩) n cap),some (.int .i64 (k:Nat)),some (.int .i64 ((k:Int)+1)),some (.pointer (some ⟨g,k+1,none⟩)),some (.agg #[.slice xb.1 xb.2.1 xb.2.2]),none,some (.bool false)]
     [false,false,false,false,false,false,false,false,false,true,false] rfl
     (fun w1 w2=>Below w1.heap.size w1 w2)
     (fun _ w'=>Below wr.heap.size wr w')
     (fun i v w'=>match i with
      | 9=>v=.int .i64 K
      | _=>True)
     ?_ (Ba _ _).drew ?_ ?_
    .intro i v w1 w2 hf hb;split at hf
     .exact hf
     .trivial
    .simp only[Bb,Nat.reduceAdd];refine⟨?_,?_,?_,?_,?_,?_,?_,?_,?_,?_,?_,trivial⟩
     all_goals intro D sp w' hD hW hdp hbx'
     case refine_3=>
      (with_reducible refine Ah (w1:=w') (v:=.pointer (some ⟨g,k,none⟩)) ?_ ?_ ?_)
      .simp[Region.wanted,yielded,Act.put,go_sem]
      .simp[execOp,Act.eval,Act.put,go_sem,hn2]
      .exact⟨rfl,rfl⟩
     case refine_4=>
      have c0:=(HSO.out.row.below hbx' HSO.out.row.lt).cell HXA.out
      with_reducible refine Ad ?_ ?_
      all_goals simp[Region.wanted,yielded,execOp,Act.eval,Act.put,go_sem,c0]
     case refine_7=>
      (with_reducible refine Ah (w1:=w') (v:=.int .i64 ((k:Int)+1)) ?_ ?_ ?_)
      .simp[Region.wanted,yielded,Act.put,go_sem]
      .simp[execOp,Act.eval,Act.put,go_sem,hwk]
      .exact⟨rfl,rfl⟩
     case refine_8=>
      (with_reducible refine Ah (w1:=w') (v:=.pointer (some ⟨g,k+1,none⟩)) ?_ ?_ ?_)
      .simp[Region.wanted,yielded,Act.put,go_sem]
      .simp[execOp,Act.eval,Act.put,go_sem,hn1,hj9,htn]
      .exact⟨rfl,rfl⟩
     case refine_9=>
      have c0:=(HSO.out.row.below hbx' HSO.out.row.lt).cell HXB.out
      with_reducible refine Ad ?_ ?_
      all_goals simp[Region.wanted,yielded,execOp,Act.eval,Act.put,go_sem,c0]
     case refine_10=>
      (with_reducible refine Ac (w1:=w') (f := 24) (args:=#[.agg #[.slice xa.1 xa.2.1 xa.2.2],.agg #[.slice xb.1 xb.2.1 xb.2.2]]) ?_ ?_ ?_)
      .simp[Region.wanted,yielded,Act.put,go_sem]
      .simp[Act.eval,Act.put,go_sem]
      .refine(Hs (HFA.out.below hbx') (HFB.out.below hbx') he he).mono ?_;rintro en w9 ⟨_,rfl,rfl,hb⟩;rw[HK.out];exact⟨_,rfl,hb,rfl,Af hbx' hb⟩
     case refine_11=>
      have k9:(sp 9)=.int .i64 K:=(hdp 9 (mq (by kernel_rfl))).2
      with_reducible refine Ad ?_ ?_
      all_goals simp[Region.wanted,yielded,execOp,Act.eval,Act.put,go_sem,k9,hK]
     all_goals ((with_reducible refine Ad ?_ ?_);all_goals first|(simp only[Region.wanted];done)|simp[Region.wanted,yielded,execOp,Act.eval,Act.put,go_sem])
    .intro sp w7 hsp hbx';have HS7:=Ab (HSO.out.later hbx');clear hsp hbx';simp only[Al,Nat.reduceAdd];generalize sp 9=y9 at *
     go_simp
     go_wp2;go_roundw
     case rel=>exact⟨k+1,by omega,by go_num,HS7,HD'⟩
     case measure=>simp[intOf];omega
  .have hkn':¬(k:Int)<(n:Int)-1:=by omega
   have HAN:Aa (ANS=false):=⟨by
    rw[<-HANS.out];have h1:Ms.Nodup:=kG (jD.pairwise (by rw[HML.out];exact HSR.out)) fun i a b h1 h2=>HD.out i a b (by have:=(List.getElem?_eq_some_iff.1 h2).1;rw[HML.out]at this;omega) h1 h2
    rw[decide_eq_true (HSO.out.perm.nodup_iff.1 h1)];rfl⟩
   go_wp2;go_ret;exact⟨by rw[HAN.out];rfl,HSO.out.bel⟩
theorem Vu {w:World}{e r q n c:Nat}{p:Option Addr}{Bs:List Nat}(hR:Ring w r q 33)(h:Aq w e p n c Bs)(he:e<=200)(hn:n<=1000) :
  Calls Tryz.prog 115 #[.slice p n c,.func (.func 31) #[.pointer (some ⟨r,0,none⟩)] #[]] w fun en w'=>en=.returned (.slice (some ⟨w.heap.size,0,none⟩) n n)/\Aq w' 33 (some ⟨w.heap.size,0,none⟩) n n (Bs.map fun x=>x%q)/\Below w.heap.size w w':=by
 have HLN:=Ab h.len;have HP:=Ab h;have HR:=Ab hR;have hmk:=fun w=>Nu n (by omega) w
 obtain⟨w0,hw0⟩:∃w0,w.alloc (.cells (madeCells #[.slice none 0 0] n) 37)=w0:=⟨_,rfl⟩
 have hb0:Below w.heap.size w w0:=by rw[<-hw0];exact(Ba _ _).alloc (Aw _) _
 have HS0:Aa (Cr w0 w.heap.size (List.replicate n (none,0,0))):=⟨by rw[<-hw0];exact Cr.made w n⟩
 have HB0:=Ab hb0;clear hR h hb0;go_enter Tryz.func115,Tryz.ntmps115;go_wp2
 go_loopw [6,7,13] (fun _ _ iv wr=>∃(k:Nat) (us:List (Option Addr×Nat×Nat)),k<=n/\iv=.int .i64 k/\us.length=n/\Aa (Cr wr w.heap.size us)/\Aa (Ra wr 33 us (Bs.map fun x=>x%q) k)/\Aa (Below w.heap.size w wr)) (fun _ _ iv _=>n-(intOf iv).toNat)
 case atStart=>exact⟨0,List.replicate n (none,0,0),by omega,rfl,by simp,HS0,⟨fun j N hj=>by omega⟩,HB0⟩
 case round=>
  obtain⟨k,us,hk,rfl,hus,HSr,HVr,HBr⟩:=hrel
  by_cases hkn:k<n
  .obtain⟨X,hXk⟩:∃X,Bs[k]? = some X:=⟨Bs[k]'(by rw[<-HLN.out];exact hkn),List.getElem?_eq_getElem _⟩
   obtain⟨b2,off,rfl,hb,hc⟩:=(HP.out.below HBr.out).at_ (by omega)
   obtain⟨q1,m,d,hx,hnx,hlim⟩:=hc k X hXk;have hUK:us[k]? = some (us[k]'(by omega)):=List.getElem?_eq_getElem _;have hbw:Below wr.heap.size wr (wr.alloc (.cells #[.slice q1 m d] 37)):=Bt;have hbx:=Ae.made wr (.slice q1 m d);obtain⟨wb,hwb⟩:∃wb,wr.alloc (.cells #[.slice q1 m d] 37)=wb:=⟨_,rfl⟩
   rw[hwb]at hbw hbx
   have cb:=hbx.cell;have HXb:=Ab ((Fit.of hnx hlim).below hbw);have HBb:=Ab (Af HBr.out hbw);have HRb:=Ab (HR.out.below HBb.out);have HSb:=Ab (HSr.out.below hbw HSr.out.lt);have HVb:=Ab (HVr.out.keep (B:=w.heap.size) (Am.of hbw HBr.out.size));have HNk:Aa ((Bs.map fun x=>x%q)[k]? = some (X%q)):=⟨by rw[List.getElem?_map,hXk];rfl⟩
   have HPl:Aa (X%q<An 33):=⟨Nat.lt_trans (Nat.mod_lt _ (by have:=HR.out.two;omega)) HR.out.lim⟩
   have HUK:=Ab hUK;have hkn':(k:Int)<n:=by omega
   have hnk:¬n<=k:=by omega
   clear hc hnx hlim hXk hbw hbx hb hmk hUK
   go_wp2_with fail
   refine(Cv HRb.out HXb.out (by omega)).mono ?_;rintro en w1 ⟨_,rfl,⟨pz,nz,cz,rfl,hn1,_⟩,hb1⟩;have hs1:=HSb.out.below hb1 HSb.out.lt;have c1:=hs1.cell HUK.out;have f1:=hs1.free k;have HS8:=Ab (hs1.set k pz nz cz);have HV8:=Ab (((HVb.out.keep (Am.of (B:=w.heap.size) hb1 HBb.out.size)).keep (Am.store_row hs1 (Aw _) k (.slice pz nz cz))).step (by omega) HNk.out (hs1.nat hn1 k _) HPl.out);have HB8:Aa (Below w.heap.size w (w1.setCell ⟨w.heap.size,k,none⟩ (.slice pz nz cz))):=⟨(Af HBb.out hb1).setCell (Aw _) _⟩
   have HLEN:Aa ((us.set k (pz,nz,cz)).length=n):=⟨by rw[List.length_set];exact hus⟩
   clear hn1 hb1 hs1 cb;go_wp2;go_roundw
   case rel=>exact⟨k+1,us.set k (pz,nz,cz),by omega,by go_num,HLEN.out,HS8,HV8,HB8⟩
   case measure=>simp[intOf];omega
  .obtain rfl:k=n:=by omega
   have hkn':¬(k:Int)<k:=by omega
   have HPL:=Ab (HVr.out.plist HSr.out (by rw[List.length_map];exact HLN.out.symm) (by omega));clear hmk;go_wp2;go_ret;exact⟨rfl,HPL.out,HBr.out⟩
def Fb (q n values:Nat)(Ns:List Nat):Nat:=if n=0 then 10 else if n≠values then 1 else if (Ns.map fun x=>x%q).Nodup then 0 else 11
theorem Vk {w:World}{e r q n c V:Nat}{p:Option Addr}{Ns:List Nat}(hR:Ring w r q 33)(h:Aq w e p n c Ns)(he:e<=200)(hn:n<=12)(hV:V<=1000000) :
  Calls Tryz.prog 114 #[.pointer (some ⟨r,0,none⟩),.slice p n c,.int .i64 V] w fun en w'=>en=.returned (.int .i64 (Fb q n V Ns:Nat))/\Below w.heap.size w w':=by
 have HR:=Ab hR;have HP:=Ab h;clear hR h;unfold Fb
 by_cases h0:n=0
 .subst h0;rw[if_pos rfl];go_enter Tryz.func114,Tryz.ntmps114;go_wp2;go_ret;exact⟨rfl,Ba _ _⟩
 rw[if_neg h0];have h0':((n:Int)==0)=false:=by rw[beq_eq_false_iff_ne];omega
 by_cases h1:n=V
 .subst h1;have h1':((n:Int)!=n)=false:=by simp
  have h2:¬(n≠n):=fun h=>h rfl
  rw[if_neg h2];have HH:Aa (1<=n):=⟨by omega⟩
  clear h0 h2 hV;obtain⟨D,hD⟩:∃D,decide (Ns.map fun x=>x%q).Nodup=D:=⟨_,rfl⟩
  have HD:=Ab hD;have HE:Aa ((if (Ns.map fun x=>x%q).Nodup then 0 else 11)=if D then 0 else 11):=⟨by
   rw[<-hD]
   by_cases hd:(Ns.map fun x=>x%q).Nodup
   .rw[if_pos hd,decide_eq_true hd];rfl
   .rw[if_neg hd,decide_eq_false hd];rfl⟩
  rw[HE.out];clear hD HE;go_enter Tryz.func114,Tryz.ntmps114
  go_wp2_with fail
  refine(Vu HR.out HP.out he (by omega)).mono ?_;rintro en w1 ⟨rfl,hp1,hb1⟩;have HP1:=Ab hp1;have HB1:=Ab hb1;clear hp1 hb1
  go_wp2_with fail
  refine(fC HP1.out HH.out hn (by omega)).mono ?_;rintro en w2 ⟨rfl,hb2⟩;have HB2:=Ab (Af HB1.out hb2);rw[HD.out];clear hb2 HD
  cases D with
  | true=>
   go_wp2;go_ret;exact⟨rfl,HB2.out⟩
  | false=>
   go_wp2;go_ret;exact⟨rfl,HB2.out⟩
 .rw[if_pos h1];have h1':((n:Int)!=V)=true:=by rw[bne_iff_ne];omega
  clear h1;go_enter Tryz.func114,Tryz.ntmps114;go_wp2;go_ret;exact⟨rfl,Ba _ _⟩
def bJ (q A B:Nat)(w:World)(en:Ending)(w':World):Prop :=
 ∃(x:Value) (I:Nat),en=.returned (.tuple #[x,.int .i64 (if Nat.gcd q B=1 then 0 else 6)])/\Jc q B I/\Fit 33 (A*I%q) x w'/\Below w.heap.size w w'
theorem nM {w:World}{r q e1 e2 A B:Nat}{u v:Value}(hR:Ring w r q 33)(hu:Fit e1 A u w)(hv:Fit e2 B v w)(h1:e1<=200)(h2:e2<=200) :
  Calls Tryz.prog 116 #[.pointer (some ⟨r,0,none⟩),u,v] w (bJ q A B w):=by
 obtain⟨pa,na,ca,rfl,a1,a2⟩:=Ao hu;obtain⟨pb,nb,cb,rfl,b1,b2⟩:=Ao hv;have hbx:=Xz.mk3 w (.slice pa na ca) (.slice pb nb cb) (.slice none 0 0);have HR:=Ab (hR.below hbx.bel);have HA:=Ab ((Fit.of a1 a2).below hbx.bel);have HB:=Ab ((Fit.of b1 b2).below hbx.bel);have HX:=Ab hbx;have c1:=hbx.b1.cell;clear hR hu hv a1 b1 hbx;go_enter Tryz.func116,Tryz.ntmps116
 go_wp2_with fail
 refine(oA HR.out HB.out (by omega)).mono ?_;rintro en w1 ⟨x,I,rfl,⟨pi,ni,ci,rfl,i1,i2⟩,hI,hb1⟩;have hb2:Below w1.heap.size w1 (w1.alloc (.cells #[.slice pi ni ci] 37)):=Bt;have hbi:=Ae.made w1 (.slice pi ni ci);obtain⟨w2,hw2⟩:∃w2,w1.alloc (.cells #[.slice pi ni ci] 37)=w2:=⟨_,rfl⟩
 rw[hw2]at hb2 hbi
 have hb12:=Af hb1 hb2;have HX2:=Ab (HX.out.later hb12);have HI2:=Ab (Fit.of (i1.below hb2) i2);have HA2:=Ab (HA.out.below hb12);have HR2:=Ab (HR.out.below hb12);have HIN:=Ab hI;have cc:=hbi.cell;have ca':=HX2.out.b0.cell;obtain⟨E,hE⟩:∃E:Int,(if Nat.gcd q B=1 then 0 else 6)=E:=⟨_,rfl⟩
 have HE:=Ab hE;simp only[hE];clear hb2 hbi hb12 i1 hI hb1 hE c1 HX HA HB HR
 go_wp2_with fail
 refine(Dq HR2.out HA2.out HI2.out (by omega) (by omega)).mono ?_;rintro en w3 ⟨_,rfl,⟨pm,nm,cm,rfl,m1,m2⟩,hb3⟩;have hx3:=HX2.out.later hb3;have k2:=hx3.b2.cell;have f2:=hx3.b2.free;have z2:=hx3.b2.lt;have HF:=Ab (Fit.of (m1.store hx3.b2 (.slice pm nm cm)) m2);have HBF:Aa (Below w.heap.size w (w3.setCell ⟨w.heap.size+1+1,0,none⟩ (.slice pm nm cm))):=⟨hx3.bel.setCell (by simp;omega) _⟩
 clear m1 hx3 hb3 cc ca';go_wp2;exact bodyPost_ret (v:=.tuple #[.agg #[.slice pm nm cm],.int .i64 E]) (by simp[results,Tryz.results116,go_sem,k2]) rfl ⟨_,I,by rw[HE.out],HIN.out,HF.out,HBF.out⟩
theorem Dg.below {w w':World}{b N:Nat}(h:Dg w b N)(hb:Below w.heap.size w w'):Dg w' b N :=
 let ⟨p,n,c,h1,h2⟩:=h
 ⟨p,n,c,h1.below hb h1.lt,h2.below hb⟩
structure dZ (w:World) (b10 b11:Nat) (u:Value) (A B:Nat) (wr:World):Prop where
 b7:Ae wr w.heap.size u
 b8:Ae wr (w.heap.size+1) (.slice none 0 0)
 a:Dg wr b10 A
 b:Dg wr b11 B
 bel:Below w.heap.size w wr
theorem dZ.later {w wr wz:World}{b10 b11 A B:Nat}{u:Value}(h:dZ w b10 b11 u A B wr)(hb:Below wr.heap.size wr wz):dZ w b10 b11 u A B wz :=
 ⟨h.b7.below hb h.b7.lt,h.b8.below hb h.b8.lt,h.a.below hb,h.b.below hb,Af h.bel hb⟩
theorem bR {w:World}{r q e n c i X XI:Nat}{p:Option Addr}{Bs:List Nat}{v:Value}(hq:Bl q)(hR:Ring w r q 33)(h:Aq w e p n c Bs)(hX:Fit e X v w)(he:e<=200)(hn:n<=1000)(hi:Bs[i]? = some XI) :
  Calls Tryz.prog 232 #[.pointer (some ⟨r,0,none⟩),.slice p n c,.int .i64 i,v] w (bJ q (Cm q X 1 (Bs.take i++Bs.drop (i+1))) (Cm q XI 1 (Bs.take i++Bs.drop (i+1))) w):=by
 have HLN:=Ab h.len;obtain⟨px,nx,cx,rfl,x1,x2⟩:=Ao hX;obtain⟨x,hx⟩:∃x:Option Addr×Nat×Nat,(px,nx,cx)=x:=⟨_,rfl⟩
 obtain rfl:px=x.1:=by rw[<-hx]
 obtain rfl:nx=x.2.1:=by rw[<-hx]
 obtain rfl:cx=x.2.2:=by rw[<-hx]
 clear hx;have HF0:=Ab (Fit.of x1 x2);have HP:=Ab h;have HR:=Ab hR;have hin:i<n:=by rw[HLN.out];exact(List.getElem?_eq_some_iff.1 hi).1
 have HIN:=Ab hin;obtain⟨bx,off,rfl,hbx,hcx⟩:=h.at_ (by omega)
 obtain⟨qi,mi,di,hci,hni,hli⟩:=hcx i XI hi;obtain⟨xi,hxi⟩:∃x:Option Addr×Nat×Nat,(qi,mi,di)=x:=⟨_,rfl⟩
 obtain rfl:qi=xi.1:=by rw[<-hxi]
 obtain rfl:mi=xi.2.1:=by rw[<-hxi]
 obtain rfl:di=xi.2.2:=by rw[<-hxi]
 clear hxi;have HBX:=Ab hbx;have HCX:=Ab hcx;have HCI0:=Ab hci;have HFI0:=Ab (Fit.of hni hli);have HRL:=Ab hR.at_.lt
 have HQ2:=Ab hq.two;have hb2:=bH.mk2 w (.slice x.1 x.2.1 x.2.2) (.slice none 0 0);obtain⟨w1,hw1⟩:∃w1,(w.alloc (.cells #[.slice x.1 x.2.1 x.2.2] 37)).alloc (.cells #[.slice none 0 0] 37)=w1:=⟨_,rfl⟩
 rw[hw1]at hb2
 have HB2:=Ab hb2;clear h hX hR x1 hni hci hcx hbx hb2 hi;go_enter Tryz.func232,Tryz.ntmps232
 go_wp2_with fail
 refine(Ea w1).mono ?_;rintro en w2 ⟨_,rfl,⟨p1,n1,c1,rfl,hn1,_⟩,hw2⟩;have HN1:=Ab hn1;have HW2:=Ab hw2;clear hn1 hw2
 go_wp2_with fail
 refine(Ea w2).mono ?_;rintro en w3 ⟨_,rfl,⟨p2,n2,c2,rfl,hn2,_⟩,hw3⟩;obtain⟨b10,hb10⟩:∃b,w3.heap.size=b:=⟨_,rfl⟩
 obtain⟨b11,hb11⟩:∃b,b10+1=b:=⟨_,rfl⟩
 have hz4:(w3.alloc (.cells #[.slice p1 n1 c1] 37)).heap.size=b10+1:=by rw[<-hb10];simp
 have hm:=bH.mk2 w3 (.slice p1 n1 c1) (.slice p2 n2 c2);obtain⟨w4,hw4⟩:∃w4,(w3.alloc (.cells #[.slice p1 n1 c1] 37)).alloc (.cells #[.slice p2 n2 c2] 37)=w4:=⟨_,rfl⟩
 rw[hw4]at hm
 have hmb0:=hm.b0;have hmb1:=hm.b1;rw[hb10]at hmb0 hmb1
 have hb34:=hm.bel;have hX4:=HB2.out.later (Af (Af HW2.out hw3) hb34);have HST:Aa (dZ w b10 b11 (.slice x.1 x.2.1 x.2.2) (Cm q X 1 (others Bs i 0)) (Cm q XI 1 (others Bs i 0)) w4):=⟨⟨hX4.b0,hX4.b1,⟨p1,n1,c1,hmb0,by rw[Qb];exact(HN1.out.below (Af hw3 hb34))⟩,⟨p2,n2,c2,by rw[<-hb11];exact hmb1,by rw[Qb];exact hn2.below hb34⟩,hX4.bel⟩⟩
 have HLO:Aa (w.heap.size+1<b10/\b11=b10+1):=⟨by
  rw[<-hb10];exact Da HB2.out.b1.lt (Er HW2.out.size hw3.size),hb11.symm⟩
 clear hm hmb0 hmb1 hb34 hX4 hn2 hw3 HN1 HW2 HB2 hw1;have HB11:=Ab hb11;clear hb11;go_wp2;rw[HB11.out];clear hz4 hw4 hb10 HB11
 go_loopw [12,13,18] (fun _ _ iv wr=>∃k:Nat,k<=n/\iv=.int .i64 k/\Aa (dZ w b10 b11 (.slice x.1 x.2.1 x.2.2) (Cm q X 1 (others Bs i k)) (Cm q XI 1 (others Bs i k)) wr)) (fun _ _ iv _=>n-(intOf iv).toNat)
 case atStart=>exact⟨0,by omega,rfl,HST⟩
 case round=>
  obtain⟨k,hk,rfl,HS⟩:=hrel
  by_cases hkn:k<n
  .obtain⟨O,hOk⟩:∃O,Bs[k]? = some O:=⟨Bs[k]'(by rw[<-HLN.out];exact hkn),List.getElem?_eq_getElem _⟩
   obtain⟨qo,mo,do9,ho1,ho2,ho3⟩:=HCX.out k O hOk;obtain⟨o,ho⟩:∃x:Option Addr×Nat×Nat,(qo,mo,do9)=x:=⟨_,rfl⟩
   obtain rfl:qo=o.1:=by rw[<-ho]
   obtain rfl:mo=o.2.1:=by rw[<-ho]
   obtain rfl:do9=o.2.2:=by rw[<-ho]
   clear ho;have hcell:wr.cell? ⟨bx,off+k,none⟩=some (.slice o.1 o.2.1 o.2.2):=(HS.out.bel.cell (p:=⟨bx,off+k,none⟩) HBX.out).trans ho1;have hbw:Below wr.heap.size wr (wr.alloc (.cells #[.slice o.1 o.2.1 o.2.2] 37)):=Bt;have hbo:=Ae.made wr (.slice o.1 o.2.1 o.2.2);obtain⟨wb,hwb⟩:∃wb,wr.alloc (.cells #[.slice o.1 o.2.1 o.2.2] 37)=wb:=⟨_,rfl⟩
   rw[hwb]at hbw hbo
   have HSb:=Ab (HS.out.later hbw);have HBO:=Ab hbo;have hkn':(k:Int)<n:=by omega
   by_cases hki:k=i
   .subst hki;have hne:((k:Int)!=k)=false:=by simp
    have HSN:Aa (dZ w b10 b11 (.slice x.1 x.2.1 x.2.2) (Cm q X 1 (others Bs k (k+1))) (Cm q XI 1 (others Bs k (k+1))) wb):=⟨by rw[Zi];exact HSb.out⟩
    clear ho1 ho2 hbw hbo;go_wp2;go_roundw
    case rel=>exact⟨k+1,by omega,by go_num,HSN⟩
    case measure=>simp[intOf];omega
   .have hne:((k:Int)!=i)=true:=by rw[bne_iff_ne];omega
    have HSNO:Aa (others Bs i (k+1)=others Bs i k++[O]):=⟨Zh hOk hki⟩
    obtain⟨pa,na,ca,hab,han⟩:=HSb.out.a;obtain⟨pb,nb,cb,hbb,hbn⟩:=HSb.out.b;obtain⟨AA,hAA⟩:∃A,Cm q X 1 (others Bs i k)=A:=⟨_,rfl⟩
    obtain⟨BB,hBB⟩:∃A,Cm q XI 1 (others Bs i k)=A:=⟨_,rfl⟩
    rw[hAA]at han
    rw[hBB]at hbn
    obtain⟨ZA,hZA⟩:∃Z,AA*Cq X O q%q=Z:=⟨_,rfl⟩
    obtain⟨ZB,hZB⟩:∃Z,BB*Cq XI O q%q=Z:=⟨_,rfl⟩
    have HZA:=Ab hZA;have HZB:=Ab hZB;have hq2:=HQ2.out;have HEA:Aa (Cm q X 1 (others Bs i (k+1))=ZA):=⟨by rw[HSNO.out,Na,hAA,hZA]⟩
    have HEB:Aa (Cm q XI 1 (others Bs i (k+1))=ZB):=⟨by rw[HSNO.out,Na,hBB,hZB]⟩
    have hlq:q<An 33:=HR.out.lim;have hlA:AA<An 33:=by rw[<-hAA];exact Nat.lt_trans (Lf hq2 _ _ (by omega)) hlq
    have hlB:BB<An 33:=by rw[<-hBB];exact Nat.lt_trans (Lf hq2 _ _ (by omega)) hlq
    have HFA:=Ab (Fit.of han hlA);have HFB0:=Ab (Fit.of hbn hlB);have HRo:=Ab (HR.out.below HSb.out.bel);have HFX:=Ab (HF0.out.below HSb.out.bel);have HFO:=Ab ((Fit.of ho2 ho3).below HSb.out.bel);have HAB:=Ab hab;have HBBx:=Ab hbb;have HWB:Aa (b11<wr.heap.size):=⟨by obtain⟨_,_,_,h1,_⟩:=HS.out.b;exact h1.lt⟩
    have HNE6:Aa (∀y∈([(w.heap.size,.cells #[.slice x.1 x.2.1 x.2.2] 37 (0,0)),(wr.heap.size,.cells #[.slice o.1 o.2.1 o.2.2] 37 (0,0)),(b11,.cells #[.slice pb nb cb] 37 (0,0)),(w.heap.size+1,.cells #[.slice none 0 0] 37 (0,0))]:List (Nat×Obj)),y.1≠b10):=⟨by
     have h1:=HLO.out;have h2:=HWB.out;intro y hy;simp only[List.mem_cons,List.not_mem_nil,or_false]at hy;rcases hy with rfl|rfl|rfl|rfl<;>simp only<;>omega⟩
    have HL6:Aa (∀y∈([(w.heap.size,.cells #[.slice x.1 x.2.1 x.2.2] 37 (0,0)),(wr.heap.size,.cells #[.slice o.1 o.2.1 o.2.2] 37 (0,0)),(b11,.cells #[.slice pb nb cb] 37 (0,0)),(w.heap.size+1,.cells #[.slice none 0 0] 37 (0,0))]:List (Nat×Obj)),wb.heap[y.1]? = some y.2):=⟨by
     intro y hy;simp only[List.mem_cons,List.not_mem_nil,or_false]at hy;rcases hy with rfl|rfl|rfl|rfl
     .exact HSb.out.b7
     .exact HBO.out
     .exact HBBx.out
     .exact HSb.out.b8⟩
    have HLE:Aa (w.heap.size<=b10):=⟨by have:=HLO.out;omega⟩
    have HLEb:Aa (w.heap.size<=b11):=⟨by have:=HLO.out;omega⟩
    clear ho1 ho2 hbw hbo hab han hbb hbn hAA hBB hZA hZB hlA hlB hlq hq2 hOk hki;go_wp2;refine Aj (by kernel_rfl) (by kernel_rfl)
     [some (.pointer (some ⟨r,0,none⟩)),some (.agg #[.slice pa na ca]),some (.pointer (some ⟨r,0,none⟩)),some (.agg #[.slice x.1 x.2.1 x.2.2]),some (.agg #[.slice o.1 o.2.1 o.2.2]),none,none,none]
     [false,false,false,false,false,true,true,true] rfl
     (fun wA wB=>Am (w.heap.size) wA wB)
     (fun D sp w'=>RG (w.heap.size) wb [(w.heap.size,.cells #[.slice x.1 x.2.1 x.2.2] 37 (0,0)),(wr.heap.size,.cells #[.slice o.1 o.2.1 o.2.2] 37 (0,0)),(b11,.cells #[.slice pb nb cb] 37 (0,0)),(w.heap.size+1,.cells #[.slice none 0 0] 37 (0,0))] w'/\jC (D 7) (b10) pa na ca (ZA) w')
     (fun i v w'=>match i with
      | 5=>Fit 33 (Cq X O q) v w'
      | 6=>Fit 33 ZA v w'
      | _=>True)
     ?_ ⟨RG.start HSb.out.bel.size HL6.out,⟨fun _=>HAB.out,fun e=>by cases e⟩⟩ ?_ ?_
    .intro i v wA wB hf hb;split at hf
     .exact hf.keep hb
     .exact hf.keep hb
     .trivial
    .simp only[Az,Nat.reduceAdd];refine⟨?_,?_,?_,?_,?_,?_,?_,?_,trivial⟩
     all_goals intro D sp w' hD hW hdp hg
     case refine_2=>
      have c0:=(hg.2.z (hW 7 (mq (by kernel_rfl)))).cell
      with_reducible refine Ad ?_ ?_
      all_goals simp[Region.wanted,yielded,execOp,Act.eval,Act.put,go_sem,c0]
     case refine_4=>
      have c0:w'.cell? ⟨w.heap.size,0,none⟩=some (.slice x.1 x.2.1 x.2.2):=Ae.cell (hg.1.of List.mem_cons_self)
      with_reducible refine Ad ?_ ?_
      all_goals simp[Region.wanted,yielded,execOp,Act.eval,Act.put,go_sem,c0]
     case refine_5=>
      have c0:w'.cell? ⟨wr.heap.size,0,none⟩=some (.slice o.1 o.2.1 o.2.2):=Ae.cell (hg.1.of (List.mem_cons_of_mem _ List.mem_cons_self))
      with_reducible refine Ad ?_ ?_
      all_goals simp[Region.wanted,yielded,execOp,Act.eval,Act.put,go_sem,c0]
     case refine_6=>
      (with_reducible refine Ac (w1:=w') (f := 55) (args:=#[.pointer (some ⟨r,0,none⟩),.agg #[.slice x.1 x.2.1 x.2.2],.agg #[.slice o.1 o.2.1 o.2.2]]) ?_ ?_ ?_)
      .simp[Region.wanted,yielded,Act.put,go_sem]
      .simp[Act.eval,Act.put,go_sem]
      .refine(Mn (HRo.out.keep HRL.out hg.1.keep) (HFX.out.keep hg.1.keep) (HFO.out.keep hg.1.keep) (by omega) (by omega)).mono ?_;rintro en w9 ⟨u,rfl,hu,hb⟩;exact⟨u,rfl,Am.of hb hg.1.base,hu,hg.1.later hb,by simpa [upd]using hg.2.later hb⟩
     case refine_7=>
      have k5:Fit 33 (Cq X O q) (sp 5) w':=(hdp 5 (mq (by kernel_rfl))).2
      (with_reducible refine Ac (w1:=w') (f := 33) (args:=#[.pointer (some ⟨r,0,none⟩),.agg #[.slice pa na ca],sp 5]) ?_ ?_ ?_)
      .simp[Region.wanted,yielded,Act.put,go_sem]
      .simp[Act.eval,Act.put,go_sem]
      .refine(Dq (HRo.out.keep HRL.out hg.1.keep) (HFA.out.keep hg.1.keep) k5 (by omega) (by omega)).mono ?_;rintro en w9 ⟨u,rfl,hu,hb⟩;rw[HZA.out]at hu
       exact⟨u,rfl,Am.of hb hg.1.base,hu,hg.1.later hb,by simpa [upd]using hg.2.later hb⟩
     case refine_8=>
      have hx:∃p n c,sp 6=.agg #[.slice p n c]/\Ag w' p n c (ZA)/\ZA<An (33):=(hdp 6 (mq (by kernel_rfl))).2
      (with_reducible refine Av hx fun p hx1=>Av hx1 fun n hx2=>Av hx2 fun c hx3=>?_)
      have h1:=hx3.1;rw[hD]at hg
      have hp:=hg.2.put (hx3.2.1)
      (with_reducible refine Av hp fun q hy1=>Av hy1 fun m hy2=>Av hy2 fun k hy3=>?_)
      have h6:=hy3.1.cell;have h7:=hy3.1.free
      (with_reducible refine Ap (w1:=w'.setCell ⟨b10,0,none⟩ (.slice p n c)) ?_ ?_ ?_)
      .simp[Region.wanted,yielded,Act.put,go_sem]
      .simp[execOp,Act.eval,Act.put,go_sem,h1,h6,h7]
      .refine⟨Am.store hy3.1 HLE.out _,trivial,hg.1.store hy3.1 HLE.out HNE6.out _,?_⟩;have h8:=hy3.2;simpa [upd]using h8
     all_goals ((with_reducible refine Ad ?_ ?_);all_goals first|(simp only[Region.wanted];done)|simp[Region.wanted,yielded,execOp,Act.eval,Act.put,go_sem])
    .intro sp w9 hsp hg;obtain⟨hg1,hg2⟩:=hg;obtain⟨pa2,na2,ca2,ha2,hna2⟩:=hg2.o rfl;have HA2:=Ab ha2;have HNA2:=Ab hna2;have HK9:=Ab hg1.keep;have g7:=hg1.of List.mem_cons_self;have gO:=hg1.of (List.mem_cons_of_mem _ List.mem_cons_self);have g11:=hg1.of (List.mem_cons_of_mem _ (List.mem_cons_of_mem _ List.mem_cons_self));have g8:=hg1.of (List.mem_cons_of_mem _ (List.mem_cons_of_mem _ (List.mem_cons_of_mem _ List.mem_cons_self)));have HG7:Aa (Ae w9 w.heap.size (.slice x.1 x.2.1 x.2.2)):=⟨g7⟩
     have HGO:Aa (Ae w9 wr.heap.size (.slice o.1 o.2.1 o.2.2)):=⟨gO⟩
     have HG11:Aa (Ae w9 b11 (.slice pb nb cb)):=⟨g11⟩
     have HG8:Aa (Ae w9 (w.heap.size+1) (.slice none 0 0)):=⟨g8⟩
     have HB9:Aa (Below w.heap.size w w9):=⟨HSb.out.bel.trans hg1.keep.bel⟩
     have HFI:=Ab (HFI0.out.below HB9.out);have HCI:Aa (w9.cell? ⟨bx,off+i,none⟩=some (.slice xi.1 xi.2.1 xi.2.2)):=⟨(HB9.out.cell (p:=⟨bx,off+i,none⟩) HBX.out).trans HCI0.out⟩
     have HFO7:=Ab (HFO.out.keep hg1.keep);have HFB:=Ab (HFB0.out.keep hg1.keep);have HR7:=Ab (HR.out.below HB9.out);have HNE7:Aa (∀y∈([(wr.heap.size,.cells #[.slice o.1 o.2.1 o.2.2] 37 (0,0)),(w.heap.size,.cells #[.slice x.1 x.2.1 x.2.2] 37 (0,0)),(b10,.cells #[.slice pa2 na2 ca2] 37 (0,0)),(w.heap.size+1,.cells #[.slice none 0 0] 37 (0,0))]:List (Nat×Obj)),y.1≠b11):=⟨by
      have h1:=HLO.out;have h2:=HWB.out;intro y hy;simp only[List.mem_cons,List.not_mem_nil,or_false]at hy;rcases hy with rfl|rfl|rfl|rfl<;>simp only<;>omega⟩
     have HL7:Aa (∀y∈([(wr.heap.size,.cells #[.slice o.1 o.2.1 o.2.2] 37 (0,0)),(w.heap.size,.cells #[.slice x.1 x.2.1 x.2.2] 37 (0,0)),(b10,.cells #[.slice pa2 na2 ca2] 37 (0,0)),(w.heap.size+1,.cells #[.slice none 0 0] 37 (0,0))]:List (Nat×Obj)),w9.heap[y.1]? = some y.2):=⟨by
      intro y hy;simp only[List.mem_cons,List.not_mem_nil,or_false]at hy;rcases hy with rfl|rfl|rfl|rfl
      .exact HGO.out
      .exact HG7.out
      .exact HA2.out
      .exact HG8.out⟩
     clear hsp hg1 hg2 ha2 hna2 g7 gO g11 g8;simp only[Al,Nat.reduceAdd];generalize sp 5=y5,sp 6=y6,sp 7=y7 at *
     go_simp
     go_wp2;refine Aj (by kernel_rfl) (by kernel_rfl)
      [some (.pointer (some ⟨r,0,none⟩)),some (.agg #[.slice pb nb cb]),some (.pointer (some ⟨r,0,none⟩)),some (.slice (some ⟨bx,off,none⟩) n c),some (.int .i64 (i:Nat)),some (.pointer (some ⟨bx,off+i,none⟩)),some (.agg #[.slice xi.1 xi.2.1 xi.2.2]),some (.agg #[.slice o.1 o.2.1 o.2.2]),none,none,none]
      [false,false,false,false,false,false,false,false,true,true,true] rfl
      (fun wA wB=>Am (w.heap.size) wA wB)
      (fun D sp w'=>RG (w.heap.size) w9 [(wr.heap.size,.cells #[.slice o.1 o.2.1 o.2.2] 37 (0,0)),(w.heap.size,.cells #[.slice x.1 x.2.1 x.2.2] 37 (0,0)),(b10,.cells #[.slice pa2 na2 ca2] 37 (0,0)),(w.heap.size+1,.cells #[.slice none 0 0] 37 (0,0))] w'/\jC (D 10) (b11) pb nb cb (ZB) w')
      (fun i v w'=>match i with
       | 8=>Fit 33 (Cq XI O q) v w'
       | 9=>Fit 33 ZB v w'
       | _=>True)
      ?_ ⟨RG.start HB9.out.size HL7.out,⟨fun _=>HG11.out,fun e=>by cases e⟩⟩ ?_ ?_
     .intro i v wA wB hf hb;split at hf
      .exact hf.keep hb
      .exact hf.keep hb
      .trivial
     .simp only[Az,Nat.reduceAdd];refine⟨?_,?_,?_,?_,?_,?_,?_,?_,?_,?_,?_,trivial⟩
      all_goals intro D sp w' hD hW hdp hg
      case refine_2=>
       have c0:=(hg.2.z (hW 10 (mq (by kernel_rfl)))).cell
       with_reducible refine Ad ?_ ?_
       all_goals simp[Region.wanted,yielded,execOp,Act.eval,Act.put,go_sem,c0]
      case refine_6=>
       have hni:¬n<=i:=Nat.not_le.2 HIN.out
       with_reducible refine Ad ?_ ?_
       all_goals simp[Region.wanted,yielded,execOp,Act.eval,Act.put,go_sem,hni]
      case refine_7=>
       have c0:w'.cell? ⟨bx,off+i,none⟩=some (.slice xi.1 xi.2.1 xi.2.2):=(hg.1.keep.bel.cell (p:=⟨bx,off+i,none⟩) HBX.out).trans HCI.out
       with_reducible refine Ad ?_ ?_
       all_goals simp[Region.wanted,yielded,execOp,Act.eval,Act.put,go_sem,c0]
      case refine_8=>
       have c0:w'.cell? ⟨wr.heap.size,0,none⟩=some (.slice o.1 o.2.1 o.2.2):=Ae.cell (hg.1.of List.mem_cons_self)
       with_reducible refine Ad ?_ ?_
       all_goals simp[Region.wanted,yielded,execOp,Act.eval,Act.put,go_sem,c0]
      case refine_9=>
       (with_reducible refine Ac (w1:=w') (f := 55) (args:=#[.pointer (some ⟨r,0,none⟩),.agg #[.slice xi.1 xi.2.1 xi.2.2],.agg #[.slice o.1 o.2.1 o.2.2]]) ?_ ?_ ?_)
       .simp[Region.wanted,yielded,Act.put,go_sem]
       .simp[Act.eval,Act.put,go_sem]
       .refine(Mn (HR7.out.keep HRL.out hg.1.keep) (HFI.out.keep hg.1.keep) (HFO7.out.keep hg.1.keep) (by omega) (by omega)).mono ?_;rintro en w9 ⟨u,rfl,hu,hb⟩;exact⟨u,rfl,Am.of hb hg.1.base,hu,hg.1.later hb,by simpa [upd]using hg.2.later hb⟩
      case refine_10=>
       have k8:Fit 33 (Cq XI O q) (sp 8) w':=(hdp 8 (mq (by kernel_rfl))).2
       (with_reducible refine Ac (w1:=w') (f := 33) (args:=#[.pointer (some ⟨r,0,none⟩),.agg #[.slice pb nb cb],sp 8]) ?_ ?_ ?_)
       .simp[Region.wanted,yielded,Act.put,go_sem]
       .simp[Act.eval,Act.put,go_sem]
       .refine(Dq (HR7.out.keep HRL.out hg.1.keep) (HFB.out.keep hg.1.keep) k8 (by omega) (by omega)).mono ?_;rintro en w9 ⟨u,rfl,hu,hb⟩;rw[HZB.out]at hu
        exact⟨u,rfl,Am.of hb hg.1.base,hu,hg.1.later hb,by simpa [upd]using hg.2.later hb⟩
      case refine_11=>
       have hx:∃p n c,sp 9=.agg #[.slice p n c]/\Ag w' p n c (ZB)/\ZB<An (33):=(hdp 9 (mq (by kernel_rfl))).2
       (with_reducible refine Av hx fun p hx1=>Av hx1 fun n hx2=>Av hx2 fun c hx3=>?_)
       have h1:=hx3.1;rw[hD]at hg
       have hp:=hg.2.put (hx3.2.1)
       (with_reducible refine Av hp fun q hy1=>Av hy1 fun m hy2=>Av hy2 fun k hy3=>?_)
       have h6:=hy3.1.cell;have h7:=hy3.1.free
       (with_reducible refine Ap (w1:=w'.setCell ⟨b11,0,none⟩ (.slice p n c)) ?_ ?_ ?_)
       .simp[Region.wanted,yielded,Act.put,go_sem]
       .simp[execOp,Act.eval,Act.put,go_sem,h1,h6,h7]
       .refine⟨Am.store hy3.1 HLEb.out _,trivial,hg.1.store hy3.1 HLEb.out HNE7.out _,?_⟩;have h8:=hy3.2;simpa [upd]using h8
      all_goals ((with_reducible refine Ad ?_ ?_);all_goals first|(simp only[Region.wanted];done)|simp[Region.wanted,yielded,execOp,Act.eval,Act.put,go_sem])
     .intro sp wz hsp hg;obtain⟨hg1,hg2⟩:=hg;obtain⟨pb2,nb2,cb2,hb2,hnb2⟩:=hg2.o rfl;have g7:=hg1.of (List.mem_cons_of_mem _ List.mem_cons_self);have g10:=hg1.of (List.mem_cons_of_mem _ (List.mem_cons_of_mem _ List.mem_cons_self));have g8:=hg1.of (List.mem_cons_of_mem _ (List.mem_cons_of_mem _ (List.mem_cons_of_mem _ List.mem_cons_self)));have HSN:Aa (dZ w b10 b11 (.slice x.1 x.2.1 x.2.2) (Cm q X 1 (others Bs i (k+1))) (Cm q XI 1 (others Bs i (k+1))) wz):=⟨⟨g7,g8,⟨pa2,na2,ca2,g10,by rw[HEA.out];exact hg1.keep.nat _ _ _ _ HNA2.out⟩,⟨pb2,nb2,cb2,hb2,by rw[HEB.out];exact hnb2⟩,HB9.out.trans hg1.keep.bel⟩⟩
      clear hsp hg1 hg2 hb2 hnb2 g7 g10 g8;simp only[Al,Nat.reduceAdd];generalize sp 8=y8,sp 9=y9,sp 10=y10 at *
      go_simp
      go_wp2;go_roundw
      case rel=>exact⟨k+1,by omega,by go_num,HSN⟩
      case measure=>simp[intOf];omega
  .obtain rfl:k=n:=by omega
   have hkn':¬(k:Int)<k:=by omega
   have HALL:Aa (others Bs i k=Bs.take i++Bs.drop (i+1)):=⟨by rw[HLN.out];exact cO Bs i⟩
   have hs:=HS.out;rw[HALL.out]at hs
   obtain⟨pa,na,ca,hab,han⟩:=hs.a;obtain⟨pb,nb,cb,hbb,hbn⟩:=hs.b;have hq2:=HQ2.out;have hlq:q<An 33:=HR.out.lim;have HFA:=Ab (Fit.of han (Nat.lt_trans (Lf hq2 _ _ (by omega)) hlq));have HFB:=Ab (Fit.of hbn (Nat.lt_trans (Lf hq2 _ _ (by omega)) hlq));have HB8:=Ab hs.b8;have HBL:=Ab hs.bel;have HRw:=Ab (HR.out.below hs.bel);have c10:=hab.cell;have c11:=hbb.cell;clear hs hab han hbb hbn hq2 hlq
   go_wp2_with fail
   refine(nM HRw.out HFA.out HFB.out (by decide) (by decide)).mono ?_;rintro en w5 ⟨_,I,rfl,hI,⟨pm,nm,cm,rfl,m1,m2⟩,hb5⟩;have hx5:=HB8.out.below hb5 HB8.out.lt;have k8:=hx5.cell;have f8:=hx5.free;have HIN2:=Ab hI;have HF:=Ab (Fit.of (m1.store hx5 (.slice pm nm cm)) m2);have HBF:Aa (Below w.heap.size w (w5.setCell ⟨w.heap.size+1,0,none⟩ (.slice pm nm cm))):=⟨(Af HBL.out hb5).setCell (by simp) _⟩
   obtain⟨E,hE⟩:∃E:Int,(if Nat.gcd q (Cm q XI 1 (Bs.take i++Bs.drop (i+1)))=1 then 0 else 6)=E:=⟨_,rfl⟩
   have HE:=Ab hE;simp only[hE];clear m1 hx5 hb5 hI hE c10 c11;go_wp2;exact bodyPost_ret (v:=.tuple #[.agg #[.slice pm nm cm],.int .i64 E]) (by simp[results,Tryz.results232,go_sem,k8]) rfl ⟨_,I,by rw[HE.out],HIN2.out,HF.out,HBF.out⟩
end Go.Proofs.YtokhckjemidbpaaGreatDoor
