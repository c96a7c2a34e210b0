/- One place's weight (curve.weightOf): all differences multiplied, and divided at once. -/
import Derived.Test.YtnbmfaihlefgfaaGreatDoorCuC
import Derived.Test.YtnbmfaihlefgfaaGreatDoorEuc
set_option maxRecDepth 1000000
set_option maxHeartbeats 16000000
set_option linter.all false
namespace Go.Proofs.YtnbmfaihlefgfaaGreatDoor
open Go Go.RowKit Go.Proofs.YtnbmfaihlefgfaaGreatDoor.Flow
theorem cQ (x:Int)(w:World)(h0:0<=x)(hx:x<=12) :
  Calls Tryz.prog 263 #[.int .u64 x] w fun e w'=>(∃y:Int,e=.returned (.int .i64 y))/\w=w':=by
 have hs:Lib.len8tab.size=256:=Lib.len8tab_size;go_enter Tryz.func263,Tryz.ntmps263;rw[Qq];go_wp2
 all_goals first
  | (go_ret;exact⟨⟨_,rfl⟩,rfl⟩)
  | (exfalso;omega)
theorem iK (x:Int)(w:World)(h0:0<=x)(hx:x<=12) :
  Calls Tryz.prog 246 #[.int .u64 x] w fun e w'=>(∃y:Int,e=.returned (.int .i64 y))/\w=w':=by
 have HL:=Aa (cQ x w h0 hx);go_enter Tryz.func246,Tryz.ntmps246
 go_wp2_with fail
 refine HL.out.mono ?_;rintro en w1 ⟨⟨y,rfl⟩,rfl⟩;go_wp2;go_ret;exact⟨⟨_,rfl⟩,rfl⟩
theorem fP {w0 w:World}{e g n cap:Nat}{rest:List Value}{Ns Ms0:List Nat}{us0:List (Option Addr×Nat×Nat)}(h:Jk w0 e g rest Ns us0 Ms0 w)(hn:Ns.length=n)(hn2:n<=12)(he:e<=900000)(L:Int) :
  Calls Tryz.prog 245 #[.slice (some ⟨g,0,none⟩) n cap,.int .i64 0,.int .i64 n,.int .i64 L,.func (.func 34) #[] #[]] w fun en w'=>(∃v,en=.returned v)/\∃us Ms,Jk w0 e g rest Ns us Ms w'/\iZ n Ms:=by
 have HI:=Aa (gN (cap:=cap) h hn (by omega) he);clear h hn;have hn12:(n:Int)<=12:=by omega
 go_enter Tryz.func245,Tryz.ntmps245;go_wp2
 go_loopw [1,2,3,10,11,12,13,14,15,16,17,18,19,20] (fun v1 v2 _ _ _ _ _ _ _ _ _ _ _ _ wr=>v1=.int .i64 0/\v2=.int .i64 n/\wr=w) (fun _ _ _ _ _ _ _ _ _ _ _ _ _ _ _=>0)
 case atStart=>exact⟨rfl,rfl,rfl⟩
 case round=>
  obtain⟨rfl,rfl,rfl⟩:=hrel
  go_wp2_with fail
  refine HI.out.mono ?_;rintro en w1 ⟨⟨v,rfl⟩,us,Ms,h1,h2⟩;have H1:=Aa h1;have H2:=Aa h2;clear h1 h2;go_wp2;exact bodyPost_ret (v:=.tuple #[]) (by simp[results,Tryz.results245,go_sem]) rfl ⟨⟨_,rfl⟩,us,Ms,H1.out,H2.out⟩
theorem Sb {w0 w:World}{e g n cap:Nat}{rest:List Value}{Ns Ms0:List Nat}{us0:List (Option Addr×Nat×Nat)}(h:Jk w0 e g rest Ns us0 Ms0 w)(hn:Ns.length=n)(hn2:n<=12)(he:e<=900000) :
  Calls Tryz.prog 225 #[.slice (some ⟨g,0,none⟩) n cap,.func (.func 34) #[] #[]] w fun en w'=>(∃v,en=.returned v)/\∃us Ms,Jk w0 e g rest Ns us Ms w'/\iZ n Ms:=by
 have HI:Ab _:=⟨fun L=>fP (cap:=cap) h hn hn2 he L⟩
 have HB:=Aa (iK n w (by omega) (by omega));clear h hn;go_enter Tryz.func225,Tryz.ntmps225
 go_wp2_with fail
 refine HB.out.mono ?_;rintro en w1 ⟨⟨y,rfl⟩,rfl⟩
 go_wp2_with fail
 refine(HI.out y).mono ?_;rintro en w1 ⟨⟨v,rfl⟩,us,Ms,h1,h2⟩;have H1:=Aa h1;have H2:=Aa h2;clear h1 h2;go_wp2
 go_end0
 exact⟨⟨_,rfl⟩,us,Ms,H1.out,H2.out⟩
theorem Pq {w0 w:World}{e n c b1 b off:Nat}{p:Option Addr}{Ns:List Nat}{us:List (Option Addr×Nat×Nat)}(hr:Pe w p n c b off us)(ht:dO w0 e us Ns)(hb:Below w0.heap.size w0 w)(hc1:w.cell? ⟨b1,0,none⟩=some (.slice p n c))(hb1:b1<w.heap.size)(hn1:1<=n)(hn2:n<=12)(he:e<=900000) :
  Calls Tryz.prog 196 #[.func (.func 226) #[] #[.pointer (some ⟨b1,0,none⟩)],.func (.func 34) #[] #[]] w fun en w'=>
   ∃g cap rest us Ms,en=.returned (.slice (some ⟨g,0,none⟩) n cap)/\n<=cap/\Jk w0 e g rest Ns us Ms w'/\iZ n Ms:=by
 have HC:=Aa (Ue w b1 b off n c p us hr (by omega) hc1 hb1);have HN:Ab (Ns.length=n):=⟨ht.len.symm.trans hr.len⟩
 have HT:=Aa ht;have HB:=Aa hb;have HUL:=Aa hr.len;clear hr ht hb hc1 hb1;go_enter Tryz.func196,Tryz.ntmps196
 go_wp2_with fail
 refine HC.out.mono ?_;rintro en w1 ⟨v,rfl,hv,hb1⟩;rcases hv.2 with ⟨_,h0⟩|⟨g,cap,cur,rfl,hbg,hgg,hnc,hcm,hcs,htk⟩
 .omega
 have hrow:Kl w1 g us (cur.toList.drop n):=by
  unfold Kl;rw[hgg];have:us.map sv++cur.toList.drop n=cur.toList:=by rw[<-htk,Nat.mul_one,List.take_append_drop]
  rw[this]
 have HS1:=Aa (Jk.mk (w0:=w0) (e:=e) (Ns:=Ns) hrow HT.out (List.Perm.refl _) (Ae HB.out hb1) (Dm HB.out.size hbg));have HNC:=Aa hnc;clear hrow hgg hbg hcs htk hb1 HC hcm hnc
 go_wp2_with fail
 refine(Sb (cap:=cap) HS1.out HN.out hn2 he).mono ?_;rintro en w2 ⟨⟨v,rfl⟩,us2,Ms,h1,h2⟩;have H1:=Aa h1;have H2:=Aa h2;clear h1 h2;go_wp2;go_ret;exact⟨g,cap,_,us2,Ms,rfl,HNC.out,H1.out,H2.out⟩
theorem fC {w:World}{e n c:Nat}{p:Option Addr}{Ns:List Nat}(h:Aw w e p n c Ns)(hn1:1<=n)(hn2:n<=12)(he:e<=900000) :
  Calls Tryz.prog 147 #[.slice p n c] w fun en w'=>en=.returned (.bool (!decide Ns.Nodup))/\Below w.heap.size w w':=by
 obtain⟨us,b,off,ht,hr⟩:=Qn h;obtain⟨ANS,hANS⟩:∃X,(!decide Ns.Nodup)=X:=⟨_,rfl⟩
 have HANS:=Aa hANS;rw[hANS];have hbw:Below w.heap.size w (w.alloc (.cells #[.slice p n c] 32)):=Dl;have hcw:(w.alloc (.cells #[.slice p n c] 32)).cell? ⟨w.heap.size,0,none⟩=some (.slice p n c):=by
  simp[go_sem]
 have HSF:=Aa (Pq (hr.below hbw) ht hbw hcw (by simp) hn1 hn2 he);have HN:Ab (Ns.length=n):=⟨h.len.symm⟩
 clear h ht hr hANS hbw hcw;go_enter Tryz.func147,Tryz.ntmps147
 go_wp2_with fail
 refine(Vv w p n c).mono ?_;rintro en w1 ⟨rfl,rfl⟩
 go_wp2_with fail
 refine HSF.out.mono ?_;rintro en w2 ⟨g,cap,rest,us2,Ms,rfl,hnc,hso,hsr⟩;have HS2:=Aa hso;have HSR:=Aa hsr;have HML:Ab (Ms.length=n):=⟨hso.perm.length_eq.trans HN.out⟩
 clear hso hsr HSF;have hwn:IntKind.i64.wrap ((n:Int)-1)=((n-1:Nat):Int):=by rw[IntKind.wrap_i64];omega
 go_wp2
 go_loopw [4,11] (fun _ iv wr=>∃k:Nat,k+1<=n/\iv=.int .i64 k/\Ab (Jk w e g rest Ns us2 Ms wr)/\Ab (∀i a b,i<k->Ms[i]? = some a->Ms[i+1]? = some b->a≠b)) (fun _ iv _=>n-(intOf iv).toNat)
 case atStart=>exact⟨0,by omega,rfl,HS2,⟨fun i a b h=>by omega⟩⟩
 case round=>
  obtain⟨k,hk,rfl,HSO,HD⟩:=hrel
  by_cases hkn:k+1<n
  .have hkn':(k:Int)<(n:Int)-1:=by omega
   have hlen:us2.length=n:=HSO.out.len.trans HN.out;obtain⟨xa,hxa⟩:∃x,us2[k]? = some x:=⟨_,List.getElem?_eq_getElem (by omega)⟩
   obtain⟨xb,hxb⟩:∃x,us2[k+1]? = some x:=⟨_,List.getElem?_eq_getElem (by omega)⟩
   obtain⟨A,hA,ha2,ha3⟩:=HSO.out.trip.get hxa;obtain⟨B,hB,hb2,hb3⟩:=HSO.out.trip.get hxb;have HXA:=Aa hxa;have HXB:=Aa hxb;have HA:=Aa hA;have HB:=Aa hB;have HFA:Ab (Fit e A (.agg #[.slice xa.1 xa.2.1 xa.2.2]) wr):=⟨(Fit.of ha2 ha3).below HSO.out.bel⟩
   have HFB:Ab (Fit e B (.agg #[.slice xb.1 xb.2.1 xb.2.2]) wr):=⟨(Fit.of hb2 hb3).below HSO.out.bel⟩
   obtain⟨K,hKe⟩:∃K,By A B=K:=⟨_,rfl⟩
   have HK:=Aa hKe;have HKN:Ab (K=0 ↔ A=B):=⟨by rw[<-hKe];exact Cr⟩
   have hn1':¬(n:Int)<=(k:Int)+1:=by omega
   have hn1:=hn1';have hj9:(0:Int)<=(k:Int)+1:=by omega
   have htn:((k:Int)+1).toNat=k+1:=by omega
   have hwk:IntKind.i64.wrap ((k:Int)+1)=(k:Int)+1:=by rw[IntKind.wrap_i64];omega
   have hn2:¬n<=k:=by omega
   clear hxa hxb hA hB ha2 ha3 hb2 hb3 hKe hlen hn1'
   by_cases hK:K=0
   .have HAN:Ab (ANS=true):=⟨by
     rw[<-HANS.out];have e1:=HKN.out.1 hK;have e2:=HA.out;rw[e1]at e2
     have:¬Ns.Nodup:=fun h=>oV e2 HB.out (HSO.out.perm.nodup_iff.2 h)
     rw[decide_eq_false this];rfl⟩
    go_wp2;refine Aj (by kernel_rfl) (by kernel_rfl)
     [some (.slice (some ⟨g,0,none⟩) n cap),some (.int .i64 (k:Nat)),some (.pointer (some ⟨g,k,none⟩)),some (.agg #[.slice xa.1 xa.2.1 xa.2.2]),some (.slice (some ⟨g,0,none⟩) n cap),some (.int .i64 (k:Nat)),some (.int .i64 ((k:Int)+1)),some (.pointer (some ⟨g,k+1,none⟩)),some (.agg #[.slice xb.1 xb.2.1 xb.2.2]),none,some (.bool true)]
     [false,false,false,false,false,false,false,false,false,true,false] rfl
     (fun w1 w2=>Below w1.heap.size w1 w2)
     (fun _ w'=>Below wr.heap.size wr w')
     (fun i v w'=>match i with
      | 9=>v=.int .i64 K
      | _=>True)
     ?_ (Br _ _).drew ?_ ?_
    .intro i v w1 w2 hf hb;split at hf
     .exact hf
     .trivial
    .simp only[Bu,Nat.reduceAdd];refine⟨?_,?_,?_,?_,?_,?_,?_,?_,?_,?_,?_,trivial⟩
     all_goals intro D sp w' hD hW hdp hbx'
     case refine_3=>
      (with_reducible refine Ah (w1:=w') (v:=.pointer (some ⟨g,k,none⟩)) ?_ ?_ ?_)
      .simp[Region.wanted,yielded,Act.put,go_sem]
      .simp[execOp,Act.eval,Act.put,go_sem,hn2]
      .exact⟨rfl,rfl⟩
     case refine_4=>
      have c0:=(HSO.out.row.below hbx' HSO.out.row.lt).cell HXA.out
      with_reducible refine Ad ?_ ?_
      all_goals simp[Region.wanted,yielded,execOp,Act.eval,Act.put,go_sem,c0]
     case refine_7=>
      (with_reducible refine Ah (w1:=w') (v:=.int .i64 ((k:Int)+1)) ?_ ?_ ?_)
      .simp[Region.wanted,yielded,Act.put,go_sem]
      .simp[execOp,Act.eval,Act.put,go_sem,hwk]
      .exact⟨rfl,rfl⟩
     case refine_8=>
      (with_reducible refine Ah (w1:=w') (v:=.pointer (some ⟨g,k+1,none⟩)) ?_ ?_ ?_)
      .simp[Region.wanted,yielded,Act.put,go_sem]
      .simp[execOp,Act.eval,Act.put,go_sem,hn1,hj9,htn]
      .exact⟨rfl,rfl⟩
     case refine_9=>
      have c0:=(HSO.out.row.below hbx' HSO.out.row.lt).cell HXB.out
      with_reducible refine Ad ?_ ?_
      all_goals simp[Region.wanted,yielded,execOp,Act.eval,Act.put,go_sem,c0]
     case refine_10=>
      (with_reducible refine Ac (w1:=w') (f := 34) (args:=#[.agg #[.slice xa.1 xa.2.1 xa.2.2],.agg #[.slice xb.1 xb.2.1 xb.2.2]]) ?_ ?_ ?_)
      .simp[Region.wanted,yielded,Act.put,go_sem]
      .simp[Act.eval,Act.put,go_sem]
      .refine(Im (HFA.out.below hbx') (HFB.out.below hbx') he he).mono ?_;rintro en w9 ⟨_,rfl,rfl,hb⟩;rw[HK.out];exact⟨_,rfl,hb,rfl,Ae hbx' hb⟩
     case refine_11=>
      have k9:(sp 9)=.int .i64 K:=(hdp 9 (mq (by kernel_rfl))).2
      with_reducible refine Ad ?_ ?_
      all_goals simp[Region.wanted,yielded,execOp,Act.eval,Act.put,go_sem,k9,hK]
     all_goals ((with_reducible refine Ad ?_ ?_);all_goals first|(simp only[Region.wanted];done)|simp[Region.wanted,yielded,execOp,Act.eval,Act.put,go_sem])
    .intro sp w7 hsp hbx';have HS7:=Aa (HSO.out.later hbx');clear hsp hbx';simp only[An,Nat.reduceAdd];generalize sp 9=y9 at *
     go_simp
     go_wp2;go_ret;exact⟨by rw[HAN.out];rfl,HS7.out.bel⟩
   .have HD':Ab (∀i a b,i<k+1->Ms[i]? = some a->Ms[i+1]? = some b->a≠b):=⟨fun i a b hi h1 h2=>by
     rcases(by omega:i<k ∨ i=k) with h|rfl
     .exact HD.out i a b h h1 h2
     .have e1:=HA.out;have e2:=HB.out;rw[h1]at e1;cases e1
      rw[h2]at e2;cases e2
      exact fun e=>hK (HKN.out.2 e)⟩
    go_wp2;refine Aj (by kernel_rfl) (by kernel_rfl)
     [some (.slice (some ⟨g,0,none⟩) n cap),some (.int .i64 (k:Nat)),some (.pointer (some ⟨g,k,none⟩)),some (.agg #[.slice xa.1 xa.2.1 xa.2.2]),some (.slice (some ⟨g,0,none⟩) n cap),some (.int .i64 (k:Nat)),some (.int .i64 ((k:Int)+1)),some (.pointer (some ⟨g,k+1,none⟩)),some (.agg #[.slice xb.1 xb.2.1 xb.2.2]),none,some (.bool false)]
     [false,false,false,false,false,false,false,false,false,true,false] rfl
     (fun w1 w2=>Below w1.heap.size w1 w2)
     (fun _ w'=>Below wr.heap.size wr w')
     (fun i v w'=>match i with
      | 9=>v=.int .i64 K
      | _=>True)
     ?_ (Br _ _).drew ?_ ?_
    .intro i v w1 w2 hf hb;split at hf
     .exact hf
     .trivial
    .simp only[Bu,Nat.reduceAdd];refine⟨?_,?_,?_,?_,?_,?_,?_,?_,?_,?_,?_,trivial⟩
     all_goals intro D sp w' hD hW hdp hbx'
     case refine_3=>
      (with_reducible refine Ah (w1:=w') (v:=.pointer (some ⟨g,k,none⟩)) ?_ ?_ ?_)
      .simp[Region.wanted,yielded,Act.put,go_sem]
      .simp[execOp,Act.eval,Act.put,go_sem,hn2]
      .exact⟨rfl,rfl⟩
     case refine_4=>
      have c0:=(HSO.out.row.below hbx' HSO.out.row.lt).cell HXA.out
      with_reducible refine Ad ?_ ?_
      all_goals simp[Region.wanted,yielded,execOp,Act.eval,Act.put,go_sem,c0]
     case refine_7=>
      (with_reducible refine Ah (w1:=w') (v:=.int .i64 ((k:Int)+1)) ?_ ?_ ?_)
      .simp[Region.wanted,yielded,Act.put,go_sem]
      .simp[execOp,Act.eval,Act.put,go_sem,hwk]
      .exact⟨rfl,rfl⟩
     case refine_8=>
      (with_reducible refine Ah (w1:=w') (v:=.pointer (some ⟨g,k+1,none⟩)) ?_ ?_ ?_)
      .simp[Region.wanted,yielded,Act.put,go_sem]
      .simp[execOp,Act.eval,Act.put,go_sem,hn1,hj9,htn]
      .exact⟨rfl,rfl⟩
     case refine_9=>
      have c0:=(HSO.out.row.below hbx' HSO.out.row.lt).cell HXB.out
      with_reducible refine Ad ?_ ?_
      all_goals simp[Region.wanted,yielded,execOp,Act.eval,Act.put,go_sem,c0]
     case refine_10=>
      (with_reducible refine Ac (w1:=w') (f := 34) (args:=#[.agg #[.slice xa.1 xa.2.1 xa.2.2],.agg #[.slice xb.1 xb.2.1 xb.2.2]]) ?_ ?_ ?_)
      .simp[Region.wanted,yielded,Act.put,go_sem]
      .simp[Act.eval,Act.put,go_sem]
      .refine(Im (HFA.out.below hbx') (HFB.out.below hbx') he he).mono ?_;rintro en w9 ⟨_,rfl,rfl,hb⟩;rw[HK.out];exact⟨_,rfl,hb,rfl,Ae hbx' hb⟩
     case refine_11=>
      have k9:(sp 9)=.int .i64 K:=(hdp 9 (mq (by kernel_rfl))).2
      with_reducible refine Ad ?_ ?_
      all_goals simp[Region.wanted,yielded,execOp,Act.eval,Act.put,go_sem,k9,hK]
     all_goals ((with_reducible refine Ad ?_ ?_);all_goals first|(simp only[Region.wanted];done)|simp[Region.wanted,yielded,execOp,Act.eval,Act.put,go_sem])
    .intro sp w7 hsp hbx';have HS7:=Aa (HSO.out.later hbx');clear hsp hbx';simp only[An,Nat.reduceAdd];generalize sp 9=y9 at *
     go_simp
     go_wp2;go_roundw
     case rel=>exact⟨k+1,by omega,by go_num,HS7,HD'⟩
     case measure=>simp[intOf];omega
  .have hkn':¬(k:Int)<(n:Int)-1:=by omega
   have HAN:Ab (ANS=false):=⟨by
    rw[<-HANS.out];have h1:Ms.Nodup:=kH (iZ.pairwise (by rw[HML.out];exact HSR.out)) fun i a b h1 h2=>HD.out i a b (by have:=(List.getElem?_eq_some_iff.1 h2).1;rw[HML.out]at this;omega) h1 h2
    rw[decide_eq_true (HSO.out.perm.nodup_iff.1 h1)];rfl⟩
   go_wp2;go_ret;exact⟨by rw[HAN.out];rfl,HSO.out.bel⟩
theorem Jj {w:World}{e r q n c:Nat}{p:Option Addr}{Bs:List Nat}(hR:Ring w r q 33)(h:Aw w e p n c Bs)(he:e<=200)(hn:n<=1000) :
  Calls Tryz.prog 91 #[.slice p n c,.func (.func 32) #[.pointer (some ⟨r,0,none⟩)] #[]] w fun en w'=>en=.returned (.slice (some ⟨w.heap.size,0,none⟩) n n)/\Aw w' 33 (some ⟨w.heap.size,0,none⟩) n n (Bs.map fun x=>x%q)/\Below w.heap.size w w':=by
 have HLN:=Aa h.len;have HP:=Aa h;have HR:=Aa hR;have hmk:=fun w=>Oq n (by omega) w
 obtain⟨w0,hw0⟩:∃w0,w.alloc (.cells (madeCells #[.slice none 0 0] n) 36)=w0:=⟨_,rfl⟩
 have hb0:Below w.heap.size w w0:=by rw[<-hw0];exact(Br _ _).alloc (Av _) _
 have HS0:Ab (Du w0 w.heap.size (List.replicate n (none,0,0))):=⟨by rw[<-hw0];exact Du.made w n⟩
 have HB0:=Aa hb0;clear hR h hb0;go_enter Tryz.func91,Tryz.ntmps91;go_wp2
 go_loopw [6,7,13] (fun _ _ iv wr=>∃(k:Nat) (us:List (Option Addr×Nat×Nat)),k<=n/\iv=.int .i64 k/\us.length=n/\Ab (Du wr w.heap.size us)/\Ab (Ob wr 33 us (Bs.map fun x=>x%q) k)/\Ab (Below w.heap.size w wr)) (fun _ _ iv _=>n-(intOf iv).toNat)
 case atStart=>exact⟨0,List.replicate n (none,0,0),by omega,rfl,by simp,HS0,⟨fun j N hj=>by omega⟩,HB0⟩
 case round=>
  obtain⟨k,us,hk,rfl,hus,HSr,HVr,HBr⟩:=hrel
  by_cases hkn:k<n
  .obtain⟨X,hXk⟩:∃X,Bs[k]? = some X:=⟨Bs[k]'(by rw[<-HLN.out];exact hkn),List.getElem?_eq_getElem _⟩
   obtain⟨b2,off,rfl,hb,hc⟩:=(HP.out.below HBr.out).at_ (by omega)
   obtain⟨q1,m,d,hx,hnx,hlim⟩:=hc k X hXk;have hUK:us[k]? = some (us[k]'(by omega)):=List.getElem?_eq_getElem _;have hbw:Below wr.heap.size wr (wr.alloc (.cells #[.slice q1 m d] 36)):=Dl;have hbx:=Af.made wr (.slice q1 m d);obtain⟨wb,hwb⟩:∃wb,wr.alloc (.cells #[.slice q1 m d] 36)=wb:=⟨_,rfl⟩
   rw[hwb]at hbw hbx
   have cb:=hbx.cell;have HXb:=Aa ((Fit.of hnx hlim).below hbw);have HBb:=Aa (Ae HBr.out hbw);have HRb:=Aa (HR.out.below HBb.out);have HSb:=Aa (HSr.out.below hbw HSr.out.lt);have HVb:=Aa (HVr.out.keep (B:=w.heap.size) (Ap.of hbw HBr.out.size));have HNk:Ab ((Bs.map fun x=>x%q)[k]? = some (X%q)):=⟨by rw[List.getElem?_map,hXk];rfl⟩
   have HPl:Ab (X%q<Ao 33):=⟨Nat.lt_trans (Nat.mod_lt _ (by have:=HR.out.two;omega)) HR.out.lim⟩
   have HUK:=Aa hUK;have hkn':(k:Int)<n:=by omega
   have hnk:¬n<=k:=by omega
   clear hc hnx hlim hXk hbw hbx hb hmk hUK
   go_wp2_with fail
   refine(Fg HRb.out HXb.out (by omega)).mono ?_;rintro en w1 ⟨_,rfl,⟨pz,nz,cz,rfl,hn1,_⟩,hb1⟩;have hs1:=HSb.out.below hb1 HSb.out.lt;have c1:=hs1.cell HUK.out;have f1:=hs1.free k;have HS8:=Aa (hs1.set k pz nz cz);have HV8:=Aa (((HVb.out.keep (Ap.of (B:=w.heap.size) hb1 HBb.out.size)).keep (Ap.store_row hs1 (Av _) k (.slice pz nz cz))).step (by omega) HNk.out (hs1.nat hn1 k _) HPl.out);have HB8:Ab (Below w.heap.size w (w1.setCell ⟨w.heap.size,k,none⟩ (.slice pz nz cz))):=⟨(Ae HBb.out hb1).setCell (Av _) _⟩
   have HLEN:Ab ((us.set k (pz,nz,cz)).length=n):=⟨by rw[List.length_set];exact hus⟩
   clear hn1 hb1 hs1 cb;go_wp2;go_roundw
   case rel=>exact⟨k+1,us.set k (pz,nz,cz),by omega,by go_num,HLEN.out,HS8,HV8,HB8⟩
   case measure=>simp[intOf];omega
  .obtain rfl:k=n:=by omega
   have hkn':¬(k:Int)<k:=by omega
   have HPL:=Aa (HVr.out.plist HSr.out (by rw[List.length_map];exact HLN.out.symm) (by omega));clear hmk;go_wp2;go_ret;exact⟨rfl,HPL.out,HBr.out⟩
def Cn (q n values:Nat)(Ns:List Nat):Nat:=if n=0 then 10 else if n≠values then 1 else if (Ns.map fun x=>x%q).Nodup then 0 else 11
theorem Mp {w:World}{e r q n c V:Nat}{p:Option Addr}{Ns:List Nat}(hR:Ring w r q 33)(h:Aw w e p n c Ns)(he:e<=200)(hn:n<=12)(hV:V<=1000000) :
  Calls Tryz.prog 90 #[.pointer (some ⟨r,0,none⟩),.slice p n c,.int .i64 V] w fun en w'=>en=.returned (.int .i64 (Cn q n V Ns:Nat))/\Below w.heap.size w w':=by
 have HR:=Aa hR;have HP:=Aa h;clear hR h;unfold Cn
 by_cases h0:n=0
 .subst h0;rw[if_pos rfl];go_enter Tryz.func90,Tryz.ntmps90;go_wp2;go_ret;exact⟨rfl,Br _ _⟩
 rw[if_neg h0];have h0':((n:Int)==0)=false:=by rw[beq_eq_false_iff_ne];omega
 by_cases h1:n=V
 .subst h1;have h1':((n:Int)!=n)=false:=by simp
  have h2:¬(n≠n):=fun h=>h rfl
  rw[if_neg h2];have HH:Ab (1<=n):=⟨by omega⟩
  clear h0 h2 hV;obtain⟨D,hD⟩:∃D,decide (Ns.map fun x=>x%q).Nodup=D:=⟨_,rfl⟩
  have HD:=Aa hD;have HE:Ab ((if (Ns.map fun x=>x%q).Nodup then 0 else 11)=if D then 0 else 11):=⟨by
   rw[<-hD]
   by_cases hd:(Ns.map fun x=>x%q).Nodup
   .rw[if_pos hd,decide_eq_true hd];rfl
   .rw[if_neg hd,decide_eq_false hd];rfl⟩
  rw[HE.out];clear hD HE;go_enter Tryz.func90,Tryz.ntmps90
  go_wp2_with fail
  refine(Jj HR.out HP.out he (by omega)).mono ?_;rintro en w1 ⟨rfl,hp1,hb1⟩;have HP1:=Aa hp1;have HB1:=Aa hb1;clear hp1 hb1
  go_wp2_with fail
  refine(fC HP1.out HH.out hn (by omega)).mono ?_;rintro en w2 ⟨rfl,hb2⟩;have HB2:=Aa (Ae HB1.out hb2);rw[HD.out];clear hb2 HD
  cases D with
  | true=>
   go_wp2;go_ret;exact⟨rfl,HB2.out⟩
  | false=>
   go_wp2;go_ret;exact⟨rfl,HB2.out⟩
 .rw[if_pos h1];have h1':((n:Int)!=V)=true:=by rw[bne_iff_ne];omega
  clear h1;go_enter Tryz.func90,Tryz.ntmps90;go_wp2;go_ret;exact⟨rfl,Br _ _⟩
def bD (q A B:Nat)(w:World)(en:Ending)(w':World):Prop :=
 ∃(x:Value) (I:Nat),en=.returned (.tuple #[x,.int .i64 (if Nat.gcd q B=1 then 0 else 6)])/\Ia q B I/\Fit 33 (A*I%q) x w'/\Below w.heap.size w w'
theorem eH {w:World}{r q e1 e2 A B:Nat}{u v:Value}(hR:Ring w r q 33)(hu:Fit e1 A u w)(hv:Fit e2 B v w)(h1:e1<=200)(h2:e2<=200) :
  Calls Tryz.prog 92 #[.pointer (some ⟨r,0,none⟩),u,v] w (bD q A B w):=by
 obtain⟨pa,na,ca,rfl,a1,a2⟩:=Au hu;obtain⟨pb,nb,cb,rfl,b1,b2⟩:=Au hv;have hbx:=aZ.mk3 w (.slice pa na ca) (.slice pb nb cb) (.slice none 0 0);have HR:=Aa (hR.below hbx.bel);have HA:=Aa ((Fit.of a1 a2).below hbx.bel);have HB:=Aa ((Fit.of b1 b2).below hbx.bel);have HX:=Aa hbx;have c1:=hbx.b1.cell;clear hR hu hv a1 b1 hbx;go_enter Tryz.func92,Tryz.ntmps92
 go_wp2_with fail
 refine(oH HR.out HB.out (by omega)).mono ?_;rintro en w1 ⟨x,I,rfl,⟨pi,ni,ci,rfl,i1,i2⟩,hI,hb1⟩;have hb2:Below w1.heap.size w1 (w1.alloc (.cells #[.slice pi ni ci] 36)):=Dl;have hbi:=Af.made w1 (.slice pi ni ci);obtain⟨w2,hw2⟩:∃w2,w1.alloc (.cells #[.slice pi ni ci] 36)=w2:=⟨_,rfl⟩
 rw[hw2]at hb2 hbi
 have hb12:=Ae hb1 hb2;have HX2:=Aa (HX.out.later hb12);have HI2:=Aa (Fit.of (i1.below hb2) i2);have HA2:=Aa (HA.out.below hb12);have HR2:=Aa (HR.out.below hb12);have HIN:=Aa hI;have cc:=hbi.cell;have ca':=HX2.out.b0.cell;obtain⟨E,hE⟩:∃E:Int,(if Nat.gcd q B=1 then 0 else 6)=E:=⟨_,rfl⟩
 have HE:=Aa hE;simp only[hE];clear hb2 hbi hb12 i1 hI hb1 hE c1 HX HA HB HR
 go_wp2_with fail
 refine(Ds HR2.out HA2.out HI2.out (by omega) (by omega)).mono ?_;rintro en w3 ⟨_,rfl,⟨pm,nm,cm,rfl,m1,m2⟩,hb3⟩;have hx3:=HX2.out.later hb3;have k2:=hx3.b2.cell;have f2:=hx3.b2.free;have z2:=hx3.b2.lt;have HF:=Aa (Fit.of (m1.store hx3.b2 (.slice pm nm cm)) m2);have HBF:Ab (Below w.heap.size w (w3.setCell ⟨w.heap.size+1+1,0,none⟩ (.slice pm nm cm))):=⟨hx3.bel.setCell (by simp;omega) _⟩
 clear m1 hx3 hb3 cc ca';go_wp2;exact bodyPost_ret (v:=.tuple #[.agg #[.slice pm nm cm],.int .i64 E]) (by simp[results,Tryz.results92,go_sem,k2]) rfl ⟨_,I,by rw[HE.out],HIN.out,HF.out,HBF.out⟩
theorem He.below {w w':World}{b N:Nat}(h:He w b N)(hb:Below w.heap.size w w'):He w' b N :=
 let ⟨p,n,c,h1,h2⟩:=h
 ⟨p,n,c,h1.below hb h1.lt,h2.below hb⟩
structure dN (w:World) (b10 b11:Nat) (u:Value) (A B:Nat) (wr:World):Prop where
 b7:Af wr w.heap.size u
 b8:Af wr (w.heap.size+1) (.slice none 0 0)
 a:He wr b10 A
 b:He wr b11 B
 bel:Below w.heap.size w wr
theorem dN.later {w wr wz:World}{b10 b11 A B:Nat}{u:Value}(h:dN w b10 b11 u A B wr)(hb:Below wr.heap.size wr wz):dN w b10 b11 u A B wz :=
 ⟨h.b7.below hb h.b7.lt,h.b8.below hb h.b8.lt,h.a.below hb,h.b.below hb,Ae h.bel hb⟩
theorem bK {w:World}{r q e n c i X XI:Nat}{p:Option Addr}{Bs:List Nat}{v:Value}(hq:Ch q)(hR:Ring w r q 33)(h:Aw w e p n c Bs)(hX:Fit e X v w)(he:e<=200)(hn:n<=1000)(hi:Bs[i]? = some XI) :
  Calls Tryz.prog 146 #[.pointer (some ⟨r,0,none⟩),.slice p n c,.int .i64 i,v] w (bD q (Dd q X 1 (Bs.take i++Bs.drop (i+1))) (Dd q XI 1 (Bs.take i++Bs.drop (i+1))) w):=by
 have HLN:=Aa h.len;obtain⟨px,nx,cx,rfl,x1,x2⟩:=Au hX;obtain⟨x,hx⟩:∃x:Option Addr×Nat×Nat,(px,nx,cx)=x:=⟨_,rfl⟩
 obtain rfl:px=x.1:=by rw[<-hx]
 obtain rfl:nx=x.2.1:=by rw[<-hx]
 obtain rfl:cx=x.2.2:=by rw[<-hx]
 clear hx;have HF0:=Aa (Fit.of x1 x2);have HP:=Aa h;have HR:=Aa hR;have hin:i<n:=by rw[HLN.out];exact(List.getElem?_eq_some_iff.1 hi).1
 have HIN:=Aa hin;obtain⟨bx,off,rfl,hbx,hcx⟩:=h.at_ (by omega)
 obtain⟨qi,mi,di,hci,hni,hli⟩:=hcx i XI hi;obtain⟨xi,hxi⟩:∃x:Option Addr×Nat×Nat,(qi,mi,di)=x:=⟨_,rfl⟩
 obtain rfl:qi=xi.1:=by rw[<-hxi]
 obtain rfl:mi=xi.2.1:=by rw[<-hxi]
 obtain rfl:di=xi.2.2:=by rw[<-hxi]
 clear hxi;have HBX:=Aa hbx;have HCX:=Aa hcx;have HCI0:=Aa hci;have HFI0:=Aa (Fit.of hni hli);have HRL:=Aa hR.at_.lt
 have HQ2:=Aa hq.two;have hb2:=dU.mk2 w (.slice x.1 x.2.1 x.2.2) (.slice none 0 0);obtain⟨w1,hw1⟩:∃w1,(w.alloc (.cells #[.slice x.1 x.2.1 x.2.2] 36)).alloc (.cells #[.slice none 0 0] 36)=w1:=⟨_,rfl⟩
 rw[hw1]at hb2
 have HB2:=Aa hb2;clear h hX hR x1 hni hci hcx hbx hb2 hi;go_enter Tryz.func146,Tryz.ntmps146
 go_wp2_with fail
 refine(Ek w1).mono ?_;rintro en w2 ⟨_,rfl,⟨p1,n1,c1,rfl,hn1,_⟩,hw2⟩;have HN1:=Aa hn1;have HW2:=Aa hw2;clear hn1 hw2
 go_wp2_with fail
 refine(Ek w2).mono ?_;rintro en w3 ⟨_,rfl,⟨p2,n2,c2,rfl,hn2,_⟩,hw3⟩;obtain⟨b10,hb10⟩:∃b,w3.heap.size=b:=⟨_,rfl⟩
 obtain⟨b11,hb11⟩:∃b,b10+1=b:=⟨_,rfl⟩
 have hz4:(w3.alloc (.cells #[.slice p1 n1 c1] 36)).heap.size=b10+1:=by rw[<-hb10];simp
 have hm:=dU.mk2 w3 (.slice p1 n1 c1) (.slice p2 n2 c2);obtain⟨w4,hw4⟩:∃w4,(w3.alloc (.cells #[.slice p1 n1 c1] 36)).alloc (.cells #[.slice p2 n2 c2] 36)=w4:=⟨_,rfl⟩
 rw[hw4]at hm
 have hmb0:=hm.b0;have hmb1:=hm.b1;rw[hb10]at hmb0 hmb1
 have hb34:=hm.bel;have hX4:=HB2.out.later (Ae (Ae HW2.out hw3) hb34);have HST:Ab (dN w b10 b11 (.slice x.1 x.2.1 x.2.2) (Dd q X 1 (others Bs i 0)) (Dd q XI 1 (others Bs i 0)) w4):=⟨⟨hX4.b0,hX4.b1,⟨p1,n1,c1,hmb0,by rw[Qo];exact(HN1.out.below (Ae hw3 hb34))⟩,⟨p2,n2,c2,by rw[<-hb11];exact hmb1,by rw[Qo];exact hn2.below hb34⟩,hX4.bel⟩⟩
 have HLO:Ab (w.heap.size+1<b10/\b11=b10+1):=⟨by
  rw[<-hb10];exact Eh HB2.out.b1.lt (Dm HW2.out.size hw3.size),hb11.symm⟩
 clear hm hmb0 hmb1 hb34 hX4 hn2 hw3 HN1 HW2 HB2 hw1;have HB11:=Aa hb11;clear hb11;go_wp2;rw[HB11.out];clear hz4 hw4 hb10 HB11
 go_loopw [12,13,18] (fun _ _ iv wr=>∃k:Nat,k<=n/\iv=.int .i64 k/\Ab (dN w b10 b11 (.slice x.1 x.2.1 x.2.2) (Dd q X 1 (others Bs i k)) (Dd q XI 1 (others Bs i k)) wr)) (fun _ _ iv _=>n-(intOf iv).toNat)
 case atStart=>exact⟨0,by omega,rfl,HST⟩
 case round=>
  obtain⟨k,hk,rfl,HS⟩:=hrel
  by_cases hkn:k<n
  .obtain⟨O,hOk⟩:∃O,Bs[k]? = some O:=⟨Bs[k]'(by rw[<-HLN.out];exact hkn),List.getElem?_eq_getElem _⟩
   obtain⟨qo,mo,do9,ho1,ho2,ho3⟩:=HCX.out k O hOk;obtain⟨o,ho⟩:∃x:Option Addr×Nat×Nat,(qo,mo,do9)=x:=⟨_,rfl⟩
   obtain rfl:qo=o.1:=by rw[<-ho]
   obtain rfl:mo=o.2.1:=by rw[<-ho]
   obtain rfl:do9=o.2.2:=by rw[<-ho]
   clear ho;have hcell:wr.cell? ⟨bx,off+k,none⟩=some (.slice o.1 o.2.1 o.2.2):=(HS.out.bel.cell (p:=⟨bx,off+k,none⟩) HBX.out).trans ho1;have hbw:Below wr.heap.size wr (wr.alloc (.cells #[.slice o.1 o.2.1 o.2.2] 36)):=Dl;have hbo:=Af.made wr (.slice o.1 o.2.1 o.2.2);obtain⟨wb,hwb⟩:∃wb,wr.alloc (.cells #[.slice o.1 o.2.1 o.2.2] 36)=wb:=⟨_,rfl⟩
   rw[hwb]at hbw hbo
   have HSb:=Aa (HS.out.later hbw);have HBO:=Aa hbo;have hkn':(k:Int)<n:=by omega
   by_cases hki:k=i
   .subst hki;have hne:((k:Int)!=k)=false:=by simp
    have HSN:Ab (dN w b10 b11 (.slice x.1 x.2.1 x.2.2) (Dd q X 1 (others Bs k (k+1))) (Dd q XI 1 (others Bs k (k+1))) wb):=⟨by rw[Yw];exact HSb.out⟩
    clear ho1 ho2 hbw hbo;go_wp2;go_roundw
    case rel=>exact⟨k+1,by omega,by go_num,HSN⟩
    case measure=>simp[intOf];omega
   .have hne:((k:Int)!=i)=true:=by rw[bne_iff_ne];omega
    have HSNO:Ab (others Bs i (k+1)=others Bs i k++[O]):=⟨Yv hOk hki⟩
    obtain⟨pa,na,ca,hab,han⟩:=HSb.out.a;obtain⟨pb,nb,cb,hbb,hbn⟩:=HSb.out.b;obtain⟨AA,hAA⟩:∃A,Dd q X 1 (others Bs i k)=A:=⟨_,rfl⟩
    obtain⟨BB,hBB⟩:∃A,Dd q XI 1 (others Bs i k)=A:=⟨_,rfl⟩
    rw[hAA]at han
    rw[hBB]at hbn
    obtain⟨ZA,hZA⟩:∃Z,AA*Cb X O q%q=Z:=⟨_,rfl⟩
    obtain⟨ZB,hZB⟩:∃Z,BB*Cb XI O q%q=Z:=⟨_,rfl⟩
    have HZA:=Aa hZA;have HZB:=Aa hZB;have hq2:=HQ2.out;have HEA:Ab (Dd q X 1 (others Bs i (k+1))=ZA):=⟨by rw[HSNO.out,Nx,hAA,hZA]⟩
    have HEB:Ab (Dd q XI 1 (others Bs i (k+1))=ZB):=⟨by rw[HSNO.out,Nx,hBB,hZB]⟩
    have hlq:q<Ao 33:=HR.out.lim;have hlA:AA<Ao 33:=by rw[<-hAA];exact Nat.lt_trans (Ls hq2 _ _ (by omega)) hlq
    have hlB:BB<Ao 33:=by rw[<-hBB];exact Nat.lt_trans (Ls hq2 _ _ (by omega)) hlq
    have HFA:=Aa (Fit.of han hlA);have HFB0:=Aa (Fit.of hbn hlB);have HRo:=Aa (HR.out.below HSb.out.bel);have HFX:=Aa (HF0.out.below HSb.out.bel);have HFO:=Aa ((Fit.of ho2 ho3).below HSb.out.bel);have HAB:=Aa hab;have HBBx:=Aa hbb;have HWB:Ab (b11<wr.heap.size):=⟨by obtain⟨_,_,_,h1,_⟩:=HS.out.b;exact h1.lt⟩
    have HNE6:Ab (∀y∈([(w.heap.size,.cells #[.slice x.1 x.2.1 x.2.2] 36 (0,0)),(wr.heap.size,.cells #[.slice o.1 o.2.1 o.2.2] 36 (0,0)),(b11,.cells #[.slice pb nb cb] 36 (0,0)),(w.heap.size+1,.cells #[.slice none 0 0] 36 (0,0))]:List (Nat×Obj)),y.1≠b10):=⟨by
     have h1:=HLO.out;have h2:=HWB.out;intro y hy;simp only[List.mem_cons,List.not_mem_nil,or_false]at hy;rcases hy with rfl|rfl|rfl|rfl<;>simp only<;>omega⟩
    have HL6:Ab (∀y∈([(w.heap.size,.cells #[.slice x.1 x.2.1 x.2.2] 36 (0,0)),(wr.heap.size,.cells #[.slice o.1 o.2.1 o.2.2] 36 (0,0)),(b11,.cells #[.slice pb nb cb] 36 (0,0)),(w.heap.size+1,.cells #[.slice none 0 0] 36 (0,0))]:List (Nat×Obj)),wb.heap[y.1]? = some y.2):=⟨by
     intro y hy;simp only[List.mem_cons,List.not_mem_nil,or_false]at hy;rcases hy with rfl|rfl|rfl|rfl
     .exact HSb.out.b7
     .exact HBO.out
     .exact HBBx.out
     .exact HSb.out.b8⟩
    have HLE:Ab (w.heap.size<=b10):=⟨by have:=HLO.out;omega⟩
    have HLEb:Ab (w.heap.size<=b11):=⟨by have:=HLO.out;omega⟩
    clear ho1 ho2 hbw hbo hab han hbb hbn hAA hBB hZA hZB hlA hlB hlq hq2 hOk hki;go_wp2;refine Am (by kernel_rfl) (by kernel_rfl)
     [some (.pointer (some ⟨r,0,none⟩)),some (.agg #[.slice pa na ca]),some (.pointer (some ⟨r,0,none⟩)),some (.agg #[.slice x.1 x.2.1 x.2.2]),some (.agg #[.slice o.1 o.2.1 o.2.2]),none,none,none]
     [false,false,false,false,false,true,true,true] rfl
     (fun wA wB=>Ap (w.heap.size) wA wB)
     (fun D sp w'=>RG (w.heap.size) wb [(w.heap.size,.cells #[.slice x.1 x.2.1 x.2.2] 36 (0,0)),(wr.heap.size,.cells #[.slice o.1 o.2.1 o.2.2] 36 (0,0)),(b11,.cells #[.slice pb nb cb] 36 (0,0)),(w.heap.size+1,.cells #[.slice none 0 0] 36 (0,0))] w'/\mR (D 7) (b10) pa na ca (ZA) w')
     (fun i v w'=>match i with
      | 5=>Fit 33 (Cb X O q) v w'
      | 6=>Fit 33 ZA v w'
      | _=>True)
     ?_ ⟨RG.start HSb.out.bel.size HL6.out,⟨fun _=>HAB.out,fun e=>by cases e⟩⟩ ?_ ?_
    .intro i v wA wB hf hb;split at hf
     .exact hf.keep hb
     .exact hf.keep hb
     .trivial
    .simp only[Bw,Nat.reduceAdd];refine⟨?_,?_,?_,?_,?_,?_,?_,?_,trivial⟩
     all_goals intro D sp w' hD hW hdp hg
     case refine_2=>
      have c0:=(hg.2.z (hW 7 (mq (by kernel_rfl)))).cell
      with_reducible refine Ad ?_ ?_
      all_goals simp[Region.wanted,yielded,execOp,Act.eval,Act.put,go_sem,c0]
     case refine_4=>
      have c0:w'.cell? ⟨w.heap.size,0,none⟩=some (.slice x.1 x.2.1 x.2.2):=Af.cell (hg.1.of List.mem_cons_self)
      with_reducible refine Ad ?_ ?_
      all_goals simp[Region.wanted,yielded,execOp,Act.eval,Act.put,go_sem,c0]
     case refine_5=>
      have c0:w'.cell? ⟨wr.heap.size,0,none⟩=some (.slice o.1 o.2.1 o.2.2):=Af.cell (hg.1.of (List.mem_cons_of_mem _ List.mem_cons_self))
      with_reducible refine Ad ?_ ?_
      all_goals simp[Region.wanted,yielded,execOp,Act.eval,Act.put,go_sem,c0]
     case refine_6=>
      (with_reducible refine Ac (w1:=w') (f := 58) (args:=#[.pointer (some ⟨r,0,none⟩),.agg #[.slice x.1 x.2.1 x.2.2],.agg #[.slice o.1 o.2.1 o.2.2]]) ?_ ?_ ?_)
      .simp[Region.wanted,yielded,Act.put,go_sem]
      .simp[Act.eval,Act.put,go_sem]
      .refine(Hn (HRo.out.keep HRL.out hg.1.keep) (HFX.out.keep hg.1.keep) (HFO.out.keep hg.1.keep) (by omega) (by omega)).mono ?_;rintro en w9 ⟨u,rfl,hu,hb⟩;exact⟨u,rfl,Ap.of hb hg.1.base,hu,hg.1.later hb,by simpa [upd]using hg.2.later hb⟩
     case refine_7=>
      have k5:Fit 33 (Cb X O q) (sp 5) w':=(hdp 5 (mq (by kernel_rfl))).2
      (with_reducible refine Ac (w1:=w') (f := 48) (args:=#[.pointer (some ⟨r,0,none⟩),.agg #[.slice pa na ca],sp 5]) ?_ ?_ ?_)
      .simp[Region.wanted,yielded,Act.put,go_sem]
      .simp[Act.eval,Act.put,go_sem]
      .refine(Ds (HRo.out.keep HRL.out hg.1.keep) (HFA.out.keep hg.1.keep) k5 (by omega) (by omega)).mono ?_;rintro en w9 ⟨u,rfl,hu,hb⟩;rw[HZA.out]at hu
       exact⟨u,rfl,Ap.of hb hg.1.base,hu,hg.1.later hb,by simpa [upd]using hg.2.later hb⟩
     case refine_8=>
      have hx:∃p n c,sp 6=.agg #[.slice p n c]/\Ai w' p n c (ZA)/\ZA<Ao (33):=(hdp 6 (mq (by kernel_rfl))).2
      (with_reducible refine Bp hx fun p hx1=>Bp hx1 fun n hx2=>Bp hx2 fun c hx3=>?_)
      have h1:=hx3.1;rw[hD]at hg
      have hp:=hg.2.put (hx3.2.1)
      (with_reducible refine Bp hp fun q hy1=>Bp hy1 fun m hy2=>Bp hy2 fun k hy3=>?_)
      have h6:=hy3.1.cell;have h7:=hy3.1.free
      (with_reducible refine Ar (w1:=w'.setCell ⟨b10,0,none⟩ (.slice p n c)) ?_ ?_ ?_)
      .simp[Region.wanted,yielded,Act.put,go_sem]
      .simp[execOp,Act.eval,Act.put,go_sem,h1,h6,h7]
      .refine⟨Ap.store hy3.1 HLE.out _,trivial,hg.1.store hy3.1 HLE.out HNE6.out _,?_⟩;have h8:=hy3.2;simpa [upd]using h8
     all_goals ((with_reducible refine Ad ?_ ?_);all_goals first|(simp only[Region.wanted];done)|simp[Region.wanted,yielded,execOp,Act.eval,Act.put,go_sem])
    .intro sp w9 hsp hg;obtain⟨hg1,hg2⟩:=hg;obtain⟨pa2,na2,ca2,ha2,hna2⟩:=hg2.o rfl;have HA2:=Aa ha2;have HNA2:=Aa hna2;have HK9:=Aa hg1.keep;have g7:=hg1.of List.mem_cons_self;have gO:=hg1.of (List.mem_cons_of_mem _ List.mem_cons_self);have g11:=hg1.of (List.mem_cons_of_mem _ (List.mem_cons_of_mem _ List.mem_cons_self));have g8:=hg1.of (List.mem_cons_of_mem _ (List.mem_cons_of_mem _ (List.mem_cons_of_mem _ List.mem_cons_self)));have HG7:Ab (Af w9 w.heap.size (.slice x.1 x.2.1 x.2.2)):=⟨g7⟩
     have HGO:Ab (Af w9 wr.heap.size (.slice o.1 o.2.1 o.2.2)):=⟨gO⟩
     have HG11:Ab (Af w9 b11 (.slice pb nb cb)):=⟨g11⟩
     have HG8:Ab (Af w9 (w.heap.size+1) (.slice none 0 0)):=⟨g8⟩
     have HB9:Ab (Below w.heap.size w w9):=⟨HSb.out.bel.trans hg1.keep.bel⟩
     have HFI:=Aa (HFI0.out.below HB9.out);have HCI:Ab (w9.cell? ⟨bx,off+i,none⟩=some (.slice xi.1 xi.2.1 xi.2.2)):=⟨(HB9.out.cell (p:=⟨bx,off+i,none⟩) HBX.out).trans HCI0.out⟩
     have HFO7:=Aa (HFO.out.keep hg1.keep);have HFB:=Aa (HFB0.out.keep hg1.keep);have HR7:=Aa (HR.out.below HB9.out);have HNE7:Ab (∀y∈([(wr.heap.size,.cells #[.slice o.1 o.2.1 o.2.2] 36 (0,0)),(w.heap.size,.cells #[.slice x.1 x.2.1 x.2.2] 36 (0,0)),(b10,.cells #[.slice pa2 na2 ca2] 36 (0,0)),(w.heap.size+1,.cells #[.slice none 0 0] 36 (0,0))]:List (Nat×Obj)),y.1≠b11):=⟨by
      have h1:=HLO.out;have h2:=HWB.out;intro y hy;simp only[List.mem_cons,List.not_mem_nil,or_false]at hy;rcases hy with rfl|rfl|rfl|rfl<;>simp only<;>omega⟩
     have HL7:Ab (∀y∈([(wr.heap.size,.cells #[.slice o.1 o.2.1 o.2.2] 36 (0,0)),(w.heap.size,.cells #[.slice x.1 x.2.1 x.2.2] 36 (0,0)),(b10,.cells #[.slice pa2 na2 ca2] 36 (0,0)),(w.heap.size+1,.cells #[.slice none 0 0] 36 (0,0))]:List (Nat×Obj)),w9.heap[y.1]? = some y.2):=⟨by
      intro y hy;simp only[List.mem_cons,List.not_mem_nil,or_false]at hy;rcases hy with rfl|rfl|rfl|rfl
      .exact HGO.out
      .exact HG7.out
      .exact HA2.out
      .exact HG8.out⟩
     clear hsp hg1 hg2 ha2 hna2 g7 gO g11 g8;simp only[An,Nat.reduceAdd];generalize sp 5=y5,sp 6=y6,sp 7=y7 at *
     go_simp
     go_wp2;refine Am (by kernel_rfl) (by kernel_rfl)
      [some (.pointer (some ⟨r,0,none⟩)),some (.agg #[.slice pb nb cb]),some (.pointer (some ⟨r,0,none⟩)),some (.slice (some ⟨bx,off,none⟩) n c),some (.int .i64 (i:Nat)),some (.pointer (some ⟨bx,off+i,none⟩)),some (.agg #[.slice xi.1 xi.2.1 xi.2.2]),some (.agg #[.slice o.1 o.2.1 o.2.2]),none,none,none]
      [false,false,false,false,false,false,false,false,true,true,true] rfl
      (fun wA wB=>Ap (w.heap.size) wA wB)
      (fun D sp w'=>RG (w.heap.size) w9 [(wr.heap.size,.cells #[.slice o.1 o.2.1 o.2.2] 36 (0,0)),(w.heap.size,.cells #[.slice x.1 x.2.1 x.2.2] 36 (0,0)),(b10,.cells #[.slice pa2 na2 ca2] 36 (0,0)),(w.heap.size+1,.cells #[.slice none 0 0] 36 (0,0))] w'/\mR (D 10) (b11) pb nb cb (ZB) w')
      (fun i v w'=>match i with
       | 8=>Fit 33 (Cb XI O q) v w'
       | 9=>Fit 33 ZB v w'
       | _=>True)
      ?_ ⟨RG.start HB9.out.size HL7.out,⟨fun _=>HG11.out,fun e=>by cases e⟩⟩ ?_ ?_
     .intro i v wA wB hf hb;split at hf
      .exact hf.keep hb
      .exact hf.keep hb
      .trivial
     .simp only[Bw,Nat.reduceAdd];refine⟨?_,?_,?_,?_,?_,?_,?_,?_,?_,?_,?_,trivial⟩
      all_goals intro D sp w' hD hW hdp hg
      case refine_2=>
       have c0:=(hg.2.z (hW 10 (mq (by kernel_rfl)))).cell
       with_reducible refine Ad ?_ ?_
       all_goals simp[Region.wanted,yielded,execOp,Act.eval,Act.put,go_sem,c0]
      case refine_6=>
       have hni:¬n<=i:=Nat.not_le.2 HIN.out
       with_reducible refine Ad ?_ ?_
       all_goals simp[Region.wanted,yielded,execOp,Act.eval,Act.put,go_sem,hni]
      case refine_7=>
       have c0:w'.cell? ⟨bx,off+i,none⟩=some (.slice xi.1 xi.2.1 xi.2.2):=(hg.1.keep.bel.cell (p:=⟨bx,off+i,none⟩) HBX.out).trans HCI.out
       with_reducible refine Ad ?_ ?_
       all_goals simp[Region.wanted,yielded,execOp,Act.eval,Act.put,go_sem,c0]
      case refine_8=>
       have c0:w'.cell? ⟨wr.heap.size,0,none⟩=some (.slice o.1 o.2.1 o.2.2):=Af.cell (hg.1.of List.mem_cons_self)
       with_reducible refine Ad ?_ ?_
       all_goals simp[Region.wanted,yielded,execOp,Act.eval,Act.put,go_sem,c0]
      case refine_9=>
       (with_reducible refine Ac (w1:=w') (f := 58) (args:=#[.pointer (some ⟨r,0,none⟩),.agg #[.slice xi.1 xi.2.1 xi.2.2],.agg #[.slice o.1 o.2.1 o.2.2]]) ?_ ?_ ?_)
       .simp[Region.wanted,yielded,Act.put,go_sem]
       .simp[Act.eval,Act.put,go_sem]
       .refine(Hn (HR7.out.keep HRL.out hg.1.keep) (HFI.out.keep hg.1.keep) (HFO7.out.keep hg.1.keep) (by omega) (by omega)).mono ?_;rintro en w9 ⟨u,rfl,hu,hb⟩;exact⟨u,rfl,Ap.of hb hg.1.base,hu,hg.1.later hb,by simpa [upd]using hg.2.later hb⟩
      case refine_10=>
       have k8:Fit 33 (Cb XI O q) (sp 8) w':=(hdp 8 (mq (by kernel_rfl))).2
       (with_reducible refine Ac (w1:=w') (f := 48) (args:=#[.pointer (some ⟨r,0,none⟩),.agg #[.slice pb nb cb],sp 8]) ?_ ?_ ?_)
       .simp[Region.wanted,yielded,Act.put,go_sem]
       .simp[Act.eval,Act.put,go_sem]
       .refine(Ds (HR7.out.keep HRL.out hg.1.keep) (HFB.out.keep hg.1.keep) k8 (by omega) (by omega)).mono ?_;rintro en w9 ⟨u,rfl,hu,hb⟩;rw[HZB.out]at hu
        exact⟨u,rfl,Ap.of hb hg.1.base,hu,hg.1.later hb,by simpa [upd]using hg.2.later hb⟩
      case refine_11=>
       have hx:∃p n c,sp 9=.agg #[.slice p n c]/\Ai w' p n c (ZB)/\ZB<Ao (33):=(hdp 9 (mq (by kernel_rfl))).2
       (with_reducible refine Bp hx fun p hx1=>Bp hx1 fun n hx2=>Bp hx2 fun c hx3=>?_)
       have h1:=hx3.1;rw[hD]at hg
       have hp:=hg.2.put (hx3.2.1)
       (with_reducible refine Bp hp fun q hy1=>Bp hy1 fun m hy2=>Bp hy2 fun k hy3=>?_)
       have h6:=hy3.1.cell;have h7:=hy3.1.free
       (with_reducible refine Ar (w1:=w'.setCell ⟨b11,0,none⟩ (.slice p n c)) ?_ ?_ ?_)
       .simp[Region.wanted,yielded,Act.put,go_sem]
       .simp[execOp,Act.eval,Act.put,go_sem,h1,h6,h7]
       .refine⟨Ap.store hy3.1 HLEb.out _,trivial,hg.1.store hy3.1 HLEb.out HNE7.out _,?_⟩;have h8:=hy3.2;simpa [upd]using h8
      all_goals ((with_reducible refine Ad ?_ ?_);all_goals first|(simp only[Region.wanted];done)|simp[Region.wanted,yielded,execOp,Act.eval,Act.put,go_sem])
     .intro sp wz hsp hg;obtain⟨hg1,hg2⟩:=hg;obtain⟨pb2,nb2,cb2,hb2,hnb2⟩:=hg2.o rfl;have g7:=hg1.of (List.mem_cons_of_mem _ List.mem_cons_self);have g10:=hg1.of (List.mem_cons_of_mem _ (List.mem_cons_of_mem _ List.mem_cons_self));have g8:=hg1.of (List.mem_cons_of_mem _ (List.mem_cons_of_mem _ (List.mem_cons_of_mem _ List.mem_cons_self)));have HSN:Ab (dN w b10 b11 (.slice x.1 x.2.1 x.2.2) (Dd q X 1 (others Bs i (k+1))) (Dd q XI 1 (others Bs i (k+1))) wz):=⟨⟨g7,g8,⟨pa2,na2,ca2,g10,by rw[HEA.out];exact hg1.keep.nat _ _ _ _ HNA2.out⟩,⟨pb2,nb2,cb2,hb2,by rw[HEB.out];exact hnb2⟩,HB9.out.trans hg1.keep.bel⟩⟩
      clear hsp hg1 hg2 hb2 hnb2 g7 g10 g8;simp only[An,Nat.reduceAdd];generalize sp 8=y8,sp 9=y9,sp 10=y10 at *
      go_simp
      go_wp2;go_roundw
      case rel=>exact⟨k+1,by omega,by go_num,HSN⟩
      case measure=>simp[intOf];omega
  .obtain rfl:k=n:=by omega
   have hkn':¬(k:Int)<k:=by omega
   have HALL:Ab (others Bs i k=Bs.take i++Bs.drop (i+1)):=⟨by rw[HLN.out];exact cJ Bs i⟩
   have hs:=HS.out;rw[HALL.out]at hs
   obtain⟨pa,na,ca,hab,han⟩:=hs.a;obtain⟨pb,nb,cb,hbb,hbn⟩:=hs.b;have hq2:=HQ2.out;have hlq:q<Ao 33:=HR.out.lim;have HFA:=Aa (Fit.of han (Nat.lt_trans (Ls hq2 _ _ (by omega)) hlq));have HFB:=Aa (Fit.of hbn (Nat.lt_trans (Ls hq2 _ _ (by omega)) hlq));have HB8:=Aa hs.b8;have HBL:=Aa hs.bel;have HRw:=Aa (HR.out.below hs.bel);have c10:=hab.cell;have c11:=hbb.cell;clear hs hab han hbb hbn hq2 hlq
   go_wp2_with fail
   refine(eH HRw.out HFA.out HFB.out (by decide) (by decide)).mono ?_;rintro en w5 ⟨_,I,rfl,hI,⟨pm,nm,cm,rfl,m1,m2⟩,hb5⟩;have hx5:=HB8.out.below hb5 HB8.out.lt;have k8:=hx5.cell;have f8:=hx5.free;have HIN2:=Aa hI;have HF:=Aa (Fit.of (m1.store hx5 (.slice pm nm cm)) m2);have HBF:Ab (Below w.heap.size w (w5.setCell ⟨w.heap.size+1,0,none⟩ (.slice pm nm cm))):=⟨(Ae HBL.out hb5).setCell (by simp) _⟩
   obtain⟨E,hE⟩:∃E:Int,(if Nat.gcd q (Dd q XI 1 (Bs.take i++Bs.drop (i+1)))=1 then 0 else 6)=E:=⟨_,rfl⟩
   have HE:=Aa hE;simp only[hE];clear m1 hx5 hb5 hI hE c10 c11;go_wp2;exact bodyPost_ret (v:=.tuple #[.agg #[.slice pm nm cm],.int .i64 E]) (by simp[results,Tryz.results146,go_sem,k8]) rfl ⟨_,I,by rw[HE.out],HIN2.out,HF.out,HBF.out⟩
end Go.Proofs.YtnbmfaihlefgfaaGreatDoor
