/- What goes through values at places, by the document (ref10's Join and JoinExp). -/
import Derived.Test.YtnbmfaihlefgfaaGreatDoorDcC
set_option maxRecDepth 1000000
set_option maxHeartbeats 16000000
set_option linter.all false
namespace Go.Proofs.YtnbmfaihlefgfaaGreatDoor
theorem fG {q x a:Nat}(hq:Ch q)(h:x%q≠a%q):Nat.gcd q (Cb x a q)=1:=by
 have h2:2<=q:=hq.1;have hlt:Cb x a q<q:=Jt h2;have h0:Cb x a q≠0:=by
  have h3:=Nat.mod_lt a (show 0<q by omega);have h4:=Nat.mod_lt x (show 0<q by omega);unfold Cb;split<;>omega
 rcases hq.2 _ (Nat.gcd_dvd_left q (Cb x a q)) with h|h
 .exact h
 .have:=Nat.le_of_dvd (by omega) (Nat.gcd_dvd_right q (Cb x a q));omega
open Go Go.RowKit Go.Proofs.YtnbmfaihlefgfaaGreatDoor.Flow
theorem eB {q:Nat}(hq:0<q):∀(l:List (Nat×Nat)) (o:Nat),o<q->Ic (fun a b=>(a+b)%q) (fun a b=>a*b%q) o l<q
 | [],o,h=>h
 | (a,v)::l,o,_=>eB hq l _ (Nat.mod_lt _ hq)
theorem Uc {w:World}{q n c X:Nat}{p p':Option Addr}{c':Nat}{vq vx:Value}{xs ys:List Nat}(hQ:Al q vq w)(h:Jm w p n c xs)(hY:Jm w p' n c' ys)(hX:Al X vx w)(hq:2<=q)(hl:Ak q<=100000)(hlX:Ak X<=100000)(hx:∀x∈xs,Ak x<=100000)(hy:∀x∈ys,Ak x<=100000)(hn:n<=12)(hu:∀(k j a b:Nat),k≠j->xs[k]? = some a->xs[j]? = some b->Nat.gcd q (Cb a b q)=1) :
  Calls Tryz.prog 29 #[vq,.slice p n c,.slice p' n c',vx] w fun en w'=>∃u,en=.returned u/\Al (Nc q X [] xs ys 0) u w'/\Below w.heap.size w w':=by
 have HXS0:=Aa h;have HYS0:=Aa hY;have HLX:=Aa h.len;have HLY:=Aa hY.len;have HXA:=Aa hx;have HYA:=Aa hy;have HQ2:=Aa hq;have HQ0:Ab (0<q):=⟨by omega⟩
 have HQl:=Aa hl;have HXl:=Aa hlX;have HU:=Aa hu;have hcap:=h.cap;have hmax:=h.max;have hcap2:=hY.cap;have hmax2:=hY.max;obtain⟨ws,hws⟩:∃l,Gb q X [] xs=l:=⟨_,rfl⟩
 have HWG:Ab (∀i z,xs[i]? = some z->ws[i]? = some (Fv q X z 1 (xs.take i++xs.drop (i+1)))):=⟨fun i z hz=>by
  rw[<-hws];exact Oi q X xs [] i z hz⟩
 have HWLT:Ab (∀c∈ws,c<q):=⟨fun c hc=>by rw[<-hws]at hc;exact Vu hq xs [] c hc⟩
 have HWL:Ab (ws.length=n):=⟨by rw[<-hws,If];exact h.len.symm⟩
 obtain⟨JJ,hJJ⟩:∃N,Nc q X [] xs ys 0=N:=⟨_,rfl⟩
 have HJJ:Ab (Ic (fun a b=>(a+b)%q) (fun a b=>a*b%q) 0 (ys.zip ws)=JJ):=⟨by rw[<-hws,Pk,hJJ]⟩
 rw[hJJ];obtain⟨pq,nq,cq,rfl⟩:∃pq nq cq,vq=.slice pq nq cq:=let ⟨a,b,d,e1,_⟩:=hQ;⟨a,b,d,e1⟩
 obtain⟨px,nx,cx,rfl⟩:∃pq nq cq,vx=.slice pq nq cq:=let ⟨a,b,d,e1,_⟩:=hX;⟨a,b,d,e1⟩
 obtain⟨pa,ca,hpa⟩:∃a b,a=p/\b=c:=⟨_,_,rfl,rfl⟩
 obtain⟨rfl,rfl⟩:=hpa;obtain⟨pb,cb,hpb⟩:∃a b,a=p'/\b=c':=⟨_,_,rfl,rfl⟩
 obtain⟨rfl,rfl⟩:=hpb;have HQw:=Aa hQ;have HX0:=Aa hX;have hb0:Below w.heap.size w (w.alloc (.cells #[] 4)):=Dl;have hr0:Al 0 (.slice (some ⟨w.heap.size,0,none⟩) 0 0) (w.alloc (.cells #[] 4)):=Al.of (show Ff _ _ 0 0 (bitsOf 0) from ⟨by decide,Av _,by decide,.inr ⟨w.heap.size,0,rfl,by simp,fun i x hx=>by
   have:bitsOf 0=[]:=by decide
   rw[this]at hx;cases hx⟩⟩)
 obtain⟨w0,hw0⟩:∃x,w.alloc (.cells #[] 4)=x:=⟨_,rfl⟩
 rw[hw0]at hb0 hr0
 have HB0:=Aa hb0;have HR0:=Aa hr0;clear hQ h hY hX hq hl hlX hx hy hu hws hJJ hb0 hr0;go_enter Tryz.func29,Tryz.ntmps29;go_wp2;clear hw0
 go_loopw [9,10,14] (fun vo _ iv wr=>∃k:Nat,k<=n/\iv=.int .i64 k/\Ab (Al (Ic (fun a b=>(a+b)%q) (fun a b=>a*b%q) 0 ((ys.zip ws).take k)) vo wr)/\Ab (Below w.heap.size w wr)) (fun _ _ iv _=>n-(intOf iv).toNat)
 case atStart=>exact⟨0,by omega,rfl,HR0,HB0⟩
 case round=>
  obtain⟨k,hk,rfl,HO0,HBr⟩:=hrel;obtain⟨po,no,co,hpo⟩:∃pq nq cq,u9=.slice pq nq cq:=let ⟨a,b,d,e1,_⟩:=HO0.out;⟨a,b,d,e1⟩
  subst hpo
  by_cases hkn:k<n
  .obtain⟨E0,hE0⟩:∃E,Ic (fun a b=>(a+b)%q) (fun a b=>a*b%q) 0 ((ys.zip ws).take k)=E:=⟨_,rfl⟩
   have hE0l:E0<q:=by rw[<-hE0];exact eB HQ0.out _ _ HQ0.out
   rw[hE0]at HO0
   have HO:=Aa HO0.out;have HOl:Ab (Ak E0<=100000):=⟨Dm (Bx (Nat.le_of_lt hE0l)) HQl.out⟩
   obtain⟨z,hzk⟩:∃s,xs[k]? = some s:=⟨xs[k]'(by rw[<-HLX.out];exact hkn),List.getElem?_eq_getElem _⟩
   obtain⟨y,hyk⟩:∃s,ys[k]? = some s:=⟨ys[k]'(by rw[<-HLY.out];exact hkn),List.getElem?_eq_getElem _⟩
   obtain⟨WW,hWW⟩:∃s,Fv q X z 1 (xs.take k++xs.drop (k+1))=s:=⟨_,rfl⟩
   have hwk:ws[k]? = some WW:=by rw[HWG.out k z hzk,hWW]
   have HWW:=Aa hWW;have HZk:=Aa hzk;have HTK:Ab ((ys.zip ws).take (k+1)=(ys.zip ws).take k++[(y,WW)]):=⟨Dx (Vt hyk hwk)⟩
   have HWl:Ab (Ak WW<=100000):=⟨Dm (Bx (Nat.le_of_lt (HWLT.out WW (List.mem_of_getElem? hwk)))) HQl.out⟩
   have HYl:Ab (Ak y<=100000):=⟨HYA.out y (List.mem_of_getElem? hyk)⟩
   have HUk:Ab (∀(j a:Nat),j≠k->xs[j]? = some a->Nat.gcd q (Cb z a q)=1):=⟨fun j a hj ha=>HU.out k j z a (fun e=>hj e.symm) hzk ha⟩
   obtain⟨bp,op,rfl,hbp,hcp⟩:=HYS0.out.at_ (by omega)
   obtain⟨qa,ma,da,ca1,ca2⟩:=hcp k y hyk;have HW:=Aa HBr.out;have HCY:Ab (∀w',Below wr.heap.size wr w'->w'.cell? ⟨bp,op+k,none⟩=some (.slice qa ma da)):=⟨fun w' hb=>((Ae HW.out hb).cell (p:=⟨bp,op+k,none⟩) hbp).trans ca1⟩
   have HY:=Aa ((Al.of ca2).below HW.out);have HXS:=Aa (HXS0.out.below HW.out);have HX:=Aa (HX0.out.below HW.out);have hkn':(k:Int)<n:=by omega
   have hnk:¬n<=k:=by omega
   have HQ:=Aa (HQw.out.below HW.out);obtain⟨MM,hMM⟩:∃s,WW*y%q=s:=⟨_,rfl⟩
   obtain⟨NN,hNN⟩:∃s,(E0+MM)%q=s:=⟨_,rfl⟩
   have HMM:=Aa hMM;have HNN:=Aa hNN;have HMl:Ab (Ak MM<=100000):=⟨Dm (Bx (by rw[<-hMM];exact Nat.le_of_lt (Nat.mod_lt _ HQ0.out))) HQl.out⟩
   have HNX:Ab (Ic (fun a b=>(a+b)%q) (fun a b=>a*b%q) 0 ((ys.zip ws).take (k+1))=NN):=⟨by
    rw[HTK.out,Pj,hE0];show (E0+y*WW%q)%q=NN;rw[Nat.mul_comm y,hMM,hNN]⟩
   clear hE0 hE0l hzk hyk hWW hwk hbp hcp ca1 ca2 hMM hNN HO0;go_wp2;refine Aj (by kernel_rfl) (by kernel_rfl)
    [some (.slice po no co),some (.slice pq nq cq),some (.slice pa n ca),some (.int .i64 (k:Nat)),some (.slice px nx cx),none,some (.slice (some ⟨bp,op,none⟩) n cb),some (.int .i64 (k:Nat)),some (.pointer (some ⟨bp,op+k,none⟩)),some (.slice qa ma da),some (.slice pq nq cq),none,some (.slice pq nq cq),none,none]
    [false,false,false,false,false,true,false,false,false,false,false,true,false,true,true] rfl
    (fun w1 w2=>Below w1.heap.size w1 w2)
    (fun _ w'=>Below wr.heap.size wr w')
    (fun i v w'=>match i with
     | 5=>Al WW v w'
     | 11=>Al MM v w'
     | 13=>Al NN v w'
     | 14=>Al NN v w'
     | _=>True)
    ?_ (Br _ _).drew ?_ ?_
   .intro i v w1 w2 hf hb;split at hf
    .exact hf.below hb
    .exact hf.below hb
    .exact hf.below hb
    .exact hf.below hb
    .trivial
   .simp only[Bu,Nat.reduceAdd];refine⟨?_,?_,?_,?_,?_,?_,?_,?_,?_,?_,?_,?_,?_,?_,?_,trivial⟩
    all_goals intro D sp w' hD hW hdp hbx'
    case refine_6=>
     (with_reducible refine Ac (w1:=w') (f := 99) (args:=#[.slice pq nq cq,.slice pa n ca,.int .i64 (k:Nat),.slice px nx cx]) ?_ ?_ ?_)
     .simp[Region.wanted,yielded,Act.put,go_sem]
     .simp[Act.eval,Act.put,go_sem]
     .refine(Ng (HQ.out.below hbx') (HXS.out.below hbx') (HX.out.below hbx') HQ2.out HQl.out HXl.out HXA.out (by omega) HZk.out (HUk.out)).mono ?_;rintro en w9 ⟨u,rfl,hu,hb⟩;rw[HWW.out]at hu
      exact⟨u,rfl,hb,hu,Ae hbx' hb⟩
    case refine_9=>
     (with_reducible refine Ah (w1:=w') (v:=.pointer (some ⟨bp,op+k,none⟩)) ?_ ?_ ?_)
     .simp[Region.wanted,yielded,Act.put,go_sem]
     .simp[execOp,Act.eval,Act.put,go_sem,hkn]
     .exact⟨rfl,rfl⟩
    case refine_10=>
     have c0:=HCY.out w' hbx'
     with_reducible refine Ad ?_ ?_
     all_goals simp[Region.wanted,yielded,execOp,Act.eval,Act.put,go_sem,c0]
    case refine_12=>
     have k5:Al WW (sp 5) w':=(hdp 5 (mq (by kernel_rfl))).2
     (with_reducible refine Ac (w1:=w') (f := 98) (args:=#[sp 5,.slice qa ma da,.slice pq nq cq]) ?_ ?_ ?_)
     .simp[Region.wanted,yielded,Act.put,go_sem]
     .simp[Act.eval,Act.put,go_sem]
     .refine(Hs k5 (HY.out.below hbx') (HQ.out.below hbx') HWl.out HYl.out HQl.out HQ0.out).mono ?_;rintro en w9 ⟨u,rfl,hu,hb⟩;rw[HMM.out]at hu
      exact⟨u,rfl,hb,hu,Ae hbx' hb⟩
    case refine_14=>
     have k11:Al MM (sp 11) w':=(hdp 11 (mq (by kernel_rfl))).2
     (with_reducible refine Ac (w1:=w') (f := 97) (args:=#[.slice po no co,sp 11,.slice pq nq cq]) ?_ ?_ ?_)
     .simp[Region.wanted,yielded,Act.put,go_sem]
     .simp[Act.eval,Act.put,go_sem]
     .refine(lY (HO.out.below hbx') k11 (HQ.out.below hbx') HOl.out HMl.out HQl.out HQ0.out).mono ?_;rintro en w9 ⟨u,rfl,hu,hb⟩;rw[HNN.out]at hu
      exact⟨u,rfl,hb,hu,Ae hbx' hb⟩
    case refine_15=>
     have k13:Al NN (sp 13) w':=(hdp 13 (mq (by kernel_rfl))).2
     (with_reducible refine Ah (w1:=w') (v:=sp 13) ?_ ?_ ?_)
     .simp[Region.wanted,yielded,Act.put,go_sem]
     .simp[execOp,Act.eval,Act.put,go_sem]
     .exact⟨Br _ _,k13,hbx'⟩
    all_goals ((with_reducible refine Ad ?_ ?_);all_goals first|(simp only[Region.wanted];done)|simp[Region.wanted,yielded,execOp,Act.eval,Act.put,go_sem])
   .intro sp w9 hsp hb;obtain⟨qc,mc,dc,ec,hc⟩:Al NN (sp 14) w9:=hsp 14 rfl;have HC:Ab (Al (Ic (fun a b=>(a+b)%q) (fun a b=>a*b%q) 0 ((ys.zip ws).take (k+1))) (.slice qc mc dc) w9):=⟨by rw[HNX.out];exact Al.of hc⟩
    have HB9:=Aa (Ae HBr.out hb);clear hsp hc hb;simp only[An,Nat.reduceAdd];rw[ec];clear ec;generalize sp 5=y5,sp 11=y11,sp 13=y13 at *
    go_simp
    go_wp2;go_roundw
    case rel=>exact⟨k+1,by omega,by go_num,HC,HB9⟩
    case measure=>simp[intOf];omega
  .obtain rfl:k=n:=by omega
   have hkn':¬(k:Int)<k:=by omega
   rw[List.take_of_length_le (by rw[List.length_zip,HWL.out,<-HLY.out,Nat.min_self];exact Av _),HJJ.out]at HO0
   go_wp2;go_ret;exact⟨_,rfl,HO0.out,HBr.out⟩
theorem Ta {w:World}{P q G H n c X:Nat}{p p':Option Addr}{c':Nat}{v vx:Value}{xs ys:List Nat}(hV:Gv P q G H v w)(h:Jm w p n c xs)(hY:Jm w p' n c' ys)(hX:Al X vx w)(hP:2<=P)(lP:Ak P<=100000)(hq:2<=q)(hl:Ak q<=100000)(hlX:Ak X<=100000)(hx:∀x∈xs,Ak x<=100000)(hy:∀x∈ys,Ak x<=100000)(hn:n<=12)(hu:∀(k j a b:Nat),k≠j->xs[k]? = some a->xs[j]? = some b->Nat.gcd q (Cb a b q)=1) :
  Calls Tryz.prog 30 #[v,.slice p n c,.slice p' n c',vx] w fun en w'=>∃u,en=.returned u/\Al (Ho P 1 (ys.zip (Gb q X [] xs))) u w'/\Below w.heap.size w w':=by
 have HXS0:=Aa h;have HYS0:=Aa hY;have HLX:=Aa h.len;have HLY:=Aa hY.len;have HXA:=Aa hx;have HYA:=Aa hy;have HQ2:=Aa hq;have HQ0:Ab (0<q):=⟨by omega⟩
 have HQl:=Aa hl;have HXl:=Aa hlX;have HU:=Aa hu;have hcap:=h.cap;have hmax:=h.max;have hcap2:=hY.cap;have hmax2:=hY.max;obtain⟨ws,hws⟩:∃l,Gb q X [] xs=l:=⟨_,rfl⟩
 have HWG:Ab (∀i z,xs[i]? = some z->ws[i]? = some (Fv q X z 1 (xs.take i++xs.drop (i+1)))):=⟨fun i z hz=>by
  rw[<-hws];exact Oi q X xs [] i z hz⟩
 have HWLT:Ab (∀c∈ws,c<q):=⟨fun c hc=>by rw[<-hws]at hc;exact Vu hq xs [] c hc⟩
 have HWL:Ab (ws.length=n):=⟨by rw[<-hws,If];exact h.len.symm⟩
 obtain⟨JJ,hJJ⟩:∃N,Ho P 1 (ys.zip (Gb q X [] xs))=N:=⟨_,rfl⟩
 have HJJ:Ab (Ho P 1 (ys.zip ws)=JJ):=⟨by rw[<-hws,hJJ]⟩
 rw[hJJ];have HPl:=Aa lP;have HP2:=Aa hP;have HP0:Ab (0<P):=⟨by omega⟩
 obtain⟨px,nx,cx,rfl⟩:∃pq nq cq,vx=.slice pq nq cq:=let ⟨a,b,d,e1,_⟩:=hX;⟨a,b,d,e1⟩
 obtain⟨pa,ca,hpa⟩:∃a b,a=p/\b=c:=⟨_,_,rfl,rfl⟩
 obtain⟨rfl,rfl⟩:=hpa;obtain⟨pb,cb,hpb⟩:∃a b,a=p'/\b=c':=⟨_,_,rfl,rfl⟩
 obtain⟨rfl,rfl⟩:=hpb;have HX0:=Aa hX;obtain⟨p0,n0,c0,p1,n1,c1,p2,n2,c2,p3,n3,c3,rfl,h0,h1,h2,h3⟩:=hV.ex;have hbx:Below w.heap.size w (w.alloc (.cells #[.slice p0 n0 c0,.slice p1 n1 c1,.slice p2 n2 c2,.slice p3 n3 c3] 30)):=Dl;have hbo:=Dp.made 30 w (.slice p0 n0 c0) (.slice p1 n1 c1) (.slice p2 n2 c2) (.slice p3 n3 c3);obtain⟨wa,hwa⟩:∃wa,w.alloc (.cells #[.slice p0 n0 c0,.slice p1 n1 c1,.slice p2 n2 c2,.slice p3 n3 c3] 30)=wa:=⟨_,rfl⟩
 rw[hwa]at hbx hbo
 have HB:=Aa hbx;have HBX:=Aa hbo;have HV:Ab (Gv P q G H (.agg #[.slice p0 n0 c0,.slice p1 n1 c1,.slice p2 n2 c2,.slice p3 n3 c3]) wa):=⟨⟨p0,n0,c0,p1,n1,c1,p2,n2,c2,p3,n3,c3,rfl,h0.below hbx,h1.below hbx,h2.below hbx,h3.below hbx⟩⟩
 have HQB0:=Aa (Al.of (h1.below hbx));clear hV h0 h1 h2 h3 h hY hX hq hl hlX hx hy hu hws hJJ hbx hbo lP hP;go_enter Tryz.func30,Tryz.ntmps30
 go_wp2_with fail
 refine(Gq 1 wa (by decide)).mono ?_;rintro en wb ⟨q1,m1,d1,rfl,hu1,hb1,_⟩;have HR0:Ab (Al 1 (.slice q1 m1 d1) wb):=⟨Al.of hu1⟩
 have HB0:=Aa hb1;clear hu1 hb1;go_wp2;clear hwa
 go_loopw [9,10,14] (fun vo _ iv wr=>∃k:Nat,k<=n/\iv=.int .i64 k/\Ab (Al (Ho P 1 ((ys.zip ws).take k)) vo wr)/\Ab (Below wa.heap.size wa wr)) (fun _ _ iv _=>n-(intOf iv).toNat)
 case atStart=>exact⟨0,by omega,rfl,HR0,HB0⟩
 case round=>
  obtain⟨k,hk,rfl,HO0,HBr⟩:=hrel;obtain⟨po,no,co,hpo⟩:∃pq nq cq,u9=.slice pq nq cq:=let ⟨a,b,d,e1,_⟩:=HO0.out;⟨a,b,d,e1⟩
  subst hpo
  by_cases hkn:k<n
  .obtain⟨E0,hE0⟩:∃E,Ho P 1 ((ys.zip ws).take k)=E:=⟨_,rfl⟩
   have hE0l:E0<P:=by rw[<-hE0];exact Zb HP2.out _ _ (by have:=HP2.out;omega)
   rw[hE0]at HO0
   have HO:=Aa HO0.out;have HOl:Ab (Ak E0<=100000):=⟨Dm (Bx (Nat.le_of_lt hE0l)) HPl.out⟩
   obtain⟨z,hzk⟩:∃s,xs[k]? = some s:=⟨xs[k]'(by rw[<-HLX.out];exact hkn),List.getElem?_eq_getElem _⟩
   obtain⟨y,hyk⟩:∃s,ys[k]? = some s:=⟨ys[k]'(by rw[<-HLY.out];exact hkn),List.getElem?_eq_getElem _⟩
   obtain⟨WW,hWW⟩:∃s,Fv q X z 1 (xs.take k++xs.drop (k+1))=s:=⟨_,rfl⟩
   have hwk:ws[k]? = some WW:=by rw[HWG.out k z hzk,hWW]
   have HWW:=Aa hWW;have HZk:=Aa hzk;have HTK:Ab ((ys.zip ws).take (k+1)=(ys.zip ws).take k++[(y,WW)]):=⟨Dx (Vt hyk hwk)⟩
   have HWl:Ab (Ak WW<=100000):=⟨Dm (Bx (Nat.le_of_lt (HWLT.out WW (List.mem_of_getElem? hwk)))) HQl.out⟩
   have HYl:Ab (Ak y<=100000):=⟨HYA.out y (List.mem_of_getElem? hyk)⟩
   have HUk:Ab (∀(j a:Nat),j≠k->xs[j]? = some a->Nat.gcd q (Cb z a q)=1):=⟨fun j a hj ha=>HU.out k j z a (fun e=>hj e.symm) hzk ha⟩
   obtain⟨bp,op,rfl,hbp,hcp⟩:=HYS0.out.at_ (by omega)
   obtain⟨qa,ma,da,ca1,ca2⟩:=hcp k y hyk;have HW:=Aa (Ae HB.out HBr.out);have HCY:Ab (∀w',Below wr.heap.size wr w'->w'.cell? ⟨bp,op+k,none⟩=some (.slice qa ma da)):=⟨fun w' hb=>((Ae HW.out hb).cell (p:=⟨bp,op+k,none⟩) hbp).trans ca1⟩
   have HY:=Aa ((Al.of ca2).below HW.out);have HXS:=Aa (HXS0.out.below HW.out);have HX:=Aa (HX0.out.below HW.out);have hkn':(k:Int)<n:=by omega
   have hnk:¬n<=k:=by omega
   have HQB:=Aa (HQB0.out.below HBr.out);have HVw:=Aa (HV.out.below HBr.out);have HBXw:=Aa (HBX.out.below HBr.out HBX.out.lt);obtain⟨MM,hMM⟩:∃s,y^WW%P=s:=⟨_,rfl⟩
   obtain⟨NN,hNN⟩:∃s,E0*MM%P=s:=⟨_,rfl⟩
   have HMM:=Aa hMM;have HNN:=Aa hNN;have HMl:Ab (Ak MM<=100000):=⟨Dm (Bx (by rw[<-hMM];exact Nat.le_of_lt (Nat.mod_lt _ HP0.out))) HPl.out⟩
   have HNX:Ab (Ho P 1 ((ys.zip ws).take (k+1))=NN):=⟨by rw[HTK.out,Sn,hE0,hMM,hNN]⟩
   clear hE0 hE0l hzk hyk hWW hwk hbp hcp ca1 ca2 hMM hNN HO0;go_wp2;refine Aj (by kernel_rfl) (by kernel_rfl)
    [some (.agg #[.slice p0 n0 c0,.slice p1 n1 c1,.slice p2 n2 c2,.slice p3 n3 c3]),some (.slice po no co),some (.agg #[.slice p0 n0 c0,.slice p1 n1 c1,.slice p2 n2 c2,.slice p3 n3 c3]),some (.slice (some ⟨bp,op,none⟩) n cb),some (.int .i64 (k:Nat)),some (.pointer (some ⟨bp,op+k,none⟩)),some (.slice qa ma da),some (.pointer (some ⟨w.heap.size,1,none⟩)),some (.slice p1 n1 c1),some (.slice pa n ca),some (.int .i64 (k:Nat)),some (.slice px nx cx),none,none,none,none]
    [false,false,false,false,false,false,false,false,false,false,false,false,true,true,true,true] rfl
    (fun w1 w2=>Below w1.heap.size w1 w2)
    (fun _ w'=>Below wr.heap.size wr w')
    (fun i v w'=>match i with
     | 12=>Al WW v w'
     | 13=>Al MM v w'
     | 14=>Al NN v w'
     | 15=>Al NN v w'
     | _=>True)
    ?_ (Br _ _).drew ?_ ?_
   .intro i v w1 w2 hf hb;split at hf
    .exact hf.below hb
    .exact hf.below hb
    .exact hf.below hb
    .exact hf.below hb
    .trivial
   .simp only[Bu,Nat.reduceAdd];refine⟨?_,?_,?_,?_,?_,?_,?_,?_,?_,?_,?_,?_,?_,?_,?_,?_,trivial⟩
    all_goals intro D sp w' hD hW hdp hbx'
    case refine_1|refine_3=>
     have hB4:=HBXw.out.below hbx' HBXw.out.lt;have g0:=hB4.cells.1;have g1:=hB4.cells.2.1;have g2:=hB4.cells.2.2.1;have g3:=hB4.cells.2.2.2
     with_reducible refine Ad ?_ ?_
     all_goals simp[Region.wanted,yielded,execOp,Act.eval,Act.put,go_sem,g0,g1,g2,g3]
    case refine_6=>
     (with_reducible refine Ah (w1:=w') (v:=.pointer (some ⟨bp,op+k,none⟩)) ?_ ?_ ?_)
     .simp[Region.wanted,yielded,Act.put,go_sem]
     .simp[execOp,Act.eval,Act.put,go_sem,hkn]
     .exact⟨rfl,rfl⟩
    case refine_7=>
     have c0:=HCY.out w' hbx'
     with_reducible refine Ad ?_ ?_
     all_goals simp[Region.wanted,yielded,execOp,Act.eval,Act.put,go_sem,c0]
    case refine_9=>
     have hB4:=HBXw.out.below hbx' HBXw.out.lt;have g1:=hB4.cells.2.1
     with_reducible refine Ad ?_ ?_
     all_goals simp[Region.wanted,yielded,execOp,Act.eval,Act.put,go_sem,g1]
    case refine_13=>
     (with_reducible refine Ac (w1:=w') (f := 99) (args:=#[.slice p1 n1 c1,.slice pa n ca,.int .i64 (k:Nat),.slice px nx cx]) ?_ ?_ ?_)
     .simp[Region.wanted,yielded,Act.put,go_sem]
     .simp[Act.eval,Act.put,go_sem]
     .refine(Ng (HQB.out.below hbx') (HXS.out.below hbx') (HX.out.below hbx') HQ2.out HQl.out HXl.out HXA.out (by omega) HZk.out (HUk.out)).mono ?_;rintro en w9 ⟨u,rfl,hu,hb⟩;rw[HWW.out]at hu
      exact⟨u,rfl,hb,hu,Ae hbx' hb⟩
    case refine_14=>
     have k12:Al WW (sp 12) w':=(hdp 12 (mq (by kernel_rfl))).2
     (with_reducible refine Ac (w1:=w') (f := 72) (args:=#[.agg #[.slice p0 n0 c0,.slice p1 n1 c1,.slice p2 n2 c2,.slice p3 n3 c3],.slice qa ma da,sp 12]) ?_ ?_ ?_)
     .simp[Region.wanted,yielded,Act.put,go_sem]
     .simp[Act.eval,Act.put,go_sem]
     .refine(aG (HVw.out.below hbx') (HY.out.below hbx') k12 HYl.out HWl.out HPl.out HP0.out).mono ?_;rintro en w9 ⟨u,rfl,hu,hb⟩;rw[HMM.out]at hu
      exact⟨u,rfl,hb,hu,Ae hbx' hb⟩
    case refine_15=>
     have k13:Al MM (sp 13) w':=(hdp 13 (mq (by kernel_rfl))).2
     (with_reducible refine Ac (w1:=w') (f := 100) (args:=#[.agg #[.slice p0 n0 c0,.slice p1 n1 c1,.slice p2 n2 c2,.slice p3 n3 c3],.slice po no co,sp 13]) ?_ ?_ ?_)
     .simp[Region.wanted,yielded,Act.put,go_sem]
     .simp[Act.eval,Act.put,go_sem]
     .refine(aF (HVw.out.below hbx') (HO.out.below hbx') k13 HOl.out HMl.out HPl.out HP0.out).mono ?_;rintro en w9 ⟨u,rfl,hu,hb⟩;rw[HNN.out]at hu
      exact⟨u,rfl,hb,hu,Ae hbx' hb⟩
    case refine_16=>
     have k14:Al NN (sp 14) w':=(hdp 14 (mq (by kernel_rfl))).2
     (with_reducible refine Ah (w1:=w') (v:=sp 14) ?_ ?_ ?_)
     .simp[Region.wanted,yielded,Act.put,go_sem]
     .simp[execOp,Act.eval,Act.put,go_sem]
     .exact⟨Br _ _,k14,hbx'⟩
    all_goals ((with_reducible refine Ad ?_ ?_);all_goals first|(simp only[Region.wanted];done)|simp[Region.wanted,yielded,execOp,Act.eval,Act.put,go_sem])
   .intro sp w9 hsp hb;obtain⟨qc,mc,dc,ec,hc⟩:Al NN (sp 15) w9:=hsp 15 rfl;have HC:Ab (Al (Ho P 1 ((ys.zip ws).take (k+1))) (.slice qc mc dc) w9):=⟨by rw[HNX.out];exact Al.of hc⟩
    have HB9:=Aa (Ae HBr.out hb);clear hsp hc hb;simp only[An,Nat.reduceAdd];rw[ec];clear ec;generalize sp 12=y12,sp 13=y13,sp 14=y14 at *
    go_simp
    go_wp2;go_roundw
    case rel=>exact⟨k+1,by omega,by go_num,HC,HB9⟩
    case measure=>simp[intOf];omega
  .obtain rfl:k=n:=by omega
   have hkn':¬(k:Int)<k:=by omega
   rw[List.take_of_length_le (by rw[List.length_zip,HWL.out,<-HLY.out,Nat.min_self];exact Av _),HJJ.out]at HO0
   have HBF:=Aa (Ae HB.out HBr.out);go_wp2;go_ret;exact⟨_,rfl,HO0.out,HBF.out⟩
end Go.Proofs.YtnbmfaihlefgfaaGreatDoor
