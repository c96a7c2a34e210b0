/- The document's Weight: how much a place counts. -/
import Derived.Test.YtnbmfaihlefgfaaGreatDoorCuV
import Derived.Deep.LoopGhost
import Derived.Lib.SlBytesConst
import Derived.Lib.SmallJoins
set_option maxRecDepth 1000000
set_option maxHeartbeats 16000000
set_option linter.all false
namespace Go.Proofs.YtnbmfaihlefgfaaGreatDoor
open Go Go.RowKit Go.Proofs.YtnbmfaihlefgfaaGreatDoor.Flow
theorem kG {l:List Nat}:l.Nodup ↔ ∀(i j A B:Nat),i<j->l[i]? = some A->l[j]? = some B->A≠B:=by
 unfold List.Nodup;rw[List.pairwise_iff_getElem];constructor
 .intro h i j A B hij hi hj;obtain⟨h1,rfl⟩:=List.getElem?_eq_some_iff.1 hi;obtain⟨h2,rfl⟩:=List.getElem?_eq_some_iff.1 hj;exact h i j h1 h2 hij
 .intro h i j h1 h2 hij;exact h i j _ _ hij (List.getElem?_eq_getElem h1) (List.getElem?_eq_getElem h2)
theorem Mj {q:Nat}{xs:List Nat}:(xs.map fun x=>x%q).Nodup ↔ ∀(i j A B:Nat),i<j->xs[i]? = some A->xs[j]? = some B->A%q≠B%q:=by
 rw[kG];constructor
 .intro h i j A B hij hi hj;exact h i j _ _ hij (by rw[List.getElem?_map,hi];rfl) (by rw[List.getElem?_map,hj];rfl)
 .intro h i j A B hij hi hj;rw[List.getElem?_map]at hi hj
  cases h1:xs[i]? with
  | none=>rw[h1]at hi;cases hi
  | some x=>
   cases h2:xs[j]? with
   | none=>rw[h2]at hj;cases hj
   | some y=>
    rw[h1]at hi;rw[h2]at hj
    cases hi;cases hj;exact h i j x y hij h1 h2
theorem Xj {w:World}{q n c V:Nat}{p:Option Addr}{vq:Value}{xs:List Nat}(hQ:Al q vq w)(h:Jm w p n c xs)(hq:2<=q)(hl:Ak q<=100000)(hx:∀x∈xs,Ak x<=100000)(hn:n<=12)(hV:V<=1000000) :
  Calls Tryz.prog 24 #[vq,.slice p n c,.int .i64 V] w fun en w'=>en=.returned (.int .i64 (Cn q n V xs:Nat))/\Below w.heap.size w w':=by
 have HQw:=Aa hQ;have HP:=Aa h;have HLX:=Aa hx;have HLQ:Ab (Ak q<=900000):=⟨by omega⟩
 have HQ0:Ab (0<q):=⟨by omega⟩
 have hcap:n<=c:=h.cap;have hmax:c<=9223372036854775807:=h.max;have HLN:=Aa h.len;obtain⟨pq,nq,cq,rfl⟩:∃pq nq cq,vq=.slice pq nq cq:=let ⟨a,b,d,e1,_⟩:=hQ;⟨a,b,d,e1⟩
 clear hQ h hx hl hq;unfold Cn
 by_cases h0:n=0
 .subst h0;rw[if_pos rfl];go_enter Tryz.func24,Tryz.ntmps24;go_wp2;go_ret;exact⟨rfl,Br _ _⟩
 rw[if_neg h0];have h0':((n:Int)==0)=false:=by rw[beq_eq_false_iff_ne];omega
 by_cases h1:n=V
 .subst h1;have h1':((n:Int)!=n)=false:=by simp
  have h2:¬(n≠n):=fun h=>h rfl
  rw[if_neg h2];have HH:Ab (1<=n):=⟨by omega⟩
  clear h2 hV;obtain⟨D,hD⟩:∃D,decide (xs.map fun x=>x%q).Nodup=D:=⟨_,rfl⟩
  have HD:=Aa hD;have HE:Ab ((if (xs.map fun x=>x%q).Nodup then 0 else 11)=if D then 0 else 11):=⟨by
   rw[<-hD]
   by_cases hd:(xs.map fun x=>x%q).Nodup
   .rw[if_pos hd,decide_eq_true hd];rfl
   .rw[if_neg hd,decide_eq_false hd];rfl⟩
  rw[HE.out];clear hD HE h0;go_enter Tryz.func24,Tryz.ntmps24;go_wp2
  go_loopw [7,8,18] (fun _ _ iv wr=>∃k:Nat,k<=n/\iv=.int .i64 k/\Ab (∀(b:Nat),b<k->∀(a A B:Nat),a<b->xs[a]? = some A->xs[b]? = some B->A%q≠B%q)/\Ab (Below w.heap.size w wr)) (fun _ _ iv _=>n-(intOf iv).toNat)
  case atStart=>exact⟨0,by omega,rfl,⟨fun b h=>by omega⟩,⟨Br _ _⟩⟩
  case round=>
   obtain⟨k,hk,rfl,HO,HBr⟩:=hrel
   by_cases hkn:k<n
   .have hkn':(k:Int)<n:=by omega
    have HKN:=Aa hkn;obtain⟨A,hAk⟩:∃A,xs[k]? = some A:=⟨xs[k]'(by rw[<-HLN.out];exact hkn),List.getElem?_eq_getElem _⟩
    have HAk:=Aa hAk;have HLA:Ab (Ak A<=900000):=⟨Dm (HLX.out A (List.mem_of_getElem? hAk)) (by decide)⟩
    clear hAk;obtain⟨wA,hwA⟩:∃x,x=wr:=⟨_,rfl⟩
    subst hwA;go_wp2
    go_loopw [8] (fun jv wq=>∃j:Nat,j<=k/\jv=.int .i64 j/\Ab (∀(a B:Nat),a<j->xs[a]? = some B->B%q≠A%q)/\Ab (Below wA.heap.size wA wq)) (fun jv _=>k-(intOf jv).toNat)
    case atStart=>exact⟨0,by omega,rfl,⟨fun a B h=>by omega⟩,⟨Br _ _⟩⟩
    case round=>
     obtain⟨j,hj,rfl,HJ,HBq⟩:=hrel
     by_cases hjk:j<k
     .have hjk':(j:Int)<k:=by omega
      have HJK:=Aa hjk;have HJN:Ab (j<n):=⟨by omega⟩
      obtain⟨B,hBj⟩:∃B,xs[j]? = some B:=⟨xs[j]'(by rw[<-HLN.out];omega),List.getElem?_eq_getElem _⟩
      have HBj:=Aa hBj;have HLB:Ab (Ak B<=900000):=⟨Dm (HLX.out B (List.mem_of_getElem? hBj)) (by decide)⟩
      have HLM1:Ab (Ak (A%q)<=1000000):=⟨Dm (Bx (Nat.mod_le _ _)) (Dm HLA.out (by decide))⟩
      have HLM2:Ab (Ak (B%q)<=1000000):=⟨Dm (Bx (Nat.mod_le _ _)) (Dm HLB.out (by decide))⟩
      have HBt:Ab (Below w.heap.size w wr):=⟨Ae HBr.out HBq.out⟩
      have HQ:Ab (Al q (.slice pq nq cq) wr):=⟨HQw.out.below HBt.out⟩
      obtain⟨bp,op,rfl,hbp,hcp⟩:=(HP.out.below HBt.out).at_ (by omega)
      obtain⟨qa,ma,da,ca1,ca2⟩:=hcp k A HAk.out;obtain⟨qb,mb,db,cb1,cb2⟩:=hcp j B HBj.out;have HBX:Ab (bp<wr.heap.size):=⟨hbp⟩
      have HCA:Ab (wr.cell? ⟨bp,op+k,none⟩=some (.slice qa ma da)):=⟨ca1⟩
      have HCB:Ab (wr.cell? ⟨bp,op+j,none⟩=some (.slice qb mb db)):=⟨cb1⟩
      have HA:=Aa ca2;have HB9:=Aa cb2;obtain⟨EE,hEE⟩:∃b,(By (A%q) (B%q)==0)=b:=⟨_,rfl⟩
      have HEE:Ab (EE=decide (A%q=B%q)):=⟨by
       rw[<-hEE]
       by_cases he:A%q=B%q
       .rw[Cr.2 he,decide_eq_true he];rfl
       .rw[decide_eq_false he,beq_eq_false_iff_ne];exact fun h=>he (Cr.1 h)⟩
      clear hbp hcp ca1 ca2 cb1 cb2 hBj;go_wp2;refine Aj (by kernel_rfl) (by kernel_rfl)
       [some (.slice (some ⟨bp,op,none⟩) n c),some (.int .i64 (k:Nat)),some (.pointer (some ⟨bp,op+k,none⟩)),some (.slice qa ma da),some (.slice pq nq cq),none,some (.slice (some ⟨bp,op,none⟩) n c),some (.int .i64 (j:Nat)),some (.pointer (some ⟨bp,op+j,none⟩)),some (.slice qb mb db),some (.slice pq nq cq),none,none,some (.bool EE)]
       [false,false,false,false,false,true,false,false,false,false,false,true,true,false] rfl
       (fun w1 w2=>Below w1.heap.size w1 w2)
       (fun _ w'=>Below wr.heap.size wr w')
       (fun i v w'=>match i with
        | 5=>Al (A%q) v w'
        | 11=>Al (B%q) v w'
        | 12=>v=.int .i64 (By (A%q) (B%q))
        | _=>True)
       ?_ (Br _ _).drew ?_ ?_
      .intro i v w1 w2 hf hb;split at hf
       .exact hf.below hb
       .exact hf.below hb
       .exact hf
       .trivial
      .simp only[Bu,Nat.reduceAdd];refine⟨?_,?_,?_,?_,?_,?_,?_,?_,?_,?_,?_,?_,?_,?_,trivial⟩
       all_goals intro D sp w' hD hW hdp hbx'
       case refine_3=>
        have hni:¬n<=k:=Nat.not_le.2 HKN.out
        with_reducible refine Ad ?_ ?_
        all_goals simp[Region.wanted,yielded,execOp,Act.eval,Act.put,go_sem,hni]
       case refine_4=>
        have c0:w'.cell? ⟨bp,op+k,none⟩=some (.slice qa ma da):=(hbx'.cell (p:=⟨bp,op+k,none⟩) HBX.out).trans HCA.out
        with_reducible refine Ad ?_ ?_
        all_goals simp[Region.wanted,yielded,execOp,Act.eval,Act.put,go_sem,c0]
       case refine_6=>
        (with_reducible refine Ac (w1:=w') (f := 94) (args:=#[.slice qa ma da,.slice pq nq cq]) ?_ ?_ ?_)
        .simp[Region.wanted,yielded,Act.put,go_sem]
        .simp[Act.eval,Act.put,go_sem]
        .refine(Fh (Al.of (HA.out.below hbx')) (HQ.out.below hbx') HLA.out HLQ.out HQ0.out).mono ?_;rintro en w9 ⟨u,rfl,hu,hb⟩;exact⟨u,rfl,hb,hu,Ae hbx' hb⟩
       case refine_9=>
        have hni:¬n<=j:=Nat.not_le.2 HJN.out
        with_reducible refine Ad ?_ ?_
        all_goals simp[Region.wanted,yielded,execOp,Act.eval,Act.put,go_sem,hni]
       case refine_10=>
        have c0:w'.cell? ⟨bp,op+j,none⟩=some (.slice qb mb db):=(hbx'.cell (p:=⟨bp,op+j,none⟩) HBX.out).trans HCB.out
        with_reducible refine Ad ?_ ?_
        all_goals simp[Region.wanted,yielded,execOp,Act.eval,Act.put,go_sem,c0]
       case refine_12=>
        (with_reducible refine Ac (w1:=w') (f := 94) (args:=#[.slice qb mb db,.slice pq nq cq]) ?_ ?_ ?_)
        .simp[Region.wanted,yielded,Act.put,go_sem]
        .simp[Act.eval,Act.put,go_sem]
        .refine(Fh (Al.of (HB9.out.below hbx')) (HQ.out.below hbx') HLB.out HLQ.out HQ0.out).mono ?_;rintro en w9 ⟨u,rfl,hu,hb⟩;exact⟨u,rfl,hb,hu,Ae hbx' hb⟩
       case refine_13=>
        have k5:Al (A%q) (sp 5) w':=(hdp 5 (mq (by kernel_rfl))).2;have k11:Al (B%q) (sp 11) w':=(hdp 11 (mq (by kernel_rfl))).2
        (with_reducible refine Ac (w1:=w') (f := 51) (args:=#[sp 5,sp 11]) ?_ ?_ ?_)
        .simp[Region.wanted,yielded,Act.put,go_sem]
        .simp[Act.eval,Act.put,go_sem]
        .refine(jQ k5 k11 HLM1.out HLM2.out).mono ?_;rintro en w9 ⟨u,rfl,rfl,hb⟩;exact⟨_,rfl,hb,rfl,Ae hbx' hb⟩
       case refine_14=>
        have k12:(sp 12)=.int .i64 (By (A%q) (B%q)):=(hdp 12 (mq (by kernel_rfl))).2
        with_reducible refine Ad ?_ ?_
        all_goals simp[Region.wanted,yielded,execOp,Act.eval,Act.put,go_sem,k12,hEE]
       all_goals ((with_reducible refine Ad ?_ ?_);all_goals first|(simp only[Region.wanted];done)|simp[Region.wanted,yielded,execOp,Act.eval,Act.put,go_sem])
      .intro sp w7 hsp hbx';have HBe:=Aa (Ae HBq.out hbx');clear hsp hbx' hEE;simp only[An,Nat.reduceAdd];generalize sp 5=y5,sp 11=y11,sp 12=y12 at *
       go_simp
       by_cases he:A%q=B%q
       .have hE:EE=true:=by rw[HEE.out,decide_eq_true he]
        have HF:Ab (D=false):=⟨by
         rw[<-HD.out];exact decide_eq_false fun h=>Mj.1 h j k B A HJK.out HBj.out HAk.out he.symm⟩
        have HBw:=Aa (Ae HBr.out HBe.out);subst hE;have hF:=HF.out;subst hF;clear HEE HF HD;go_wp2;go_ret;exact⟨rfl,HBw.out⟩
       .have hE:EE=false:=by rw[HEE.out,decide_eq_false he]
        have HJ':Ab (∀(a B:Nat),a<j+1->xs[a]? = some B->B%q≠A%q):=⟨fun a B2 ha hB2=>by
         rcases(by omega:a<j ∨ a=j) with h|rfl
         .exact HJ.out a B2 h hB2
         .intro e;rw[HBj.out]at hB2
          cases hB2;exact he e.symm⟩
        subst hE;clear HEE he;go_wp2;go_roundw
        case rel=>exact⟨j+1,by omega,by go_num,HJ',HBe⟩
        case measure=>simp[intOf];omega
     .obtain rfl:j=k:=by omega
      have hjk':¬(j:Int)<j:=by omega
      have HO':Ab (∀(b:Nat),b<j+1->∀(a A B:Nat),a<b->xs[a]? = some A->xs[b]? = some B->A%q≠B%q):=⟨fun b hb a A2 B2 hab h2 h3=>by
       rcases(by omega:b<j ∨ b=j) with h|rfl
       .exact HO.out b h a A2 B2 hab h2 h3
       .rw[HAk.out]at h3
        cases h3;exact HJ.out a A2 hab h2⟩
      have HBw:=Aa (Ae HBr.out HBq.out);go_wp2;go_roundw
      case rel=>exact⟨j+1,by omega,by go_num,HO',HBw⟩
      case measure=>simp[intOf];omega
   .obtain rfl:k=n:=by omega
    have hkn':¬(k:Int)<k:=by omega
    have HF:Ab (D=true):=⟨by
     rw[<-HD.out];refine decide_eq_true (Mj.2 fun i j A B hij hi hj=>?_);have hjn:j<k:=by
      have:=(List.getElem?_eq_some_iff.1 hj).1;rw[HLN.out];exact this
     exact HO.out j hjn i A B hij hi hj⟩
    have hF:=HF.out;subst hF;clear HF HD;go_wp2;go_ret;exact⟨rfl,HBr.out⟩
 .rw[if_pos h1];have h1':((V:Int)!=n)=true:=by rw[bne_iff_ne];omega
  clear h1;go_enter Tryz.func24,Tryz.ntmps24;go_wp2;go_ret;exact⟨rfl,Br _ _⟩
open Go Go.RowKit
def four:List Nat:=[3,7,11,15]
def pp:Nat:=2^130-5
theorem pL {M X q Y:Nat}(hM:2<=M):(M:Int) ∣ ((Cb X (q*Y%M) M:Nat):Int)-((X:Int)-(q:Nat)*(Y:Int)):=by
 rw[Vz hM,Nat.mod_mod];have hlt:=Nat.mod_lt (q*Y) (show 0<M by omega);obtain⟨A,hA⟩:∃A,X%M+M-q*Y%M=A:=⟨_,rfl⟩
 rw[hA];have e1:=Nat.div_add_mod A M;have e2:=Nat.div_add_mod X M;have e3:=Nat.div_add_mod (q*Y) M;refine⟨1-(A/M:Nat)-(X/M:Nat)+(q*Y/M:Nat),?_⟩;rw[Int.mul_add,Int.mul_sub,Int.mul_sub,Int.mul_one,<-Int.natCast_mul q Y,<-Int.natCast_mul,<-Int.natCast_mul,<-Int.natCast_mul];generalize M*(A/M)=x at *;generalize M*(X/M)=y at *;generalize M*(q*Y/M)=z at *;generalize q*Y%M=r at *;generalize q*Y=s at *;omega
theorem mH {U:Nat}:Ak U=1 ↔ U=1:=by
 constructor
 .intro h;have h1:=(Bq U 1).1 (by omega);rcases Nat.eq_zero_or_pos U with h0|h0
  .subst h0;have:Ak 0=0:=by decide
   omega
  .omega
 .intro h;subst h;decide
def iY (M N:Nat)(w:World)(en:Ending)(w':World):Prop :=
 ∃(x:Value) (X:Nat) (B:Bool),en=.returned (.tuple #[x,.bool B])/\Al X x w'/\(B=true ↔ Nat.gcd M N=1)/\(Nat.gcd M N=1->X<M/\X*N%M=1%M)/\Below w.heap.size w w'
theorem dD {w:World}{v u:Value}{N M:Nat}(h:Al N v w)(k:Al M u w)(hM:2<=M)(lN:Ak N<=100000)(lM:Ak M<=100000) :
  Calls Tryz.prog 153 #[v,u] w (iY M N w):=by
 obtain⟨qn,mn,dn,rfl,hn⟩:=h;obtain⟨qm,mm,dm,rfl,hm⟩:=k;have HN:=Aa (Al.of hn);have HM:=Aa (Al.of hm);have HM2:=Aa hM;have HLN:Ab (Ak N<=900000):=⟨by omega⟩
 have HLM:=Aa lM;have HLM9:Ab (Ak M<=900000):=⟨by omega⟩
 have HMM:=Aa hm;have HSM:Ab (∀x,x<M->Ak x<=100000):=⟨fun x hx=>Dm (Bx (Nat.le_of_lt hx)) lM⟩
 clear hn hm hM lN lM;go_enter Tryz.func153,Tryz.ntmps153
 go_wp2_with fail
 refine(Fh HN.out HM.out HLN.out HLM9.out (by have:=HM2.out;omega)).mono ?_;rintro en w1 ⟨_,rfl,⟨qv,mv,dv,rfl,hv⟩,hb1⟩;have hbe:Below w1.heap.size w1 (w1.alloc (.cells #[] 4)):=Dl;have hx0:Bt (w1.alloc (.cells #[] 4)) (some ⟨w1.heap.size,0,none⟩) 0 0 0:=mI _ _ w1.heap.size 0 rfl (by simp);obtain⟨w2,hw2⟩:∃W,w1.alloc (.cells #[] 4)=W:=⟨_,rfl⟩
 rw[hw2]at hbe hx0
 obtain⟨bx,hbx⟩:∃b,w1.heap.size=b:=⟨_,rfl⟩
 rw[hbx]at hx0
 have HV:=Aa (hv.below hbe);have HX0:=Aa hx0;have HB2:=Aa (Ae hb1 hbe);clear hv hb1 hbe hx0
 go_wp2_with fail
 clear hw2 hbx;refine(Gq 1 w2 (by decide)).mono ?_;rintro en w3 ⟨qy,my,dy,rfl,hy,hb3,_⟩;have HU3:Ab (Bt w3 qm mm dm M):=⟨HMM.out.below (Ae HB2.out hb3)⟩
 have HV3:Ab (Bt w3 qv mv dv (N%M)):=⟨HV.out.below hb3⟩
 have HX3:Ab (Bt w3 (some ⟨bx,0,none⟩) 0 0 0):=⟨HX0.out.below hb3⟩
 have HY3:Ab (Bt w3 qy my dy 1):=⟨hy⟩
 have HB3:=Aa (Ae HB2.out hb3);clear hy hb3 HV HX0 HB2;go_wp2
 go_loopg [6,7,8,9] (N%M) (fun k uv vv xv yv wr=>∃(U X Y:Nat) (pu:Option Addr) (nu cu:Nat) (pv:Option Addr) (nv cv:Nat) (px:Option Addr) (nx cx:Nat) (py:Option Addr) (ny cy:Nat),uv=.slice pu nu cu/\vv=.slice pv nv cv/\xv=.slice px nx cx/\yv=.slice py ny cy/\Ab (Bt wr pu nu cu U)/\Ab (Bt wr pv nv cv k)/\Ab (Bt wr px nx cx X)/\Ab (Bt wr py ny cy Y)/\Ab (Tr M N U k X Y)/\Ab (k<U/\X<M/\Y<M)/\Ab (Below w.heap.size w wr))
 case atStart=>exact⟨M,0,1,qm,mm,dm,qv,mv,dv,some ⟨bx,0,none⟩,0,0,qy,my,dy,rfl,rfl,rfl,rfl,HU3,HV3,HX3,HY3,⟨Tr.start⟩,⟨Nat.mod_lt _ (by have:=HM2.out;omega),by have:=HM2.out;omega,by have:=HM2.out;omega⟩,HB3⟩
 case round=>
  obtain⟨U,X,Y,pu,nu,cu,pv,nv,cv,px,nx,cx,py,ny,cy,rfl,rfl,rfl,rfl,HU,HV,HX,HY,HD,HL,HB⟩:=hrel;clear HU3 HV3 HX3 HY3 HB3;have hnv:=De HV.out;have hnu:=De HU.out;have HMr:Ab (Al M (.slice qm mm dm) wr):=⟨HM.out.below HB.out⟩
  rcases Nat.eq_zero_or_pos gk with h0|h0
  .have hm0:nv=0:=by rw[hnv,h0];rfl
   have hdn:=(show Tr M N U 0 X Y from h0 ▸ HD.out).done;have HXM:Ab (X%M=X):=⟨Nat.mod_eq_of_lt HL.out.2.1⟩
   have HOf:=Aa (Fh (Al.of HX.out) HMr.out (by have:=HSM.out X HL.out.2.1;omega) HLM9.out (by have:=HM2.out;omega));obtain⟨B,hB⟩:∃B,((nu:Int)==1)=B:=⟨_,rfl⟩
   have HRES:Ab ((B=true ↔ Nat.gcd M N=1)/\(Nat.gcd M N=1->X<M/\X*N%M=1%M)):=⟨by
    rw[<-hdn.1];refine⟨?_,fun h1=>⟨HL.out.2.1,hdn.2 h1⟩⟩;rw[<-hB,beq_iff_eq,<-mH,<-hnu];omega⟩
   clear hnv hnu h0 hdn HU HV HX HY HD HL;subst hm0
   go_wp2_with fail
   refine HOf.out.mono ?_;rintro en w9 ⟨x,rfl,hx,hb⟩;rw[HXM.out]at hx
   have HXX:=Aa hx;have HBf:=Aa (Ae HB.out hb);clear hx hb HOf HB;go_wp2
   go_ret2
   exact⟨x,X,B,rfl,HXX.out,HRES.out.1,HRES.out.2,HBf.out⟩
  .have hm0:0<nv:=by rw[hnv];exact Hw h0
   have HLT:Ab (U%gk<gk):=⟨Nat.mod_lt _ h0⟩
   have H0:=Aa h0;have HBU:Ab (U<=M/\U/gk<=M):=⟨HD.out.le,Dm (Nat.div_le_self _ _) HD.out.le⟩
   have HlU:Ab (Ak U<=100000/\Ak gk<=100000/\Ak (U/gk)<=100000):=⟨Dm (Bx HBU.out.1) HLM.out,Dm (Bx (Dm (Nat.le_of_lt HL.out.1) HBU.out.1)) HLM.out,Dm (Bx HBU.out.2) HLM.out⟩
   clear hnv hnu h0
   go_wp2_with fail
   refine(Yp (Al.of HU.out) (Al.of HV.out) (by have:=HlU.out;omega) (by have:=HlU.out;omega) H0.out).mono ?_;rintro en w4 ⟨pq,nq,cq,pr,nr,cr,rfl,hq,hr,hb4⟩;have HQ4:=Aa hq;have HR4:=Aa hr;have HV4:=Aa (HV.out.below hb4);have HX4:=Aa (HX.out.below hb4);have HY4:=Aa (HY.out.below hb4);have HM4:=Aa (HMr.out.below hb4);have HB4:=Aa (Ae HB.out hb4);clear hq hr hb4 HU HV HX HY HMr HB
   go_wp2_with fail
   refine(Hs (Al.of HQ4.out) (Al.of HY4.out) HM4.out HlU.out.2.2 (HSM.out Y HL.out.2.2) HLM.out (by have:=HM2.out;omega)).mono ?_;rintro en w5 ⟨_,rfl,ht,hb5⟩;have HT5:=Aa ht;have HR5:=Aa (HR4.out.below hb5);have HV5:=Aa (HV4.out.below hb5);have HX5:=Aa (HX4.out.below hb5);have HY5:=Aa (HY4.out.below hb5);have HM5:=Aa (HM4.out.below hb5);have HB5:=Aa (Ae HB4.out hb5);clear ht hb5 HQ4 HR4 HV4 HX4 HY4 HM4 HB4
   go_wp2_with fail
   refine(Sz (Al.of HX5.out) HT5.out HM5.out (HSM.out X HL.out.2.1) (HSM.out _ (Nat.mod_lt _ (by have:=HM2.out;omega))) HLM.out HM2.out).mono ?_;rintro en w6 ⟨_,rfl,⟨pz,nz,cz,rfl,hz⟩,hb6⟩;have HZ6:=Aa hz;have HR6:=Aa (HR5.out.below hb6);have HV6:=Aa (HV5.out.below hb6);have HY6:=Aa (HY5.out.below hb6);have HB6:=Aa (Ae HB5.out hb6);have HD6:Ab (Tr M N gk (U%gk) Y (Cb X (U/gk*Y%M) M)):=⟨HD.out.step HL.out.1 (pL HM2.out)⟩
   have HL6:Ab (U%gk<gk/\Y<M/\Cb X (U/gk*Y%M) M<M):=⟨HLT.out,HL.out.2.2,Jt HM2.out⟩
   clear hz hb6 HR5 HV5 HX5 HY5 HM5 HB5 HD HL HT5;go_wp2
   go_roundg (U%gk)
   case measure=>exact HLT.out
   case rel=>exact⟨gk,Y,_,pv,nv,cv,pr,nr,cr,py,ny,cy,pz,nz,cz,rfl,rfl,rfl,rfl,HV6,HR6,HY6,HZ6,HD6,HL6,HB6⟩
def Ij (i k:Nat)(xs:List Nat):List Nat:=if k<=i then (xs.take i).drop k++xs.drop (i+1) else xs.drop k
theorem Zc (i:Nat)(xs:List Nat):Ij i 0 xs=xs.take i++xs.drop (i+1):=by simp[Ij]
theorem gF (i:Nat)(xs:List Nat):Ij i i xs=Ij i (i+1) xs:=by
 unfold Ij;rw[if_pos (Av _),if_neg (by omega),List.drop_eq_nil_of_le (List.length_take_le _ _)];rfl
theorem cR {i k a:Nat}{xs:List Nat}(h:k≠i)(hk:xs[k]? = some a):Ij i k xs=a::Ij i (k+1) xs:=by
 obtain⟨h1,rfl⟩:=List.getElem?_eq_some_iff.1 hk;unfold Ij
 by_cases hi:k<=i
 .have hl:k<(xs.take i).length:=by rw[List.length_take];omega
  rw[if_pos hi,if_pos (by omega),List.drop_eq_getElem_cons hl,List.getElem_take];rfl
 .rw[if_neg hi,if_neg (by omega),List.drop_eq_getElem_cons h1]
theorem gI {i n:Nat}{xs:List Nat}(h:n=xs.length)(hi:i<n):Ij i n xs=[]:=by
 unfold Ij;rw[if_neg (by omega),h,List.drop_length]
theorem kS {M N X:Nat}(hM:2<=M)(hg:Nat.gcd M N=1)(h:X<M/\X*N%M=1%M):X=Mx M N:=Wx hM ⟨fun _=>h,fun e=>absurd hg e⟩
theorem Ng {w:World}{q n c i X Z:Nat}{p:Option Addr}{vq vx:Value}{xs:List Nat}(hQ:Al q vq w)(h:Jm w p n c xs)(hX:Al X vx w)(hq:2<=q)(hl:Ak q<=100000)(hlX:Ak X<=100000)(hx:∀x∈xs,Ak x<=100000)(hn:n<=12)(hi:xs[i]? = some Z)(hu:∀(k a:Nat),k≠i->xs[k]? = some a->Nat.gcd q (Cb Z a q)=1) :
  Calls Tryz.prog 99 #[vq,.slice p n c,.int .i64 i,vx] w fun en w'=>∃u,en=.returned u/\Al (Fv q X Z 1 (xs.take i++xs.drop (i+1))) u w'/\Below w.heap.size w w':=by
 have HQw:=Aa hQ;have HXw:=Aa hX;have HP:=Aa h;have HU:=Aa hu;have HZi:=Aa hi;have HQ2:=Aa hq;have HLQ:=Aa hl;have HLX:=Aa hlX;have HXS:=Aa hx;have hcap:n<=c:=h.cap;have hmax:c<=9223372036854775807:=h.max;have HLN:=Aa h.len;have HIN:Ab (i<n):=⟨by rw[h.len];exact(List.getElem?_eq_some_iff.1 hi).1⟩
 have hin:=HIN.out;obtain⟨WW,hWW⟩:∃W,Fv q X Z 1 (xs.take i++xs.drop (i+1))=W:=⟨_,rfl⟩
 have HW0:Ab (Fv q X Z 1 (Ij i 0 xs)=WW):=⟨by rw[Zc];exact hWW⟩
 have HWl:Ab (WW<q):=⟨by rw[<-hWW];exact Xf hq _ _ (by omega)⟩
 rw[hWW];obtain⟨pq,nq,cq,rfl⟩:∃pq nq cq,vq=.slice pq nq cq:=let ⟨a,b,d,e1,_⟩:=hQ;⟨a,b,d,e1⟩
 obtain⟨px,nx,cx,rfl⟩:∃pq nq cq,vx=.slice pq nq cq:=let ⟨a,b,d,e1,_⟩:=hX;⟨a,b,d,e1⟩
 clear hQ hX h hu hi hq hl hlX hx hWW;go_enter Tryz.func99,Tryz.ntmps99
 go_wp2_with fail
 refine(Gq 1 w (by decide)).mono ?_;rintro en w1 ⟨q1,m1,d1,rfl,hu1,hb1,_⟩;have HO1:Ab (Al 1 (.slice q1 m1 d1) w1):=⟨Al.of hu1⟩
 have HB1:=Aa hb1;clear hu1 hb1;go_wp2
 go_loopw [9,10,11,12,16] (fun ov _ _ _ iv wr=>∃(k o:Nat),k<=n/\iv=.int .i64 k/\Ab (Al o ov wr)/\Ab (o<q)/\Ab (Fv q X Z o (Ij i k xs)=WW)/\Ab (Below w.heap.size w wr)) (fun _ _ _ _ iv _=>n-(intOf iv).toNat)
 case atStart=>exact⟨0,1,by omega,rfl,HO1,⟨by have:=HQ2.out;omega⟩,HW0,HB1⟩
 case round=>
  obtain⟨k,o,hk,rfl,HO,HOq,HWk,HBr⟩:=hrel;obtain⟨po,no,co,rfl⟩:∃pq nq cq,u9=.slice pq nq cq:=let ⟨a,b,d,e1,_⟩:=HO.out;⟨a,b,d,e1⟩
  by_cases hkn:k<n
  .have hkn':(k:Int)<n:=by omega
   have HKN:=Aa hkn
   by_cases hki:k=i
   .subst hki;have hW':Ab (Fv q X Z o (Ij k (k+1) xs)=WW):=⟨by rw[<-gF];exact HWk.out⟩
    have hkk:((k:Int)==k)=true:=by simp
    go_wp2;go_roundw
    case rel=>exact⟨k+1,o,by omega,by go_num,HO,HOq,hW',HBr⟩
    case measure=>simp[intOf];omega
   .have hkk:((k:Int)==i)=false:=by rw[beq_eq_false_iff_ne];omega
    obtain⟨A,hAk⟩:∃A,xs[k]? = some A:=⟨xs[k]'(by rw[<-HLN.out];exact hkn),List.getElem?_eq_getElem _⟩
    have HLA:Ab (Ak A<=100000):=⟨HXS.out A (List.mem_of_getElem? hAk)⟩
    have HLZ:Ab (Ak Z<=100000):=⟨HXS.out Z (List.mem_of_getElem? HZi.out)⟩
    have HGC0:Nat.gcd q (Cb Z A q)=1:=HU.out k A hki hAk;obtain⟨SS,hSS⟩:∃S,Cb Z A q=S:=⟨_,rfl⟩
    obtain⟨II,hII⟩:∃S,Mx q SS=S:=⟨_,rfl⟩
    have HGC:Ab (Nat.gcd q SS=1):=⟨by rw[<-hSS];exact HGC0⟩
    have HII:Ab (∀X9:Nat,X9<q/\X9*SS%q=1%q->X9=II):=⟨fun X9 h9=>by rw[<-hII];exact kS HQ2.out HGC.out h9⟩
    have HIl:Ab (II<q):=⟨by rw[<-hII];exact((Ou HQ2.out SS).1 HGC.out).1⟩
    have HLS:Ab (Ak SS<=100000):=⟨by
     rw[<-hSS];exact Dm (Bx (Nat.le_of_lt (Jt HQ2.out))) HLQ.out⟩
    have HII2:Ab (Mx q (Cb Z A q)=II):=⟨by rw[hSS];exact hII⟩
    have HW':Ab (Fv q X Z (o*(Cb X A q*II%q)%q) (Ij i (k+1) xs)=WW):=⟨by
     have h:=HWk.out;rw[cR hki hAk]at h
     rw[<-HII2.out];exact h⟩
    have HQ:Ab (Al q (.slice pq nq cq) wr):=⟨HQw.out.below HBr.out⟩
    obtain⟨bp,op,rfl,hbp,hcp⟩:=(HP.out.below HBr.out).at_ (by omega)
    obtain⟨qz,mz,dz,cz1,cz2⟩:=hcp i Z HZi.out;obtain⟨qa,ma,da,ca1,ca2⟩:=hcp k A hAk;have HBX:Ab (bp<wr.heap.size):=⟨hbp⟩
    have HCZ:Ab (wr.cell? ⟨bp,op+i,none⟩=some (.slice qz mz dz)):=⟨cz1⟩
    have HCA:Ab (wr.cell? ⟨bp,op+k,none⟩=some (.slice qa ma da)):=⟨ca1⟩
    have HZ:=Aa cz2;have HA:=Aa ca2;clear hbp hcp cz1 cz2 ca1 ca2 hAk HGC0 hII;go_wp2;refine Aj (by kernel_rfl) (by kernel_rfl)
     [some (.slice (some ⟨bp,op,none⟩) n c),some (.int .i64 (i:Nat)),some (.pointer (some ⟨bp,op+i,none⟩)),some (.slice qz mz dz),some (.slice (some ⟨bp,op,none⟩) n c),some (.int .i64 (k:Nat)),some (.pointer (some ⟨bp,op+k,none⟩)),some (.slice qa ma da),some (.slice pq nq cq),none,some (.slice pq nq cq),none,none,none,some (.bool true),none,some (.bool true)]
     [false,false,false,false,false,false,false,false,false,true,false,true,true,true,false,true,false] rfl
     (fun w1 w2=>Below w1.heap.size w1 w2)
     (fun _ w'=>Below wr.heap.size wr w')
     (fun i v w'=>match i with
      | 9=>Al (SS) v w'
      | 11=>∃x,v=.tuple #[x,.bool true]/\Al II x w'
      | 12=>∃x,v=.tuple #[x,.bool true]/\Al II x w'
      | 13=>Al II v w'
      | 15=>Al II v w'
      | _=>True)
     ?_ (Br _ _).drew ?_ ?_
    .intro i v w1 w2 hf hb;split at hf
     .exact hf.below hb
     .exact(let ⟨x,h1,h2⟩:=hf;⟨x,h1,h2.below hb⟩)
     .exact(let ⟨x,h1,h2⟩:=hf;⟨x,h1,h2.below hb⟩)
     .exact hf.below hb
     .exact hf.below hb
     .trivial
    .simp only[Bu,Nat.reduceAdd];refine⟨?_,?_,?_,?_,?_,?_,?_,?_,?_,?_,?_,?_,?_,?_,?_,?_,?_,trivial⟩
     all_goals intro D sp w' hD hW hdp hbx'
     case refine_3=>
      have hni:¬n<=i:=Nat.not_le.2 HIN.out
      with_reducible refine Ad ?_ ?_
      all_goals simp[Region.wanted,yielded,execOp,Act.eval,Act.put,go_sem,hni]
     case refine_4=>
      have c0:w'.cell? ⟨bp,op+i,none⟩=some (.slice qz mz dz):=(hbx'.cell (p:=⟨bp,op+i,none⟩) HBX.out).trans HCZ.out
      with_reducible refine Ad ?_ ?_
      all_goals simp[Region.wanted,yielded,execOp,Act.eval,Act.put,go_sem,c0]
     case refine_7=>
      have hni:¬n<=k:=Nat.not_le.2 HKN.out
      with_reducible refine Ad ?_ ?_
      all_goals simp[Region.wanted,yielded,execOp,Act.eval,Act.put,go_sem,hni]
     case refine_8=>
      have c0:w'.cell? ⟨bp,op+k,none⟩=some (.slice qa ma da):=(hbx'.cell (p:=⟨bp,op+k,none⟩) HBX.out).trans HCA.out
      with_reducible refine Ad ?_ ?_
      all_goals simp[Region.wanted,yielded,execOp,Act.eval,Act.put,go_sem,c0]
     case refine_10=>
      (with_reducible refine Ac (w1:=w') (f := 154) (args:=#[.slice qz mz dz,.slice qa ma da,.slice pq nq cq]) ?_ ?_ ?_)
      .simp[Region.wanted,yielded,Act.put,go_sem]
      .simp[Act.eval,Act.put,go_sem]
      .refine(Sz (Al.of (HZ.out.below hbx')) (Al.of (HA.out.below hbx')) (HQ.out.below hbx') HLZ.out HLA.out HLQ.out HQ2.out).mono ?_;rintro en w9 ⟨u,rfl,hu,hb⟩;rw[hSS]at hu
       exact⟨u,rfl,hb,hu,Ae hbx' hb⟩
     case refine_12=>
      have k9:Al (SS) (sp 9) w':=(hdp 9 (mq (by kernel_rfl))).2
      (with_reducible refine Ac (w1:=w') (f := 153) (args:=#[sp 9,.slice pq nq cq]) ?_ ?_ ?_)
      .simp[Region.wanted,yielded,Act.put,go_sem]
      .simp[Act.eval,Act.put,go_sem]
      .refine(dD k9 (HQ.out.below hbx') HQ2.out HLS.out HLQ.out).mono ?_;rintro en w9 ⟨u,X9,B9,rfl,hu,hB9,hX9,hb⟩;have hg:=HGC.out;have hB:B9=true:=hB9.2 hg;have hI:=HII.out X9 (hX9 hg);subst hB;rw[hI]at hu
       exact⟨_,rfl,hb,⟨u,rfl,hu⟩,Ae hbx' hb⟩
     case refine_13=>
      have k11:∃x,sp 11=.tuple #[x,.bool true]/\Al II x w':=(hdp 11 (mq (by kernel_rfl))).2
      (with_reducible refine Ah (w1:=w') (v:=sp 11) ?_ ?_ ?_)
      .simp[Region.wanted,yielded,Act.put,go_sem]
      .simp[execOp,Act.eval,Act.put,go_sem]
      .exact⟨Br _ _,k11,hbx'⟩
     case refine_14=>
      have k12:∃x,sp 12=.tuple #[x,.bool true]/\Al II x w':=(hdp 12 (mq (by kernel_rfl))).2
      (with_reducible refine Bp k12 fun x hx=>?_)
      have h1:=hx.1
      (with_reducible refine Ah (w1:=w') (v:=x) ?_ ?_ ?_)
      .simp[Region.wanted,yielded,Act.put,go_sem]
      .simp[execOp,Act.eval,Act.put,go_sem,h1]
      .exact⟨Br _ _,hx.2,hbx'⟩
     case refine_15=>
      have k12:∃x,sp 12=.tuple #[x,.bool true]/\Al II x w':=(hdp 12 (mq (by kernel_rfl))).2
      (with_reducible refine Bp k12 fun x hx=>?_)
      have h1:=hx.1
      with_reducible refine Ad ?_ ?_
      all_goals simp[Region.wanted,yielded,execOp,Act.eval,Act.put,go_sem,h1]
     case refine_16=>
      have k13:Al II (sp 13) w':=(hdp 13 (mq (by kernel_rfl))).2
      (with_reducible refine Ah (w1:=w') (v:=sp 13) ?_ ?_ ?_)
      .simp[Region.wanted,yielded,Act.put,go_sem]
      .simp[execOp,Act.eval,Act.put,go_sem]
      .exact⟨Br _ _,k13,hbx'⟩
     all_goals ((with_reducible refine Ad ?_ ?_);all_goals first|(simp only[Region.wanted];done)|simp[Region.wanted,yielded,execOp,Act.eval,Act.put,go_sem])
    .intro sp w7 hsp hbx';have hk15:Al II (sp 15) w7:=hsp 15 rfl;obtain⟨qi,mi,di,e15,hi7⟩:=hk15;have HI7:=Aa (Al.of hi7);have HBx:=Aa hbx';have hca:w7.cell? ⟨bp,op+k,none⟩=some (.slice qa ma da):=(hbx'.cell (p:=⟨bp,op+k,none⟩) HBX.out).trans HCA.out;clear hsp hbx' hSS hi7;simp only[An,Nat.reduceAdd];rw[e15];generalize sp 9=y9,sp 11=y11,sp 12=y12,sp 13=y13 at *;clear e15
     go_simp
     have hni:¬n<=k:=Nat.not_le.2 HKN.out
     go_wp2_with fail
     refine(Sz ((HXw.out.below HBr.out).below HBx.out) (Al.of (HA.out.below HBx.out)) (HQ.out.below HBx.out) HLX.out HLA.out HLQ.out HQ2.out).mono ?_;rintro en w8 ⟨_,rfl,⟨q8,m8,d8,rfl,h8⟩,hb8⟩;have H8:=Aa (Al.of h8);have HB8:=Aa (Ae HBx.out hb8);have HI8:=Aa (HI7.out.below hb8);have HL8:Ab (Ak (Cb X A q)<=100000):=⟨Dm (Bx (Nat.le_of_lt (Jt HQ2.out))) HLQ.out⟩
     have HLI:Ab (Ak II<=100000):=⟨Dm (Bx (Nat.le_of_lt HIl.out)) HLQ.out⟩
     clear h8 hb8
     go_wp2_with fail
     refine(Hs H8.out HI8.out (HQ.out.below HB8.out) HL8.out HLI.out HLQ.out (by have:=HQ2.out;omega)).mono ?_;rintro en w9 ⟨_,rfl,⟨q9,m9,d9,rfl,h9⟩,hb9⟩;have H9:=Aa (Al.of h9);have HB9:=Aa (Ae HB8.out hb9);have HL9:Ab (Ak (Cb X A q*II%q)<=100000):=⟨Dm (Bx (Nat.le_of_lt (Nat.mod_lt _ (by have:=HQ2.out;omega)))) HLQ.out⟩
     have HLo:Ab (Ak o<=100000):=⟨Dm (Bx (Nat.le_of_lt HOq.out)) HLQ.out⟩
     clear h9 hb9
     go_wp2_with fail
     refine(Hs (HO.out.below HB9.out) H9.out (HQ.out.below HB9.out) HLo.out HL9.out HLQ.out (by have:=HQ2.out;omega)).mono ?_;rintro en wb ⟨_,rfl,⟨qb,mb,db,rfl,hb⟩,hbb⟩;have HOb:=Aa (Al.of hb);have HBb:=Aa (Ae HBr.out (Ae HB9.out hbb));have HOl:Ab (o*(Cb X A q*II%q)%q<q):=⟨Nat.mod_lt _ (by have:=HQ2.out;omega)⟩
     clear hb hbb;go_wp2;go_roundw
     case rel=>exact⟨k+1,_,by omega,by go_num,HOb,HOl,HW',HBb⟩
     case measure=>simp[intOf];omega
  .obtain rfl:k=n:=by omega
   have hkn':¬(k:Int)<k:=by omega
   have HoW:Ab (o%q=WW):=⟨by
    have h:=HWk.out;rw[gI HLN.out HIN.out]at h
    have h2:o=WW:=h;rw[<-h2];exact Nat.mod_eq_of_lt HOq.out⟩
   have HLo:Ab (Ak o<=900000):=⟨Dm (Bx (Nat.le_of_lt HOq.out)) (Dm HLQ.out (by decide))⟩
   go_wp2_with fail
   refine(Fh HO.out (HQw.out.below HBr.out) HLo.out (Dm HLQ.out (by decide)) (by have:=HQ2.out;omega)).mono ?_;rintro en w8 ⟨_,rfl,⟨q8,m8,d8,rfl,h8⟩,hb8⟩;rw[HoW.out]at h8
   have H8:=Aa (Al.of h8);have HB8:=Aa (Ae HBr.out hb8);clear h8 hb8;go_wp2;go_ret;exact⟨_,rfl,H8.out,HB8.out⟩
end Go.Proofs.YtnbmfaihlefgfaaGreatDoor
