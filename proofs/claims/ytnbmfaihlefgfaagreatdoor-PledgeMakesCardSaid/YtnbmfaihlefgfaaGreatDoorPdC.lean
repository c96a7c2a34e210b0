/- The document's bare pledges and products of rows (ref13's Bare, Join); law13's same. -/
import Derived.Test.YtnbmfaihlefgfaaGreatDoorPdN
import Derived.Test.YtnbmfaihlefgfaaGreatDoorPlC
set_option maxRecDepth 1000000
set_option maxHeartbeats 16000000
set_option linter.all false
namespace Go.Proofs.YtnbmfaihlefgfaaGreatDoor
open Go Go.RowKit Go.Proofs.YtnbmfaihlefgfaaGreatDoor.Flow
theorem Rt {w:World}{v:Value}{P Q G H n c:Nat}{p:Option Addr}{xa:List Nat}(h:Cz P Q G H v w)(hA:Em w p n c xa)(lP:Aj P<=100000)(lG:Aj G<=100000)(hP:2<=P)(hG:G^Q%P=1%P)(hH:H^Q%P=1%P)(hxa:∀x∈xa,Aj x<=100000)(hn:n<=1000) :
  Calls Tryz.prog 65 #[v,.slice p n c] w fun e w'=>∃u,e=.returned u/\Kv n (Fa P Q G H xa []) u w'/\Below w.heap.size w w':=by
 obtain⟨p0,n0,c0,p1,n1,c1,p2,n2,c2,p3,n3,c3,rfl,h0,h1,h2,h3⟩:=h.ex;have hbx:Below w.heap.size w (w.alloc (.cells #[.slice p0 n0 c0,.slice p1 n1 c1,.slice p2 n2 c2,.slice p3 n3 c3] 30)):=Co;have hbo:=Cm.made 30 w (.slice p0 n0 c0) (.slice p1 n1 c1) (.slice p2 n2 c2) (.slice p3 n3 c3);obtain⟨wa,hwa⟩:∃wa,w.alloc (.cells #[.slice p0 n0 c0,.slice p1 n1 c1,.slice p2 n2 c2,.slice p3 n3 c3] 30)=wa:=⟨_,rfl⟩
 rw[hwa]at hbx hbo
 have HB:=Ac hbx;have HBX:=Ac hbo;have HV:Ab (Cz P Q G H (.agg #[.slice p0 n0 c0,.slice p1 n1 c1,.slice p2 n2 c2,.slice p3 n3 c3]) wa):=⟨⟨p0,n0,c0,p1,n1,c1,p2,n2,c2,p3,n3,c3,rfl,h0.below hbx,h1.below hbx,h2.below hbx,h3.below hbx⟩⟩
 have HGl:=Ac lG;have HPl:=Ac lP;have HP2:=Ac hP;have HP0:Ab (0<P):=⟨by omega⟩
 have HGM:=Ac hG;have HHM:=Ac hH;have HXA:=Ac hxa;have HP:=Ac (hA.below hbx);have HLA:=Ac hA.len;have HGB:=Ac (Aq.of (h2.below hbx));have hcap:n<=c:=hA.cap;have hmax:c<=9223372036854775807:=hA.max;obtain⟨LL,hLL⟩:∃l,Fa P Q G H xa []=l:=⟨_,rfl⟩
 have HLEN:Ab (LL.length=n):=⟨by rw[<-hLL,Ii,<-hA.len];simp⟩
 have HGET:Ab (∀i,i<n->LL[i]? = some (Iz P Q G H (xa.getD i 0) 0)):=⟨fun i hi=>by rw[<-hLL];exact Ni P Q G H xa [] i (by rw[<-hA.len];simp;exact hi)⟩
 rw[hLL];have hrm:=Ew.made wa (Av wa.heap.size);have hbm:Below wa.heap.size wa (wa.alloc (.cells #[] 28)):=Co;obtain⟨wb,hwb⟩:∃wb,wa.alloc (.cells #[] 28)=wb:=⟨_,rfl⟩
 rw[hwb]at hrm hbm
 have HR0:=Ac hrm;have HBm:=Ac hbm;clear h h0 h1 h2 h3 hA hrm hbm hxa lP lG hP hG hH hLL hbx hbo;go_enter Tryz.func65,Tryz.ntmps65;go_wp2;clear hwa hwb
 go_loopw [5,7,11] (fun vv _ iv wr=>∃(k:Nat) (us:List (Option Addr×Nat×Nat)),k<=n/\iv=.int .i64 k/\Ab (Below wa.heap.size wa wr)/\Ab (Ew wr wa.heap.size vv us)/\Ab (Du wr us (LL.take k))) (fun _ _ iv _=>n-(intOf iv).toNat)
 case atStart=>exact⟨0,[],by omega,rfl,HBm,HR0,⟨Du.nil _⟩⟩
 case round=>
  obtain⟨k,us,hk,rfl,HBr,HRr,HTr⟩:=hrel
  by_cases hkn:k<n
  .obtain⟨pv,cv,hv⟩:=HRr.out.slice;obtain⟨nz,hnz⟩:∃l,us.length=l:=⟨_,rfl⟩
   rw[hnz]at hv
   subst hv;obtain⟨a,hak⟩:∃a,xa[k]? = some a:=⟨xa[k]'(by rw[<-HLA.out];exact hkn),List.getElem?_eq_getElem _⟩
   obtain⟨bp,op,rfl,hbp,hcp⟩:=HP.out.at_ (by omega)
   obtain⟨qa,ma,da,ca1,ca2⟩:=hcp k a hak;have hca:wr.cell? ⟨bp,op+k,none⟩=some (.slice qa ma da):=(HBr.out.cell (p:=⟨bp,op+k,none⟩) hbp).trans ca1;obtain⟨NN,hNN⟩:∃A,Iz P Q G H a 0=A:=⟨_,rfl⟩
   have HNN:Ab (G^a%P=NN):=⟨by rw[<-hNN,bR HGM.out HHM.out,Nat.pow_zero,Nat.mul_one]⟩
   have HNk:Ab (LL[k]? = some NN):=⟨by rw[HGET.out k hkn,<-hNN,De,hak];rfl⟩
   have HTK:Ab (LL.take (k+1)=LL.take k++[NN]):=⟨Cp HNk.out⟩
   have HUS:Ab (us.length<=100000):=⟨by rw[HTr.out.len,List.length_take];omega⟩
   have HAl:Ab (Aj a<=100000):=⟨HXA.out a (List.mem_of_getElem? hak)⟩
   have HA:=Ac ((Aq.of ca2).below HBr.out);have HBXw:=Ac (HBX.out.below HBr.out HBX.out.lt);have g0:=HBXw.out.cells.1;have g1:=HBXw.out.cells.2.1;have g2:=HBXw.out.cells.2.2.1;have g3:=HBXw.out.cells.2.2.2;have hkn':(k:Int)<n:=by omega
   have hnk:¬n<=k:=by omega
   clear hcp ca1 ca2 hbp hak hNN hnz
   go_wp2_with fail
   refine(Js (HV.out.below HBr.out) (HGB.out.below HBr.out) HA.out HGl.out HAl.out HPl.out HP0.out).mono ?_;rintro en w3 ⟨_,rfl,⟨q3,m3,d3,rfl,h3⟩,b3⟩;rw[HNN.out]at h3
   have hb4:Below w3.heap.size w3 (w3.alloc (.cells #[.slice q3 m3 d3] 28)):=Co;have hx4:=Ko w3 28 (.slice q3 m3 d3);have hn4:=Ay.below h3 hb4;obtain⟨w4,hw4⟩:∃w4,w3.alloc (.cells #[.slice q3 m3 d3] 28)=w4:=⟨_,rfl⟩
   rw[hw4]at hb4 hx4 hn4
   have hb34:=Ae b3 hb4;have hr4:=HRr.out.below hb34;have hsz:wa.heap.size<=w4.heap.size:=(Ae HBr.out hb34).size;obtain⟨v9,w9,happ,hr9,hg9,_⟩:=hr4.app (x:=(q3,m3,d3)) hx4 hsz HUS.out 47 (c:=1);have HB9:Ab (Below wa.heap.size wa w9):=⟨(Ae HBr.out hb34).grown hg9 hsz (fun g hg=>(hr4.own hg).1)⟩
   have HR9:=Ac hr9;have HT9:Ab (Du w9 (us++[(q3,m3,d3)]) (LL.take (k+1))):=⟨by
    rw[HTK.out];exact((HTr.out.below hb34).grown hr4 hg9).snoc (Ip hr4 hg9 hn4)⟩
   clear b3 h3 hb4 hx4 hn4 hb34 hr4 hsz hr9 hg9 g0 g1 g2 g3 hca
   go_wp2_with (at_builtin;refine Lib.wpList_append_run _ rfl _ _ _ _ rfl _ _ rfl rfl _ _ happ ?_;refine Lw.out ?_)
   refine⟨?_⟩;clear happ;go_wp2;go_roundw
   case rel=>exact⟨k+1,_,by omega,by go_num,HB9,HR9,HT9⟩
   case measure=>simp[intOf];omega
  .obtain rfl:k=n:=by omega
   have hkn':¬(k:Int)<k:=by omega
   rw[List.take_of_length_le (by rw[HLEN.out];exact Av _)]at HTr
   obtain⟨q9,d9,rfl,hp9⟩:=HRr.out.nlist HTr.out;rw[HLEN.out]at hp9
   have e9:=HLEN.out;rw[e9];have HN9:=Ac hp9;have HBF:=Ac (Ae HB.out HBr.out);clear hp9 HTr e9;go_wp2;go_ret;exact⟨_,rfl,⟨_,_,rfl,HN9.out⟩,HBF.out⟩
theorem Mf {w:World}{p q:Option Addr}{n c m d e:Nat}{Ns:List Nat}(h:Bd w e p n c Ns)(k:Em w q m d Ns)(he:e<=30000) :
  Calls Tryz.prog 60 #[.slice p n c,.slice q m d] w fun en w'=>∃x,en=.returned x/\x=.bool true/\Below w.heap.size w w':=by
 obtain rfl:n=m:=by rw[h.len,k.len]
 have HX:=Ac h;have HY:=Ac k;have HLN:=Ac h.len;have hcap:n<=c:=h.cap;have hmax:c<=9223372036854775807:=h.max;clear h k;go_enter Tryz.func60,Tryz.ntmps60;go_wp2
 go_loopw [5,13] (fun _ iv wr=>∃k:Nat,k<=n/\iv=.int .i64 k/\Ab (Below w.heap.size w wr)) (fun _ iv _=>n-(intOf iv).toNat)
 case atStart=>exact⟨0,by omega,rfl,⟨Be _ _⟩⟩
 case round=>
  obtain⟨k,hk,rfl,HB⟩:=hrel
  by_cases hkn:k<n
  .obtain⟨a,hak⟩:∃a,Ns[k]? = some a:=⟨Ns[k]'(by rw[<-HLN.out];exact hkn),List.getElem?_eq_getElem _⟩
   obtain⟨bx,ox,rfl,hbx,hcx'⟩:=HX.out.at_ (by omega)
   obtain⟨u1,u2,u3,x1,x2,x3⟩:=hcx' k a hak;obtain⟨by_,oy,rfl,hby,hcy'⟩:=HY.out.at_ (by omega)
   obtain⟨t1,t2,t3,y1,y2⟩:=hcy' k a hak;have HCX:Ab (∀w',Below wr.heap.size wr w'->w'.cell? ⟨bx,ox+k,none⟩=some (.slice u1 u2 u3)):=⟨fun w' hb=>((Ae HB.out hb).cell (p:=⟨bx,ox+k,none⟩) hbx).trans x1⟩
   have HCY:Ab (∀w',Below wr.heap.size wr w'->w'.cell? ⟨by_,oy+k,none⟩=some (.slice t1 t2 t3)):=⟨fun w' hb=>((Ae HB.out hb).cell (p:=⟨by_,oy+k,none⟩) hby).trans y1⟩
   have HFX:=Ac ((Fit.of x2 x3).below HB.out);have HFY:=Ac ((Aq.of y2).below HB.out);have hkn':(k:Int)<n:=by omega
   have hnk:¬n<=k:=by omega
   clear hak hbx hcx' x1 x2 hby hcy' y1 y2;go_wp2;refine Ak (by kernel_rfl) (by kernel_rfl)
    [some (.slice (some ⟨bx,ox,none⟩) n c),some (.int .i64 (k:Nat)),some (.pointer (some ⟨bx,ox+k,none⟩)),some (.agg #[.slice u1 u2 u3]),some (.slice (some ⟨by_,oy,none⟩) n d),some (.int .i64 (k:Nat)),some (.pointer (some ⟨by_,oy+k,none⟩)),some (.slice t1 t2 t3),none,some (.bool false)]
    [false,false,false,false,false,false,false,false,true,false] rfl
    (fun w1 w2=>Below w1.heap.size w1 w2)
    (fun _ w'=>Below wr.heap.size wr w')
    (fun i v w'=>match i with
     | 8=>v=.bool true
     | _=>True)
    ?_ (Be _ _).drew ?_ ?_
   .intro i v w1 w2 hf hb;split at hf
    .exact hf
    .trivial
   .simp only[Bh,Nat.reduceAdd];refine⟨?_,?_,?_,?_,?_,?_,?_,?_,?_,?_,trivial⟩
    all_goals intro D sp w' hD hW hdp hbx'
    case refine_3=>
     (with_reducible refine Ai (w1:=w') (v:=.pointer (some ⟨bx,ox+k,none⟩)) ?_ ?_ ?_)
     .simp[Region.wanted,yielded,Act.put,go_sem]
     .simp[execOp,Act.eval,Act.put,go_sem,hkn]
     .exact⟨rfl,rfl⟩
    case refine_4=>
     have c0:=HCX.out w' hbx'
     with_reducible refine Ag ?_ ?_
     all_goals simp[Region.wanted,yielded,execOp,Act.eval,Act.put,go_sem,c0]
    case refine_7=>
     (with_reducible refine Ai (w1:=w') (v:=.pointer (some ⟨by_,oy+k,none⟩)) ?_ ?_ ?_)
     .simp[Region.wanted,yielded,Act.put,go_sem]
     .simp[execOp,Act.eval,Act.put,go_sem,hkn]
     .exact⟨rfl,rfl⟩
    case refine_8=>
     have c0:=HCY.out w' hbx'
     with_reducible refine Ag ?_ ?_
     all_goals simp[Region.wanted,yielded,execOp,Act.eval,Act.put,go_sem,c0]
    case refine_9=>
     (with_reducible refine Aa (w1:=w') (f := 28) (args:=#[.agg #[.slice u1 u2 u3],.slice t1 t2 t3]) ?_ ?_ ?_)
     .simp[Region.wanted,yielded,Act.put,go_sem]
     .simp[Act.eval,Act.put,go_sem]
     .refine(bJ (HFX.out.below hbx') (HFY.out.below hbx') (by omega)).mono ?_;rintro en w9 ⟨_,rfl,rfl,hb⟩;exact⟨_,rfl,hb,rfl,Ae hbx' hb⟩
    case refine_10=>
     have k8:(sp 8)=.bool true:=(hdp 8 (mq (by kernel_rfl))).2
     with_reducible refine Ag ?_ ?_
     all_goals simp[Region.wanted,yielded,execOp,Act.eval,Act.put,go_sem,k8]
    all_goals ((with_reducible refine Ag ?_ ?_);all_goals first|(simp only[Region.wanted];done)|simp[Region.wanted,yielded,execOp,Act.eval,Act.put,go_sem])
   .intro sp w9 hsp hbx';have HB9:=Ac (Ae HB.out hbx');clear hsp hbx';simp only[An,Nat.reduceAdd];generalize sp 8=y8 at *
    go_simp
    go_wp2;go_roundw
    case rel=>exact⟨k+1,by omega,by go_num,HB9⟩
    case measure=>simp[intOf];omega
  .obtain rfl:k=n:=by omega
   have hkn':¬(k:Int)<k:=by omega
   go_wp2;go_ret;exact⟨_,rfl,rfl,HB.out⟩
def Jb (P i:Nat):List (List Nat)->Nat->Nat
 | [],v=>v
 | row::l,p=>Jb P i l (if i<row.length then p*row.getD i 0%P else p)
theorem Tf (P i:Nat):∀(l:List (List Nat)) (row:List Nat) (p:Nat),Jb P i (l++[row]) p=if i<row.length then Jb P i l p*row.getD i 0%P else Jb P i l p
 | [],_,_=>rfl
 | _::l,row,p=>Tf P i l row _
theorem aT {P i:Nat}(hP:0<P):∀(l:List (List Nat)) (p:Nat),p<=P->Jb P i l p<=P
 | [],_,h=>h
 | row::l,p,h=>aT hP l _ (by split;exact Nat.le_of_lt (Nat.mod_lt _ hP);exact h)
theorem Om {P:Nat}(i:Nat):∀(Ls:List (List Nat)) (acc:List Nat),(By P Ls acc).getD i 1=Jb P i Ls (acc.getD i 1)
 | [],_=>rfl
 | row::l,acc=>by
  show (By P l (Bg P acc row)).getD i 1=Jb P i l (if i<row.length then acc.getD i 1*row.getD i 0%P else acc.getD i 1);rw[Om i l (Bg P acc row)]
  congr 1
  by_cases h:i<row.length
  .rw[if_pos h,De,Nj P row acc i h];rfl
  .rw[if_neg h,De,Hc P row acc i (by omega),<-De]
theorem Ky {P:Nat}(i:Nat):∀(Ls:List (List Nat)) (acc:List Nat),decide (i<(By P Ls acc).length)=(decide (i<acc.length)||Ls.any fun row=>decide (i<row.length))
 | [],acc=>by
  show decide (i<acc.length)=(decide (i<acc.length)||false)
  rw[Bool.or_false]
 | row::l,acc=>by
  show decide (i<(By P l (Bg P acc row)).length)=_;rw[Ky i l (Bg P acc row),Dz,List.any_cons,<-Bool.or_assoc]
  congr 1
  rw[Bool.eq_iff_iff];simp only[decide_eq_true_eq,Bool.or_eq_true];omega
theorem gO {α:Type}(f:α->Bool)(l:List α)(a:α):(l++[a]).any f=(l.any f||f a):=by simp
structure To (w:World) (p:Option Addr) (n:Nat) (Ls:List (List Nat)):Prop where
 len:n=Ls.length
 at_:0<n->∃b off,p=some ⟨b,off,none⟩/\b<w.heap.size/\∀i L,Ls[i]? = some L->∃q m d,w.cell? ⟨b,off+i,none⟩=some (.slice q m d)/\Em w q m d L
theorem To.below {w w':World}{n:Nat}{p:Option Addr}{Ls:List (List Nat)}(h:To w p n Ls)(hb:Below w.heap.size w w'):To w' p n Ls:=by
 refine⟨h.len,fun h0=>?_⟩;obtain⟨b,off,h1,h2,h3⟩:=h.at_ h0
 exact⟨b,off,h1,Dj h2 hb.size,fun i L hL=>
  let ⟨q,m,d,k1,k2⟩:=h3 i L hL
  ⟨q,m,d,(hb.cell (p:=⟨b,off+i,none⟩) h2).trans k1,k2.below hb⟩⟩
theorem Rr {w:World}{v:Value}{P Q G H n c:Nat}{p:Option Addr}{Ls:List (List Nat)}(h:Cz P Q G H v w)(hL:To w p n Ls)(lP:Aj P<=100000)(hP:2<=P)(hx:∀L∈Ls,∀x∈L,Aj x<=100000)(hl:∀L∈Ls,L.length<=1000)(hn:n<=1000)(hcap:n<=c)(hmax:c<=9223372036854775807) :
  Calls Tryz.prog 67 #[v,.slice p n c] w fun e w'=>∃u,e=.returned u/\Kv (By P Ls []).length (By P Ls []) u w'/\Below w.heap.size w w':=by
 obtain⟨p0,n0,c0,p1,n1,c1,p2,n2,c2,p3,n3,c3,rfl,h0,h1,h2,h3⟩:=h.ex;have hbx:Below w.heap.size w (w.alloc (.cells #[.slice p0 n0 c0,.slice p1 n1 c1,.slice p2 n2 c2,.slice p3 n3 c3] 30)):=Co;have hbo:=Cm.made 30 w (.slice p0 n0 c0) (.slice p1 n1 c1) (.slice p2 n2 c2) (.slice p3 n3 c3);obtain⟨wa,hwa⟩:∃wa,w.alloc (.cells #[.slice p0 n0 c0,.slice p1 n1 c1,.slice p2 n2 c2,.slice p3 n3 c3] 30)=wa:=⟨_,rfl⟩
 rw[hwa]at hbx hbo
 have HB:=Ac hbx;have HBX:=Ac hbo;have HV:Ab (Cz P Q G H (.agg #[.slice p0 n0 c0,.slice p1 n1 c1,.slice p2 n2 c2,.slice p3 n3 c3]) wa):=⟨⟨p0,n0,c0,p1,n1,c1,p2,n2,c2,p3,n3,c3,rfl,h0.below hbx,h1.below hbx,h2.below hbx,h3.below hbx⟩⟩
 have HPl:=Ac lP;have HP0:Ab (0<P):=⟨by omega⟩
 have HP2:=Ac hP;have HXS:=Ac hx;have HLL:=Ac hl;have HROWS:=Ac (hL.below hbx);have HLN:=Ac hL.len;obtain⟨RR,hRR⟩:∃l,By P Ls []=l:=⟨_,rfl⟩
 have HCOL:Ab (∀i,RR.getD i 1=Jb P i Ls 1):=⟨fun i=>by rw[<-hRR,Om];rfl⟩
 have HTH:Ab (∀i,decide (i<RR.length)=Ls.any fun row=>decide (i<row.length)):=⟨fun i=>by rw[<-hRR,Ky];simp⟩
 have HRL:Ab (RR.length<=1000):=⟨by rw[<-hRR];exact Jf _ _ hl (by simp)⟩
 rw[hRR];have hrm:=Ew.made wa (Av wa.heap.size);have hbm:Below wa.heap.size wa (wa.alloc (.cells #[] 28)):=Co;obtain⟨wb,hwb⟩:∃wb,wa.alloc (.cells #[] 28)=wb:=⟨_,rfl⟩
 rw[hwb]at hrm hbm
 have HR0:=Ac hrm;have HBm:=Ac hbm;clear h h0 h1 h2 h3 hL hrm hbm hx hl lP hP hRR hbx hbo;go_enter Tryz.func67,Tryz.ntmps67;go_wp2;clear hwa hwb
 go_loopw [5,6,7,8,10] (fun vv iv _ _ _ wr=>∃(k:Nat) (us:List (Option Addr×Nat×Nat)),k<=RR.length/\iv=.int .i64 k/\Ab (Below wa.heap.size wa wr)/\Ab (Ew wr wa.heap.size vv us)/\Ab (Du wr us (RR.take k))) (fun _ iv _ _ _ _=>RR.length-(intOf iv).toNat)
 case atStart=>exact⟨0,[],by omega,rfl,HBm,HR0,⟨Du.nil _⟩⟩
 case round=>
  obtain⟨k,us,hk,rfl,HBr,HRr,HTr⟩:=hrel;obtain⟨pv,cv,hv⟩:=HRr.out.slice;obtain⟨nz,hnz⟩:∃l,us.length=l:=⟨_,rfl⟩
  rw[hnz]at hv
  subst hv;have hk9:k<=1000:=by have:=HRL.out;omega
  have HUS:Ab (us.length<=100000):=⟨by rw[HTr.out.len,List.length_take];omega⟩
  have HNZ:=Ac hnz;clear hnz
  go_wp2_with fail
  refine(Oi 1 wr (by decide)).mono ?_;rintro en w1 ⟨q1,m1,d1,rfl,hu1,hb1,_⟩;have HO1:Ab (Aq 1 (.slice q1 m1 d1) w1):=⟨Aq.of hu1⟩
  have B1:=Ac (Ae HBr.out hb1);have HR1:=Ac (HRr.out.below hb1);have HT1:=Ac (HTr.out.below hb1);clear hu1 hb1 HRr HTr;go_wp2
  go_loopw [7,8,10,17] (fun vp vt _ iv wr=>∃j:Nat,j<=n/\iv=.int .i64 j/\Ab (Aq (Jb P k (Ls.take j) 1) vp wr)/\vt=.bool ((Ls.take j).any fun row=>decide (k<row.length))/\Ab (Below w1.heap.size w1 wr)) (fun _ _ _ iv _=>n-(intOf iv).toNat)
  case atStart=>exact⟨0,by omega,rfl,HO1,rfl,⟨Be _ _⟩⟩
  case round=>
   obtain⟨j,hj,rfl,HPv,hvt,HBs⟩:=hrel;obtain⟨po,no,co,hpo⟩:∃pq nq cq,u7=.slice pq nq cq:=let ⟨a,b,d,e1,_⟩:=HPv.out;⟨a,b,d,e1⟩
   subst hpo
   by_cases hjn:j<n
   .obtain⟨L,hLj⟩:∃s,Ls[j]? = some s:=⟨Ls[j]'(by rw[<-HLN.out];exact hjn),List.getElem?_eq_getElem _⟩
    obtain⟨bb,off,rfl,hb,hc⟩:=HROWS.out.at_ (by omega)
    obtain⟨px,m,d,hc1,hc2⟩:=hc j L hLj;have HWs:=Ac (Ae B1.out HBs.out);have hcell:wr.cell? ⟨bb,off+j,none⟩=some (.slice px m d):=(HWs.out.cell (p:=⟨bb,off+j,none⟩) hb).trans hc1;have HLj:=Ac hc2;have HTK:Ab (Jb P k (Ls.take (j+1)) 1=if k<L.length then Jb P k (Ls.take j) 1*L.getD k 0%P else Jb P k (Ls.take j) 1):=⟨by rw[Cp hLj,Tf]⟩
    have HTT:Ab (((Ls.take (j+1)).any fun row=>decide (k<row.length))=(((Ls.take j).any fun row=>decide (k<row.length))||decide (k<L.length))):=⟨by rw[Cp hLj,gO]⟩
    have HCl:Ab (Aj (Jb P k (Ls.take j) 1)<=100000):=⟨Fo (El (aT HP0.out _ _ (by have:=HP2.out;omega))) HPl.out⟩
    have HXL:=Ac (HXS.out L (List.mem_of_getElem? hLj));have HML:=Ac hc2.len;have hm1:m<=1000:=by rw[hc2.len];exact HLL.out L (List.mem_of_getElem? hLj)
    have hdm:d<=9223372036854775807:=hc2.max;have hmd:m<=d:=hc2.cap;obtain⟨E0,hE0⟩:∃E,Jb P k (Ls.take j) 1=E:=⟨_,rfl⟩
    rw[hE0]at HPv HTK HCl
    have hjn':(j:Int)<n:=by omega
    have hnj:¬n<=j:=by omega
    clear hc hc1 hc2 hLj hb hE0
    by_cases hkm:k<m
    .obtain⟨b5,o5,rfl,hb5,hc5⟩:=HLj.out.at_ (by omega)
     obtain⟨a,hak⟩:∃a,L[k]? = some a:=⟨L[k]'(by rw[<-HML.out];exact hkm),List.getElem?_eq_getElem _⟩
     obtain⟨qa,ma,da,ca1,ca2⟩:=hc5 k a hak;have hga:L.getD k 0=a:=by rw[De,hak];rfl
     obtain⟨NN,hNN⟩:∃Z,E0*a%P=Z:=⟨_,rfl⟩
     have HNN:=Ac hNN;have HTK2:Ab (Jb P k (Ls.take (j+1)) 1=NN):=⟨by rw[HTK.out,if_pos (by rw[<-HML.out];exact hkm),hga,hNN]⟩
     have HTT2:Ab (((Ls.take (j+1)).any fun row=>decide (k<row.length))=true):=⟨by rw[HTT.out,decide_eq_true (by rw[<-HML.out];exact hkm),Bool.or_true]⟩
     have HAl:Ab (Aj a<=100000):=⟨HXL.out a (List.mem_of_getElem? hak)⟩
     have HCA:Ab (∀w',Below wr.heap.size wr w'->w'.cell? ⟨b5,o5+k,none⟩=some (.slice qa ma da)):=⟨fun w' hb=>((Ae HWs.out hb).cell (p:=⟨b5,o5+k,none⟩) hb5).trans ca1⟩
     have HA:=Ac ((Aq.of ca2).below HWs.out);have HPp:=Ac HPv.out;have HVw:=Ac (HV.out.below HWs.out);have HBXw:=Ac (HBX.out.below HWs.out HBX.out.lt);have hkm':(k:Int)<m:=by omega
     have hmk:¬m<=k:=by omega
     clear hc5 hb5 hak ca1 ca2 hga hNN HTK HTT HPv hvt;go_wp2;clear hcell;refine Ak (by kernel_rfl) (by kernel_rfl)
      [some (.agg #[.slice p0 n0 c0,.slice p1 n1 c1,.slice p2 n2 c2,.slice p3 n3 c3]),some (.slice po no co),some (.slice (some ⟨b5,o5,none⟩) m d),some (.int .i64 (k:Nat)),some (.pointer (some ⟨b5,o5+k,none⟩)),some (.slice qa ma da),none,none]
      [false,false,false,false,false,false,true,true] rfl
      (fun w1 w2=>Below w1.heap.size w1 w2)
      (fun _ w'=>Below wr.heap.size wr w')
      (fun i v w'=>match i with
       | 6=>Aq NN v w'
       | 7=>Aq NN v w'
       | _=>True)
      ?_ (Be _ _).drew ?_ ?_
     .intro i v w1 w2 hf hb;split at hf
      .exact hf.below hb
      .exact hf.below hb
      .trivial
     .simp only[Bh,Nat.reduceAdd];refine⟨?_,?_,?_,?_,?_,?_,?_,?_,trivial⟩
      all_goals intro D sp w' hD hW hdp hbx'
      case refine_1=>
       have hB4:=HBXw.out.below hbx' HBXw.out.lt;have g0:=hB4.cells.1;have g1:=hB4.cells.2.1;have g2:=hB4.cells.2.2.1;have g3:=hB4.cells.2.2.2
       with_reducible refine Ag ?_ ?_
       all_goals simp[Region.wanted,yielded,execOp,Act.eval,Act.put,go_sem,g0,g1,g2,g3]
      case refine_5=>
       (with_reducible refine Ai (w1:=w') (v:=.pointer (some ⟨b5,o5+k,none⟩)) ?_ ?_ ?_)
       .simp[Region.wanted,yielded,Act.put,go_sem]
       .simp[execOp,Act.eval,Act.put,go_sem,hkm]
       .exact⟨rfl,rfl⟩
      case refine_6=>
       have c0:=HCA.out w' hbx'
       with_reducible refine Ag ?_ ?_
       all_goals simp[Region.wanted,yielded,execOp,Act.eval,Act.put,go_sem,c0]
      case refine_7=>
       (with_reducible refine Aa (w1:=w') (f := 100) (args:=#[.agg #[.slice p0 n0 c0,.slice p1 n1 c1,.slice p2 n2 c2,.slice p3 n3 c3],.slice po no co,.slice qa ma da]) ?_ ?_ ?_)
       .simp[Region.wanted,yielded,Act.put,go_sem]
       .simp[Act.eval,Act.put,go_sem]
       .refine(Ox (HVw.out.below hbx') (HPp.out.below hbx') (HA.out.below hbx') HCl.out HAl.out HPl.out HP0.out).mono ?_;rintro en w9 ⟨u,rfl,hu,hb⟩;rw[HNN.out]at hu
        exact⟨u,rfl,hb,hu,Ae hbx' hb⟩
      case refine_8=>
       have k6:Aq NN (sp 6) w':=(hdp 6 (mq (by kernel_rfl))).2
       (with_reducible refine Ai (w1:=w') (v:=sp 6) ?_ ?_ ?_)
       .simp[Region.wanted,yielded,Act.put,go_sem]
       .simp[execOp,Act.eval,Act.put,go_sem]
       .exact⟨Be _ _,k6,hbx'⟩
      all_goals ((with_reducible refine Ag ?_ ?_);all_goals first|(simp only[Region.wanted];done)|simp[Region.wanted,yielded,execOp,Act.eval,Act.put,go_sem])
     .intro sp w9 hsp hb;obtain⟨qc,mc,dc,ec,hc⟩:Aq NN (sp 7) w9:=hsp 7 rfl;have HC:Ab (Aq (Jb P k (Ls.take (j+1)) 1) (.slice qc mc dc) w9):=⟨by rw[HTK2.out];exact Aq.of hc⟩
      have HB9:=Ac (Ae HBs.out hb);clear hsp hc hb;simp only[An,Nat.reduceAdd];rw[ec];clear ec;generalize sp 6=y6 at *
      go_simp
      go_wp2;go_roundw
      case rel=>exact⟨j+1,by omega,by go_num,HC,by rw[HTT2.out],HB9⟩
      case measure=>simp[intOf];omega
    .have HTK2:Ab (Jb P k (Ls.take (j+1)) 1=E0):=⟨by rw[HTK.out,if_neg (by rw[<-HML.out];exact hkm)]⟩
     have HTT2:Ab (((Ls.take (j+1)).any fun row=>decide (k<row.length))=((Ls.take j).any fun row=>decide (k<row.length))):=⟨by rw[HTT.out,decide_eq_false (by rw[<-HML.out];exact hkm),Bool.or_false]⟩
     have HC:Ab (Aq (Jb P k (Ls.take (j+1)) 1) (.slice po no co) wr):=⟨by rw[HTK2.out];exact HPv.out⟩
     have hkm':¬(k:Int)<m:=by omega
     obtain⟨VT,hVT⟩:∃v,((Ls.take j).any fun row=>decide (k<row.length))=v:=⟨_,rfl⟩
     rw[hVT]at hvt HTT2
     subst hvt;clear hVT HTK HTT;go_wp2;clear hcell;go_roundw
     case rel=>exact⟨j+1,by omega,by go_num,HC,by rw[HTT2.out],HBs⟩
     case measure=>simp[intOf];omega
   .obtain rfl:j=n:=by omega
    have hjn':¬(j:Int)<j:=by omega
    rw[List.take_of_length_le (by rw[<-HLN.out];exact Av _)]at hvt HPv
    rw[<-HTH.out k]at hvt
    rw[<-HCOL.out k]at HPv
    have HR2:=Ac (HR1.out.below HBs.out);have HT2:=Ac (HT1.out.below HBs.out);have HBw:=Ac (Ae B1.out HBs.out)
    by_cases hkR:k<RR.length
    .have hd:decide (k<RR.length)=true:=decide_eq_true hkR;rw[hd]at hvt
     subst hvt;obtain⟨NN,hNk⟩:∃N,RR[k]? = some N:=⟨RR[k]'hkR,List.getElem?_eq_getElem _⟩
     have hgn:RR.getD k 1=NN:=by rw[De,hNk];rfl
     rw[hgn]at HPv
     obtain⟨qc,mc,dc,ec,hc⟩:=HPv.out;simp only[Value.slice.injEq]at ec;obtain⟨rfl,rfl,rfl⟩:=ec;have HTK:Ab (RR.take (k+1)=RR.take k++[NN]):=⟨Cp hNk⟩
     have hb4:Below wr.heap.size wr (wr.alloc (.cells #[.slice po no co] 28)):=Co;have hx4:=Ko wr 28 (.slice po no co);have hn4:=Ay.below hc hb4;obtain⟨w4,hw4⟩:∃w4,wr.alloc (.cells #[.slice po no co] 28)=w4:=⟨_,rfl⟩
     rw[hw4]at hb4 hx4 hn4
     have hr4:=HR2.out.below hb4;have hsz:wa.heap.size<=w4.heap.size:=(Ae HBw.out hb4).size;obtain⟨v9,w9,happ,hr9,hg9,_⟩:=hr4.app (x:=(po,no,co)) hx4 hsz HUS.out 47 (c:=1);have HB9:Ab (Below wa.heap.size wa w9):=⟨(Ae HBw.out hb4).grown hg9 hsz (fun g hg=>(hr4.own hg).1)⟩
     have HR9:=Ac hr9;have HT9:Ab (Du w9 (us++[(po,no,co)]) (RR.take (k+1))):=⟨by
      rw[HTK.out];exact((HT2.out.below hb4).grown hr4 hg9).snoc (Ip hr4 hg9 hn4)⟩
     clear hc hb4 hx4 hn4 hr4 hsz hr9 hg9 hgn hNk hd HPv
     go_wp2_with (at_builtin;refine Lib.wpList_append_run _ rfl _ _ _ _ rfl _ _ rfl rfl _ _ happ ?_;refine Lw.out ?_)
     refine⟨?_⟩;clear happ;go_wp2;go_roundw
     case rel=>exact⟨k+1,_,by omega,by go_num,HB9,HR9,HT9⟩
     case measure=>simp[intOf];omega
    .have hd:decide (k<RR.length)=false:=decide_eq_false hkR;rw[hd]at hvt
     subst hvt;have hkR2:k=RR.length:=by omega
     have HT3:Ab (Du wr us RR):=⟨by
      have:=HT2.out
      rwa [List.take_of_length_le (by omega)]at this⟩
     obtain⟨q9,d9,e9,hp9⟩:=HR2.out.nlist HT3.out;simp only[Value.slice.injEq]at e9;obtain⟨rfl,e10,rfl⟩:=e9;subst e10;have HN9:=Ac hp9;have HBF:=Ac (Ae HB.out HBw.out);clear hp9 hd hkR2 HT3 HT2 HR2;go_wp2;go_ret;exact⟨_,rfl,⟨_,_,rfl,HN9.out⟩,HBF.out⟩
end Go.Proofs.YtnbmfaihlefgfaaGreatDoor
