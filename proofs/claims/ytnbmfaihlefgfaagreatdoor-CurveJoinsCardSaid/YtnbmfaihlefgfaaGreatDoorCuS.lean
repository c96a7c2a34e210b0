/- Coefficients, sums and products of polynomials (curve.coefficient, Add, Mul). -/
import Derived.Test.YtnbmfaihlefgfaaGreatDoorCuM
set_option maxRecDepth 1000000
set_option maxHeartbeats 16000000
set_option linter.all false
namespace Go.Proofs.YtnbmfaihlefgfaaGreatDoor
open Go Go.RowKit Go.Proofs.YtnbmfaihlefgfaaGreatDoor.Flow
theorem aK {w:World}{e n c:Nat}{p:Option Addr}{As:List Nat}(h:Aw w e p n c As)(i:Nat)(hn:n<=1000000) :
  Calls Tryz.prog 138 #[.slice p n c,.int .i64 i] w fun en w'=>∃x,en=.returned x/\Fit e (As.getD i 0) x w'/\Below w.heap.size w w':=by
 have hbx:=Af.made w (.slice none 0 0);have hbw:Below w.heap.size w (w.alloc (.cells #[.slice none 0 0] 36)):=Dl;obtain⟨wa,hwa⟩:∃x,w.alloc (.cells #[.slice none 0 0] 36)=x:=⟨_,rfl⟩
 rw[hwa]at hbx hbw
 have k1:=hbx.cell;have f1:=hbx.free;have hlen:=h.len;obtain⟨X0,hX0⟩:∃X,As.getD i 0=X:=⟨_,rfl⟩
 rw[hX0]
 by_cases hi:i<n
 .obtain⟨A,hA⟩:∃X,As[i]? = some X:=⟨As[i]'(by omega),List.getElem?_eq_getElem _⟩
  obtain⟨b,off,rfl,hb,hc⟩:=h.at_ (by omega)
  obtain⟨q,m,d,h1,h2,h3⟩:=hc i A hA;have hcell:wa.cell? ⟨b,off+i,none⟩=some (.slice q m d):=(hbw.cell (p:=⟨b,off+i,none⟩) hb).trans h1;have hg:As.getD i 0=A:=by rw[Ex,hA];rfl
  have HF:Ab (Fit e X0 (.agg #[.slice q m d]) (wa.setCell ⟨w.heap.size,0,none⟩ (.slice q m d))):=⟨by rw[<-hX0,hg];exact Fit.of ((h2.below hbw).store hbx _) h3⟩
  have HB:Ab (Below w.heap.size w (wa.setCell ⟨w.heap.size,0,none⟩ (.slice q m d))):=⟨hbw.setCell (Av _) _⟩
  have kz:(wa.setCell ⟨w.heap.size,0,none⟩ (.slice q m d)).cell? ⟨w.heap.size,0,none⟩=some (.slice q m d):=(hbx.set _).cell;have hi':(i:Int)<n:=by omega
  have hni:¬n<=i:=by omega
  clear h hc h1 h2 hb hA hg hbx hbw hX0;go_enter Tryz.func138,Tryz.ntmps138;go_wp2;exact bodyPost_ret (v:=.agg #[.slice q m d]) (by simp[results,Tryz.results138,go_sem,k1]) rfl ⟨_,rfl,HF.out,HB.out⟩
 .have hg:As.getD i 0=0:=by rw[Ex,List.getElem?_eq_none (by omega)];rfl
  have HF:Ab (Fit e X0 (.agg #[.slice none 0 0]) (wa.setCell ⟨w.heap.size,0,none⟩ (.slice none 0 0))):=⟨by rw[<-hX0,hg];exact Fit.of (Ai.nil _) (Fj e)⟩
  have HB:Ab (Below w.heap.size w (wa.setCell ⟨w.heap.size,0,none⟩ (.slice none 0 0))):=⟨hbw.setCell (Av _) _⟩
  have hi':¬(i:Int)<n:=by omega
  clear h hg hbx hbw hX0;go_enter Tryz.func138,Tryz.ntmps138;go_wp2;exact bodyPost_ret (v:=.agg #[.slice none 0 0]) (by simp[results,Tryz.results138,go_sem,k1]) rfl ⟨_,rfl,HF.out,HB.out⟩
theorem mC {w:World}{r q e1 e2 n c m d:Nat}{p p2:Option Addr}{As Bs:List Nat}(hR:Ring w r q 33)(hA:Aw w e1 p n c As)(hB:Aw w e2 p2 m d Bs)(h1:e1<=200)(h2:e2<=200)(hn:n<=1000)(hm:m<=1000) :
  Calls Tryz.prog 76 #[.pointer (some ⟨r,0,none⟩),.slice p n c,.slice p2 m d] w fun en w'=>en=.returned (.slice (some ⟨w.heap.size,0,none⟩) (max n m) (max n m))/\Aw w' 33 (some ⟨w.heap.size,0,none⟩) (max n m) (max n m) (Oa q As Bs)/\Below w.heap.size w w':=by
 have HLA:=Aa hA.len;have HLB:=Aa hB.len;have HA:=Aa hA;have HB:=Aa hB;have HR:=Aa hR;obtain⟨L,hL⟩:∃L,max n m=L:=⟨_,rfl⟩
 have HLL:Ab ((Oa q As Bs).length=L):=⟨by rw[Rd,<-HLA.out,<-HLB.out,hL]⟩
 have hL1:L<=1000:=by omega
 rw[hL];have hmk:=fun w=>Oq L (by omega) w
 obtain⟨w0,hw0⟩:∃w0,w.alloc (.cells (madeCells #[.slice none 0 0] L) 36)=w0:=⟨_,rfl⟩
 have hb0:Below w.heap.size w w0:=by rw[<-hw0];exact(Br _ _).alloc (Av _) _
 have HS0:Ab (Du w0 w.heap.size (List.replicate L (none,0,0))):=⟨by rw[<-hw0];exact Du.made w L⟩
 have HB0:=Aa hb0;clear hR hA hB hb0;have main:max (n:Int) (m:Int)=(L:Int):=by omega
 have hcase:((m:Int)=L/\(n:Int)<L/\(n:Int)<=L/\¬(L:Int)<n/\¬(L:Int)<=n/\max (n:Int) (L:Int)=L) ∨ ((n:Int)=L/\(m:Int)<=L/\¬(L:Int)<m/\max (L:Int) (m:Int)=L/\((L:Int)<=m ↔ m=L)/\((m:Int)<L ↔ m<L)):=by omega
 rcases hcase with ⟨hx1,hx2,hx3,hx4,hx5,hx6⟩|⟨hx1,hx2,hx3,hx4,hx5,hx6⟩
 all_goals
  go_enter Tryz.func76,Tryz.ntmps76;go_wp2;clear hx1 hx2 hx3 hx4 hx5 hx6
  go_loopw [8,19] (fun _ iv wr=>∃(k:Nat) (us:List (Option Addr×Nat×Nat)),k<=L/\iv=.int .i64 k/\us.length=L/\Ab (Du wr w.heap.size us)/\Ab (Ob wr 33 us (Oa q As Bs) k)/\Ab (Below w.heap.size w wr)) (fun _ iv _=>L-(intOf iv).toNat)
  case atStart=>exact⟨0,List.replicate L (none,0,0),by omega,rfl,by simp,HS0,⟨fun j N hj=>by omega⟩,HB0⟩
  case round=>
   obtain⟨k,us,hk,rfl,hus,HSr,HVr,HBr⟩:=hrel
   by_cases hkn:k<L
   .have HUK:Ab (us[k]? = some (us[k]'(by omega))):=⟨List.getElem?_eq_getElem _⟩
    have HQ2:Ab (q<Ao 33):=⟨HR.out.lim⟩
    have HNk:Ab ((Oa q As Bs)[k]? = some ((As.getD k 0+Bs.getD k 0)%q)):=⟨mQ q As Bs k (by rw[<-HLA.out,<-HLB.out,hL];exact hkn)⟩
    have hkn':(k:Int)<L:=by omega
    have hnk:¬L<=k:=by omega
    clear hmk
    go_wp2_with fail
    refine(aK (HA.out.below HBr.out) k (by omega)).mono ?_;rintro en w1 ⟨x1,rfl,f1,b1⟩;have F1:=Aa f1;have B1:=Aa (Ae HBr.out b1);have S1:=Aa (HSr.out.below b1 HSr.out.lt);have V1:=Aa (HVr.out.keep (B:=w.heap.size) (Ap.of b1 HBr.out.size));clear f1 b1
    go_wp2_with fail
    refine(aK (HB.out.below B1.out) k (by omega)).mono ?_;rintro en w2 ⟨x2,rfl,f2,b2⟩;have F2:=Aa f2;have F1':=Aa (F1.out.below b2);have B2:=Aa (Ae B1.out b2);have S2:=Aa (S1.out.below b2 S1.out.lt);have V2:=Aa (V1.out.keep (B:=w.heap.size) (Ap.of b2 B1.out.size));clear f2 b2
    go_wp2_with fail
    refine(Jz (HR.out.below B2.out) F1'.out F2.out (by omega) (by omega)).mono ?_;rintro en w3 ⟨_,rfl,⟨pz,nz,cz,rfl,z1,z2⟩,b3⟩;have hs1:=S2.out.below b3 S2.out.lt;have c1:=hs1.cell HUK.out;have f1:=hs1.free k;have HS8:=Aa (hs1.set k pz nz cz);have HV8:=Aa (((V2.out.keep (Ap.of (B:=w.heap.size) b3 B2.out.size)).keep (Ap.store_row hs1 (Av _) k (.slice pz nz cz))).step (by omega) HNk.out (hs1.nat z1 k _) z2);have HB8:Ab (Below w.heap.size w (w3.setCell ⟨w.heap.size,k,none⟩ (.slice pz nz cz))):=⟨(Ae B2.out b3).setCell (Av _) _⟩
    have HLEN:Ab ((us.set k (pz,nz,cz)).length=L):=⟨by rw[List.length_set];exact hus⟩
    clear z1 b3 hs1;go_wp2;go_roundw
    case rel=>exact⟨k+1,us.set k (pz,nz,cz),by omega,by go_num,HLEN.out,HS8,HV8,HB8⟩
    case measure=>simp[intOf];omega
   .obtain rfl:k=L:=by omega
    have hkn':¬(k:Int)<k:=by omega
    have HPL:=Aa (HVr.out.plist HSr.out HLL.out (by omega));clear hmk;go_wp2;go_ret;exact⟨rfl,HPL.out,HBr.out⟩
def mZ (q L:Nat)(As Bs:List Nat)(w:World)(en:Ending)(w':World):Prop:=∃g acc,en=.returned (.slice (some ⟨g,0,none⟩) L L)/\Aw w' 33 (some ⟨g,0,none⟩) L L acc/\Tm q As Bs acc/\Below w.heap.size w w'
theorem lZ {w:World}{r q e1 e2 n c m d:Nat}{p p2:Option Addr}{As Bs:List Nat}(hR:Ring w r q 33)(hA:Aw w e1 p n c As)(hB:Aw w e2 p2 m d Bs)(h1:e1<=200)(h2:e2<=200)(hn:n<=1000)(hm:m<=1000)(hn0:0<n)(hm0:0<m) :
  Calls Tryz.prog 93 #[.pointer (some ⟨r,0,none⟩),.slice p n c,.slice p2 m d] w (mZ q (n+m-1) As Bs w):=by
 have HLA:=Aa hA.len;have HLB:=Aa hB.len;have HA:=Aa hA;have HB:=Aa hB;have HR:=Aa hR;have HQ0:Ab (0<q):=⟨by have:=hR.two;omega⟩
 have hn0':((n:Int)==0)=false:=by rw[beq_eq_false_iff_ne];omega
 have hm0':((m:Int)==0)=false:=by rw[beq_eq_false_iff_ne];omega
 obtain⟨L,hL⟩:∃L,n+m-1=L:=⟨_,rfl⟩
 rw[hL];have hL1:L<=2000:=by omega
 clear hR hA hB;go_enter Tryz.func93,Tryz.ntmps93
 go_wp2_with fail
 refine(Jj HR.out HA.out h1 hn).mono ?_;rintro en w1 ⟨rfl,p1,b1⟩;have P1:=Aa p1;have B1:=Aa b1;clear p1 b1
 go_wp2_with fail
 refine(Jj (HR.out.below B1.out) (HB.out.below B1.out) h2 hm).mono ?_;rintro en w2 ⟨rfl,p2',b2⟩;have P2:=Aa p2';have P1':=Aa (P1.out.below b2);have B2:=Aa (Ae B1.out b2);have HR2:=Aa (HR.out.below B2.out);have HRL:Ab (r<w2.heap.size):=⟨HR2.out.at_.lt⟩
 obtain⟨g1,hg1⟩:∃g,w.heap.size=g:=⟨_,rfl⟩
 obtain⟨g2,hg2⟩:∃g,w1.heap.size=g:=⟨_,rfl⟩
 rw[hg1]at P1'
 rw[hg2]at P2
 have HG1:=Aa hg1;simp only[hg1,hg2];clear p2' b2 P1 B1 hg1 hg2;have hwL:IntKind.i64.wrap ((n:Int)+m)=(n:Int)+m:=by rw[IntKind.wrap_i64];omega
 have hwL1:IntKind.i64.wrap ((n:Int)+m-1)=(L:Nat):=by rw[IntKind.wrap_i64];omega
 have hwL2:(n:Int)+m-1=(L:Nat):=by omega
 have hmk:=fun w=>Oq L (by omega) w
 obtain⟨gp,hgp⟩:∃g,w2.heap.size=g:=⟨_,rfl⟩
 obtain⟨w3,hw3⟩:∃w0,w2.alloc (.cells (madeCells #[.slice none 0 0] L) 36)=w0:=⟨_,rfl⟩
 have hb3:Below w2.heap.size w2 w3:=by rw[<-hw3];exact(Br _ _).alloc (Av _) _
 have hs3:Du w3 w2.heap.size (List.replicate L (none,0,0)):=by rw[<-hw3];exact Du.made w2 L
 rw[hgp]at hs3 HRL
 have HS3:=Aa hs3;have HB3:=Aa hb3;have HGP:=Aa hgp;obtain⟨Az,hAz⟩:∃l,(As.map fun x=>x%q)=l:=⟨_,rfl⟩
 obtain⟨Bz,hBz⟩:∃l,(Bs.map fun x=>x%q)=l:=⟨_,rfl⟩
 have HAZ:=Aa hAz;have HBZ:=Aa hBz;rw[hAz]at P1'
 rw[hBz]at P2
 have HLZ:Ab (Az.length=n/\Bz.length=m):=⟨by rw[<-hAz,<-hBz,List.length_map,List.length_map];exact⟨HLA.out.symm,HLB.out.symm⟩⟩
 have HP3:Ab (Ko q Az Bz 0 0 0 (List.replicate L 0)):=⟨by
  have:=Ko.start HQ0.out Az Bz 0
  rwa [HLZ.out.1,HLZ.out.2,hL]at this⟩
 have HV3:Ab (Ob w3 33 (List.replicate L (none,0,0)) (List.replicate L 0) L):=⟨fun j N hj hN=>by
  rw[List.getElem?_replicate,if_pos hj]at hN
  cases hN;exact⟨(none,0,0),by rw[List.getElem?_replicate,if_pos hj],Ai.nil _,Fj 33⟩⟩
 clear hs3 hb3 hAz hBz;go_wp2;clear hwL hwL1 hwL2 hw3 hmk hgp
 go_loopw [8,9,10,11,41] (fun _ _ _ _ iv wr=>∃(i:Nat) (us:List (Option Addr×Nat×Nat)) (acc:List Nat),i<=n/\iv=.int .i64 i/\us.length=L/\Ab (Du wr gp us)/\Ab (Ob wr 33 us acc L)/\Ab (Below w2.heap.size w2 wr)/\Ab (Ko q Az Bz i 0 0 acc)) (fun _ _ _ _ iv _=>n-(intOf iv).toNat)
 case atStart=>exact⟨0,List.replicate L (none,0,0),List.replicate L 0,by omega,rfl,by simp,HS3,HV3,HB3,HP3⟩
 case round=>
  obtain⟨i,us,acc,hi,rfl,hus,HSr,HVr,HBr,HPr⟩:=hrel
  by_cases hin:i<n
  .obtain⟨AA,hAi⟩:∃X,Az[i]? = some X:=⟨Az[i]'(by rw[HLZ.out.1];exact hin),List.getElem?_eq_getElem _⟩
   obtain⟨ba,offa,ea,hba,hca⟩:=P1'.out.at_ (by omega)
   simp only[Option.some.injEq,Addr.mk.injEq,and_true]at ea;obtain⟨rfl,rfl⟩:=ea;obtain⟨qa,ma,da,ha1,ha2,ha3⟩:=hca i AA hAi;rw[Nat.zero_add]at ha1
   obtain⟨ua,hua⟩:∃x:Option Addr×Nat×Nat,(qa,ma,da)=x:=⟨_,rfl⟩
   obtain rfl:qa=ua.1:=by rw[<-hua]
   obtain rfl:ma=ua.2.1:=by rw[<-hua]
   obtain rfl:da=ua.2.2:=by rw[<-hua]
   clear hua;have hcell:wr.cell? ⟨g1,i,none⟩=some (.slice ua.1 ua.2.1 ua.2.2):=(HBr.out.cell (p:=⟨g1,i,none⟩) hba).trans ha1;have hbw:Below wr.heap.size wr (wr.alloc (.cells #[.slice ua.1 ua.2.1 ua.2.2] 36)):=Dl;have hxa:=Af.made wr (.slice ua.1 ua.2.1 ua.2.2);obtain⟨wb,hwb⟩:∃wb,wr.alloc (.cells #[.slice ua.1 ua.2.1 ua.2.2] 36)=wb:=⟨_,rfl⟩
   rw[hwb]at hbw hxa
   obtain⟨b9,hb9⟩:∃b,wr.heap.size=b:=⟨_,rfl⟩
   rw[hb9]at hxa
   have HX9:=Aa hxa;have HBb:=Aa (Ae HBr.out hbw);have HSb:=Aa (HSr.out.below hbw HSr.out.lt);have HVb:=Aa (HVr.out.keep (B:=gp) (Ap.of hbw (by rw[<-HGP.out];exact HBr.out.size)));have HPb:=Aa (HPr.out.again AA);have HFA2:=Aa (Fit.of ha2 ha3);have HAI:=Aa hAi;have HG9:Ab (gp<b9):=⟨by rw[<-hb9];exact HSr.out.lt⟩
   have hin':(i:Int)<n:=by omega
   have hni:¬n<=i:=by omega
   clear hca ha1 ha2 hAi hbw hxa HSr HVr HPr hba;go_wp2;clear hwb hb9 hcell
   go_loopw [10,11,48] (fun _ _ iv wr=>∃(k:Nat) (us:List (Option Addr×Nat×Nat)) (acc:List Nat),k<=m/\iv=.int .i64 k/\us.length=L/\Ab (Du wr gp us)/\Ab (Ob wr 33 us acc L)/\Ab (Below w2.heap.size w2 wr)/\Ab (Ko q Az Bz i AA k acc)/\Ab (Af wr b9 (.slice ua.1 ua.2.1 ua.2.2))) (fun _ _ iv _=>m-(intOf iv).toNat)
   case atStart=>exact⟨0,us,acc,by omega,rfl,hus,HSb,HVb,HBb,HPb,HX9⟩
   case round=>
    clear HSb HVb HBb HPb HX9 hus HBr;obtain⟨k,us,acc,hk,rfl,hus,HSr,HVr,HBr,HPr,HX9⟩:=hrel
    by_cases hkm:k<m
    .obtain⟨BB,hBk⟩:∃X,Bz[k]? = some X:=⟨Bz[k]'(by rw[HLZ.out.2];exact hkm),List.getElem?_eq_getElem _⟩
     obtain⟨bb,offb,eb,hbb,hcb⟩:=P2.out.at_ (by omega)
     simp only[Option.some.injEq,Addr.mk.injEq,and_true]at eb;obtain⟨rfl,rfl⟩:=eb;obtain⟨qb,mb,db,hb1,hb2,hb3⟩:=hcb k BB hBk;rw[Nat.zero_add]at hb1
     obtain⟨ub,hub⟩:∃x:Option Addr×Nat×Nat,(qb,mb,db)=x:=⟨_,rfl⟩
     obtain rfl:qb=ub.1:=by rw[<-hub]
     obtain rfl:mb=ub.2.1:=by rw[<-hub]
     obtain rfl:db=ub.2.2:=by rw[<-hub]
     clear hub;obtain⟨K,hK⟩:∃K,i+k=K:=⟨_,rfl⟩
     have hKL:K<L:=by omega
     have hal:acc.length=L:=by rw[HPr.out.len,HLZ.out.1,HLZ.out.2,hL]
     obtain⟨CC,hCK⟩:∃X,acc[K]? = some X:=⟨acc[K]'(by omega),List.getElem?_eq_getElem _⟩
     obtain⟨uo,huo,ho2,ho3⟩:=HVr.out K CC hKL hCK;have hcell:wr.cell? ⟨g2,k,none⟩=some (.slice ub.1 ub.2.1 ub.2.2):=(HBr.out.cell (p:=⟨g2,k,none⟩) hbb).trans hb1;have hbw:Below wr.heap.size wr (wr.alloc (.cells #[.slice ub.1 ub.2.1 ub.2.2] 36)):=Dl;have hxb:=Af.made wr (.slice ub.1 ub.2.1 ub.2.2);obtain⟨wc,hwc⟩:∃wb,wr.alloc (.cells #[.slice ub.1 ub.2.1 ub.2.2] 36)=wb:=⟨_,rfl⟩
     rw[hwc]at hbw hxb
     have HXB:=Aa hxb;have HX9c:=Aa (HX9.out.below hbw HX9.out.lt);have HBc:=Aa (Ae HBr.out hbw);have HSc:=Aa (HSr.out.below hbw HSr.out.lt);have HVc:=Aa (HVr.out.keep (B:=gp) (Ap.of hbw (by rw[<-HGP.out];exact HBr.out.size)));have HUK:=Aa huo;have HFO:=Aa ((Fit.of ho2 ho3).below hbw);have HFA:=Aa (HFA2.out.below HBc.out);have HFB:=Aa ((Fit.of hb2 hb3).below HBc.out);have HRb:=Aa (HR2.out.below HBc.out);obtain⟨Z,hZ⟩:∃Z,(CC+AA*BB%q)%q=Z:=⟨_,rfl⟩
     have HZ:=Aa hZ;have HPn:Ab (Ko q Az Bz i AA (k+1) (acc.set K Z)):=⟨by
      have:=HPr.out.step HQ0.out hBk (by rw[hK];exact hCK)
      rwa [hK,hZ]at this⟩
     have HAL:=Aa hal;have HBLE:Ab (gp<=wc.heap.size):=⟨by rw[<-HGP.out];exact HBc.out.size⟩
     have HNE:Ab (∀y∈([(b9,.cells #[.slice ua.1 ua.2.1 ua.2.2] 36 (0,0)),(wr.heap.size,.cells #[.slice ub.1 ub.2.1 ub.2.2] 36 (0,0))]:List (Nat×Obj)),y.1≠gp):=⟨by
      have h1:=HG9.out;have h2:=HX9.out.lt;intro y hy;simp only[List.mem_cons,List.not_mem_nil,or_false]at hy;rcases hy with rfl|rfl<;>simp only<;>omega⟩
     have HLLs:Ab (∀y∈([(b9,.cells #[.slice ua.1 ua.2.1 ua.2.2] 36 (0,0)),(wr.heap.size,.cells #[.slice ub.1 ub.2.1 ub.2.2] 36 (0,0))]:List (Nat×Obj)),wc.heap[y.1]? = some y.2):=⟨by
      intro y hy;simp only[List.mem_cons,List.not_mem_nil,or_false]at hy;rcases hy with rfl|rfl
      .exact HX9c.out
      .exact HXB.out⟩
     have hwK:IntKind.i64.wrap ((i:Int)+(k:Int))=(K:Nat):=by rw[IntKind.wrap_i64];omega
     have hLK:¬L<=K:=by omega
     have hkm':(k:Int)<m:=by omega
     have hmk':¬m<=k:=by omega
     clear hcb hb1 hb2 hBk hCK huo ho2 hbw hxb hZ hal HVr HSr HPr hbb;go_wp2;refine Am (by kernel_rfl) (by kernel_rfl)
      [some (.slice (some ⟨gp,0,none⟩) L L),some (.int .i64 (i:Nat)),some (.int .i64 (k:Nat)),some (.int .i64 (K:Nat)),some (.pointer (some ⟨r,0,none⟩)),some (.slice (some ⟨gp,0,none⟩) L L),some (.int .i64 (i:Nat)),some (.int .i64 (k:Nat)),some (.int .i64 (K:Nat)),some (.pointer (some ⟨gp,K,none⟩)),some (.agg #[.slice uo.1 uo.2.1 uo.2.2]),some (.pointer (some ⟨r,0,none⟩)),some (.agg #[.slice ua.1 ua.2.1 ua.2.2]),some (.agg #[.slice ub.1 ub.2.1 ub.2.2]),none,none,some (.pointer (some ⟨gp,K,none⟩)),none]
      [false,false,false,false,false,false,false,false,false,false,false,false,false,false,true,true,false,true] rfl
      (fun wA wB=>Ap (gp) wA wB)
      (fun D sp w'=>RG (gp) wc [(b9,.cells #[.slice ua.1 ua.2.1 ua.2.2] 36 (0,0)),(wr.heap.size,.cells #[.slice ub.1 ub.2.1 ub.2.2] 36 (0,0))] w'/\dQ (D 17) (gp) us K (Z) w')
      (fun i v w'=>match i with
       | 14=>Fit 33 (AA*BB%q) v w'
       | 15=>Fit 33 Z v w'
       | _=>True)
      ?_ ⟨RG.start HBLE.out HLLs.out,⟨fun _=>HSc.out,fun e=>by cases e⟩⟩ ?_ ?_
     .intro i v wA wB hf hb;split at hf
      .exact hf.keep hb
      .exact hf.keep hb
      .trivial
     .simp only[Bw,Nat.reduceAdd];refine⟨?_,?_,?_,?_,?_,?_,?_,?_,?_,?_,?_,?_,?_,?_,?_,?_,?_,?_,trivial⟩
      all_goals intro D sp w' hD hW hdp hg
      case refine_4|refine_9=>
       (with_reducible refine Ah (w1:=w') (v:=.int .i64 (K:Nat)) ?_ ?_ ?_)
       .simp[Region.wanted,yielded,Act.put,go_sem]
       .simp[execOp,Act.eval,Act.put,go_sem,hwK]
       .exact⟨rfl,rfl⟩
      case refine_10|refine_17=>
       (with_reducible refine Ah (w1:=w') (v:=.pointer (some ⟨gp,K,none⟩)) ?_ ?_ ?_)
       .simp[Region.wanted,yielded,Act.put,go_sem]
       .simp[execOp,Act.eval,Act.put,go_sem,hLK]
       .exact⟨rfl,rfl⟩
      case refine_11=>
       have c0:=(hg.2.z (hW 17 (mq (by kernel_rfl)))).cell HUK.out
       with_reducible refine Ad ?_ ?_
       all_goals simp[Region.wanted,yielded,execOp,Act.eval,Act.put,go_sem,c0]
      case refine_13=>
       have c0:w'.cell? ⟨b9,0,none⟩=some (.slice ua.1 ua.2.1 ua.2.2):=Af.cell (hg.1.of List.mem_cons_self)
       with_reducible refine Ad ?_ ?_
       all_goals simp[Region.wanted,yielded,execOp,Act.eval,Act.put,go_sem,c0]
      case refine_14=>
       have c0:w'.cell? ⟨wr.heap.size,0,none⟩=some (.slice ub.1 ub.2.1 ub.2.2):=Af.cell (hg.1.of (List.mem_cons_of_mem _ List.mem_cons_self))
       with_reducible refine Ad ?_ ?_
       all_goals simp[Region.wanted,yielded,execOp,Act.eval,Act.put,go_sem,c0]
      case refine_15=>
       (with_reducible refine Ac (w1:=w') (f := 48) (args:=#[.pointer (some ⟨r,0,none⟩),.agg #[.slice ua.1 ua.2.1 ua.2.2],.agg #[.slice ub.1 ub.2.1 ub.2.2]]) ?_ ?_ ?_)
       .simp[Region.wanted,yielded,Act.put,go_sem]
       .simp[Act.eval,Act.put,go_sem]
       .refine(Ds (HRb.out.keep HRL.out hg.1.keep) (HFA.out.keep hg.1.keep) (HFB.out.keep hg.1.keep) (by decide) (by decide)).mono ?_;rintro en w9 ⟨u,rfl,hu,hb⟩;exact⟨u,rfl,Ap.of hb hg.1.base,hu,hg.1.later hb,by simpa [upd]using hg.2.later hb⟩
      case refine_16=>
       have k14:Fit 33 (AA*BB%q) (sp 14) w':=(hdp 14 (mq (by kernel_rfl))).2
       (with_reducible refine Ac (w1:=w') (f := 47) (args:=#[.pointer (some ⟨r,0,none⟩),.agg #[.slice uo.1 uo.2.1 uo.2.2],sp 14]) ?_ ?_ ?_)
       .simp[Region.wanted,yielded,Act.put,go_sem]
       .simp[Act.eval,Act.put,go_sem]
       .refine(Jz (HRb.out.keep HRL.out hg.1.keep) (HFO.out.keep hg.1.keep) k14 (by decide) (by decide)).mono ?_;rintro en w9 ⟨u,rfl,hu,hb⟩;rw[HZ.out]at hu
        exact⟨u,rfl,Ap.of hb hg.1.base,hu,hg.1.later hb,by simpa [upd]using hg.2.later hb⟩
      case refine_18=>
       have hx:∃p n c,sp 15=.agg #[.slice p n c]/\Ai w' p n c (Z)/\Z<Ao (33):=(hdp 15 (mq (by kernel_rfl))).2
       (with_reducible refine Bp hx fun p hx1=>Bp hx1 fun n hx2=>Bp hx2 fun c hx3=>?_)
       have h1:=hx3.1;rw[hD]at hg
       have hs:=hg.2.1 rfl;have h6:=hs.cell HUK.out;have h7:=hs.free K
       (with_reducible refine Ar (w1:=w'.setCell ⟨gp,K,none⟩ (.slice p n c)) ?_ ?_ ?_)
       .simp[Region.wanted,yielded,Act.put,go_sem]
       .simp[execOp,Act.eval,Act.put,go_sem,h1,h6,h7]
       .refine⟨Ap.store_row hs (Av _) _ _,trivial,hg.1.store_row hs (Av _) HNE.out _ _,?_⟩;have h8:=hg.2.put hx3.2.1;simpa [upd]using h8
      all_goals ((with_reducible refine Ad ?_ ?_);all_goals first|(simp only[Region.wanted];done)|simp[Region.wanted,yielded,execOp,Act.eval,Act.put,go_sem])
     .intro sp w9 hsp hg;obtain⟨hg1,hg2⟩:=hg;obtain⟨pz,nz,cz,hs8,hn8⟩:=hg2.o rfl;have hl15:Fit 33 Z (sp 15) w9:=hsp 15 rfl;have HS8:=Aa hs8;have HV8:Ab (Ob w9 33 (us.set K (pz,nz,cz)) (acc.set K Z) L):=⟨fun j N hj hN=>by
       by_cases e:j=K
       .subst e;rw[List.getElem?_set_self (by rw[HAL.out];exact hj)]at hN;cases hN
        exact⟨(pz,nz,cz),by rw[List.getElem?_set_self (by rw[hus];exact hj)],hn8,hl15.lim⟩
       .rw[List.getElem?_set_ne (by omega)]at hN
        rw[List.getElem?_set_ne (by omega)];exact(HVc.out.keep hg1.keep) j N hj hN⟩
      have HB8:Ab (Below w2.heap.size w2 w9):=⟨by have:=HBc.out.trans (by rw[HGP.out];exact hg1.keep.bel);exact this⟩
      have g9:=hg1.of List.mem_cons_self;have HX8:Ab (Af w9 b9 (.slice ua.1 ua.2.1 ua.2.2)):=⟨g9⟩
      have HLEN:Ab ((us.set K (pz,nz,cz)).length=L):=⟨by rw[List.length_set];exact hus⟩
      clear hsp hg1 hg2 hs8 hn8 hl15 g9;simp only[An,Nat.reduceAdd];generalize sp 14=y14,sp 15=y15,sp 17=y17 at *
      go_simp
      go_wp2;go_roundw
      case rel=>exact⟨k+1,us.set K (pz,nz,cz),acc.set K Z,by omega,by go_num,HLEN.out,HS8,HV8,HB8,HPn,HX8⟩
      case measure=>simp[intOf];omega
    .obtain rfl:k=m:=by omega
     have hkm':¬(k:Int)<k:=by omega
     have HPn:Ab (Ko q Az Bz (i+1) 0 0 acc):=⟨by
      have h1:=HPr.out;have h2:k=Bz.length:=HLZ.out.2.symm;rw[h2]at h1
      exact h1.next HAI.out 0⟩
     clear HPr;go_wp2;go_roundw
     case rel=>exact⟨i+1,us,acc,by omega,by go_num,hus,HSr,HVr,HBr,HPn⟩
     case measure=>simp[intOf];omega
  .obtain rfl:i=n:=by omega
   have hin':¬(i:Int)<i:=by omega
   have HAL:Ab (acc.length=L):=⟨by rw[HPr.out.len,HLZ.out.1,HLZ.out.2,hL]⟩
   have HPL:=Aa (HVr.out.plist HSr.out HAL.out (by omega));have HPO:Ab (Tm q As Bs acc):=⟨by
    refine Tm.of_mod HQ0.out ?_;rw[HAZ.out,HBZ.out];have h1:=HPr.out;have h2:i=Az.length:=HLZ.out.1.symm;rw[h2]at h1
    exact⟨h1.len,h1.lt,h1.done⟩⟩
   have HBF:=Aa (Ae B2.out HBr.out);go_wp2;go_ret;exact⟨gp,acc,rfl,HPL.out,HPO.out,HBF.out⟩
end Go.Proofs.YtnbmfaihlefgfaaGreatDoor
