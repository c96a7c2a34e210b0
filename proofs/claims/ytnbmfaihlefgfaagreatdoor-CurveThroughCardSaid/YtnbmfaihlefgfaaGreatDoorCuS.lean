/- Coefficients, sums and products of polynomials (curve.coefficient, Add, Mul). -/
import Derived.Test.YtnbmfaihlefgfaaGreatDoorCuQ
set_option maxRecDepth 1000000
set_option maxHeartbeats 16000000
set_option linter.all false
namespace Go.Proofs.YtnbmfaihlefgfaaGreatDoor
open Go Go.RowKit Go.Proofs.YtnbmfaihlefgfaaGreatDoor.Flow
theorem Vd {w:World}{e n c:Nat}{p:Option Addr}{As:List Nat}(h:Au w e p n c As)(i:Nat)(hn:n<=1000000) :
  Calls Tryz.prog 138 #[.slice p n c,.int .i64 i] w fun en w'=>∃x,en=.returned x/\Fit e (As.getD i 0) x w'/\Below w.heap.size w w':=by
 have hbx:=Ad.made w (.slice none 0 0);have hbw:Below w.heap.size w (w.alloc (.cells #[.slice none 0 0] 36)):=Cu;obtain⟨wa,hwa⟩:∃x,w.alloc (.cells #[.slice none 0 0] 36)=x:=⟨_,rfl⟩
 rw[hwa]at hbx hbw
 have k1:=hbx.cell;have f1:=hbx.free;have hlen:=h.len;obtain⟨X0,hX0⟩:∃X,As.getD i 0=X:=⟨_,rfl⟩
 rw[hX0]
 by_cases hi:i<n
 .obtain⟨A,hA⟩:∃X,As[i]? = some X:=⟨As[i]'(by omega),List.getElem?_eq_getElem _⟩
  obtain⟨b,off,rfl,hb,hc⟩:=h.at_ (by omega)
  obtain⟨q,m,d,h1,h2,h3⟩:=hc i A hA;have hcell:wa.cell? ⟨b,off+i,none⟩=some (.slice q m d):=(hbw.cell (p:=⟨b,off+i,none⟩) hb).trans h1;have hg:As.getD i 0=A:=by rw[Dx,hA];rfl
  have HF:Aa (Fit e X0 (.agg #[.slice q m d]) (wa.setCell ⟨w.heap.size,0,none⟩ (.slice q m d))):=⟨by rw[<-hX0,hg];exact Fit.of ((h2.below hbw).store hbx _) h3⟩
  have HB:Aa (Below w.heap.size w (wa.setCell ⟨w.heap.size,0,none⟩ (.slice q m d))):=⟨hbw.setCell (Ar _) _⟩
  have kz:(wa.setCell ⟨w.heap.size,0,none⟩ (.slice q m d)).cell? ⟨w.heap.size,0,none⟩=some (.slice q m d):=(hbx.set _).cell;have hi':(i:Int)<n:=by omega
  have hni:¬n<=i:=by omega
  clear h hc h1 h2 hb hA hg hbx hbw hX0;go_enter Tryz.func138,Tryz.ntmps138;go_wp2;exact bodyPost_ret (v:=.agg #[.slice q m d]) (by simp[results,Tryz.results138,go_sem,k1]) rfl ⟨_,rfl,HF.out,HB.out⟩
 .have hg:As.getD i 0=0:=by rw[Dx,List.getElem?_eq_none (by omega)];rfl
  have HF:Aa (Fit e X0 (.agg #[.slice none 0 0]) (wa.setCell ⟨w.heap.size,0,none⟩ (.slice none 0 0))):=⟨by rw[<-hX0,hg];exact Fit.of (Ag.nil _) (Dm e)⟩
  have HB:Aa (Below w.heap.size w (wa.setCell ⟨w.heap.size,0,none⟩ (.slice none 0 0))):=⟨hbw.setCell (Ar _) _⟩
  have hi':¬(i:Int)<n:=by omega
  clear h hg hbx hbw hX0;go_enter Tryz.func138,Tryz.ntmps138;go_wp2;exact bodyPost_ret (v:=.agg #[.slice none 0 0]) (by simp[results,Tryz.results138,go_sem,k1]) rfl ⟨_,rfl,HF.out,HB.out⟩
theorem cR {w:World}{r q e1 e2 n c m d:Nat}{p p2:Option Addr}{As Bs:List Nat}(hR:Ring w r q 33)(hA:Au w e1 p n c As)(hB:Au w e2 p2 m d Bs)(h1:e1<=200)(h2:e2<=200)(hn:n<=1000)(hm:m<=1000) :
  Calls Tryz.prog 76 #[.pointer (some ⟨r,0,none⟩),.slice p n c,.slice p2 m d] w fun en w'=>en=.returned (.slice (some ⟨w.heap.size,0,none⟩) (max n m) (max n m))/\Au w' 33 (some ⟨w.heap.size,0,none⟩) (max n m) (max n m) (Kl q As Bs)/\Below w.heap.size w w':=by
 have HLA:=Ab hA.len;have HLB:=Ab hB.len;have HA:=Ab hA;have HB:=Ab hB;have HR:=Ab hR;obtain⟨L,hL⟩:∃L,max n m=L:=⟨_,rfl⟩
 have HLL:Aa ((Kl q As Bs).length=L):=⟨by rw[Ni,<-HLA.out,<-HLB.out,hL]⟩
 have hL1:L<=1000:=by omega
 rw[hL];have hmk:=fun w=>Pa L (by omega) w
 obtain⟨w0,hw0⟩:∃w0,w.alloc (.cells (madeCells #[.slice none 0 0] L) 36)=w0:=⟨_,rfl⟩
 have hb0:Below w.heap.size w w0:=by rw[<-hw0];exact(Aw _ _).alloc (Ar _) _
 have HS0:Aa (Ck w0 w.heap.size (List.replicate L (none,0,0))):=⟨by rw[<-hw0];exact Ck.made w L⟩
 have HB0:=Ab hb0;clear hR hA hB hb0;have main:max (n:Int) (m:Int)=(L:Int):=by omega
 have hcase:((m:Int)=L/\(n:Int)<L/\(n:Int)<=L/\¬(L:Int)<n/\¬(L:Int)<=n/\max (n:Int) (L:Int)=L) ∨ ((n:Int)=L/\(m:Int)<=L/\¬(L:Int)<m/\max (L:Int) (m:Int)=L/\((L:Int)<=m ↔ m=L)/\((m:Int)<L ↔ m<L)):=by omega
 rcases hcase with ⟨hx1,hx2,hx3,hx4,hx5,hx6⟩|⟨hx1,hx2,hx3,hx4,hx5,hx6⟩
 all_goals
  go_enter Tryz.func76,Tryz.ntmps76;go_wp2;clear hx1 hx2 hx3 hx4 hx5 hx6
  go_loopw [8,19] (fun _ iv wr=>∃(k:Nat) (us:List (Option Addr×Nat×Nat)),k<=L/\iv=.int .i64 k/\us.length=L/\Aa (Ck wr w.heap.size us)/\Aa (Lm wr 33 us (Kl q As Bs) k)/\Aa (Below w.heap.size w wr)) (fun _ iv _=>L-(intOf iv).toNat)
  case atStart=>exact⟨0,List.replicate L (none,0,0),by omega,rfl,by simp,HS0,⟨fun j N hj=>by omega⟩,HB0⟩
  case round=>
   obtain⟨k,us,hk,rfl,hus,HSr,HVr,HBr⟩:=hrel
   by_cases hkn:k<L
   .have HUK:Aa (us[k]? = some (us[k]'(by omega))):=⟨List.getElem?_eq_getElem _⟩
    have HQ2:Aa (q<Am 33):=⟨HR.out.lim⟩
    have HNk:Aa ((Kl q As Bs)[k]? = some ((As.getD k 0+Bs.getD k 0)%q)):=⟨dB q As Bs k (by rw[<-HLA.out,<-HLB.out,hL];exact hkn)⟩
    have hkn':(k:Int)<L:=by omega
    have hnk:¬L<=k:=by omega
    clear hmk
    go_wp2_with fail
    refine(Vd (HA.out.below HBr.out) k (by omega)).mono ?_;rintro en w1 ⟨x1,rfl,f1,b1⟩;have F1:=Ab f1;have B1:=Ab (Ae HBr.out b1);have S1:=Ab (HSr.out.below b1 HSr.out.lt);have V1:=Ab (HVr.out.keep (B:=w.heap.size) (Ao.of b1 HBr.out.size));clear f1 b1
    go_wp2_with fail
    refine(Vd (HB.out.below B1.out) k (by omega)).mono ?_;rintro en w2 ⟨x2,rfl,f2,b2⟩;have F2:=Ab f2;have F1':=Ab (F1.out.below b2);have B2:=Ab (Ae B1.out b2);have S2:=Ab (S1.out.below b2 S1.out.lt);have V2:=Ab (V1.out.keep (B:=w.heap.size) (Ao.of b2 B1.out.size));clear f2 b2
    go_wp2_with fail
    refine(He (HR.out.below B2.out) F1'.out F2.out (by omega) (by omega)).mono ?_;rintro en w3 ⟨_,rfl,⟨pz,nz,cz,rfl,z1,z2⟩,b3⟩;have hs1:=S2.out.below b3 S2.out.lt;have c1:=hs1.cell HUK.out;have f1:=hs1.free k;have HS8:=Ab (hs1.set k pz nz cz);have HV8:=Ab (((V2.out.keep (Ao.of (B:=w.heap.size) b3 B2.out.size)).keep (Ao.store_row hs1 (Ar _) k (.slice pz nz cz))).step (by omega) HNk.out (hs1.nat z1 k _) z2);have HB8:Aa (Below w.heap.size w (w3.setCell ⟨w.heap.size,k,none⟩ (.slice pz nz cz))):=⟨(Ae B2.out b3).setCell (Ar _) _⟩
    have HLEN:Aa ((us.set k (pz,nz,cz)).length=L):=⟨by rw[List.length_set];exact hus⟩
    clear z1 b3 hs1;go_wp2;go_roundw
    case rel=>exact⟨k+1,us.set k (pz,nz,cz),by omega,by go_num,HLEN.out,HS8,HV8,HB8⟩
    case measure=>simp[intOf];omega
   .obtain rfl:k=L:=by omega
    have hkn':¬(k:Int)<k:=by omega
    have HPL:=Ab (HVr.out.plist HSr.out HLL.out (by omega));clear hmk;go_wp2;go_ret;exact⟨rfl,HPL.out,HBr.out⟩
def dJ (q L:Nat)(As Bs:List Nat)(w:World)(en:Ending)(w':World):Prop:=∃g acc,en=.returned (.slice (some ⟨g,0,none⟩) L L)/\Au w' 33 (some ⟨g,0,none⟩) L L acc/\Pv q As Bs acc/\Below w.heap.size w w'
theorem cO {w:World}{r q e1 e2 n c m d:Nat}{p p2:Option Addr}{As Bs:List Nat}(hR:Ring w r q 33)(hA:Au w e1 p n c As)(hB:Au w e2 p2 m d Bs)(h1:e1<=200)(h2:e2<=200)(hn:n<=1000)(hm:m<=1000)(hn0:0<n)(hm0:0<m) :
  Calls Tryz.prog 93 #[.pointer (some ⟨r,0,none⟩),.slice p n c,.slice p2 m d] w (dJ q (n+m-1) As Bs w):=by
 have HLA:=Ab hA.len;have HLB:=Ab hB.len;have HA:=Ab hA;have HB:=Ab hB;have HR:=Ab hR;have HQ0:Aa (0<q):=⟨by have:=hR.two;omega⟩
 have hn0':((n:Int)==0)=false:=by rw[beq_eq_false_iff_ne];omega
 have hm0':((m:Int)==0)=false:=by rw[beq_eq_false_iff_ne];omega
 obtain⟨L,hL⟩:∃L,n+m-1=L:=⟨_,rfl⟩
 rw[hL];have hL1:L<=2000:=by omega
 clear hR hA hB;go_enter Tryz.func93,Tryz.ntmps93
 go_wp2_with fail
 refine(Jn HR.out HA.out h1 hn).mono ?_;rintro en w1 ⟨rfl,p1,b1⟩;have P1:=Ab p1;have B1:=Ab b1;clear p1 b1
 go_wp2_with fail
 refine(Jn (HR.out.below B1.out) (HB.out.below B1.out) h2 hm).mono ?_;rintro en w2 ⟨rfl,p2',b2⟩;have P2:=Ab p2';have P1':=Ab (P1.out.below b2);have B2:=Ab (Ae B1.out b2);have HR2:=Ab (HR.out.below B2.out);have HRL:Aa (r<w2.heap.size):=⟨HR2.out.at_.lt⟩
 obtain⟨g1,hg1⟩:∃g,w.heap.size=g:=⟨_,rfl⟩
 obtain⟨g2,hg2⟩:∃g,w1.heap.size=g:=⟨_,rfl⟩
 rw[hg1]at P1'
 rw[hg2]at P2
 have HG1:=Ab hg1;simp only[hg1,hg2];clear p2' b2 P1 B1 hg1 hg2;have hwL:IntKind.i64.wrap ((n:Int)+m)=(n:Int)+m:=by rw[IntKind.wrap_i64];omega
 have hwL1:IntKind.i64.wrap ((n:Int)+m-1)=(L:Nat):=by rw[IntKind.wrap_i64];omega
 have hwL2:(n:Int)+m-1=(L:Nat):=by omega
 have hmk:=fun w=>Pa L (by omega) w
 obtain⟨gp,hgp⟩:∃g,w2.heap.size=g:=⟨_,rfl⟩
 obtain⟨w3,hw3⟩:∃w0,w2.alloc (.cells (madeCells #[.slice none 0 0] L) 36)=w0:=⟨_,rfl⟩
 have hb3:Below w2.heap.size w2 w3:=by rw[<-hw3];exact(Aw _ _).alloc (Ar _) _
 have hs3:Ck w3 w2.heap.size (List.replicate L (none,0,0)):=by rw[<-hw3];exact Ck.made w2 L
 rw[hgp]at hs3 HRL
 have HS3:=Ab hs3;have HB3:=Ab hb3;have HGP:=Ab hgp;obtain⟨Az,hAz⟩:∃l,(As.map fun x=>x%q)=l:=⟨_,rfl⟩
 obtain⟨Bz,hBz⟩:∃l,(Bs.map fun x=>x%q)=l:=⟨_,rfl⟩
 have HAZ:=Ab hAz;have HBZ:=Ab hBz;rw[hAz]at P1'
 rw[hBz]at P2
 have HLZ:Aa (Az.length=n/\Bz.length=m):=⟨by rw[<-hAz,<-hBz,List.length_map,List.length_map];exact⟨HLA.out.symm,HLB.out.symm⟩⟩
 have HP3:Aa (Hq q Az Bz 0 0 0 (List.replicate L 0)):=⟨by
  have:=Hq.start HQ0.out Az Bz 0
  rwa [HLZ.out.1,HLZ.out.2,hL]at this⟩
 have HV3:Aa (Lm w3 33 (List.replicate L (none,0,0)) (List.replicate L 0) L):=⟨fun j N hj hN=>by
  rw[List.getElem?_replicate,if_pos hj]at hN
  cases hN;exact⟨(none,0,0),by rw[List.getElem?_replicate,if_pos hj],Ag.nil _,Dm 33⟩⟩
 clear hs3 hb3 hAz hBz;go_wp2;clear hwL hwL1 hwL2 hw3 hmk hgp
 go_loopw [8,9,10,11,41] (fun _ _ _ _ iv wr=>∃(i:Nat) (us:List (Option Addr×Nat×Nat)) (acc:List Nat),i<=n/\iv=.int .i64 i/\us.length=L/\Aa (Ck wr gp us)/\Aa (Lm wr 33 us acc L)/\Aa (Below w2.heap.size w2 wr)/\Aa (Hq q Az Bz i 0 0 acc)) (fun _ _ _ _ iv _=>n-(intOf iv).toNat)
 case atStart=>exact⟨0,List.replicate L (none,0,0),List.replicate L 0,by omega,rfl,by simp,HS3,HV3,HB3,HP3⟩
 case round=>
  obtain⟨i,us,acc,hi,rfl,hus,HSr,HVr,HBr,HPr⟩:=hrel
  by_cases hin:i<n
  .obtain⟨AA,hAi⟩:∃X,Az[i]? = some X:=⟨Az[i]'(by rw[HLZ.out.1];exact hin),List.getElem?_eq_getElem _⟩
   obtain⟨ba,offa,ea,hba,hca⟩:=P1'.out.at_ (by omega)
   simp only[Option.some.injEq,Addr.mk.injEq,and_true]at ea;obtain⟨rfl,rfl⟩:=ea;obtain⟨qa,ma,da,ha1,ha2,ha3⟩:=hca i AA hAi;rw[Nat.zero_add]at ha1
   obtain⟨ua,hua⟩:∃x:Option Addr×Nat×Nat,(qa,ma,da)=x:=⟨_,rfl⟩
   obtain rfl:qa=ua.1:=by rw[<-hua]
   obtain rfl:ma=ua.2.1:=by rw[<-hua]
   obtain rfl:da=ua.2.2:=by rw[<-hua]
   clear hua;have hcell:wr.cell? ⟨g1,i,none⟩=some (.slice ua.1 ua.2.1 ua.2.2):=(HBr.out.cell (p:=⟨g1,i,none⟩) hba).trans ha1;have hbw:Below wr.heap.size wr (wr.alloc (.cells #[.slice ua.1 ua.2.1 ua.2.2] 36)):=Cu;have hxa:=Ad.made wr (.slice ua.1 ua.2.1 ua.2.2);obtain⟨wb,hwb⟩:∃wb,wr.alloc (.cells #[.slice ua.1 ua.2.1 ua.2.2] 36)=wb:=⟨_,rfl⟩
   rw[hwb]at hbw hxa
   obtain⟨b9,hb9⟩:∃b,wr.heap.size=b:=⟨_,rfl⟩
   rw[hb9]at hxa
   have HX9:=Ab hxa;have HBb:=Ab (Ae HBr.out hbw);have HSb:=Ab (HSr.out.below hbw HSr.out.lt);have HVb:=Ab (HVr.out.keep (B:=gp) (Ao.of hbw (by rw[<-HGP.out];exact HBr.out.size)));have HPb:=Ab (HPr.out.again AA);have HFA2:=Ab (Fit.of ha2 ha3);have HAI:=Ab hAi;have HG9:Aa (gp<b9):=⟨by rw[<-hb9];exact HSr.out.lt⟩
   have hin':(i:Int)<n:=by omega
   have hni:¬n<=i:=by omega
   clear hca ha1 ha2 hAi hbw hxa HSr HVr HPr hba;go_wp2;clear hwb hb9 hcell
   go_loopw [10,11,48] (fun _ _ iv wr=>∃(k:Nat) (us:List (Option Addr×Nat×Nat)) (acc:List Nat),k<=m/\iv=.int .i64 k/\us.length=L/\Aa (Ck wr gp us)/\Aa (Lm wr 33 us acc L)/\Aa (Below w2.heap.size w2 wr)/\Aa (Hq q Az Bz i AA k acc)/\Aa (Ad wr b9 (.slice ua.1 ua.2.1 ua.2.2))) (fun _ _ iv _=>m-(intOf iv).toNat)
   case atStart=>exact⟨0,us,acc,by omega,rfl,hus,HSb,HVb,HBb,HPb,HX9⟩
   case round=>
    clear HSb HVb HBb HPb HX9 hus HBr;obtain⟨k,us,acc,hk,rfl,hus,HSr,HVr,HBr,HPr,HX9⟩:=hrel
    by_cases hkm:k<m
    .obtain⟨BB,hBk⟩:∃X,Bz[k]? = some X:=⟨Bz[k]'(by rw[HLZ.out.2];exact hkm),List.getElem?_eq_getElem _⟩
     obtain⟨bb,offb,eb,hbb,hcb⟩:=P2.out.at_ (by omega)
     simp only[Option.some.injEq,Addr.mk.injEq,and_true]at eb;obtain⟨rfl,rfl⟩:=eb;obtain⟨qb,mb,db,hb1,hb2,hb3⟩:=hcb k BB hBk;rw[Nat.zero_add]at hb1
     obtain⟨ub,hub⟩:∃x:Option Addr×Nat×Nat,(qb,mb,db)=x:=⟨_,rfl⟩
     obtain rfl:qb=ub.1:=by rw[<-hub]
     obtain rfl:mb=ub.2.1:=by rw[<-hub]
     obtain rfl:db=ub.2.2:=by rw[<-hub]
     clear hub;obtain⟨K,hK⟩:∃K,i+k=K:=⟨_,rfl⟩
     have hKL:K<L:=by omega
     have hal:acc.length=L:=by rw[HPr.out.len,HLZ.out.1,HLZ.out.2,hL]
     obtain⟨CC,hCK⟩:∃X,acc[K]? = some X:=⟨acc[K]'(by omega),List.getElem?_eq_getElem _⟩
     obtain⟨uo,huo,ho2,ho3⟩:=HVr.out K CC hKL hCK;have hcell:wr.cell? ⟨g2,k,none⟩=some (.slice ub.1 ub.2.1 ub.2.2):=(HBr.out.cell (p:=⟨g2,k,none⟩) hbb).trans hb1;have hbw:Below wr.heap.size wr (wr.alloc (.cells #[.slice ub.1 ub.2.1 ub.2.2] 36)):=Cu;have hxb:=Ad.made wr (.slice ub.1 ub.2.1 ub.2.2);obtain⟨wc,hwc⟩:∃wb,wr.alloc (.cells #[.slice ub.1 ub.2.1 ub.2.2] 36)=wb:=⟨_,rfl⟩
     rw[hwc]at hbw hxb
     have HXB:=Ab hxb;have HX9c:=Ab (HX9.out.below hbw HX9.out.lt);have HBc:=Ab (Ae HBr.out hbw);have HSc:=Ab (HSr.out.below hbw HSr.out.lt);have HVc:=Ab (HVr.out.keep (B:=gp) (Ao.of hbw (by rw[<-HGP.out];exact HBr.out.size)));have HUK:=Ab huo;have HFO:=Ab ((Fit.of ho2 ho3).below hbw);have HFA:=Ab (HFA2.out.below HBc.out);have HFB:=Ab ((Fit.of hb2 hb3).below HBc.out);have HRb:=Ab (HR2.out.below HBc.out);obtain⟨Z,hZ⟩:∃Z,(CC+AA*BB%q)%q=Z:=⟨_,rfl⟩
     have HZ:=Ab hZ;have HPn:Aa (Hq q Az Bz i AA (k+1) (acc.set K Z)):=⟨by
      have:=HPr.out.step HQ0.out hBk (by rw[hK];exact hCK)
      rwa [hK,hZ]at this⟩
     have HAL:=Ab hal;have HBLE:Aa (gp<=wc.heap.size):=⟨by rw[<-HGP.out];exact HBc.out.size⟩
     have HNE:Aa (∀y∈([(b9,.cells #[.slice ua.1 ua.2.1 ua.2.2] 36 (0,0)),(wr.heap.size,.cells #[.slice ub.1 ub.2.1 ub.2.2] 36 (0,0))]:List (Nat×Obj)),y.1≠gp):=⟨by
      have h1:=HG9.out;have h2:=HX9.out.lt;intro y hy;simp only[List.mem_cons,List.not_mem_nil,or_false]at hy;rcases hy with rfl|rfl<;>simp only<;>omega⟩
     have HLLs:Aa (∀y∈([(b9,.cells #[.slice ua.1 ua.2.1 ua.2.2] 36 (0,0)),(wr.heap.size,.cells #[.slice ub.1 ub.2.1 ub.2.2] 36 (0,0))]:List (Nat×Obj)),wc.heap[y.1]? = some y.2):=⟨by
      intro y hy;simp only[List.mem_cons,List.not_mem_nil,or_false]at hy;rcases hy with rfl|rfl
      .exact HX9c.out
      .exact HXB.out⟩
     have hwK:IntKind.i64.wrap ((i:Int)+(k:Int))=(K:Nat):=by rw[IntKind.wrap_i64];omega
     have hLK:¬L<=K:=by omega
     have hkm':(k:Int)<m:=by omega
     have hmk':¬m<=k:=by omega
     clear hcb hb1 hb2 hBk hCK huo ho2 hbw hxb hZ hal HVr HSr HPr hbb;go_wp2;refine Ak (by kernel_rfl) (by kernel_rfl)
      [some (.slice (some ⟨gp,0,none⟩) L L),some (.int .i64 (i:Nat)),some (.int .i64 (k:Nat)),some (.int .i64 (K:Nat)),some (.pointer (some ⟨r,0,none⟩)),some (.slice (some ⟨gp,0,none⟩) L L),some (.int .i64 (i:Nat)),some (.int .i64 (k:Nat)),some (.int .i64 (K:Nat)),some (.pointer (some ⟨gp,K,none⟩)),some (.agg #[.slice uo.1 uo.2.1 uo.2.2]),some (.pointer (some ⟨r,0,none⟩)),some (.agg #[.slice ua.1 ua.2.1 ua.2.2]),some (.agg #[.slice ub.1 ub.2.1 ub.2.2]),none,none,some (.pointer (some ⟨gp,K,none⟩)),none]
      [false,false,false,false,false,false,false,false,false,false,false,false,false,false,true,true,false,true] rfl
      (fun wA wB=>Ao (gp) wA wB)
      (fun D sp w'=>RG (gp) wc [(b9,.cells #[.slice ua.1 ua.2.1 ua.2.2] 36 (0,0)),(wr.heap.size,.cells #[.slice ub.1 ub.2.1 ub.2.2] 36 (0,0))] w'/\Xl (D 17) (gp) us K (Z) w')
      (fun i v w'=>match i with
       | 14=>Fit 33 (AA*BB%q) v w'
       | 15=>Fit 33 Z v w'
       | _=>True)
      ?_ ⟨RG.start HBLE.out HLLs.out,⟨fun _=>HSc.out,fun e=>by cases e⟩⟩ ?_ ?_
     .intro i v wA wB hf hb;split at hf
      .exact hf.keep hb
      .exact hf.keep hb
      .trivial
     .simp only[Bb,Nat.reduceAdd];refine⟨?_,?_,?_,?_,?_,?_,?_,?_,?_,?_,?_,?_,?_,?_,?_,?_,?_,?_,trivial⟩
      all_goals intro D sp w' hD hW hdp hg
      case refine_4|refine_9=>
       (with_reducible refine Ai (w1:=w') (v:=.int .i64 (K:Nat)) ?_ ?_ ?_)
       .simp[Region.wanted,yielded,Act.put,go_sem]
       .simp[execOp,Act.eval,Act.put,go_sem,hwK]
       .exact⟨rfl,rfl⟩
      case refine_10|refine_17=>
       (with_reducible refine Ai (w1:=w') (v:=.pointer (some ⟨gp,K,none⟩)) ?_ ?_ ?_)
       .simp[Region.wanted,yielded,Act.put,go_sem]
       .simp[execOp,Act.eval,Act.put,go_sem,hLK]
       .exact⟨rfl,rfl⟩
      case refine_11=>
       have c0:=(hg.2.z (hW 17 (mq (by kernel_rfl)))).cell HUK.out
       with_reducible refine Af ?_ ?_
       all_goals simp[Region.wanted,yielded,execOp,Act.eval,Act.put,go_sem,c0]
      case refine_13=>
       have c0:w'.cell? ⟨b9,0,none⟩=some (.slice ua.1 ua.2.1 ua.2.2):=Ad.cell (hg.1.of List.mem_cons_self)
       with_reducible refine Af ?_ ?_
       all_goals simp[Region.wanted,yielded,execOp,Act.eval,Act.put,go_sem,c0]
      case refine_14=>
       have c0:w'.cell? ⟨wr.heap.size,0,none⟩=some (.slice ub.1 ub.2.1 ub.2.2):=Ad.cell (hg.1.of (List.mem_cons_of_mem _ List.mem_cons_self))
       with_reducible refine Af ?_ ?_
       all_goals simp[Region.wanted,yielded,execOp,Act.eval,Act.put,go_sem,c0]
      case refine_15=>
       (with_reducible refine Ac (w1:=w') (f := 48) (args:=#[.pointer (some ⟨r,0,none⟩),.agg #[.slice ua.1 ua.2.1 ua.2.2],.agg #[.slice ub.1 ub.2.1 ub.2.2]]) ?_ ?_ ?_)
       .simp[Region.wanted,yielded,Act.put,go_sem]
       .simp[Act.eval,Act.put,go_sem]
       .refine(Dv (HRb.out.keep HRL.out hg.1.keep) (HFA.out.keep hg.1.keep) (HFB.out.keep hg.1.keep) (by decide) (by decide)).mono ?_;rintro en w9 ⟨u,rfl,hu,hb⟩;exact⟨u,rfl,Ao.of hb hg.1.base,hu,hg.1.later hb,by simpa [upd]using hg.2.later hb⟩
      case refine_16=>
       have k14:Fit 33 (AA*BB%q) (sp 14) w':=(hdp 14 (mq (by kernel_rfl))).2
       (with_reducible refine Ac (w1:=w') (f := 47) (args:=#[.pointer (some ⟨r,0,none⟩),.agg #[.slice uo.1 uo.2.1 uo.2.2],sp 14]) ?_ ?_ ?_)
       .simp[Region.wanted,yielded,Act.put,go_sem]
       .simp[Act.eval,Act.put,go_sem]
       .refine(He (HRb.out.keep HRL.out hg.1.keep) (HFO.out.keep hg.1.keep) k14 (by decide) (by decide)).mono ?_;rintro en w9 ⟨u,rfl,hu,hb⟩;rw[HZ.out]at hu
        exact⟨u,rfl,Ao.of hb hg.1.base,hu,hg.1.later hb,by simpa [upd]using hg.2.later hb⟩
      case refine_18=>
       have hx:∃p n c,sp 15=.agg #[.slice p n c]/\Ag w' p n c (Z)/\Z<Am (33):=(hdp 15 (mq (by kernel_rfl))).2
       (with_reducible refine Ba hx fun p hx1=>Ba hx1 fun n hx2=>Ba hx2 fun c hx3=>?_)
       have h1:=hx3.1;rw[hD]at hg
       have hs:=hg.2.1 rfl;have h6:=hs.cell HUK.out;have h7:=hs.free K
       (with_reducible refine Ap (w1:=w'.setCell ⟨gp,K,none⟩ (.slice p n c)) ?_ ?_ ?_)
       .simp[Region.wanted,yielded,Act.put,go_sem]
       .simp[execOp,Act.eval,Act.put,go_sem,h1,h6,h7]
       .refine⟨Ao.store_row hs (Ar _) _ _,trivial,hg.1.store_row hs (Ar _) HNE.out _ _,?_⟩;have h8:=hg.2.put hx3.2.1;simpa [upd]using h8
      all_goals ((with_reducible refine Af ?_ ?_);all_goals first|(simp only[Region.wanted];done)|simp[Region.wanted,yielded,execOp,Act.eval,Act.put,go_sem])
     .intro sp w9 hsp hg;obtain⟨hg1,hg2⟩:=hg;obtain⟨pz,nz,cz,hs8,hn8⟩:=hg2.o rfl;have hl15:Fit 33 Z (sp 15) w9:=hsp 15 rfl;have HS8:=Ab hs8;have HV8:Aa (Lm w9 33 (us.set K (pz,nz,cz)) (acc.set K Z) L):=⟨fun j N hj hN=>by
       by_cases e:j=K
       .subst e;rw[List.getElem?_set_self (by rw[HAL.out];exact hj)]at hN;cases hN
        exact⟨(pz,nz,cz),by rw[List.getElem?_set_self (by rw[hus];exact hj)],hn8,hl15.lim⟩
       .rw[List.getElem?_set_ne (by omega)]at hN
        rw[List.getElem?_set_ne (by omega)];exact(HVc.out.keep hg1.keep) j N hj hN⟩
      have HB8:Aa (Below w2.heap.size w2 w9):=⟨by have:=HBc.out.trans (by rw[HGP.out];exact hg1.keep.bel);exact this⟩
      have g9:=hg1.of List.mem_cons_self;have HX8:Aa (Ad w9 b9 (.slice ua.1 ua.2.1 ua.2.2)):=⟨g9⟩
      have HLEN:Aa ((us.set K (pz,nz,cz)).length=L):=⟨by rw[List.length_set];exact hus⟩
      clear hsp hg1 hg2 hs8 hn8 hl15 g9;simp only[Al,Nat.reduceAdd];generalize sp 14=y14,sp 15=y15,sp 17=y17 at *
      go_simp
      go_wp2;go_roundw
      case rel=>exact⟨k+1,us.set K (pz,nz,cz),acc.set K Z,by omega,by go_num,HLEN.out,HS8,HV8,HB8,HPn,HX8⟩
      case measure=>simp[intOf];omega
    .obtain rfl:k=m:=by omega
     have hkm':¬(k:Int)<k:=by omega
     have HPn:Aa (Hq q Az Bz (i+1) 0 0 acc):=⟨by
      have h1:=HPr.out;have h2:k=Bz.length:=HLZ.out.2.symm;rw[h2]at h1
      exact h1.next HAI.out 0⟩
     clear HPr;go_wp2;go_roundw
     case rel=>exact⟨i+1,us,acc,by omega,by go_num,hus,HSr,HVr,HBr,HPn⟩
     case measure=>simp[intOf];omega
  .obtain rfl:i=n:=by omega
   have hin':¬(i:Int)<i:=by omega
   have HAL:Aa (acc.length=L):=⟨by rw[HPr.out.len,HLZ.out.1,HLZ.out.2,hL]⟩
   have HPL:=Ab (HVr.out.plist HSr.out HAL.out (by omega));have HPO:Aa (Pv q As Bs acc):=⟨by
    refine Pv.of_mod HQ0.out ?_;rw[HAZ.out,HBZ.out];have h1:=HPr.out;have h2:i=Az.length:=HLZ.out.1.symm;rw[h2]at h1
    exact⟨h1.len,h1.lt,h1.done⟩⟩
   have HBF:=Ab (Ae B2.out HBr.out);go_wp2;go_ret;exact⟨gp,acc,rfl,HPL.out,HPO.out,HBF.out⟩
end Go.Proofs.YtnbmfaihlefgfaaGreatDoor
