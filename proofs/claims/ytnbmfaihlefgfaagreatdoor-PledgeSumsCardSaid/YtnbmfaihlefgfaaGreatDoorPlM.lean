/- Pledges over numbers. Of no program (stage 13). -/
import Derived.Test.YtnbmfaihlefgfaaGreatDoorCuT
set_option maxRecDepth 1000000
set_option maxHeartbeats 16000000
set_option linter.all false
namespace Go.Proofs.YtnbmfaihlefgfaaGreatDoor
open Go Go.RowKit Go.Proofs.YtnbmfaihlefgfaaGreatDoor.Flow
theorem Zh {w:World}{e n c:Nat}{p:Option Addr}{As:List Nat}(h:Bd w e p n c As)(i:Nat)(hn:n<=1000000) :
  Calls Tryz.prog 138 #[.slice p n c,.int .i64 i] w fun en w'=>∃x,en=.returned x/\Fit e (As.getD i 0) x w'/\Below w.heap.size w w':=by
 have hbx:=Af.made w (.slice none 0 0);have hbw:Below w.heap.size w (w.alloc (.cells #[.slice none 0 0] 36)):=Cy;obtain⟨wa,hwa⟩:∃x,w.alloc (.cells #[.slice none 0 0] 36)=x:=⟨_,rfl⟩
 rw[hwa]at hbx hbw
 have k1:=hbx.cell;have f1:=hbx.free;have hlen:=h.len;obtain⟨X0,hX0⟩:∃X,As.getD i 0=X:=⟨_,rfl⟩
 rw[hX0]
 by_cases hi:i<n
 .obtain⟨A,hA⟩:∃X,As[i]? = some X:=⟨As[i]'(by omega),List.getElem?_eq_getElem _⟩
  obtain⟨b,off,rfl,hb,hc⟩:=h.at_ (by omega)
  obtain⟨q,m,d,h1,h2,h3⟩:=hc i A hA;have hcell:wa.cell? ⟨b,off+i,none⟩=some (.slice q m d):=(hbw.cell (p:=⟨b,off+i,none⟩) hb).trans h1;have hg:As.getD i 0=A:=by rw[Dd,hA];rfl
  have HF:Ac (Fit e X0 (.agg #[.slice q m d]) (wa.setCell ⟨w.heap.size,0,none⟩ (.slice q m d))):=⟨by rw[<-hX0,hg];exact Fit.of ((h2.below hbw).store hbx _) h3⟩
  have HB:Ac (Below w.heap.size w (wa.setCell ⟨w.heap.size,0,none⟩ (.slice q m d))):=⟨hbw.setCell (Av _) _⟩
  have kz:(wa.setCell ⟨w.heap.size,0,none⟩ (.slice q m d)).cell? ⟨w.heap.size,0,none⟩=some (.slice q m d):=(hbx.set _).cell;have hi':(i:Int)<n:=by omega
  have hni:¬n<=i:=by omega
  clear h hc h1 h2 hb hA hg hbx hbw hX0;go_enter Tryz.func138,Tryz.ntmps138;go_wp2;exact bodyPost_ret (v:=.agg #[.slice q m d]) (by simp[results,Tryz.results138,go_sem,k1]) rfl ⟨_,rfl,HF.out,HB.out⟩
 .have hg:As.getD i 0=0:=by rw[Dd,List.getElem?_eq_none (by omega)];rfl
  have HF:Ac (Fit e X0 (.agg #[.slice none 0 0]) (wa.setCell ⟨w.heap.size,0,none⟩ (.slice none 0 0))):=⟨by rw[<-hX0,hg];exact Fit.of (Ah.nil _) (Ep e)⟩
  have HB:Ac (Below w.heap.size w (wa.setCell ⟨w.heap.size,0,none⟩ (.slice none 0 0))):=⟨hbw.setCell (Av _) _⟩
  have hi':¬(i:Int)<n:=by omega
  clear h hg hbx hbw hX0;go_enter Tryz.func138,Tryz.ntmps138;go_wp2;exact bodyPost_ret (v:=.agg #[.slice none 0 0]) (by simp[results,Tryz.results138,go_sem,k1]) rfl ⟨_,rfl,HF.out,HB.out⟩
theorem Zk {w:World}{r q e1 e2 n c m d:Nat}{p p2:Option Addr}{As Bs:List Nat}(hR:Ring w r q 33)(hA:Bd w e1 p n c As)(hB:Bd w e2 p2 m d Bs)(h1:e1<=200)(h2:e2<=200)(hn:n<=1000)(hm:m<=1000) :
  Calls Tryz.prog 76 #[.pointer (some ⟨r,0,none⟩),.slice p n c,.slice p2 m d] w fun en w'=>en=.returned (.slice (some ⟨w.heap.size,0,none⟩) (max n m) (max n m))/\Bd w' 33 (some ⟨w.heap.size,0,none⟩) (max n m) (max n m) (Mv q As Bs)/\Below w.heap.size w w':=by
 have HLA:=Aa hA.len;have HLB:=Aa hB.len;have HA:=Aa hA;have HB:=Aa hB;have HR:=Aa hR;obtain⟨L,hL⟩:∃L,max n m=L:=⟨_,rfl⟩
 have HLL:Ac ((Mv q As Bs).length=L):=⟨by rw[Fc,<-HLA.out,<-HLB.out,hL]⟩
 have hL1:L<=1000:=by omega
 rw[hL];have hmk:=fun w=>Rt L (by omega) w
 obtain⟨w0,hw0⟩:∃w0,w.alloc (.cells (madeCells #[.slice none 0 0] L) 36)=w0:=⟨_,rfl⟩
 have hb0:Below w.heap.size w w0:=by rw[<-hw0];exact(Bg _ _).alloc (Av _) _
 have HS0:Ac (Cz w0 w.heap.size (List.replicate L (none,0,0))):=⟨by rw[<-hw0];exact Cz.made w L⟩
 have HB0:=Aa hb0;clear hR hA hB hb0;have main:max (n:Int) (m:Int)=(L:Int):=by omega
 have hcase:((m:Int)=L/\(n:Int)<L/\(n:Int)<=L/\¬(L:Int)<n/\¬(L:Int)<=n/\max (n:Int) (L:Int)=L) ∨ ((n:Int)=L/\(m:Int)<=L/\¬(L:Int)<m/\max (L:Int) (m:Int)=L/\((L:Int)<=m ↔ m=L)/\((m:Int)<L ↔ m<L)):=by omega
 rcases hcase with ⟨hx1,hx2,hx3,hx4,hx5,hx6⟩|⟨hx1,hx2,hx3,hx4,hx5,hx6⟩
 all_goals
  go_enter Tryz.func76,Tryz.ntmps76;go_wp2;clear hx1 hx2 hx3 hx4 hx5 hx6
  go_loopw [8,19] (fun _ iv wr=>∃(k:Nat) (us:List (Option Addr×Nat×Nat)),k<=L/\iv=.int .i64 k/\us.length=L/\Ac (Cz wr w.heap.size us)/\Ac (Sl wr 33 us (Mv q As Bs) k)/\Ac (Below w.heap.size w wr)) (fun _ iv _=>L-(intOf iv).toNat)
  case atStart=>exact⟨0,List.replicate L (none,0,0),by omega,rfl,by simp,HS0,⟨fun j N hj=>by omega⟩,HB0⟩
  case round=>
   obtain⟨k,us,hk,rfl,hus,HSr,HVr,HBr⟩:=hrel
   by_cases hkn:k<L
   .have HUK:Ac (us[k]? = some (us[k]'(by omega))):=⟨List.getElem?_eq_getElem _⟩
    have HQ2:Ac (q<Ao 33):=⟨HR.out.lim⟩
    have HNk:Ac ((Mv q As Bs)[k]? = some ((As.getD k 0+Bs.getD k 0)%q)):=⟨Zv q As Bs k (by rw[<-HLA.out,<-HLB.out,hL];exact hkn)⟩
    have hkn':(k:Int)<L:=by omega
    have hnk:¬L<=k:=by omega
    clear hmk
    go_wp2_with fail
    refine(Zh (HA.out.below HBr.out) k (by omega)).mono ?_;rintro en w1 ⟨x1,rfl,f1,b1⟩;have F1:=Aa f1;have B1:=Aa (Ae HBr.out b1);have S1:=Aa (HSr.out.below b1 HSr.out.lt);have V1:=Aa (HVr.out.keep (B:=w.heap.size) (An.of b1 HBr.out.size));clear f1 b1
    go_wp2_with fail
    refine(Zh (HB.out.below B1.out) k (by omega)).mono ?_;rintro en w2 ⟨x2,rfl,f2,b2⟩;have F2:=Aa f2;have F1':=Aa (F1.out.below b2);have B2:=Aa (Ae B1.out b2);have S2:=Aa (S1.out.below b2 S1.out.lt);have V2:=Aa (V1.out.keep (B:=w.heap.size) (An.of b2 B1.out.size));clear f2 b2
    go_wp2_with fail
    refine(Jk (HR.out.below B2.out) F1'.out F2.out (by omega) (by omega)).mono ?_;rintro en w3 ⟨_,rfl,⟨pz,nz,cz,rfl,z1,z2⟩,b3⟩;have hs1:=S2.out.below b3 S2.out.lt;have c1:=hs1.cell HUK.out;have f1:=hs1.free k;have HS8:=Aa (hs1.set k pz nz cz);have HV8:=Aa (((V2.out.keep (An.of (B:=w.heap.size) b3 B2.out.size)).keep (An.store_row hs1 (Av _) k (.slice pz nz cz))).step (by omega) HNk.out (hs1.nat z1 k _) z2);have HB8:Ac (Below w.heap.size w (w3.setCell ⟨w.heap.size,k,none⟩ (.slice pz nz cz))):=⟨(Ae B2.out b3).setCell (Av _) _⟩
    have HLEN:Ac ((us.set k (pz,nz,cz)).length=L):=⟨by rw[List.length_set];exact hus⟩
    clear z1 b3 hs1;go_wp2;go_roundw
    case rel=>exact⟨k+1,us.set k (pz,nz,cz),by omega,by go_num,HLEN.out,HS8,HV8,HB8⟩
    case measure=>simp[intOf];omega
   .obtain rfl:k=L:=by omega
    have hkn':¬(k:Int)<k:=by omega
    have HPL:=Aa (HVr.out.plist HSr.out HLL.out (by omega));clear hmk;go_wp2;go_ret;exact⟨rfl,HPL.out,HBr.out⟩
theorem Yi (q x:Nat):∀l,Ta x l%q=Gl q x l%q
 | []=>rfl
 | c::l=>by
  show (c+x*Ta x l)%q=(c+Gl q x l*x%q)%q%q;rw[Nat.mod_mod,Nat.add_mod_mod,Nat.mul_comm x,<-Nat.add_mod_mod,Nat.mul_mod,Yi q x l,<-Nat.mul_mod,Nat.add_mod_mod]
theorem Vw {P x:Nat}(hP:2<=P):∀l,Gm P x l<P
 | []=>by show 1<P;omega
 | c::l=>Nat.mod_lt _ (by omega)
theorem eZ {w:World}{b P Q G H e ex n c X N:Nat}{p:Option Addr}{As:List Nat}{v:Value}(hG:Bb w b P Q G H)(hA:Bd w e p n c As)(hX:Fit ex X v w)(he:e<=200)(hex:ex<=200)(hn:n<=1000000)(hN:Gm P (X%Q) As=N) :
  Calls Tryz.prog 133 #[.pointer (some ⟨b,0,none⟩),.slice p n c,v] w fun en w'=>∃x,en=.returned x/\Fit 33 N x w'/\Below w.heap.size w w':=by
 subst hN;exact Yv hG hA hX he hex hn
theorem Um {w:World}{r q e ex n c X N:Nat}{p:Option Addr}{As:List Nat}{v:Value}(hR:Ring w r q 33)(hA:Bd w e p n c As)(hX:Fit ex X v w)(he:e<=200)(hex:ex<=200)(hn:n<=1000000)(hN:Gl q X As=N) :
  Calls Tryz.prog 33 #[.pointer (some ⟨r,0,none⟩),.slice p n c,v] w fun en w'=>∃x,en=.returned x/\Fit 33 N x w'/\Below w.heap.size w w':=by
 subst hN;exact jF hR hA hX he hex hn
def Cx (P Q G H s r:Nat):Nat:=G^(s%Q)%P*(H^(r%Q)%P)%P
theorem bD (P Q G H s r:Nat):Kj P 1 ([G,H].zip [s%Q,r%Q])=Cx P Q G H s r:=by
 show 1*(G^(s%Q)%P)%P*(H^(r%Q)%P)%P=G^(s%Q)%P*(H^(r%Q)%P)%P;rw[Nat.one_mul,Nat.mod_mod]
theorem Qp {P Q G H s r:Nat}(hP:0<P):Cx P Q G H s r<P:=Nat.mod_lt _ hP
theorem Rj {P Q G H:Nat}(hG:G^Q%P=1%P)(hH:H^Q%P=1%P)(s r:Nat):Cx P Q G H s r=G^s%P*(H^r%P)%P:=by
 unfold Cx;rw[<-Ln hG,<-Ln hH]
theorem Iu {P Q G H:Nat}(hG:G^Q%P=1%P)(hH:H^Q%P=1%P)(s r:Nat):Cx P Q G H s r=G^s*H^r%P:=by rw[Rj hG hH,<-Nat.mul_mod]
theorem Rk {P Q G H s r s' r':Nat}(hs:s%Q=s'%Q)(hr:r%Q=r'%Q):Cx P Q G H s r=Cx P Q G H s' r':=by
 unfold Cx;rw[hs,hr]
theorem Tv {P Q G H:Nat}(s:Nat):Cx P Q G H s 0=G^(s%Q)%P:=by
 unfold Cx;rw[Nat.zero_mod,Nat.pow_zero,<-Nat.mul_mod,Nat.mul_one]
theorem Tw {P Q G H:Nat}(hP:2<=P):Cx P Q G H 0 0=1:=by
 rw[Tv,Nat.zero_mod,Nat.pow_zero,Nat.mod_eq_of_lt (by omega)]
theorem iG {P Q G H:Nat}(hQ:2<=Q)(hG:G<P):Cx P Q G H 1 0=G:=by
 rw[Tv,Nat.mod_eq_of_lt (show 1<Q by omega),Nat.pow_one,Nat.mod_eq_of_lt hG]
theorem iH {P Q G H:Nat}(hG:G^Q%P=1%P)(hH:H^Q%P=1%P)(a b c d:Nat):Cx P Q G H a b*Cx P Q G H c d%P=Cx P Q G H ((a+c)%Q) ((b+d)%Q):=by
 rw[Rk (s:=(a+c)%Q) (s':=a+c) (r:=(b+d)%Q) (r':=b+d) (Nat.mod_mod _ _) (Nat.mod_mod _ _),Iu hG hH,Iu hG hH,Iu hG hH,<-Nat.mul_mod,Nat.pow_add,Nat.pow_add]
 congr 1
 generalize G^a=A;generalize H^b=B;generalize G^c=C;generalize H^d=D
 ac_rfl
def Qh (n:Nat)(l:List Nat):List Nat:=l++List.replicate (n-l.length) 0
theorem Hx {n:Nat}{l:List Nat}(h:l.length<=n):(Qh n l).length=n:=by simp[Qh];omega
theorem Xx {n i:Nat}{l:List Nat}(h:i<n):(Qh n l)[i]? = some (l.getD i 0):=by
 unfold Qh
 by_cases hi:i<l.length
 .rw[List.getElem?_append_left hi,Dd,List.getElem?_eq_getElem hi];rfl
 .rw[List.getElem?_append_right (by omega),List.getElem?_replicate,if_pos (by omega),Dd,List.getElem?_eq_none (by omega)];rfl
def Ch (P Q G H:Nat)(xs bs:List Nat):List Nat:=((Qh (max xs.length bs.length) xs).zip (Qh (max xs.length bs.length) bs)).map fun p=>Cx P Q G H p.1 p.2
theorem Gw (P Q G H:Nat)(xs bs:List Nat):(Ch P Q G H xs bs).length=max xs.length bs.length:=by
 unfold Ch;rw[List.length_map,List.length_zip,Hx (by omega),Hx (by omega),Nat.min_self]
theorem Lo (P Q G H:Nat)(xs bs:List Nat)(i:Nat)(h:i<max xs.length bs.length):(Ch P Q G H xs bs)[i]? = some (Cx P Q G H (xs.getD i 0) (bs.getD i 0)):=by
 unfold Ch;rw[List.getElem?_map,List.getElem?_zip_eq_some.2 (show _=some ((xs.getD i 0,bs.getD i 0):Nat×Nat).1/\_=some ((xs.getD i 0,bs.getD i 0):Nat×Nat).2 from ⟨Xx h,Xx h⟩)];rfl
theorem iF {P Q G H x:Nat}(hG:G^Q%P=1%P)(hH:H^Q%P=1%P):∀l:List (Nat×Nat),
  Gm P x (l.map fun p=>Cx P Q G H p.1 p.2)%P=G^Ta x (l.map (·.1))%P*(H^Ta x (l.map (·.2))%P)%P
 | []=>by
  show 1%P=1%P*(1%P)%P;rw[<-Nat.mul_mod]
 | (a,b)::l=>by
  have ih:=iF hG hH (x:=x) l;obtain⟨E,hE⟩:∃E,Gm P x (l.map fun p=>Cx P Q G H p.1 p.2)=E:=⟨_,rfl⟩
  obtain⟨h1,e1⟩:∃E,Ta x (l.map (·.1))=E:=⟨_,rfl⟩
  obtain⟨h2,e2⟩:∃E,Ta x (l.map (·.2))=E:=⟨_,rfl⟩
  rw[hE,e1,e2]at ih
  show Gm P x (l.map fun p=>Cx P Q G H p.1 p.2)^x%P*Cx P Q G H a b%P%P=G^(a+x*Ta x (l.map (·.1)))%P*(H^(b+x*Ta x (l.map (·.2)))%P)%P;rw[hE,e1,e2];have e:E^x%P=(G^h1*H^h2)^x%P:=by rw[Nat.pow_mod,ih,<-Nat.mul_mod,<-Nat.pow_mod]
  rw[Nat.mod_mod,e,Iu hG hH,<-Nat.mul_mod,<-Nat.mul_mod,Nat.mul_pow,<-Nat.pow_mul,<-Nat.pow_mul,Nat.pow_add,Nat.pow_add,Nat.mul_comm h1 x,Nat.mul_comm h2 x]
  congr 1
  generalize G^a=A;generalize H^b=B;generalize G^(x*h1)=C;generalize H^(x*h2)=D
  ac_rfl
theorem zip_fst {xs bs:List Nat}(h:xs.length=bs.length):(xs.zip bs).map (·.1)=xs:=List.map_fst_zip (by omega)
theorem kL {xs bs:List Nat}(h:xs.length=bs.length):(xs.zip bs).map (·.2)=bs:=List.map_snd_zip (by omega)
theorem Tx {P Q G H X:Nat}(hP:2<=P)(hQ:2<=Q)(hG:G^Q%P=1%P)(hH:H^Q%P=1%P)(xs bs:List Nat) :
  Gm P (X%Q) (Ch P Q G H xs bs)=Cx P Q G H (Gl Q X xs) (Gl Q X bs):=by
 have h1:=iF hG hH (x:=X%Q) ((Qh (max xs.length bs.length) xs).zip (Qh (max xs.length bs.length) bs));have hl:(Qh (max xs.length bs.length) xs).length=(Qh (max xs.length bs.length) bs).length:=by rw[Hx (by omega),Hx (by omega)]
 rw[zip_fst hl,kL hl,Nat.mod_eq_of_lt (Vw hP _)]at h1
 unfold Ch;rw[h1,Rj hG hH];have hx:∀l n,Ta (X%Q) (Qh n l)%Q=Gl Q X l%Q:=fun l n=>by
  rw[Yi,Rv];unfold Qh;rw[Vv hQ]
 rw[Tu hG (hx xs _),Tu hH (hx bs _)]
theorem nD {P Q y:Nat}(hP:2<=P)(hQ:0<Q)(h:y^Q%P=1%P):Nat.gcd P y=1:=by
 have h1:Nat.gcd P y ∣ y^Q:=Nat.dvd_trans (Nat.gcd_dvd_right _ _) (Nat.dvd_trans (by rw[Nat.pow_one];exact Nat.dvd_refl _) (Nat.pow_dvd_pow y (show 1<=Q from hQ)));have h2:Nat.gcd P y ∣ P*(y^Q/P):=Nat.dvd_trans (Nat.gcd_dvd_left _ _) (Nat.dvd_mul_right _ _);have h3:=Nat.div_add_mod (y^Q) P;rw[h,Nat.mod_eq_of_lt (by omega)]at h3
 have h5:y^Q-P*(y^Q/P)=1:=by omega
 have h4:Nat.gcd P y ∣ y^Q-P*(y^Q/P):=Nat.dvd_sub h1 h2;rw[h5]at h4
 exact Nat.dvd_one.1 h4
theorem Rh {P Q G i j:Nat}(hQ:Ce Q)(hP:2<=P)(hG:G^Q%P=1%P)(h1:G%P≠1%P)(hij:i<=j)(hj:j<Q)(h:G^i%P=G^j%P):i=j:=by
 have hq:=hQ.two;have hc:=Ri (nD hP (by omega) hG) hij h;rcases Nat.eq_zero_or_pos (j-i) with h0|h0
 .omega
 obtain⟨d,d0,dl,hd,hm⟩:=Uj (n:=Q) (by omega) hG;have k1:=Oo hd hm d0 hG;have k2:=Oo hd hm d0 hc;rcases hQ.2 d k1 with e|e
 .rw[e,Nat.pow_one]at hd
  exact absurd hd h1
 .have:=Nat.le_of_dvd h0 k2;omega
theorem kZ {P Q G i j:Nat}(hQ:Ce Q)(hP:2<=P)(hG:G^Q%P=1%P)(h1:G%P≠1%P)(hi:i<Q)(hj:j<Q)(h:G^i%P=G^j%P):i=j:=by
 rcases Nat.le_total i j with hl|hl
 .exact Rh hQ hP hG h1 hl hj h
 .exact(Rh hQ hP hG h1 hl hi h.symm).symm
theorem Xv {P Q G H s s' r:Nat}(hQ:Ce Q)(hP:2<=P)(hG:G^Q%P=1%P)(hH:H^Q%P=1%P)(h1:G%P≠1%P)(hs:s<Q)(hs':s'<Q):Cx P Q G H s r=Cx P Q G H s' r ↔ s=s':=by
 refine⟨fun h=>?_,fun h=>by rw[h]⟩;unfold Cx at h;rw[Nat.mod_eq_of_lt hs,Nat.mod_eq_of_lt hs',<-Nat.mul_mod,<-Nat.mul_mod]at h
 have hr:r%Q<=Q:=Nat.le_of_lt (Nat.mod_lt _ (by omega));have hY:H^(r%Q)*H^(Q-r%Q)%P=1%P:=by rw[<-Nat.pow_add,Nat.add_sub_cancel' hr,hH]
 have h2:∀A,A*H^(r%Q)*H^(Q-r%Q)%P=A%P:=fun A=>by rw[Nat.mul_assoc,Nat.mul_mod,hY,<-Nat.mul_mod,Nat.mul_one]
 have h3:G^s*H^(r%Q)*H^(Q-r%Q)%P=G^s'*H^(r%Q)*H^(Q-r%Q)%P:=by rw[Nat.mul_mod,h,<-Nat.mul_mod]
 rw[h2,h2]at h3
 exact kZ hQ hP hG h1 hs hs' h3
def Bj (P:Nat):List Nat->List Nat->List Nat
 | acc,[]=>acc
 | [],a::row=>1*a%P::Bj P [] row
 | c::acc,a::row=>c*a%P::Bj P acc row
theorem Jn (P:Nat)(acc:List Nat):Bj P acc []=acc:=by cases acc<;>rfl
theorem Dc (P:Nat):∀row acc,(Bj P acc row).length=max acc.length row.length
 | [],acc=>by rw[Jn];simp
 | a::row,[]=>by simp[Bj,Dc P row]
 | a::row,c::acc=>by simp only[Bj,List.length_cons,Dc P row];omega
theorem Lt (P:Nat):∀(row acc:List Nat) (i:Nat),i<row.length->(Bj P acc row)[i]? = some (acc.getD i 1*row.getD i 0%P)
 | [],_,_,h=>by simp at h
 | a::row,[],0,_=>by simp[Bj]
 | a::row,[],i+1,h=>by
  have:=Lt P row [] i (by simpa using h);simpa [Bj]using this
 | a::row,c::acc,0,_=>by simp[Bj]
 | a::row,c::acc,i+1,h=>by
  have:=Lt P row acc i (by simpa using h);simpa [Bj]using this
theorem Gh (P:Nat):∀(row acc:List Nat) (i:Nat),row.length<=i->(Bj P acc row)[i]? = acc[i]?
 | [],acc,i,_=>by rw[Jn]
 | a::row,[],i+1,h=>by
  have:=Gh P row [] i (by simpa using h);simpa [Bj]using this
 | a::row,c::acc,i+1,h=>by
  have:=Gh P row acc i (by simpa using h);simpa [Bj]using this
theorem Ml (P:Nat):∀(row acc:List Nat) (i a:Nat),acc.length<=i->row[i]? = some a->Bj P acc (row.take (i+1))=Bj P acc (row.take i)++[1*a%P]
 | [],_,_,_,_,h=>by simp at h
 | b::row,[],0,a,_,h=>by
  simp at h;subst h;simp[Bj]
 | b::row,[],i+1,a,_,h=>by
  have:=Ml P row [] i a (by simp) (by simpa using h);simpa [Bj]using this
 | b::row,c::acc,0,a,hl,h=>by simp at hl
 | b::row,c::acc,i+1,a,hl,h=>by
  have:=Ml P row acc i a (by simpa using hl) (by simpa using h);simpa [Bj]using this
theorem Rp (P:Nat):∀(row acc:List Nat) (i a c:Nat),acc[i]? = some c->row[i]? = some a->Bj P acc (row.take (i+1))=(Bj P acc (row.take i)).set i (c*a%P)
 | [],_,_,_,_,_,h=>by simp at h
 | b::row,[],i,a,c,hl,h=>by simp at hl
 | b::row,d::acc,0,a,c,hl,h=>by
  simp at h hl;subst h hl;simp[Bj,Jn]
 | b::row,d::acc,i+1,a,c,hl,h=>by
  have:=Rp P row acc i a c (by simpa using hl) (by simpa using h);simpa [Bj]using this
def Ee (P:Nat):List (List Nat)->List Nat->List Nat
 | [],acc=>acc
 | row::l,acc=>Ee P l (Bj P acc row)
theorem Nj (P:Nat):∀(l:List (List Nat)) (acc row:List Nat),Ee P (l++[row]) acc=Bj P (Ee P l acc) row
 | [],_,_=>rfl
 | _::l,_,_=>Nj P l _ _
theorem bE {P Q G H:Nat}(hP:2<=P)(hG:G^Q%P=1%P)(hH:H^Q%P=1%P)(xs bs cs ds:List Nat) :
  Ee P [Ch P Q G H xs bs,Ch P Q G H cs ds] []=Ch P Q G H (Mv Q xs cs) (Mv Q bs ds):=by
 show Bj P (Bj P [] (Ch P Q G H xs bs)) (Ch P Q G H cs ds)=_;have hl1:=Gw P Q G H xs bs;have hl2:=Gw P Q G H cs ds;have hl3:=Gw P Q G H (Mv Q xs cs) (Mv Q bs ds);rw[Fc,Fc]at hl3
 have hA:∀i,((Bj P [] (Ch P Q G H xs bs)).getD i 1)=Cx P Q G H (xs.getD i 0) (bs.getD i 0):=fun i=>by
  by_cases hi:i<max xs.length bs.length
  .rw[Dd,Lt P _ [] i (by rw[hl1];exact hi),Dd (l:=Ch P Q G H xs bs),Lo P Q G H xs bs i hi];show 1*Cx P Q G H (xs.getD i 0) (bs.getD i 0)%P=_;rw[Nat.one_mul,Nat.mod_eq_of_lt (Qp (by omega))]
  .rw[Dd,Gh P _ [] i (by rw[hl1];omega),Dd (l:=xs),List.getElem?_eq_none (show xs.length<=i by omega),Dd (l:=bs),List.getElem?_eq_none (show bs.length<=i by omega)];show 1=Cx P Q G H 0 0;rw[Tw hP]
 have hadd:∀(p r:List Nat) (i:Nat),(Mv Q p r).getD i 0=(p.getD i 0+r.getD i 0)%Q:=fun p r i=>by
  by_cases hi:i<max p.length r.length
  .rw[Dd,Zv Q p r i hi];rfl
  .rw[Dd,List.getElem?_eq_none (by rw[Fc];omega),Dd (l:=p),List.getElem?_eq_none (show p.length<=i by omega),Dd (l:=r),List.getElem?_eq_none (show r.length<=i by omega)];exact(Nat.zero_mod _).symm
 refine List.ext_getElem? fun i=>?_
 by_cases hi:i<max (max xs.length cs.length) (max bs.length ds.length)
 .rw[Lo P Q G H _ _ i (by rw[Fc,Fc];exact hi),hadd,hadd]
  by_cases h2:i<max cs.length ds.length
  .rw[Lt P _ _ i (by rw[hl2];exact h2),hA,Dd (l:=Ch P Q G H cs ds),Lo P Q G H cs ds i h2];show some (Cx P Q G H (xs.getD i 0) (bs.getD i 0)*Cx P Q G H (cs.getD i 0) (ds.getD i 0)%P)=_;rw[iH hG hH]
  .have k:=hA i;rw[Gh P _ _ i (by rw[hl2];omega)];have hlt:i<(Bj P [] (Ch P Q G H xs bs)).length:=by rw[Dc,hl1];simp;omega
   rw[Dd,List.getElem?_eq_getElem hlt]at k
   rw[List.getElem?_eq_getElem hlt];rw[show (Bj P [] (Ch P Q G H xs bs))[i]=Cx P Q G H (xs.getD i 0) (bs.getD i 0) from k,Dd (l:=cs),List.getElem?_eq_none (show cs.length<=i by omega),Dd (l:=ds),List.getElem?_eq_none (show ds.length<=i by omega)];refine congrArg some (Rk ?_ ?_)
   .show _=(xs.getD i 0+0)%Q%Q;rw[Nat.mod_mod,Nat.add_zero]
   .show _=(bs.getD i 0+0)%Q%Q;rw[Nat.mod_mod,Nat.add_zero]
 .rw[List.getElem?_eq_none (by rw[Dc,Dc,hl1,hl2];simp;omega),List.getElem?_eq_none (by rw[hl3];omega)]
end Go.Proofs.YtnbmfaihlefgfaaGreatDoor
