/- The document's inverse; its Verify. -/
import Derived.Test.YtokhckjemidbpaaGreatDoorSdB
import Derived.Deep.LoopGhost
set_option maxRecDepth 1000000
set_option maxHeartbeats 16000000
set_option linter.all false
namespace Go.Proofs.YtokhckjemidbpaaGreatDoor
open Go Go.RowKit Go.Proofs.YtokhckjemidbpaaGreatDoor.Flow
theorem pN {M X q Y:Nat}(hM:2<=M):(M:Int) ∣ ((Ly X (q*Y%M) M:Nat):Int)-((X:Int)-(q:Nat)*(Y:Int)):=by
 rw[Wy hM,Nat.mod_mod];have hlt:=Nat.mod_lt (q*Y) (show 0<M by omega);obtain⟨A,hA⟩:∃A,X%M+M-q*Y%M=A:=⟨_,rfl⟩
 rw[hA];have e1:=Nat.div_add_mod A M;have e2:=Nat.div_add_mod X M;have e3:=Nat.div_add_mod (q*Y) M;refine⟨1-(A/M:Nat)-(X/M:Nat)+(q*Y/M:Nat),?_⟩;rw[Int.mul_add,Int.mul_sub,Int.mul_sub,Int.mul_one,<-Int.natCast_mul q Y,<-Int.natCast_mul,<-Int.natCast_mul,<-Int.natCast_mul];generalize M*(A/M)=x at *;generalize M*(X/M)=y at *;generalize M*(q*Y/M)=z at *;generalize q*Y%M=r at *;generalize q*Y=s at *;omega
theorem mH {U:Nat}:Ao U=1 ↔ U=1:=by
 constructor
 .intro h;have h1:=(Bg U 1).1 (by omega);rcases Nat.eq_zero_or_pos U with h0|h0
  .subst h0;have:Ao 0=0:=by decide
   omega
  .omega
 .intro h;subst h;decide
def jD (M N:Nat)(w:World)(en:Ending)(w':World):Prop :=
 ∃(x:Value) (X:Nat) (B:Bool),en=.returned (.tuple #[x,.bool B])/\Al X x w'/\(B=true ↔ Nat.gcd M N=1)/\(Nat.gcd M N=1->X<M/\X*N%M=1%M)/\Below w.heap.size w w'
theorem dJ {w:World}{v u:Value}{N M:Nat}(h:Al N v w)(k:Al M u w)(hM:2<=M)(lN:Ao N<=100000)(lM:Ao M<=100000) :
  Calls Tryz.prog 151 #[v,u] w (jD M N w):=by
 obtain⟨qn,mn,dn,rfl,hn⟩:=h;obtain⟨qm,mm,dm,rfl,hm⟩:=k;have HN:=Ab (Al.of hn);have HM:=Ab (Al.of hm);have HM2:=Ab hM;have HLN:Aa (Ao N<=900000):=⟨by omega⟩
 have HLM:=Ab lM;have HLM9:Aa (Ao M<=900000):=⟨by omega⟩
 have HMM:=Ab hm;have HSM:Aa (∀x,x<M->Ao x<=100000):=⟨fun x hx=>Dn (Ee (Nat.le_of_lt hx)) lM⟩
 clear hn hm hM lN lM;go_enter Tryz.func151,Tryz.ntmps151
 go_wp2_with fail
 refine(Gv HN.out HM.out HLN.out HLM9.out (by have:=HM2.out;omega)).mono ?_;rintro en w1 ⟨_,rfl,⟨qv,mv,dv,rfl,hv⟩,hb1⟩;have hbe:Below w1.heap.size w1 (w1.alloc (.cells #[] 4)):=Bx;have hx0:Bi (w1.alloc (.cells #[] 4)) (some ⟨w1.heap.size,0,none⟩) 0 0 0:=bF _ _ w1.heap.size 0 rfl (by simp);obtain⟨w2,hw2⟩:∃W,w1.alloc (.cells #[] 4)=W:=⟨_,rfl⟩
 rw[hw2]at hbe hx0
 obtain⟨bx,hbx⟩:∃b,w1.heap.size=b:=⟨_,rfl⟩
 rw[hbx]at hx0
 have HV:=Ab (hv.below hbe);have HX0:=Ab hx0;have HB2:=Ab (Ae hb1 hbe);clear hv hb1 hbe hx0
 go_wp2_with fail
 clear hw2 hbx;refine(Fb 1 w2 (by decide)).mono ?_;rintro en w3 ⟨qy,my,dy,rfl,hy,hb3,_⟩;have HU3:Aa (Bi w3 qm mm dm M):=⟨HMM.out.below (Ae HB2.out hb3)⟩
 have HV3:Aa (Bi w3 qv mv dv (N%M)):=⟨HV.out.below hb3⟩
 have HX3:Aa (Bi w3 (some ⟨bx,0,none⟩) 0 0 0):=⟨HX0.out.below hb3⟩
 have HY3:Aa (Bi w3 qy my dy 1):=⟨hy⟩
 have HB3:=Ab (Ae HB2.out hb3);clear hy hb3 HV HX0 HB2;go_wp2
 go_loopg [6,7,8,9] (N%M) (fun k uv vv xv yv wr=>∃(U X Y:Nat) (pu:Option Addr) (nu cu:Nat) (pv:Option Addr) (nv cv:Nat) (px:Option Addr) (nx cx:Nat) (py:Option Addr) (ny cy:Nat),uv=.slice pu nu cu/\vv=.slice pv nv cv/\xv=.slice px nx cx/\yv=.slice py ny cy/\Aa (Bi wr pu nu cu U)/\Aa (Bi wr pv nv cv k)/\Aa (Bi wr px nx cx X)/\Aa (Bi wr py ny cy Y)/\Aa (Uq M N U k X Y)/\Aa (k<U/\X<M/\Y<M)/\Aa (Below w.heap.size w wr))
 case atStart=>exact⟨M,0,1,qm,mm,dm,qv,mv,dv,some ⟨bx,0,none⟩,0,0,qy,my,dy,rfl,rfl,rfl,rfl,HU3,HV3,HX3,HY3,⟨Uq.start⟩,⟨Nat.mod_lt _ (by have:=HM2.out;omega),by have:=HM2.out;omega,by have:=HM2.out;omega⟩,HB3⟩
 case round=>
  obtain⟨U,X,Y,pu,nu,cu,pv,nv,cv,px,nx,cx,py,ny,cy,rfl,rfl,rfl,rfl,HU,HV,HX,HY,HD,HL,HB⟩:=hrel;clear HU3 HV3 HX3 HY3 HB3;have hnv:=Ch HV.out;have hnu:=Ch HU.out;have HMr:Aa (Al M (.slice qm mm dm) wr):=⟨HM.out.below HB.out⟩
  rcases Nat.eq_zero_or_pos gk with h0|h0
  .have hm0:nv=0:=by rw[hnv,h0];rfl
   have hdn:=(show Uq M N U 0 X Y from h0 ▸ HD.out).done;have HXM:Aa (X%M=X):=⟨Nat.mod_eq_of_lt HL.out.2.1⟩
   have HOf:=Ab (Gv (Al.of HX.out) HMr.out (by have:=HSM.out X HL.out.2.1;omega) HLM9.out (by have:=HM2.out;omega));obtain⟨B,hB⟩:∃B,((nu:Int)==1)=B:=⟨_,rfl⟩
   have HRES:Aa ((B=true ↔ Nat.gcd M N=1)/\(Nat.gcd M N=1->X<M/\X*N%M=1%M)):=⟨by
    rw[<-hdn.1];refine⟨?_,fun h1=>⟨HL.out.2.1,hdn.2 h1⟩⟩;rw[<-hB,beq_iff_eq,<-mH,<-hnu];omega⟩
   clear hnv hnu h0 hdn HU HV HX HY HD HL;subst hm0
   go_wp2_with fail
   refine HOf.out.mono ?_;rintro en w9 ⟨x,rfl,hx,hb⟩;rw[HXM.out]at hx
   have HXX:=Ab hx;have HBf:=Ab (Ae HB.out hb);clear hx hb HOf HB;go_wp2
   go_ret2
   exact⟨x,X,B,rfl,HXX.out,HRES.out.1,HRES.out.2,HBf.out⟩
  .have hm0:0<nv:=by rw[hnv];exact Ia h0
   have HLT:Aa (U%gk<gk):=⟨Nat.mod_lt _ h0⟩
   have H0:=Ab h0;have HBU:Aa (U<=M/\U/gk<=M):=⟨HD.out.le,Dn (Nat.div_le_self _ _) HD.out.le⟩
   have HlU:Aa (Ao U<=100000/\Ao gk<=100000/\Ao (U/gk)<=100000):=⟨Dn (Ee HBU.out.1) HLM.out,Dn (Ee (Dn (Nat.le_of_lt HL.out.1) HBU.out.1)) HLM.out,Dn (Ee HBU.out.2) HLM.out⟩
   clear hnv hnu h0
   go_wp2_with fail
   refine(Zf (Al.of HU.out) (Al.of HV.out) (by have:=HlU.out;omega) (by have:=HlU.out;omega) H0.out).mono ?_;rintro en w4 ⟨pq,nq,cq,pr,nr,cr,rfl,hq,hr,hb4⟩;have HQ4:=Ab hq;have HR4:=Ab hr;have HV4:=Ab (HV.out.below hb4);have HX4:=Ab (HX.out.below hb4);have HY4:=Ab (HY.out.below hb4);have HM4:=Ab (HMr.out.below hb4);have HB4:=Ab (Ae HB.out hb4);clear hq hr hb4 HU HV HX HY HMr HB
   go_wp2_with fail
   refine(Kp (Al.of HQ4.out) (Al.of HY4.out) HM4.out HlU.out.2.2 (HSM.out Y HL.out.2.2) HLM.out (by have:=HM2.out;omega)).mono ?_;rintro en w5 ⟨_,rfl,ht,hb5⟩;have HT5:=Ab ht;have HR5:=Ab (HR4.out.below hb5);have HV5:=Ab (HV4.out.below hb5);have HX5:=Ab (HX4.out.below hb5);have HY5:=Ab (HY4.out.below hb5);have HM5:=Ab (HM4.out.below hb5);have HB5:=Ab (Ae HB4.out hb5);clear ht hb5 HQ4 HR4 HV4 HX4 HY4 HM4 HB4
   go_wp2_with fail
   refine(lO (Al.of HX5.out) HT5.out HM5.out (HSM.out X HL.out.2.1) (HSM.out _ (Nat.mod_lt _ (by have:=HM2.out;omega))) HLM.out HM2.out).mono ?_;rintro en w6 ⟨_,rfl,⟨pz,nz,cz,rfl,hz⟩,hb6⟩;have HZ6:=Ab hz;have HR6:=Ab (HR5.out.below hb6);have HV6:=Ab (HV5.out.below hb6);have HY6:=Ab (HY5.out.below hb6);have HB6:=Ab (Ae HB5.out hb6);have HD6:Aa (Uq M N gk (U%gk) Y (Ly X (U/gk*Y%M) M)):=⟨HD.out.step HL.out.1 (pN HM2.out)⟩
   have HL6:Aa (U%gk<gk/\Y<M/\Ly X (U/gk*Y%M) M<M):=⟨HLT.out,HL.out.2.2,Wx HM2.out⟩
   clear hz hb6 HR5 HV5 HX5 HY5 HM5 HB5 HD HL HT5;go_wp2
   go_roundg (U%gk)
   case measure=>exact HLT.out
   case rel=>exact⟨gk,Y,_,pv,nv,cv,pr,nr,cr,py,ny,cy,pz,nz,cz,rfl,rfl,rfl,rfl,HV6,HR6,HY6,HZ6,HD6,HL6,HB6⟩
theorem aP {w:World}{v u:Value}{P Q G H A:Nat}(h:Cb P Q G H v w)(hu:Al A u w)(lA:Ao A<=100000)(lP:Ao P<=100000)(hP:2<=P) :
  Calls Tryz.prog 90 #[v,u] w fun e w'=>∃x,e=.returned x/\Al (Tt P A) x w'/\Below w.heap.size w w':=by
 obtain⟨p0,n0,c0,p1,n1,c1,p2,n2,c2,p3,n3,c3,rfl,h0,h1,h2,h3⟩:=h.ex;have hbx:Below w.heap.size w (w.alloc (.cells #[.slice p0 n0 c0,.slice p1 n1 c1,.slice p2 n2 c2,.slice p3 n3 c3] 30)):=Bx;have hbo:=Cu.made 30 w (.slice p0 n0 c0) (.slice p1 n1 c1) (.slice p2 n2 c2) (.slice p3 n3 c3);obtain⟨wa,hwa⟩:∃wa,w.alloc (.cells #[.slice p0 n0 c0,.slice p1 n1 c1,.slice p2 n2 c2,.slice p3 n3 c3] 30)=wa:=⟨_,rfl⟩
 rw[hwa]at hbx hbo
 have HB:=Ab hbx;have HBX:=Ab hbo;have HV:Aa (Cb P Q G H (.agg #[.slice p0 n0 c0,.slice p1 n1 c1,.slice p2 n2 c2,.slice p3 n3 c3]) wa):=⟨⟨p0,n0,c0,p1,n1,c1,p2,n2,c2,p3,n3,c3,rfl,h0.below hbx,h1.below hbx,h2.below hbx,h3.below hbx⟩⟩
 obtain⟨q0,m0,d0,rfl,hu0⟩:=hu;have HC:=Ab (dJ (Al.of (hu0.below hbx)) (Al.of (h0.below hbx)) hP lA lP);have HP:=Ab hP;have g0:=HBX.out.cells.1;clear h h0 h1 h2 h3 hbx hbo hu0 lA lP hP;go_enter Tryz.func90,Tryz.ntmps90
 go_wp2_with fail
 refine HC.out.mono ?_;rintro en w1 ⟨x,X,B,rfl,hx,hB,hI,hb1⟩;have HX:=Ab hx;have HB1:=Ab (Ae HB.out hb1)
 cases B with
 | true=>
  have HE:Aa (X=Tt P A):=⟨eN HP.out ⟨hI,fun h=>absurd (hB.1 rfl) h⟩⟩
  clear hx hb1 hB hI g0;go_wp2;go_ret;exact⟨x,rfl,by rw[<-HE.out];exact HX.out,HB1.out⟩
 | false=>
  have HE:Aa (Tt P A=0):=⟨(Ph HP.out A).2 (fun h=>by have:=hB.2 h;cases this)⟩
  have HN:Aa (Bi (w1.alloc (.cells #[] 4)) (some ⟨w1.heap.size,0,none⟩) 0 0 0):=⟨bF _ _ w1.heap.size 0 rfl (by simp)⟩
  have HB2:Aa (Below w.heap.size w (w1.alloc (.cells #[] 4))):=⟨Ae HB1.out ((Bb _ _).alloc (As _) _)⟩
  clear hx hb1 hB hI g0;go_wp2;go_ret;exact⟨_,rfl,by rw[HE.out];exact Al.of HN.out,HB2.out⟩
theorem fJ {p:Option Addr}{n c W:Nat}(hW:W<=n)(hc:n<=c)(w:World) :
  (Instr.sliceAt 23 (.slice p n c) none (some (.int .i64 (W:Int))) none).run Tryz.prog w=.ok (.slice p W c) w:=by
 have hel:Tryz.prog.elem 23 = 5 := by kernel_rfl
 have hu:Tryz.prog.underlying 23 = some (.slice (Tryz.prog.elem 23)):=by rw[hel];exact Tryz.underlying23
 rw[run_sliceAt_slice w 23 _ _ _ _ hu,run_slice_h w 23 _ _ _ hu .i64 _ (by omega) (by omega)];have hs:(sizeOf (Tryz.prog.elem 23)).run Tryz.prog w=.ok 1 w:=by rw[hel];simp[go_sem]
 rw[hs];simp only[Result.andThen_ok,sliced];have e:p.map (·.add (0*1))=p:=by
  cases p with
  | none=>rfl
  | some a=>obtain⟨b,off,sp⟩:=a;simp[Addr.add]
 rw[e];simp
theorem fI {p:Option Addr}{n c W:Nat}(hW:W<=n)(hc:n<=c)(hWc:W<c)(w:World) :
  (Instr.sliceAt 23 (.slice p n c) (some (.int .i64 (W:Int))) none none).run Tryz.prog w=.ok (.slice (p.map fun x=>x.add W) (n-W) (c-W)) w:=by
 have hel:Tryz.prog.elem 23 = 5 := by kernel_rfl
 have hu:Tryz.prog.underlying 23 = some (.slice (Tryz.prog.elem 23)):=by rw[hel];exact Tryz.underlying23
 rw[run_sliceAt_slice w 23 _ _ _ _ hu,run_slice_l w 23 _ _ _ hu .i64 _ (by omega) (by omega)];have hs:(sizeOf (Tryz.prog.elem 23)).run Tryz.prog w=.ok 1 w:=by rw[hel];simp[go_sem]
 rw[hs];have hne:¬c=W:=by omega
 simp[Result.andThen_ok,sliced,hne]
theorem Nx {w:World}{v u:Value}{P Q G H Y nm cm ns cs:Nat}{pm ps:Option Addr}{msg sig:List Nat}(h:Cb P Q G H v w)(hu:Al Y u w)(lY:Ao Y<=100000)(hG:G<P)(hQ:2<=Q)(hP:2<=P)(hPs:Ak P<=16)(hQs:Ak Q<=16)(hm:Ax w ⟨pm,nm,cm,msg⟩)(hz:pm=none->cm=0)(hn:nm<=1000)(hs:Ax w ⟨ps,ns,cs,sig⟩) :
  Calls Tryz.prog 28 #[v,u,.slice pm nm cm,.slice ps ns cs] w fun e w'=>∃X,e=.returned (.bool X)/\(X=true ↔ Cv P Q G Y msg sig)/\Below w.heap.size w w':=by
 obtain⟨p0,n0,c0,p1,n1,c1,p2,n2,c2,p3,n3,c3,rfl,h0,h1,h2,h3⟩:=h.ex;have hbx:Below w.heap.size w (w.alloc (.cells #[.slice p0 n0 c0,.slice p1 n1 c1,.slice p2 n2 c2,.slice p3 n3 c3] 30)):=Bx;have hbo:=Cu.made 30 w (.slice p0 n0 c0) (.slice p1 n1 c1) (.slice p2 n2 c2) (.slice p3 n3 c3);obtain⟨wa,hwa⟩:∃wa,w.alloc (.cells #[.slice p0 n0 c0,.slice p1 n1 c1,.slice p2 n2 c2,.slice p3 n3 c3] 30)=wa:=⟨_,rfl⟩
 rw[hwa]at hbx hbo
 have HB:=Ab hbx;have HBX:=Ab hbo;have HV:Aa (Cb P Q G H (.agg #[.slice p0 n0 c0,.slice p1 n1 c1,.slice p2 n2 c2,.slice p3 n3 c3]) wa):=⟨⟨p0,n0,c0,p1,n1,c1,p2,n2,c2,p3,n3,c3,rfl,h0.below hbx,h1.below hbx,h2.below hbx,h3.below hbx⟩⟩
 obtain⟨qy,my,dy,rfl,hy⟩:=hu;obtain⟨b3,hb3⟩:∃b,w.heap.size=b:=⟨_,rfl⟩
 have HBX:Aa (Cu 30 wa b3 (.slice p0 n0 c0) (.slice p1 n1 c1) (.slice p2 n2 c2) (.slice p3 n3 c3)):=⟨by rw[<-hb3];exact HBX.out⟩
 have HY:=Ab (Al.of (hy.below hbx));have HM:=Ab (hm.below hbx);have HZM:=Ab hz;have HNM:=Ab hn;have HQB:=Ab (Al.of (h1.below hbx));have HGB:=Ab (Al.of (h2.below hbx));have HSG:=Ab hs;have HBW:=Ab hbx;have HPf:=Ab hPs;have HQf:=Ab hQs;have HPl:Aa (Ao P<=100000):=⟨Gl hPs⟩
 have HQl:Aa (Ao Q<=100000):=⟨Gl hQs⟩
 have HQ0:Aa (0<Q):=⟨by omega⟩
 have HP0:Aa (0<P):=⟨by omega⟩
 have HP2:=Ab hP;have HGl:Aa (Ao G<=100000):=⟨By hG hPs⟩
 have HYb:=Ab lY;have hlen:ns=sig.length:=hs.row.len;have hcap:ns<=cs:=hs.row.cap;have hmax:cs<=9223372036854775807:=hs.row.max;obtain⟨W,hW⟩:∃W,Ak Q=W:=⟨_,rfl⟩
 have HW:=Ab hW;have hW1:1<=W:=Nat.pos_of_ne_zero fun h=>by
  have h3:=Dj Q;rw[hW,h]at h3
  have h5:Q<1:=h3;omega
 rw[hW]at hQs
 have HWD:=Ab (Pn HV.out HQl.out);have HMB:=Ab (Ny HV.out (show Bi wa qy my dy Y from hy.below hbx) HPl.out HQl.out HYb.out HP0.out);have g0:=HBX.out.cells.1;have g1:=HBX.out.cells.2.1;have g2:=HBX.out.cells.2.2.1;have g3:=HBX.out.cells.2.2.2;clear h h0 h1 h2 h3 hbx hbo hy lY hG hQ hP hPs hm hz hn hs hW
 by_cases hnl:ns=2*W
 .have hne:((ns:Int)!=2*(W:Int))=false:=by rw[hnl];simp
  have hWn:W<=ns:=by omega
  have hS1:=fun w'=>fJ (p:=ps) (n:=ns) (c:=cs) (W:=W) hWn hcap w'
  have hS2:=fun w'=>fI (p:=ps) (n:=ns) (c:=cs) (W:=W) hWn hcap (by omega) w'
  obtain⟨p2s,hp2⟩:∃p,ps.map (fun x=>x.add W)=p:=⟨_,rfl⟩
  obtain⟨c2s,hc2⟩:∃c,cs-W=c:=⟨_,rfl⟩
  have hnW:ns-W=W:=by omega
  have HR10:Aa (Bd w .u8 ps W cs (sig.take W)):=⟨HSG.out.row.take W hWn⟩
  have HR20:Aa (Bd w .u8 p2s W c2s (sig.drop W)):=⟨by
   have h:=HSG.out.row.back hWn;unfold bH at h;rw[if_neg (show ¬cs-W=0 by omega),hnW,hc2,hp2]at h
   exact h⟩
  simp only[hp2,hnW,hc2]at hS2;have HS1:=Ab hS1;have HS2:=Ab hS2;have HLS:Aa (sig.length=2*W):=⟨by omega⟩
  have HW1k:Aa (W<=1000):=⟨by omega⟩
  have HC8:Aa (Au (sig.take W)):=⟨HSG.out.bytes.take W⟩
  have HS8:Aa (Au (sig.drop W)):=⟨fun x hx=>HSG.out.bytes x (List.mem_of_mem_drop hx)⟩
  obtain⟨CC,hCC⟩:∃C,be (sig.take W)=C:=⟨_,rfl⟩
  obtain⟨SS,hSS⟩:∃C,be (sig.drop W)=C:=⟨_,rfl⟩
  have HCE:=Ab hCC;have HSE:=Ab hSS;have HOK:Aa (Cv P Q G Y msg sig ↔ (CC<Q/\SS<Q)/\Qf P Q Y/\Hd P Q (Sx P G Y CC SS) Y msg=CC):=⟨by
   unfold Cv Hc;rw[HW.out,hCC,hSS];exact⟨fun h=>⟨h.1.2,h.2⟩,fun h=>⟨⟨HLS.out,h.1⟩,h.2⟩⟩⟩
  clear hCC hSS hS1 hS2 hp2 hc2 hnW hWn hlen hcap hmax hnl;go_enter Tryz.func28,Tryz.ntmps28
  go_wp2_with fail
  refine HWD.out.mono ?_;rintro en w1 ⟨rfl,hb1⟩;rw[HW.out];have HMB1:=Ab (Ny (HV.out.below hb1) (show Bi w1 qy my dy Y from (by obtain⟨_,_,_,e,hh⟩:=HY.out;cases e;exact hh.below hb1)) HPl.out HQl.out HYb.out HP0.out);have HBX:=Ab (HBX.out.below hb1 HBX.out.lt);clear HMB HWD hwa g0 g1 g2 g3 hb3;have g0:=HBX.out.cells.1;have g1:=HBX.out.cells.2.1;have g2:=HBX.out.cells.2.2.1;have g3:=HBX.out.cells.2.2.2;replace HV:=Ab (HV.out.below hb1);replace HM:=Ab (HM.out.below hb1);replace HY:=Ab (HY.out.below hb1);replace HQB:=Ab (HQB.out.below hb1);replace HGB:=Ab (HGB.out.below hb1);replace HB:=Ab (Ae HB.out hb1);clear hb1
  by_cases hmb:0<Y/\Y<P/\Y^Q%P=1
  .have HMT:Aa (Qf P Q Y):=⟨hmb⟩
   have HYl:Aa (Y<P):=⟨hmb.2.1⟩
   have HDT:Aa (∀i:Decidable (0<Y/\Y<P/\Y^Q%P=1),@decide _ i=true):=⟨fun i=>@decide_eq_true _ i hmb⟩
   clear hmb
   go_wp2_with fail
   refine HMB1.out.mono ?_;rintro en w2 ⟨rfl,hb2⟩;simp only[HDT.out];have HBX:=Ab (HBX.out.below hb2 HBX.out.lt);clear HMB1 g0 g1 g2 g3 hne;replace HV:=Ab (HV.out.below hb2);replace HM:=Ab (HM.out.below hb2);replace HY:=Ab (HY.out.below hb2);replace HQB:=Ab (HQB.out.below hb2);replace HGB:=Ab (HGB.out.below hb2);replace HB:=Ab (Ae HB.out hb2);clear hb2;have HR1:=Ab (HR10.out.below HB.out);have HR2:=Ab (HR20.out.below HB.out);go_wp2;refine Ah (by kernel_rfl) (by kernel_rfl)
    [some (.slice ps ns cs),some (.int .i64 (W:Nat)),some (.slice ps W cs),none,some (.slice ps ns cs),some (.int .i64 (W:Nat)),some (.slice p2s W c2s),none,none,none]
    [false,false,false,true,false,false,false,true,true,true] rfl
    (fun w1 w2=>Below w1.heap.size w1 w2)
    (fun _ w'=>Below w2.heap.size w2 w')
    (fun i v w'=>match i with
     | 3=>Al CC v w'
     | 7=>Al SS v w'
     | 8=>Al CC v w'
     | 9=>Al SS v w'
     | _=>True)
    ?_ (Bb _ _).drew ?_ ?_
   .intro i v w1 w2 hf hb;split at hf
    .exact hf.below hb
    .exact hf.below hb
    .exact hf.below hb
    .exact hf.below hb
    .trivial
   .simp only[Ba,Nat.reduceAdd];refine⟨?_,?_,?_,?_,?_,?_,?_,?_,?_,?_,trivial⟩
    all_goals intro D sp w' hD hW hdp hbx'
    case refine_3=>
     have cv:=HS1.out w'
     with_reducible refine Ad ?_ ?_
     all_goals simp[Region.wanted,yielded,execOp,Act.eval,Act.put,go_sem,cv]
    case refine_4=>
     (with_reducible refine Ac (w1:=w') (f := 72) (args:=#[.slice ps W cs]) ?_ ?_ ?_)
     .simp[Region.wanted,yielded,Act.put,go_sem]
     .simp[Act.eval,Act.put,go_sem]
     .refine(Mc w' _ W _ _ ((HR1.out.below hbx')) (HC8.out) HW1k.out).mono ?_;rintro en w9 ⟨q9,m9,d9,rfl,hu,hb,_⟩;rw[HCE.out]at hu
      exact⟨_,rfl,hb,Al.of hu,Ae hbx' hb⟩
    case refine_7=>
     have cv:=HS2.out w'
     with_reducible refine Ad ?_ ?_
     all_goals simp[Region.wanted,yielded,execOp,Act.eval,Act.put,go_sem,cv]
    case refine_8=>
     (with_reducible refine Ac (w1:=w') (f := 72) (args:=#[.slice p2s W c2s]) ?_ ?_ ?_)
     .simp[Region.wanted,yielded,Act.put,go_sem]
     .simp[Act.eval,Act.put,go_sem]
     .refine(Mc w' _ W _ _ ((HR2.out.below hbx')) (HS8.out) HW1k.out).mono ?_;rintro en w9 ⟨q9,m9,d9,rfl,hu,hb,_⟩;rw[HSE.out]at hu
      exact⟨_,rfl,hb,Al.of hu,Ae hbx' hb⟩
    case refine_9=>
     have k3:Al CC (sp 3) w':=(hdp 3 (mq (by kernel_rfl))).2
     (with_reducible refine Ai (w1:=w') (v:=sp 3) ?_ ?_ ?_)
     .simp[Region.wanted,yielded,Act.put,go_sem]
     .simp[execOp,Act.eval,Act.put,go_sem]
     .exact⟨Bb _ _,k3,hbx'⟩
    case refine_10=>
     have k7:Al SS (sp 7) w':=(hdp 7 (mq (by kernel_rfl))).2
     (with_reducible refine Ai (w1:=w') (v:=sp 7) ?_ ?_ ?_)
     .simp[Region.wanted,yielded,Act.put,go_sem]
     .simp[execOp,Act.eval,Act.put,go_sem]
     .exact⟨Bb _ _,k7,hbx'⟩
    all_goals ((with_reducible refine Ad ?_ ?_);all_goals first|(simp only[Region.wanted];done)|simp[Region.wanted,yielded,execOp,Act.eval,Act.put,go_sem])
   .intro sp w3 hsp hb;obtain⟨qc,mc,dc,ec,hc⟩:Al CC (sp 8) w3:=hsp 8 rfl;obtain⟨qs,ms,ds,es,hs'⟩:Al SS (sp 9) w3:=hsp 9 rfl;have HC:=Ab (Al.of hc);have HS:=Ab (Al.of hs');have HBX:=Ab (HBX.out.below hb HBX.out.lt);clear hsp hc hs' HR1 HR2;replace HV:=Ab (HV.out.below hb);replace HM:=Ab (HM.out.below hb);replace HY:=Ab (HY.out.below hb);replace HQB:=Ab (HQB.out.below hb);replace HGB:=Ab (HGB.out.below hb);replace HB:=Ab (Ae HB.out hb);clear hb;simp only[An,Nat.reduceAdd];rw[ec,es];clear ec es;generalize sp 3=y3,sp 7=y7 at *
    go_simp
    have g1:=HBX.out.cells.2.1;obtain⟨K1,hK1⟩:∃K,Bo CC Q=K:=⟨_,rfl⟩
    obtain⟨K2,hK2⟩:∃K,Bo SS Q=K:=⟨_,rfl⟩
    have HK1:=Ab hK1;have HK2:=Ab hK2;have HCb:Aa (Ao CC<=1000000/\Ao SS<=1000000/\Ao Q<=1000000):=⟨by
     have h1:=Si HC8.out;have h2:=Si HS8.out;have h3:=HQl.out;rw[HCE.out]at h1
     rw[HSE.out]at h2
     have h4:(sig.take W).length<=W:=List.length_take_le _ _;have h5:(sig.drop W).length<=2*W:=by rw[List.length_drop,HLS.out];omega
     have h6:=HW1k.out;exact⟨by omega,by omega,by omega⟩⟩
    by_cases hcq:CC<Q
    .have hk1:¬0<=K1:=by have:=Jd.2 hcq;rw[hK1]at this;omega
     clear hK1
     go_wp2_with fail
     refine(Gs HC.out HQB.out HCb.out.1 HCb.out.2.2).mono ?_;rintro en w4 ⟨_,rfl,rfl,hb⟩;rw[HK1.out];have HBX:=Ab (HBX.out.below hb HBX.out.lt);clear g1;replace HV:=Ab (HV.out.below hb);replace HM:=Ab (HM.out.below hb);replace HY:=Ab (HY.out.below hb);replace HQB:=Ab (HQB.out.below hb);replace HGB:=Ab (HGB.out.below hb);replace HB:=Ab (Ae HB.out hb);replace HC:=Ab (HC.out.below hb);replace HS:=Ab (HS.out.below hb);clear hb;have g1:=HBX.out.cells.2.1
     by_cases hsq:SS<Q
     .have hk2:¬0<=K2:=by have:=Jd.2 hsq;rw[hK2]at this;omega
      have HIN:Aa (CC<Q/\SS<Q):=⟨hcq,hsq⟩
      clear hK2 hcq hsq
      go_wp2_with fail
      refine(Gs HS.out HQB.out HCb.out.2.1 HCb.out.2.2).mono ?_;rintro en w5 ⟨_,rfl,rfl,hb⟩;rw[HK2.out];have HBX:=Ab (HBX.out.below hb HBX.out.lt);clear g1;replace HV:=Ab (HV.out.below hb);replace HM:=Ab (HM.out.below hb);replace HY:=Ab (HY.out.below hb);replace HQB:=Ab (HQB.out.below hb);replace HGB:=Ab (HGB.out.below hb);replace HB:=Ab (Ae HB.out hb);replace HC:=Ab (HC.out.below hb);replace HS:=Ab (HS.out.below hb);clear hb;obtain⟨GS,hGS⟩:∃Z,G^SS%P=Z:=⟨_,rfl⟩
      obtain⟨ZZ,hZZ⟩:∃Z,Tt P Y=Z:=⟨_,rfl⟩
      obtain⟨ZC,hZC⟩:∃Z,ZZ^CC%P=Z:=⟨_,rfl⟩
      obtain⟨AA,hAA⟩:∃Z,GS*ZC%P=Z:=⟨_,rfl⟩
      obtain⟨WN,hWN⟩:∃Z,Hd P Q AA Y msg=Z:=⟨_,rfl⟩
      have HGS:=Ab hGS;have HZZ:=Ab hZZ;have HZC:=Ab hZC;have HAA:=Ab hAA;have HWN:=Ab hWN;have HAE:Aa (Sx P G Y CC SS=AA):=⟨by unfold Sx;rw[hZZ,hGS,hZC,hAA]⟩
      have hzl:ZZ<P:=by
       have hi:=Ph HP2.out Y;rw[hZZ]at hi
       by_cases hg:Nat.gcd P Y=1
       .exact(hi.1 hg).1
       .rw[hi.2 hg];exact HP0.out
      have HZl:Aa (Ao ZZ<=100000):=⟨By hzl HPf.out⟩
      have HGSl:Aa (Ao GS<=100000):=⟨By (by rw[<-hGS];exact Nat.mod_lt _ HP0.out) HPf.out⟩
      have HZCl:Aa (Ao ZC<=100000):=⟨By (by rw[<-hZC];exact Nat.mod_lt _ HP0.out) HPf.out⟩
      have HAl:Aa (AA<P):=⟨by rw[<-hAA];exact Nat.mod_lt _ HP0.out⟩
      have HCl:Aa (Ao CC<=100000):=⟨By HIN.out.1 HQf.out⟩
      have HSl:Aa (Ao SS<=100000):=⟨By HIN.out.2 HQf.out⟩
      have HWb:Aa (Ao WN<=1000000):=⟨Dn (By (by rw[<-hWN];exact Iw HQ0.out) HQf.out) (by decide)⟩
      clear hGS hZZ hZC hAA hWN hzl;go_wp2;refine Ah (by kernel_rfl) (by kernel_rfl)
       [some (.agg #[.slice p0 n0 c0,.slice p1 n1 c1,.slice p2 n2 c2,.slice p3 n3 c3]),some (.agg #[.slice p0 n0 c0,.slice p1 n1 c1,.slice p2 n2 c2,.slice p3 n3 c3]),some (.pointer (some ⟨b3,2,none⟩)),some (.slice p2 n2 c2),some (.slice qs ms ds),none,some (.agg #[.slice p0 n0 c0,.slice p1 n1 c1,.slice p2 n2 c2,.slice p3 n3 c3]),some (.agg #[.slice p0 n0 c0,.slice p1 n1 c1,.slice p2 n2 c2,.slice p3 n3 c3]),some (.slice qy my dy),none,some (.slice qc mc dc),none,none,none]
       [false,false,false,false,false,true,false,false,false,true,false,true,true,true] rfl
       (fun w1 w2=>Below w1.heap.size w1 w2)
       (fun _ w'=>Below w5.heap.size w5 w')
       (fun i v w'=>match i with
        | 5=>Al GS v w'
        | 9=>Al ZZ v w'
        | 11=>Al ZC v w'
        | 12=>Al AA v w'
        | 13=>Al AA v w'
        | _=>True)
       ?_ (Bb _ _).drew ?_ ?_
      .intro i v w1 w2 hf hb;split at hf
       .exact hf.below hb
       .exact hf.below hb
       .exact hf.below hb
       .exact hf.below hb
       .exact hf.below hb
       .trivial
      .simp only[Ba,Nat.reduceAdd];refine⟨?_,?_,?_,?_,?_,?_,?_,?_,?_,?_,?_,?_,?_,?_,trivial⟩
       all_goals intro D sp w' hD hW hdp hbx'
       case refine_1|refine_2|refine_7|refine_8=>
        have hB4:=HBX.out.below hbx' HBX.out.lt;have g0:=hB4.cells.1;have g1:=hB4.cells.2.1;have g2:=hB4.cells.2.2.1;have g3:=hB4.cells.2.2.2
        with_reducible refine Ad ?_ ?_
        all_goals simp[Region.wanted,yielded,execOp,Act.eval,Act.put,go_sem,g0,g1,g2,g3]
       case refine_4=>
        have hB4:=HBX.out.below hbx' HBX.out.lt;have g2:=hB4.cells.2.2.1
        with_reducible refine Ad ?_ ?_
        all_goals simp[Region.wanted,yielded,execOp,Act.eval,Act.put,go_sem,g2]
       case refine_6=>
        (with_reducible refine Ac (w1:=w') (f := 74) (args:=#[.agg #[.slice p0 n0 c0,.slice p1 n1 c1,.slice p2 n2 c2,.slice p3 n3 c3],.slice p2 n2 c2,.slice qs ms ds]) ?_ ?_ ?_)
        .simp[Region.wanted,yielded,Act.put,go_sem]
        .simp[Act.eval,Act.put,go_sem]
        .refine(Gn (HV.out.below hbx') (HGB.out.below hbx') (HS.out.below hbx') HGl.out (HSl.out) HPl.out HP0.out).mono ?_;rintro en w9 ⟨u,rfl,hu,hb⟩;rw[HGS.out]at hu
         exact⟨u,rfl,hb,hu,Ae hbx' hb⟩
       case refine_10=>
        (with_reducible refine Ac (w1:=w') (f := 90) (args:=#[.agg #[.slice p0 n0 c0,.slice p1 n1 c1,.slice p2 n2 c2,.slice p3 n3 c3],.slice qy my dy]) ?_ ?_ ?_)
        .simp[Region.wanted,yielded,Act.put,go_sem]
        .simp[Act.eval,Act.put,go_sem]
        .refine(aP (HV.out.below hbx') (HY.out.below hbx') HYb.out HPl.out HP2.out).mono ?_;rintro en w9 ⟨u,rfl,hu,hb⟩;rw[HZZ.out]at hu
         exact⟨u,rfl,hb,hu,Ae hbx' hb⟩
       case refine_12=>
        have k9:Al ZZ (sp 9) w':=(hdp 9 (mq (by kernel_rfl))).2
        (with_reducible refine Ac (w1:=w') (f := 74) (args:=#[.agg #[.slice p0 n0 c0,.slice p1 n1 c1,.slice p2 n2 c2,.slice p3 n3 c3],sp 9,.slice qc mc dc]) ?_ ?_ ?_)
        .simp[Region.wanted,yielded,Act.put,go_sem]
        .simp[Act.eval,Act.put,go_sem]
        .refine(Gn (HV.out.below hbx') (k9) (HC.out.below hbx') HZl.out (HCl.out) HPl.out HP0.out).mono ?_;rintro en w9 ⟨u,rfl,hu,hb⟩;rw[HZC.out]at hu
         exact⟨u,rfl,hb,hu,Ae hbx' hb⟩
       case refine_13=>
        have k5:Al GS (sp 5) w':=(hdp 5 (mq (by kernel_rfl))).2;have k11:Al ZC (sp 11) w':=(hdp 11 (mq (by kernel_rfl))).2
        (with_reducible refine Ac (w1:=w') (f := 89) (args:=#[.agg #[.slice p0 n0 c0,.slice p1 n1 c1,.slice p2 n2 c2,.slice p3 n3 c3],sp 5,sp 11]) ?_ ?_ ?_)
        .simp[Region.wanted,yielded,Act.put,go_sem]
        .simp[Act.eval,Act.put,go_sem]
        .refine(aO (HV.out.below hbx') k5 k11 HGSl.out HZCl.out HPl.out HP0.out).mono ?_;rintro en w9 ⟨u,rfl,hu,hb⟩;rw[HAA.out]at hu
         exact⟨u,rfl,hb,hu,Ae hbx' hb⟩
       case refine_14=>
        have k12:Al AA (sp 12) w':=(hdp 12 (mq (by kernel_rfl))).2
        (with_reducible refine Ai (w1:=w') (v:=sp 12) ?_ ?_ ?_)
        .simp[Region.wanted,yielded,Act.put,go_sem]
        .simp[execOp,Act.eval,Act.put,go_sem]
        .exact⟨Bb _ _,k12,hbx'⟩
       all_goals ((with_reducible refine Ad ?_ ?_);all_goals first|(simp only[Region.wanted];done)|simp[Region.wanted,yielded,execOp,Act.eval,Act.put,go_sem])
      .intro sp w6 hsp hb;obtain⟨qa,ma,da,ea,ha⟩:Al AA (sp 13) w6:=hsp 13 rfl;have HA:=Ab (Al.of ha);have HBX:=Ab (HBX.out.below hb HBX.out.lt);clear hsp ha;replace HV:=Ab (HV.out.below hb);replace HM:=Ab (HM.out.below hb);replace HY:=Ab (HY.out.below hb);replace HQB:=Ab (HQB.out.below hb);replace HGB:=Ab (HGB.out.below hb);replace HB:=Ab (Ae HB.out hb);replace HC:=Ab (HC.out.below hb);clear hb HS;simp only[An,Nat.reduceAdd];rw[ea];clear ea;generalize sp 5=y5,sp 9=y9,sp 11=y11,sp 12=y12 at *
       go_simp
       have g0:=HBX.out.cells.1;have g1:=HBX.out.cells.2.1;have g2:=HBX.out.cells.2.2.1;have g3:=HBX.out.cells.2.2.2;obtain⟨KC,hKC⟩:∃K,Bo WN CC=K:=⟨_,rfl⟩
       obtain⟨ANS,hE⟩:∃A,((KC:Int)==0)=A:=⟨_,rfl⟩
       have HKC:=Ab hKC;have HF:Aa (ANS=true ↔ Cv P Q G Y msg sig):=⟨by
        rw[HOK.out,HAE.out,HWN.out,<-hE,<-hKC,beq_iff_eq,Ce];exact⟨fun h=>⟨HIN.out,HMT.out,h⟩,fun h=>h.2.2⟩⟩
       clear hKC
       go_wp2_with fail
       refine(Ll HV.out HA.out HY.out HAl.out HYl.out HPl.out HQl.out HQ0.out HPf.out HM.out HZM.out HNM.out).mono ?_;rintro en w7 ⟨_,rfl,⟨qw,mw,dw,rfl,hw⟩,hb⟩;rw[HWN.out]at hw
       have HW7:=Ab (Al.of hw);have HC7:=Ab (HC.out.below hb);have HB7:=Ab (Ae HB.out hb);clear hw hb g0 g1 g2 g3
       go_wp2_with fail
       refine(Gs HW7.out HC7.out HWb.out HCb.out.1).mono ?_;rintro en w8 ⟨_,rfl,rfl,hb⟩;rw[HKC.out];have HBf:=Ab (Ae HB7.out hb);clear hb;go_wp2;go_ret;exact⟨ANS,rfl,HF.out,HBf.out⟩
     .have hk2:0<=K2:=by
       have h1:¬K2<0:=fun h=>hsq (Jd.1 (by rw[hK2];exact h))
       omega
      have HF:Aa (false=true ↔ Cv P Q G Y msg sig):=⟨⟨(fun h=>by cases h),fun h=>absurd (HOK.out.1 h).1.2 hsq⟩⟩
      clear hK2 hcq hsq
      go_wp2_with fail
      refine(Gs HS.out HQB.out HCb.out.2.1 HCb.out.2.2).mono ?_;rintro en w5 ⟨_,rfl,rfl,hb⟩;rw[HK2.out];have HBf:=Ab (Ae HB.out hb);clear hb g1;go_wp2;go_ret;exact⟨false,rfl,HF.out,HBf.out⟩
    .have hk1:0<=K1:=by
      have h1:¬K1<0:=fun h=>hcq (Jd.1 (by rw[hK1];exact h))
      omega
     have HF:Aa (false=true ↔ Cv P Q G Y msg sig):=⟨⟨(fun h=>by cases h),fun h=>absurd (HOK.out.1 h).1.1 hcq⟩⟩
     clear hK1 hcq
     go_wp2_with fail
     refine(Gs HC.out HQB.out HCb.out.1 HCb.out.2.2).mono ?_;rintro en w5 ⟨_,rfl,rfl,hb⟩;rw[HK1.out];have HBf:=Ab (Ae HB.out hb);clear hb g1;go_wp2;go_ret;exact⟨false,rfl,HF.out,HBf.out⟩
  .have HDT:Aa (∀i:Decidable (0<Y/\Y<P/\Y^Q%P=1),@decide _ i=false):=⟨fun i=>@decide_eq_false _ i hmb⟩
   have HF:Aa (false=true ↔ Cv P Q G Y msg sig):=⟨⟨(fun h=>by cases h),fun h=>absurd (HOK.out.1 h).2.1 hmb⟩⟩
   clear hmb
   go_wp2_with fail
   refine HMB1.out.mono ?_;rintro en w2 ⟨rfl,hb2⟩;simp only[HDT.out];have HBf:=Ab (Ae HB.out hb2);clear HMB1 hb2 g0 g1 g2 g3;go_wp2;go_ret;exact⟨false,rfl,HF.out,HBf.out⟩
 .have hne:((ns:Int)!=2*(W:Int))=true:=by rw[bne_iff_ne];omega
  have HF:Aa (false=true ↔ Cv P Q G Y msg sig):=⟨⟨(fun h=>by cases h),fun h=>by
   have h1:=h.1.1;rw[HW.out,<-hlen]at h1
   exact absurd h1 hnl⟩⟩
  clear hnl hlen;go_enter Tryz.func28,Tryz.ntmps28
  go_wp2_with fail
  refine HWD.out.mono ?_;rintro en w1 ⟨rfl,hb1⟩;rw[HW.out];have HBf:=Ab (Ae HB.out hb1);clear hb1 g0 g1 g2 g3;go_wp2;go_ret;exact⟨false,rfl,HF.out,HBf.out⟩
end Go.Proofs.YtokhckjemidbpaaGreatDoor
