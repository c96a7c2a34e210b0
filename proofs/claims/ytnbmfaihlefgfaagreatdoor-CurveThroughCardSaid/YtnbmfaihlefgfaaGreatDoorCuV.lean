/- The polynomial through all places (curve.Through). -/
import Derived.Test.YtnbmfaihlefgfaaGreatDoorCuS
set_option maxRecDepth 1000000
set_option maxHeartbeats 16000000
set_option linter.all false
namespace Go.Proofs.YtnbmfaihlefgfaaGreatDoor
open Go Go.RowKit Go.Proofs.YtnbmfaihlefgfaaGreatDoor.Flow
theorem gU:Dq 101 2 [3,2,1]=11:=by decide
theorem Qk (w:World)(hr:Tabs w) :
  Calls Tryz.prog 15 #[] w fun e w'=>e=.returned (.bool true)/\Below w.heap.size w w':=by
 have HF:=Ab (Nc w 0 hr);clear hr;go_enter Tryz.func15,Tryz.ntmps15
 go_wp2_with fail
 refine HF.out.mono ?_;rintro en w1 ⟨r,rfl,hr,hb1⟩;have hr':Ring w1 r 101 33:=hr;obtain⟨W1,hW1⟩:∃W,w1.alloc (.cells #[.int .u64 3,.int .u64 2,.int .u64 1] 23)=W:=⟨_,rfl⟩
 have hbw:Below w1.heap.size w1 W1:=by rw[<-hW1];exact(Aw _ _).alloc (Ar _) _
 have hnew:W1.heap[w1.heap.size]? = some (.cells #[.int .u64 3,.int .u64 2,.int .u64 1] 23 (0,0)):=by rw[<-hW1];exact heap_alloc_new w1 _
 have hrow:Bm W1 .u64 (some ⟨w1.heap.size,0,none⟩) 3 3 [3,2,1]:=⟨rfl,Ar _,by decide,fun _=>⟨rfl,Ar _,by decide,.inr ⟨w1.heap.size,0,rfl,(Ga hnew).1,fun i x hx=>by
  match i,hx with
  | 0,hx=>simp at hx;subst hx;simp[World.cell?,hnew]
  | 1,hx=>simp at hx;subst hx;simp[World.cell?,hnew]
  | 2,hx=>simp at hx;subst hx;simp[World.cell?,hnew]
  | i+3,hx=>simp at hx⟩⟩⟩
 have HN:=Ab (Ow W1 _ 3 3 [3,2,1] hrow (fun x hx=>by simp at hx;unfold fG;omega) (by decide));have HR1:=Ab (hr'.below hbw);have HB1:=Ab (Ae hb1 hbw);clear hr hr' hbw hnew hrow hb1 HF
 go_wp2_with fail
 refine HN.out.mono ?_;rintro en w2 ⟨p,c,rfl,hp,hb2⟩;have HR2:=Ab (HR1.out.below hb2);have HP2:=Ab hp;have HB2:=Ab (Ae HB1.out hb2);clear hp hb2 HR1 HB1 HN hW1
 go_wp2_with fail
 refine(Nt w2).mono ?_;rintro en w3 ⟨x3,rfl,h3,b3⟩;have HE:=Ab (Us (HR2.out.below b3) (HP2.out.below b3) h3 (by decide) (by decide) (by decide));have HB3:=Ab (Ae HB2.out b3);clear h3 b3 HR2 HP2 HB2
 go_wp2_with fail
 refine HE.out.mono ?_;rintro en w4 ⟨x4,rfl,h4,b4⟩;rw[gU]at h4
 have H4:=Ab h4;have HB4:=Ab (Ae HB3.out b4);clear h4 b4 HE HB3
 go_wp2_with fail
 refine(El (n:=11) w4 (by omega)).mono ?_;rintro en w5 ⟨x5,rfl,h5,b5⟩;have HC:=Ab (Bj (H4.out.below b5) h5 (by decide) (by decide) (Bt.2 rfl));have HB5:=Ab (Ae HB4.out b5);clear h5 b5 H4 HB4
 go_wp2_with fail
 refine HC.out.mono ?_;rintro en w6 ⟨_,rfl,rfl,b6⟩;have HB6:=Ab (Ae HB5.out b6);clear b6 HC HB5;go_wp2;go_ret;exact⟨rfl,HB6.out⟩
def fI (q L:Nat)(As Bs:List Nat)(v:Value)(w:World):Prop:=∃g acc,v=.slice (some ⟨g,0,none⟩) L L/\Au w 33 (some ⟨g,0,none⟩) L L acc/\Pv q As Bs acc
theorem fI.below {q L:Nat}{As Bs:List Nat}{v:Value}{w w':World}(h:fI q L As Bs v w)(hb:Below w.heap.size w w'):fI q L As Bs v w':=let ⟨g,acc,h1,h2,h3⟩:=h;⟨g,acc,h1,h2.below hb,h3⟩
theorem Ud {w:World}{r q e1 e2 n c m d:Nat}{p p2:Option Addr}{As Bs:List Nat}(hR:Ring w r q 33)(hA:Au w e1 p n c As)(hB:Au w e2 p2 m d Bs)(h1:e1<=200)(h2:e2<=200)(hn:n<=1000)(hm:m<=1000)(hn0:0<n)(hm0:0<m) :
  Calls Tryz.prog 93 #[.pointer (some ⟨r,0,none⟩),.slice p n c,.slice p2 m d] w fun en w'=>∃u,en=.returned u/\fI q (n+m-1) As Bs u w'/\Below w.heap.size w w':=by
 refine(cO hR hA hB h1 h2 hn hm hn0 hm0).mono ?_;rintro en w9 ⟨g,acc,rfl,h,k,hb⟩;exact⟨_,rfl,⟨g,acc,rfl,h,k⟩,hb⟩
theorem Jl {w:World}{r q e ex n c X N:Nat}{p:Option Addr}{As:List Nat}{v:Value}(hR:Ring w r q 33)(hA:Au w e p n c As)(hX:Fit ex X v w)(he:e<=200)(hex:ex<=200)(hn:n<=1000000)(hN:Dq q X As=N) :
  Calls Tryz.prog 33 #[.pointer (some ⟨r,0,none⟩),.slice p n c,v] w fun en w'=>∃x,en=.returned x/\Fit 33 N x w'/\Below w.heap.size w w':=by
 subst hN;exact Us hR hA hX he hex hn
theorem Do.full {w:World}{B:Nat}{v:Value}{us:List (Option Addr×Nat×Nat)}(h:Do w B v us)(h0:0<us.length) :
  ∃(g cap:Nat) (rest:List (Option Addr×Nat×Nat)),v=.slice (some ⟨g,0,none⟩) us.length cap/\B<=g/\Ck w g (us++rest)/\us.length+rest.length=cap/\cap<=9223372036854775807:=by
 rcases h.ex with ⟨_,rfl⟩|⟨g,cap,rest,h1,h2,h3,h4,h5⟩
 .simp at h0
 .exact⟨g,cap,rest,h1,h2,by unfold Ck;unfold Dr at h3;rw[List.map_append];exact h3,h4,h5⟩
theorem Do.of_full {w:World}{B g cap:Nat}{us rest:List (Option Addr×Nat×Nat)}(hB:B<=g)(h:Ck w g (us++rest))(hl:us.length+rest.length=cap)(hm:cap<=9223372036854775807):Do w B (.slice (some ⟨g,0,none⟩) us.length cap) us :=
 ⟨.inr ⟨g,cap,rest,rfl,hB,by unfold Dr;unfold Ck at h;rw[<-List.map_append];exact h,hl,hm⟩⟩
theorem Cs.keep {w w':World}{B e:Nat}{us:List (Option Addr×Nat×Nat)}{Ns:List Nat}(h:Cs w e us Ns)(k:Ao B w w'):Cs w' e us Ns :=
 ⟨h.len,fun i N hN=>let ⟨x,h1,h2,h3⟩:=h.at_ i N hN;⟨x,h1,k.nat _ _ _ _ h2,h3⟩⟩
theorem Cs.set {w:World}{e N i:Nat}{us:List (Option Addr×Nat×Nat)}{Ns:List Nat}{x:Option Addr×Nat×Nat}(h:Cs w e us Ns)(hx:Gl w x N)(hl:N<Am e):Cs w e (us.set i x) (Ns.set i N):=by
 refine⟨by rw[List.length_set,List.length_set];exact h.len,fun j M hM=>?_⟩
 by_cases hj:j=i
 .subst hj;have hj2:j<Ns.length:=by have:=(List.getElem?_eq_some_iff.1 hM).1;simpa using this
  rw[List.getElem?_set_self hj2]at hM
  cases hM;exact⟨x,List.getElem?_set_self (by rw[h.len];exact hj2),hx,hl⟩
 .rw[List.getElem?_set_ne (by omega)]at hM
  obtain⟨y,h1,h2⟩:=h.at_ j M hM
  exact⟨y,by rw[List.getElem?_set_ne (by omega)];exact h1,h2⟩
def iJ (n:Nat)(Ns:List Nat)(v:Value)(w:World):Prop:=∃q c,v=.slice q n c/\Au w 33 q n c Ns
def gI (B n:Nat)(Ns:List Nat)(v:Value)(w:World):Prop:=∃q c,v=.slice q n c/\Au w 33 q n c Ns/\∀a,q=some a->B<=a.block
def fJ (q n:Nat)(zs Ys:List Nat)(w:World)(en:Ending)(w':World):Prop:=∃u ps ss,en=.returned (.tuple #[u,.int .i64 0])/\gI w.heap.size n ps u w'/\Gw q zs Ys n ps ss/\Below w.heap.size w w'
theorem bN {w:World}{r q e1 n c m:Nat}{p:Option Addr}{As Bs:List Nat}{u:Value}(hR:Ring w r q 33)(hA:Au w e1 p n c As)(hB:gL m Bs u w)(h1:e1<=200)(hn:n<=1000/\0<n)(hm:m<=1000/\0<m) :
  Calls Tryz.prog 93 #[.pointer (some ⟨r,0,none⟩),.slice p n c,u] w fun en w'=>∃u,en=.returned u/\fI q (n+m-1) As Bs u w'/\Below w.heap.size w w':=by
 obtain⟨g,rfl,h⟩:=hB;exact Ud hR hA h h1 (by decide) hn.1 hm.1 hn.2 hm.2
theorem Uq {q n V:Nat}{Bs:List Nat}(h:Ey q n V Bs=0):n=V/\0<n/\(Bs.map fun x=>x%q).Nodup:=by
 unfold Ey at h;split at h
 .omega
 .split at h
  .omega
  .split at h
   .rename_i h1 h2 h3
    exact⟨by omega,by omega,h3⟩
   .omega
theorem To {w:World}{r q e n c V cy:Nat}{p py:Option Addr}{As:List Nat}(hR:Ring w r q 33)(h:Au w e p n c As)(he:e<=200)(hn:n<=12)(hV:V<=1000000)(hf:Ey q n V As≠0) :
  Calls Tryz.prog 23 #[.pointer (some ⟨r,0,none⟩),.slice p n c,.slice py V cy] w fun en w'=>en=.returned (.tuple #[.slice none 0 0,.int .i64 (Ey q n V As:Nat)])/\Below w.heap.size w w':=by
 have HF:=Ab (Rk hR h he hn hV);obtain⟨F,hF⟩:∃F,Ey q n V As=F:=⟨_,rfl⟩
 rw[hF]at HF hf
 rw[hF];have hF0:((F:Int)!=0)=true:=by rw[bne_iff_ne];omega
 have hF1:¬(F:Int)=0:=by omega
 clear hR h hF;go_enter Tryz.func23,Tryz.ntmps23
 go_wp2_with fail
 refine HF.out.mono ?_;rintro en w1 ⟨rfl,b1⟩;have B1:=Ab b1;clear b1 HF;go_wp2
 go_ret2
 exact⟨rfl,B1.out⟩
theorem Vr {w:World}{r q e e2 n c V d:Nat}{p py:Option Addr}{As Ys:List Nat}(hq:Bo q)(hR:Ring w r q 33)(h:Au w e p n c As)(hY:Au w e2 py V d Ys)(he:e<=200)(he2:e2<=200)(hn:n<=12)(hV:V<=1000000)(hf:Ey q n V As=0) :
  Calls Tryz.prog 23 #[.pointer (some ⟨r,0,none⟩),.slice p n c,.slice py V d] w (fJ q n (As.map fun x=>x%q) Ys w):=by
 have HF:=Ab (Rk hR h he hn hV);obtain⟨rfl,hn0,hnd⟩:=Uq hf;rw[hf]at HF
 have HPQ:=Ab hq;have HUN:Aa (Ez q (ints (As.map fun x=>x%q))):=⟨by
  rw[Oh];rw[List.map_map];have e9:((fun x=>x%q) ∘ fun x=>x%q)=fun x=>x%q:=by funext x;exact Nat.mod_mod _ _
  rw[e9];exact hnd⟩
 have HR0:=Ab hR;have HA0:=Ab h;have HY0:=Ab hY;have HLY:=Ab hY.len;have HLA:=Ab h.len;obtain⟨zs,hzs⟩:∃l,(As.map fun x=>x%q)=l:=⟨_,rfl⟩
 have HZS:=Ab hzs;have HZL:Aa (zs.length=n):=⟨by rw[<-hzs,List.length_map];exact h.len.symm⟩
 have HZlt:Aa (∀z∈zs,z<q):=⟨fun z hz=>by
  rw[<-hzs]at hz
  obtain⟨x,_,rfl⟩:=List.mem_map.1 hz;exact Nat.mod_lt _ (by have:=hq.two;omega)⟩
 rw[hzs]at HUN
 rw[hzs];clear hR h hY hf hnd hq hzs;go_enter Tryz.func23,Tryz.ntmps23
 go_wp2_with fail
 refine HF.out.mono ?_;rintro en w1 ⟨rfl,b1⟩;have B1:=Ab b1;clear b1 HF
 go_wp2_with fail
 refine(Du w1).mono ?_;rintro en w2 ⟨_,rfl,⟨p1,n1,c1,rfl,o1,o2⟩,b2⟩;have hb3:Below w2.heap.size w2 (w2.alloc (.cells #[.slice p1 n1 c1] 36)):=Cu;have hx3:=heap_alloc_new w2 (.cells #[.slice p1 n1 c1] 36);obtain⟨w3,hw3⟩:∃x,w2.alloc (.cells #[.slice p1 n1 c1] 36)=x:=⟨_,rfl⟩
 rw[hw3]at hb3 hx3
 obtain⟨g3,hg3⟩:∃x,w2.heap.size=x:=⟨_,rfl⟩
 rw[hg3]at hx3
 have hb23:=Ae b2 hb3;have B3:=Ab (Ae B1.out hb23);have hs3:Au w3 33 (some ⟨g3,0,none⟩) 1 1 [1]:=⟨rfl,Ar _,by decide,(fun e=>by cases e),fun _=>⟨g3,0,rfl,(Ga hx3).1,fun i N hN=>by
  match i,hN with
  | 0,hN=>cases hN;exact⟨p1,n1,c1,by simp[World.cell?,hx3],o1.below hb3,Dh o2 (Br (by decide))⟩
  | i+1,hN=>simp at hN⟩⟩
 have HS3:=Ab hs3;have HEACH:=Ab (Jn (HR0.out.below B3.out) (HA0.out.below B3.out) he (by omega));clear o1 b2 hb3 hx3 hb23 hs3 B1
 go_wp2_with fail
 refine HEACH.out.mono ?_;rintro en w4 ⟨rfl,hz,b4⟩;rw[HZS.out]at hz
 have HZ4:=Ab hz;have HS4:=Ab (HS3.out.below b4);have B4:=Ab (Ae B3.out b4);obtain⟨gz,hgz⟩:∃x,w3.heap.size=x:=⟨_,rfl⟩
 rw[hgz]at HZ4
 rw[hgz];clear hz b4 HEACH B3 HS3 hgz;go_wp2;clear hw3 hg3
 go_loopw [9,10,11,12,13,14,30] (fun vp vs _ _ _ _ iv wr=>∃(k:Nat) (ps ss:List Nat),k<=n/\iv=.int .i64 k/\Aa (Gw q zs Ys k ps ss)/\Aa (gI w.heap.size k ps vp wr)/\Aa (iJ (k+1) ss vs wr)/\Aa (Below w4.heap.size w4 wr)) (fun _ _ _ _ _ _ iv _=>n-(intOf iv).toNat)
 case atStart=>exact⟨0,[],[1],by omega,rfl,⟨Gw.start HPQ.out.two _ _⟩,⟨⟨_,_,rfl,Au.none _ _,fun a h=>by cases h⟩⟩,⟨⟨_,_,rfl,HS4.out⟩⟩,⟨Aw _ _⟩⟩
 case round=>
  obtain⟨k,pl,ss,hk,rfl,HN,HPK,HSK,HB⟩:=hrel;obtain⟨pp,cp,hvp,hpl,hpf⟩:=HPK.out;obtain⟨ps,cs,hvs,hsl⟩:=HSK.out;obtain⟨k1,hk1⟩:∃x,k+1=x:=⟨_,rfl⟩
  rw[hk1]at hvs hsl
  subst hvp hvs
  by_cases hkn:k<n
  .obtain⟨z,hzk⟩:∃s,zs[k]? = some s:=⟨zs[k]'(by rw[HZL.out];exact hkn),List.getElem?_eq_getElem _⟩
   obtain⟨y,hyk⟩:∃s,Ys[k]? = some s:=⟨Ys[k]'(by rw[<-HLY.out];exact hkn),List.getElem?_eq_getElem _⟩
   obtain⟨bz,oz,ez,hbz,hcz⟩:=HZ4.out.at_ (by omega)
   simp only[Option.some.injEq,Addr.mk.injEq,and_true]at ez;obtain⟨rfl,rfl⟩:=ez;obtain⟨qx,mx,dx,x1,x2,x3⟩:=hcz k z hzk;rw[Nat.zero_add]at x1
   obtain⟨by_,oy,rfl,hby,hcy⟩:=HY0.out.at_ (by omega)
   obtain⟨qy,my,dy,y1,y2,y3⟩:=hcy k y hyk;have hxc:wr.cell? ⟨gz,k,none⟩=some (.slice qx mx dx):=(HB.out.cell (p:=⟨gz,k,none⟩) hbz).trans x1;have hba:Below wr.heap.size wr (wr.alloc (.cells #[.slice qx mx dx] 36)):=Cu;have hxa:=Ad.made wr (.slice qx mx dx);obtain⟨wa,hwa⟩:∃wa,wr.alloc (.cells #[.slice qx mx dx] 36)=wa:=⟨_,rfl⟩
   rw[hwa]at hba hxa
   obtain⟨b9,hb9⟩:∃x,wr.heap.size=x:=⟨_,rfl⟩
   rw[hb9]at hxa
   have hB4a:=Ae HB.out hba;have BW:=Ab (Ae B4.out hB4a);have HXB:=Ab hxa;have HX:=Ab ((Fit.of x2 x3).below hB4a);have HYI:=Ab ((Fit.of y2 y3).below BW.out);have HCY:Aa (∀w',Below wa.heap.size wa w'->w'.cell? ⟨by_,oy+k,none⟩=some (.slice qy my dy)):=⟨fun w' hb=>((Ae BW.out hb).cell (p:=⟨by_,oy+k,none⟩) hby).trans y1⟩
   have HR:=Ab (HR0.out.below BW.out);have HPL:=Ab (hpl.below hba);have HSL:=Ab (hsl.below hba);have HBa:=Ab hB4a;have hzq:z<q:=HZlt.out z (List.mem_of_getElem? hzk);have hq2:=HPQ.out.two;obtain⟨EP,hEP⟩:∃V,Dq q z pl=V:=⟨_,rfl⟩
   obtain⟨EB,hEB⟩:∃V,Dq q z ss=V:=⟨_,rfl⟩
   obtain⟨DA,hDA⟩:∃V,Ha y EP q=V:=⟨_,rfl⟩
   obtain⟨OT,hOT⟩:∃V,DA*fV q EB%q=V:=⟨_,rfl⟩
   obtain⟨TT,hTT⟩:∃V,Ha 0 z q=V:=⟨_,rfl⟩
   have hIB:Is q EB (ev (ints ss) z):=by rw[<-hEB];exact Fx hq2 ss
   have hIP:Is q EP (ev (ints pl) z):=by rw[<-hEP];exact Fx hq2 pl
   have hap:=HN.out.apart HPQ.out HUN.out hzk;have hgc:Nat.gcd q EB=1:=HPQ.out.coprime fun hd=>hap (by
    have h1:=hIB.dvd;have h2:(q:Int) ∣ (EB:Int):=by exact Int.natCast_dvd_natCast.2 hd
    have:=Int.dvd_sub h2 h1
    rwa [show (EB:Int)-((EB:Int)-ev (ints ss) (z:Int))=ev (ints ss) (z:Int) by omega]at this)
   have HGC:=Ab hgc;have HOT:Aa (∀I,Gc q EB I->DA*I%q=OT):=⟨fun I hI=>by rw[eQ hq2 hI,hOT]⟩
   have HEP:=Ab hEP;have HEB:=Ab hEB;have HDA:=Ab hDA;have HTT:=Ab hTT;have HOTl:Aa (OT<Am 33):=⟨by rw[<-hOT];exact Nat.lt_trans (Nat.mod_lt _ (by omega)) HR0.out.lim⟩
   have hOD:(q:Int) ∣ ev (ints ss) z*OT-(y-ev (ints pl) z):=by
    have h1:Is q DA (y-ev (ints pl) z):=by
     have h2:Is q (y%q) (y:Int):=Is.of (by omega) y;have h3:=Is.sub hq2 h2 hIP;have h4:Ha (y%q) EP q=DA:=by rw[<-hDA];unfold Ha;rw[Nat.mod_mod]
     rwa [h4]at h3
    have h5:=bI HPQ.out h1 hIB (Xx hq2 EB) hap
    rwa [hOT]at h5
   have hTD:(q:Int) ∣ (TT:Int)+z:=by
    have h2:Is q (z%q) (z:Int):=Is.of (by omega) z;have h3:=Is.sub hq2 (Is.zero (by omega)) h2;have h4:Ha 0 (z%q) q=TT:=by rw[<-hTT,Nat.mod_eq_of_lt hzq]
    rw[h4]at h3
    have h6:=h3.dvd
    rwa [show (TT:Int)-(0-(z:Int))=(TT:Int)+z by omega]at h6
   have HNS:Aa (∀m s2,Pv q ss [OT] m->Pv q ss [TT,1] s2->Gw q zs Ys (k+1) (Kl q pl m) s2):=⟨fun m s2 h1 h2=>HN.out.step hzk hyk hOD h1 rfl (by omega) hTD h2⟩
   have hkn':(k:Int)<n:=by omega
   have hnk:¬n<=k:=by omega
   clear hcz hzk hyk x1 x2 hbz hcy hby y1 y2 hba hxa hB4a hpl hsl hEP hEB hDA hOT hTT hIB hIP hap hgc hOD hTD hq2 hzq HPK HSK HN HB hpf;go_wp2;clear hwa hb9 hxc;refine Ak (by kernel_rfl) (by kernel_rfl)
    [some (.pointer (some ⟨r,0,none⟩)),some (.pointer (some ⟨r,0,none⟩)),some (.slice (some ⟨by_,oy,none⟩) n d),some (.int .i64 (k:Nat)),some (.pointer (some ⟨by_,oy+k,none⟩)),some (.agg #[.slice qy my dy]),some (.pointer (some ⟨r,0,none⟩)),some (.slice pp k cp),some (.agg #[.slice qx mx dx]),none,none,some (.pointer (some ⟨r,0,none⟩)),some (.slice ps k1 cs),some (.agg #[.slice qx mx dx]),none,none,none,none,some (.int .i64 0),none,none,some (.int .i64 0)]
    [false,false,false,false,false,false,false,false,false,true,true,false,false,false,true,true,true,true,false,true,true,false] rfl
    (fun wA wB=>Ao (wa.heap.size) wA wB)
    (fun D sp w'=>RG (wa.heap.size) wa [] w'/\Vk (D 19) (D 20) (sp 19) (wa.heap.size) (OT) w')
    (fun i v w'=>match i with
     | 9=>Fit 33 (EP) v w'
     | 10=>Fit 33 (DA) v w'
     | 14=>Fit 33 (EB) v w'
     | 15=>Ho 33 OT (.int .i64 0) v w'
     | 16=>Ho 33 OT (.int .i64 0) v w'
     | 17=>Fit (33) (OT) v w'
     | _=>True)
    ?_ ⟨RG.start (Ar _) (fun x hx=>by cases hx),Vk.start (Ar _)⟩ ?_ ?_
   .intro i v wA wB hf hb;split at hf
    .exact hf.keep hb
    .exact hf.keep hb
    .exact hf.keep hb
    .exact hf.keep hb
    .exact hf.keep hb
    .exact hf.keep hb
    .trivial
   .simp only[Bb,Nat.reduceAdd];refine⟨?_,?_,?_,?_,?_,?_,?_,?_,?_,?_,?_,?_,?_,?_,?_,?_,?_,?_,?_,?_,?_,?_,trivial⟩
    all_goals intro D sp w' hD hW hdp hg
    case refine_5=>
     (with_reducible refine Ai (w1:=w') (v:=.pointer (some ⟨by_,oy+k,none⟩)) ?_ ?_ ?_)
     .simp[Region.wanted,yielded,Act.put,go_sem]
     .simp[execOp,Act.eval,Act.put,go_sem,hkn]
     .exact⟨rfl,rfl⟩
    case refine_6=>
     have c0:=HCY.out w' hg.1.keep.bel
     with_reducible refine Af ?_ ?_
     all_goals simp[Region.wanted,yielded,execOp,Act.eval,Act.put,go_sem,c0]
    case refine_9|refine_14=>
     have c0:=(HXB.out.below hg.1.keep.bel HXB.out.lt).cell
     with_reducible refine Af ?_ ?_
     all_goals simp[Region.wanted,yielded,execOp,Act.eval,Act.put,go_sem,c0]
    case refine_10=>
     (with_reducible refine Ac (w1:=w') (f := 33) (args:=#[.pointer (some ⟨r,0,none⟩),.slice pp k cp,.agg #[.slice qx mx dx]]) ?_ ?_ ?_)
     .simp[Region.wanted,yielded,Act.put,go_sem]
     .simp[Act.eval,Act.put,go_sem]
     .refine(Jl (HR.out.below hg.1.keep.bel) (HPL.out.below hg.1.keep.bel) (HX.out.below hg.1.keep.bel) (by decide) (by decide) (by omega) HEP.out).mono ?_;rintro en w9 ⟨u,rfl,hu,hb⟩;exact⟨u,rfl,Ao.of hb hg.1.base,hu,hg.1.later hb,by simpa [upd]using hg.2.later hb⟩
    case refine_11=>
     have k9:Fit 33 (EP) (sp 9) w':=(hdp 9 (mq (by kernel_rfl))).2
     (with_reducible refine Ac (w1:=w') (f := 58) (args:=#[.pointer (some ⟨r,0,none⟩),.agg #[.slice qy my dy],sp 9]) ?_ ?_ ?_)
     .simp[Region.wanted,yielded,Act.put,go_sem]
     .simp[Act.eval,Act.put,go_sem]
     .refine(Jz (HR.out.below hg.1.keep.bel) (HYI.out.below hg.1.keep.bel) k9 (by omega) (by decide)).mono ?_;rintro en w9 ⟨u,rfl,hu,hb⟩;rw[HDA.out]at hu
      exact⟨u,rfl,Ao.of hb hg.1.base,hu,hg.1.later hb,by simpa [upd]using hg.2.later hb⟩
    case refine_15=>
     (with_reducible refine Ac (w1:=w') (f := 33) (args:=#[.pointer (some ⟨r,0,none⟩),.slice ps k1 cs,.agg #[.slice qx mx dx]]) ?_ ?_ ?_)
     .simp[Region.wanted,yielded,Act.put,go_sem]
     .simp[Act.eval,Act.put,go_sem]
     .refine(Jl (HR.out.below hg.1.keep.bel) (HSL.out.below hg.1.keep.bel) (HX.out.below hg.1.keep.bel) (by decide) (by decide) (by omega) HEB.out).mono ?_;rintro en w9 ⟨u,rfl,hu,hb⟩;exact⟨u,rfl,Ao.of hb hg.1.base,hu,hg.1.later hb,by simpa [upd]using hg.2.later hb⟩
    case refine_16=>
     have k10:Fit 33 (DA) (sp 10) w':=(hdp 10 (mq (by kernel_rfl))).2;have k14:Fit 33 (EB) (sp 14) w':=(hdp 14 (mq (by kernel_rfl))).2
     (with_reducible refine Ac (w1:=w') (f := 92) (args:=#[.pointer (some ⟨r,0,none⟩),sp 10,sp 14]) ?_ ?_ ?_)
     .simp only[Region.wanted]
     .simp[Act.eval,Act.put,go_sem]
     .refine(eE (HR.out.below hg.1.keep.bel) k10 k14 (by decide) (by decide)).mono ?_;rintro en w9 ⟨_,I,rfl,hI,⟨p9,n9,c9,rfl,u1,u2⟩,hb⟩;rw[if_pos HGC.out];have hOI:=HOT.out I hI;rw[hOI]at u1 u2
      exact⟨_,rfl,Ao.of hb hg.1.base,⟨p9,n9,c9,rfl,u1,u2⟩,hg.1.later hb,by simpa [upd]using hg.2.later hb⟩
    case refine_17=>
     have k15:Ho 33 OT (.int .i64 0) (sp 15) w':=(hdp 15 (mq (by kernel_rfl))).2
     (with_reducible refine Ai (w1:=w') (v:=sp 15) ?_ ?_ ?_)
     .simp[Region.wanted,yielded,Act.put,go_sem]
     .simp[execOp,Act.eval,Act.put,go_sem]
     .exact⟨Ao.same _ _,k15,hg.1,by simpa [upd]using hg.2⟩
    case refine_18=>
     have hx:∃p n c,sp 16=.tuple #[.agg #[.slice p n c],.int .i64 0]/\Ag w' p n c (OT)/\OT<Am (33):=(hdp 16 (mq (by kernel_rfl))).2
     (with_reducible refine Ba hx fun p hx1=>Ba hx1 fun n hx2=>Ba hx2 fun c hx3=>?_)
     have h1:=hx3.1
     (with_reducible refine Ai (w1:=w') (v:=.agg #[.slice p n c]) ?_ ?_ ?_)
     .simp[Region.wanted,yielded,Act.put,go_sem]
     .simp[execOp,Act.eval,Act.put,go_sem,h1]
     .exact⟨Ao.same _ _,⟨p,n,c,rfl,hx3.2⟩,hg.1,by simpa [upd]using hg.2⟩
    case refine_19=>
     have hx:∃p n c,sp 16=.tuple #[.agg #[.slice p n c],.int .i64 0]/\Ag w' p n c (OT)/\OT<Am (33):=(hdp 16 (mq (by kernel_rfl))).2
     (with_reducible refine Ba hx fun p hx1=>Ba hx1 fun n hx2=>Ba hx2 fun c hx3=>?_)
     have h1:=hx3.1
     with_reducible refine Af ?_ ?_
     all_goals simp[Region.wanted,yielded,execOp,Act.eval,Act.put,go_sem,h1]
    case refine_20=>
     have h9:D 20=false:=hW 20 (mq (by kernel_rfl));rw[hD,h9]at hg
     (with_reducible refine Ai (w1:=w'.alloc (.cells #[.slice none 0 0] 36)) (v:=.pointer (some ⟨w'.heap.size,0,none⟩)) ?_ ?_ ?_)
     .simp[Region.wanted,yielded,Act.put,go_sem]
     .simp[execOp,go_sem]
     .have hb:Below w'.heap.size w' (w'.alloc (.cells #[.slice none 0 0] 36)):=Cu;refine⟨Ao.of hb hg.1.base,trivial,hg.1.later hb,?_⟩;have h8:=hg.2.made;simpa [upd,h9]using h8
    case refine_21=>
     have hx:∃p n c,sp 17=.agg #[.slice p n c]/\Ag w' p n c (OT)/\OT<Am (33):=(hdp 17 (mq (by kernel_rfl))).2
     (with_reducible refine Ba hx fun p hx1=>Ba hx1 fun n hx2=>Ba hx2 fun c hx3=>?_)
     have h1:=hx3.1;have h9:D 19=true:=(hdp 19 (mq (by kernel_rfl))).1;rw[h9]at hg
     have hp:=hg.2.put (hx3.2.1)
     (with_reducible refine Ba hp fun b hy0=>Ba hy0 fun q hy1=>Ba hy1 fun m hy2=>Ba hy2 fun k hy3=>?_)
     have h3:=hy3.1;have h6:=hy3.2.2.1.cell;have h7:=hy3.2.2.1.free
     (with_reducible refine Ap (w1:=w'.setCell ⟨b,0,none⟩ (.slice p n c)) ?_ ?_ ?_)
     .simp[Region.wanted,yielded,Act.put,go_sem]
     .simp[execOp,Act.eval,Act.put,go_sem,h1,h3,h6,h7]
     .refine⟨Ao.store hy3.2.2.1 (Eu (Ar _) hy3.2.1) _,trivial,hg.1.store_over hy3.2.2.1 (Ar _) hy3.2.1 (fun x hx=>by cases hx) _,?_⟩;have h8:=hy3.2.2.2;simpa [upd,h9]using h8
    all_goals ((with_reducible refine Af ?_ ?_);all_goals first|(simp only[Region.wanted];done)|simp[Region.wanted,yielded,execOp,Act.eval,Act.put,go_sem])
   .intro sp w5 hsp hg;obtain⟨hg1,_,hmk⟩:=hg;obtain⟨bO,e11,hbO,po,no,co,hxz,hnz⟩:=hmk rfl;have HBO:=Ab hxz;have HFO:=Ab (hnz rfl);have kb:=hg1.keep.bel;have HXB5:=Ab (HXB.out.below kb HXB.out.lt);have HX5:=Ab (HX.out.below kb);have HR5:=Ab (HR.out.below kb);have HPL5:=Ab (HPL.out.below kb);have HSL5:=Ab (HSL.out.below kb);have HB5:=Ab (Ae HBa.out kb);clear hsp hg1 hmk hxz hnz hbO kb HX HXB HR HPL HSL HYI HCY BW HBa;simp only[Al,Nat.reduceAdd];rw[e11];clear e11;generalize sp 9=y9,sp 10=y10,sp 14=y14,sp 15=y15,sp 16=y16,sp 17=y17,sp 20=y20 at *
    go_simp
    have c5:=HBO.out.cell;have hb6:Below w5.heap.size w5 (w5.alloc (.cells #[.slice po no co] 36)):=Cu;have hx6:=heap_alloc_new w5 (.cells #[.slice po no co] 36);obtain⟨w6,hw6⟩:∃x,w5.alloc (.cells #[.slice po no co] 36)=x:=⟨_,rfl⟩
    rw[hw6]at hb6 hx6
    obtain⟨g6,hg6⟩:∃x,w5.heap.size=x:=⟨_,rfl⟩
    rw[hg6]at hx6
    have hs6:Au w6 33 (some ⟨g6,0,none⟩) 1 1 [OT]:=⟨rfl,Ar _,by decide,(fun e=>by cases e),fun _=>⟨g6,0,rfl,(Ga hx6).1,fun i N hN=>by
     match i,hN with
     | 0,hN=>cases hN;exact⟨po,no,co,by simp[World.cell?,hx6],HFO.out.below hb6,HOTl.out⟩
     | i+1,hN=>simp at hN⟩⟩
    have HMUL:=Ab (Ud (HR5.out.below hb6) (HSL5.out.below hb6) hs6 (by decide) (by decide) (by omega) (by decide) (by omega) (by decide));have HX6:=Ab (HX5.out.below hb6);have HXB6:=Ab (HXB5.out.below hb6 HXB5.out.lt);have HR6:=Ab (HR5.out.below hb6);have HPL6:=Ab (HPL5.out.below hb6);have HSL6:=Ab (HSL5.out.below hb6);have HB6:=Ab (Ae HB5.out hb6);clear hb6 hx6 hs6 HX5 HXB5 HR5 HPL5 HSL5 HB5 HBO HFO
    go_wp2_with fail
    refine HMUL.out.mono ?_;rintro en w7 ⟨_,rfl,⟨g7,acc,rfl,hm7,hpr7⟩,b7⟩;have HM7:=Ab hm7;have HPR:=Ab hpr7;have HX7:=Ab (HX6.out.below b7);have HXB7:=Ab (HXB6.out.below b7 HXB6.out.lt);have HR7:=Ab (HR6.out.below b7);have HPL7:=Ab (HPL6.out.below b7);have HSL7:=Ab (HSL6.out.below b7);have HB7:=Ab (Ae HB6.out b7);clear hm7 hpr7 b7 HX6 HXB6 HR6 HPL6 HSL6 HB6 HMUL c5;have hk11:k1+1-1=k1:=by omega
    rw[hk11]at HM7
    rw[hk11];clear hk11
    go_wp2_with fail
    refine(cR HR7.out HPL7.out HM7.out (by decide) (by decide) (by omega) (by omega)).mono ?_;rintro en w8 ⟨rfl,ha8,b8⟩;have hmax:max k k1=k1:=by omega
    obtain⟨g8,hg8⟩:∃x,w7.heap.size=x:=⟨_,rfl⟩
    have HG8:Aa (w.heap.size<=g8):=⟨by rw[<-hg8];exact(Ae B4.out HB7.out).size⟩
    rw[hmax,hg8]at ha8
    rw[hmax,hg8];have HA8:=Ab ha8;have HXb:=Ab (HX7.out.below b8);have HXBb:=Ab (HXB7.out.below b8 HXB7.out.lt);have HRb:=Ab (HR7.out.below b8);have HSLb:=Ab (HSL7.out.below b8);have HB8:=Ab (Ae HB7.out b8);clear ha8 b8 HX7 HXB7 HR7 HPL7 HSL7 HB7 HM7 hmax hg8;go_wp2;clear hw6 hg6;refine Aj (by kernel_rfl) (by kernel_rfl)
     [some (.pointer (some ⟨r,0,none⟩)),some (.slice ps k1 cs),some (.pointer (some ⟨r,0,none⟩)),none,some (.agg #[.slice qx mx dx]),none,none,none,none,none]
     [false,false,false,true,false,true,true,true,true,true] rfl
     (fun w1 w2=>Below w1.heap.size w1 w2)
     (fun _ w'=>Below w8.heap.size w8 w')
     (fun i v w'=>match i with
      | 3=>Fit 2 0 v w'
      | 5=>Fit 33 (TT) v w'
      | 6=>Fit 1 1 v w'
      | 7=>gL 2 [TT,1] v w'
      | 8=>fI q (k1+2-1) ss [TT,1] v w'
      | 9=>fI q (k1+2-1) ss [TT,1] v w'
      | _=>True)
     ?_ (Aw _ _).drew ?_ ?_
    .intro i v w1 w2 hf hb;split at hf
     .exact hf.below hb
     .exact hf.below hb
     .exact hf.below hb
     .exact hf.below hb
     .exact hf.below hb
     .exact hf.below hb
     .trivial
    .simp only[Bc,Nat.reduceAdd];refine⟨?_,?_,?_,?_,?_,?_,?_,?_,?_,?_,trivial⟩
     all_goals intro D sp w' hD hW hdp hbx'
     case refine_4=>
      (with_reducible refine Ac (w1:=w') (f := 21) (args:=#[.int .u64 0]) ?_ ?_ ?_)
      .simp[Region.wanted,yielded,Act.put,go_sem]
      .simp[Act.eval,Act.put,go_sem]
      .refine(El (n:=0) w' (by omega)).mono ?_;rintro en w9 ⟨u,rfl,hu,hb⟩;exact⟨u,rfl,hb,hu,Ae hbx' hb⟩
     case refine_5=>
      have c0:=(HXBb.out.below hbx' HXBb.out.lt).cell
      with_reducible refine Af ?_ ?_
      all_goals simp[Region.wanted,yielded,execOp,Act.eval,Act.put,go_sem,c0]
     case refine_6=>
      have k3:Fit 2 0 (sp 3) w':=(hdp 3 (mq (by kernel_rfl))).2
      (with_reducible refine Ac (w1:=w') (f := 58) (args:=#[.pointer (some ⟨r,0,none⟩),sp 3,.agg #[.slice qx mx dx]]) ?_ ?_ ?_)
      .simp[Region.wanted,yielded,Act.put,go_sem]
      .simp[Act.eval,Act.put,go_sem]
      .refine(Jz (HRb.out.below hbx') k3 (HXb.out.below hbx') (by decide) (by decide)).mono ?_;rintro en w9 ⟨u,rfl,hu,hb⟩;rw[HTT.out]at hu
       exact⟨u,rfl,hb,hu,Ae hbx' hb⟩
     case refine_7=>
      (with_reducible refine Ac (w1:=w') (f := 21) (args:=#[.int .u64 1]) ?_ ?_ ?_)
      .simp[Region.wanted,yielded,Act.put,go_sem]
      .simp[Act.eval,Act.put,go_sem]
      .refine(Du w').mono ?_;rintro en w9 ⟨u,rfl,hu,hb⟩;exact⟨u,rfl,hb,hu,Ae hbx' hb⟩
     case refine_8=>
      have hxa:∃p n c,sp 5=.agg #[.slice p n c]/\Ag w' p n c (TT)/\TT<Am (33):=(hdp 5 (mq (by kernel_rfl))).2
      (with_reducible refine Ba hxa fun pa hxa1=>Ba hxa1 fun na hxa2=>Ba hxa2 fun ca hxa3=>?_)
      have ha:=hxa3.1;have hxb:∃p n c,sp 6=.agg #[.slice p n c]/\Ag w' p n c (1)/\1<Am (1):=(hdp 6 (mq (by kernel_rfl))).2
      (with_reducible refine Ba hxb fun pb hxb1=>Ba hxb1 fun nb hxb2=>Ba hxb2 fun cb hxb3=>?_)
      have hb:=hxb3.1
      (with_reducible refine Ai (w1:=w'.alloc (.cells #[.slice pa na ca,.slice pb nb cb] 36)) (v:=.slice (some ⟨w'.heap.size,0,none⟩) 2 2) ?_ ?_ ?_)
      .simp only[Region.wanted]
      .simp[execOp,Act.eval,Act.put,go_sem,ha,hb]
      .have hbl:Below w'.heap.size w' (w'.alloc (.cells #[.slice pa na ca,.slice pb nb cb] 36)):=Cu;exact⟨hbl,⟨w'.heap.size,rfl,gZ.plist (x:=(pa,na,ca)) (y:=(pb,nb,cb)) (heap_alloc_new w' _) (hxa3.2.1.below hbl) (hxb3.2.1.below hbl) hxa3.2.2 (Dh hxb3.2.2 (Br (by decide)))⟩,Ae hbx' hbl⟩
     case refine_9=>
      have k7:gL 2 [TT,1] (sp 7) w':=(hdp 7 (mq (by kernel_rfl))).2
      (with_reducible refine Ac (w1:=w') (f := 93) (args:=#[.pointer (some ⟨r,0,none⟩),.slice ps k1 cs,sp 7]) ?_ ?_ ?_)
      .simp only[Region.wanted]
      .simp[Act.eval,Act.put,go_sem]
      .refine(bN (HRb.out.below hbx') (HSLb.out.below hbx') k7 (by decide) (by omega) (by omega)).mono ?_;rintro en w9 ⟨u,rfl,hu,hb⟩;exact⟨u,rfl,hb,hu,Ae hbx' hb⟩
     case refine_10=>
      have k8:fI q (k1+2-1) ss [TT,1] (sp 8) w':=(hdp 8 (mq (by kernel_rfl))).2
      (with_reducible refine Ai (w1:=w') (v:=sp 8) ?_ ?_ ?_)
      .simp[Region.wanted,yielded,Act.put,go_sem]
      .simp[execOp,Act.eval,Act.put,go_sem]
      .exact⟨Aw _ _,k8,hbx'⟩
     all_goals ((with_reducible refine Af ?_ ?_);all_goals first|(simp only[Region.wanted];done)|simp[Region.wanted,yielded,execOp,Act.eval,Act.put,go_sem])
    .intro sp wz hsp hb;obtain⟨g9,acc2,e9,hm9,hpr9⟩:fI q (k1+2-1) ss [TT,1] (sp 9) wz:=hsp 9 rfl;have hk12:k1+2-1=k1+1:=by omega
     rw[hk12]at e9 hm9
     have HNn:=Ab (HNS.out acc acc2 HPR.out hpr9);have HPn:Aa (gI w.heap.size (k+1) (Kl q pl acc) (.slice (some ⟨g8,0,none⟩) k1 k1) wz):=⟨⟨_,k1,by rw[hk1],by rw[hk1];exact HA8.out.below hb,fun a ha=>by cases ha;exact HG8.out⟩⟩
     have HSn:Aa (iJ (k+1+1) acc2 (.slice (some ⟨g9,0,none⟩) (k1+1) (k1+1)) wz):=⟨⟨_,_,by rw[hk1],by rw[hk1];exact hm9⟩⟩
     have HBn:=Ab (Ae HB8.out hb);clear hsp hb hm9 hpr9 hk12;simp only[Al,Nat.reduceAdd];rw[e9];clear e9;generalize sp 3=y3,sp 5=y5,sp 6=y6,sp 7=y7,sp 8=y8 at *
     go_simp
     go_wp2;go_roundw
     case rel=>exact⟨k+1,_,_,by omega,by go_num,HNn,HPn,HSn,HBn⟩
     case measure=>simp[intOf];omega
  .obtain rfl:k=n:=by omega
   have hkn':¬(k:Int)<k:=by omega
   have HPF:=Ab hpl;have HPG:=Ab hpf;have HNF:=Ab HN.out;have HBF:=Ab (Ae B4.out HB.out);clear hpl hsl hpf HPK HSK HN HB;go_wp2
   go_ret2
   exact⟨_,pl,ss,rfl,⟨_,_,rfl,HPF.out,HPG.out⟩,HNF.out,HBF.out⟩
end Go.Proofs.YtnbmfaihlefgfaaGreatDoor
