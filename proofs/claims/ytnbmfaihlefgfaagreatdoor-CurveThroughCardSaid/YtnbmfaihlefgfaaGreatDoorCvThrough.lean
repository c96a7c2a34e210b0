/- CurveThrough, walked: the polynomial through any values at unlike places goes through all of them, and is the one they come from. -/
import Derived.Test.YtnbmfaihlefgfaaGreatDoorCvR
set_option maxRecDepth 1000000
set_option maxHeartbeats 16000000
set_option linter.all false
namespace Go.Proofs.YtnbmfaihlefgfaaGreatDoor
open Go Go.RowKit Go.Proofs.YtnbmfaihlefgfaaGreatDoor.Flow
def aV:Value->Nat
 | .slice _ l _=>l
 | _=>0
theorem Tx {w w':World}{e n c B:Nat}{p:Option Addr}{v:Value}{us:List (Option Addr×Nat×Nat)}{Ns:List Nat}(h:Au w e p n c Ns)(hr:Do w B v us)(hg:w.grownBy w' v.ownBlock)(hp:∀q,p=some q->v.ownBlock≠some q.block):Au w' e p n c Ns:=by
 refine⟨h.len,h.cap,h.max,h.nil,fun h0=>?_⟩;obtain⟨b,off,h1,h2,h3⟩:=h.at_ h0
 have hblk:w'.heap[b]? = w.heap[b]? := hg.block b h2 fun e=>hp _ h1 e.symm
 refine⟨b,off,h1,Dh h2 hg.size,fun i N hN=>?_⟩;obtain⟨q,m,d,k1,k2,k3⟩:=h3 i N hN;exact⟨q,m,d,by rw[World.cell?_of_block (a:=⟨b,off+i,none⟩) hblk];exact k1,Jg hr hg k2,k3⟩
theorem take_set {q k a:Nat}{ls:List Nat}(h:ls[k]? = some a):(((ls.take k).map fun x=>x%q)++ls.drop k).set k (a%q)=((ls.take (k+1)).map fun x=>x%q)++ls.drop (k+1):=by
 have hk:=(List.getElem?_eq_some_iff.1 h).1;have hl:((ls.take k).map fun x=>x%q).length=k:=by rw[List.length_map,List.length_take];omega
 rw[List.set_append_right _ _ (by omega),hl,Nat.sub_self,Dg h,List.map_append,List.append_assoc,List.drop_eq_getElem_cons hk];have:ls[k]=a:=(List.getElem?_eq_some_iff.1 h).2;rw[this];rfl
theorem gE {q k a:Nat}{ls:List Nat}(h:ls[k]? = some a):(((ls.take k).map fun x=>x%q)++ls.drop k)[k]? = some a:=by
 have hk:=(List.getElem?_eq_some_iff.1 h).1;have hl:((ls.take k).map fun x=>x%q).length=k:=by rw[List.length_map,List.length_take];omega
 rw[List.getElem?_append_right (by omega),hl,Nat.sub_self,List.getElem?_drop,Nat.add_zero,h]
theorem Yk {w:World}{e f:Nat}{us:List (Option Addr×Nat×Nat)}{Ns:List Nat}(h:Cs w e us Ns)(hf:e<=f):Cs w f us Ns :=
 ⟨h.len,fun i N hN=>let ⟨x,h1,h2,h3⟩:=h.at_ i N hN;⟨x,h1,h2,Dh h3 (Br hf)⟩⟩
theorem Pl (w:World)(hr:Tabs w)(A:Int)(px:Option Addr)(n c:Nat)(xs:List Nat)(hx:Bm w .u64 px n c xs)(hx64:∀x∈xs,fG x)(pl:Option Addr)(m d:Nat)(ls:List Nat)(hl:Bm w .u64 pl m d ls)(hl64:∀x∈ls,fG x) :
  Calls Tryz.prog 4 #[.int .i64 A,.slice px n c,.slice pl m d] w fun e w'=>e=.returned (.bool true)/\Below w.heap.size w w':=by
 have HLI:=Ab Qk;have HFD:=Ab Nc;have HT:=Ab hr;have HRX:=Ab hx;have H6X:=Ab hx64;have HRL:=Ab hl;have H6L:=Ab hl64;have HLX:=Ab hx.len;have HLL:=Ab hl.len;have hcp1:=hx.cap;have hcm1:=hx.max;have hcp2:=hl.cap;have hcm2:=hl.max;obtain⟨i,hi⟩:∃i,((IntKind.u64.wrap A)%3).toNat=i:=⟨_,rfl⟩
 have HI3:Aa (i<3):=⟨by rw[<-hi];exact bY A⟩
 have HI:=Ab hi;clear hx hx64 hl hl64 hr hi;go_enter Tryz.func4,Tryz.ntmps4
 go_wp2_with fail
 refine(HLI.out w HT.out).mono ?_;rintro en w1 ⟨rfl,b1⟩;have B1:=Ab b1;clear b1
 by_cases hn8:8<n
 .have hn8':(8:Int)<n:=by omega
  go_wp2_with fail
  refine(HLI.out w1 (HT.out.below B1.out HT.out.size)).mono ?_;rintro en w2 ⟨rfl,b2⟩;have B2:=Ab (Ae B1.out b2);clear b2;go_wp2;go_ret;exact⟨rfl,B2.out⟩
 have hn8':¬(8:Int)<n:=by omega
 by_cases hmn:n<m
 .have hmn':(n:Int)<m:=by omega
  go_wp2_with fail
  refine(HLI.out w1 (HT.out.below B1.out HT.out.size)).mono ?_;rintro en w2 ⟨rfl,b2⟩;have B2:=Ab (Ae B1.out b2);clear b2;go_wp2;go_ret;exact⟨rfl,B2.out⟩
 have hmn':¬(n:Int)<m:=by omega
 go_wp2_with fail
 refine(HFD.out w1 A (HT.out.below B1.out HT.out.size)).mono ?_;rintro en w2 ⟨r,rfl,hr2,b2⟩;rw[HI.out]at hr2
 obtain⟨q,hq⟩:∃q,gQ i=q:=⟨_,rfl⟩
 have HPQ:Aa (Bo q):=⟨by rw[<-hq];exact cF i HI3.out⟩
 rw[hq]at hr2
 have HR2:=Ab hr2;have B2:=Ab (Ae B1.out b2);have HQB:Aa (q<Am 33):=⟨hr2.lim⟩
 clear hr2 b2 hq
 go_wp2_with fail
 refine(Ow w2 px n c xs (HRX.out.below B2.out) H6X.out (by omega)).mono ?_;rintro en w3 ⟨qx,cx,rfl,hp3,b3⟩;have HX3:=Ab hp3;have HR3:=Ab (HR2.out.below b3);have B3:=Ab (Ae B2.out b3);have hxm:=hp3.max;have hxc:=hp3.cap;clear hp3 b3
 go_wp2_with fail
 refine(Tz w3 pl m d ls (HRL.out.below B3.out) H6L.out (by omega)).mono ?_;rintro en w4 ⟨v4,us4,rfl,hs4,ht4,b4⟩;have HX4:=Ab (HX3.out.below b4);have HR4:=Ab (HR3.out.below b4);have B4:=Ab (Ae B3.out b4);have B34:Aa (Below w3.heap.size w3 w4):=⟨b4⟩
 obtain⟨pv,cv,hv⟩:=hs4.slice;have hm4:us4.length=m:=by rw[ht4.len];exact HLL.out.symm
 rw[hm4]at hv
 subst hv;have HS4:=Ab hs4;have HT4:=Ab (Yk ht4 (by decide:2<=33));clear hs4 ht4 b4 hm4;go_wp2
 go_loopw [10,43] (fun _ iv wr=>∃(k:Nat) (us:List (Option Addr×Nat×Nat)),k<=m/\iv=.int .i64 k/\Aa (Below w3.heap.size w3 wr)/\Aa (Do wr w3.heap.size (.slice pv m cv) us)/\Aa (Cs wr 33 us (((ls.take k).map fun x=>x%q)++ls.drop k))) (fun _ iv _=>m-(intOf iv).toNat)
 case atStart=>exact⟨0,us4,by omega,rfl,B34,HS4,⟨by rw[List.take_zero,List.drop_zero];exact HT4.out⟩⟩
 case round=>
  obtain⟨k,us,hk,rfl,HB,HS,HT5⟩:=hrel;have hul:us.length=m:=by
   have:=HT5.out.len;rw[this,List.length_append,List.length_map,List.length_take,List.length_drop,<-HLL.out];omega
  by_cases hkm:k<m
  .obtain⟨a,hak⟩:∃a,ls[k]? = some a:=⟨ls[k]'(by rw[<-HLL.out];exact hkm),List.getElem?_eq_getElem _⟩
   obtain⟨gj,cj,rest,e0,hbj,hsr,hcj,hmj⟩:=HS.out.full (by omega);simp only[Value.slice.injEq]at e0;obtain⟨rfl,e5,e3⟩:=e0;have e4:cj=cv:=e3.symm;subst e4;clear e5;obtain⟨ua,hua,h2a,h3a⟩:=HT5.out.at_ k a (gE hak)
   have HTK:Aa ((((ls.take k).map fun x=>x%q)++ls.drop k).set k (a%q)=((ls.take (k+1)).map fun x=>x%q)++ls.drop (k+1)):=⟨take_set hak⟩
   obtain⟨uz,huz⟩:∃l,us++rest=l:=⟨_,rfl⟩
   rw[huz]at hsr
   have HUZ:=Ab huz;have huk:uz[k]? = some ua:=by rw[<-huz,List.getElem?_append_left (by omega)];exact hua
   have hcell:=hsr.cell huk;have HSZ:=Ab hsr;have HUK:=Ab huk;have HUL:=Ab hul;have HCJ:Aa (us.length+rest.length=cj/\cj<=9223372036854775807):=⟨⟨hcj,hmj⟩⟩
   have HBJ:=Ab hbj;have HFA:=Ab (Fit.of h2a h3a);have hkm':(k:Int)<m:=by omega
   have hmk:¬m<=k:=by omega
   clear hak hua h2a h3a huz hsr huk hcj hmj hbj hul
   go_wp2_with fail
   refine(Dt (HR3.out.below HB.out) HFA.out (by decide)).mono ?_;rintro en w5 ⟨_,rfl,⟨pz,nz,cz,rfl,z1,z2⟩,b5⟩;have hs5:=HSZ.out.below b5 HSZ.out.lt;have c1:=hs5.cell HUK.out;have f1:=hs5.free k;have hs6:=hs5.set k pz nz cz;rw[<-HUZ.out,List.set_append_left _ _ (by rw[HUL.out];exact hkm)]at hs6
   have HS6:Aa (Do (w5.setCell ⟨gj,k,none⟩ (.slice pz nz cz)) w3.heap.size (.slice (some ⟨gj,0,none⟩) m cj) (us.set k (pz,nz,cz))):=⟨by
    have:=Do.of_full (cap:=cj) HBJ.out hs6 (by rw[List.length_set];exact HCJ.out.1) HCJ.out.2
    rwa [List.length_set,HUL.out]at this⟩
   have HT6:Aa (Cs (w5.setCell ⟨gj,k,none⟩ (.slice pz nz cz)) 33 (us.set k (pz,nz,cz)) (((ls.take (k+1)).map fun x=>x%q)++ls.drop (k+1))):=⟨by
    rw[<-HTK.out];exact((HT5.out.below b5).keep (Ao.store_row hs5 (Ar _) k _)).set (hs5.nat z1 k _) z2⟩
   have HB6:Aa (Below w3.heap.size w3 (w5.setCell ⟨gj,k,none⟩ (.slice pz nz cz))):=⟨(HB.out.trans (b5.mono HB.out.size)).setCell HBJ.out _⟩
   clear hs5 hs6 z1 b5 hcell;go_wp2;go_roundw
   case rel=>exact⟨k+1,us.set k (pz,nz,cz),by omega,by go_num,HB6,HS6,HT6⟩
   case measure=>simp[intOf];omega
  .obtain rfl:k=m:=by omega
   have hkm':¬(k:Int)<k:=by omega
   obtain⟨Pm,hPm⟩:∃l,(ls.map fun x=>x%q)=l:=⟨_,rfl⟩
   have hT7:Cs wr 33 us Pm:=by
    have:=HT5.out
    rwa [List.take_of_length_le (by rw[<-HLL.out];exact Ar _),List.drop_of_length_le (by rw[<-HLL.out];exact Ar _),List.append_nil,hPm]at this
   have HPm:=Ab hPm;have HPl:Aa (Pm.length=k):=⟨by rw[<-hPm,List.length_map];exact HLL.out.symm⟩
   have HPlt:Aa (∀z∈Pm,z<q):=⟨fun z hz=>by
    rw[<-hPm]at hz
    obtain⟨x,_,rfl⟩:=List.mem_map.1 hz;exact Nat.mod_lt _ (by have:=HPQ.out.two;omega)⟩
   obtain⟨pq,cq,e1,hp7⟩:=HS.out.plist hT7;rw[HPl.out]at e1 hp7
   simp only[Value.slice.injEq]at e1;obtain⟨rfl,e5,rfl⟩:=e1;clear e5;obtain⟨wp,hwp⟩:∃x,x=wr:=⟨_,rfl⟩
   subst hwp;obtain⟨m,hmm⟩:∃x,x=k:=⟨_,rfl⟩
   subst hmm;have HP7:=Ab hp7;have HS7:=Ab HS.out;have HT7:=Ab hT7;have HX7:=Ab (HX3.out.below HB.out);have HR7:=Ab (HR3.out.below HB.out);have B7:=Ab (Ae B3.out HB.out);have HW37:Aa (Below w3.heap.size w3 wp):=⟨HB.out⟩
   clear hp7 hT7 hPm HS HT5 HB hul;go_wp2
   go_loopw [11,13,58] (fun vy _ iv wr=>∃(j:Nat) (uy:List (Option Addr×Nat×Nat)),j<=n/\iv=.int .i64 j/\Aa (Below wp.heap.size wp wr)/\Aa (Do wr wp.heap.size vy uy)/\Aa (Cs wr 33 uy ((xs.take j).map fun x=>Dq q x Pm))) (fun _ _ iv _=>n-(intOf iv).toNat)
   case atStart=>exact⟨0,[],by omega,rfl,⟨Aw _ _⟩,⟨Do.nil _ _⟩,⟨Cs.nil _ _⟩⟩
   case round=>
    obtain⟨j,uy,hj,rfl,HB,HSy,HTy⟩:=hrel
    by_cases hjn:j<n
    .obtain⟨x,hxj⟩:∃a,xs[j]? = some a:=⟨xs[j]'(by rw[<-HLX.out];exact hjn),List.getElem?_eq_getElem _⟩
     obtain⟨bx,ox,rfl,hbx,hcx⟩:=HX7.out.at_ (by omega)
     obtain⟨u1,u2,u3,x1,x2,x3⟩:=hcx j x hxj;have hcy:wr.cell? ⟨bx,ox+j,none⟩=some (.slice u1 u2 u3):=(HB.out.cell (p:=⟨bx,ox+j,none⟩) hbx).trans x1;have hba:Below wr.heap.size wr (wr.alloc (.cells #[.slice u1 u2 u3] 36)):=Cu;have hxa:=(Ad.made wr (.slice u1 u2 u3)).cell;obtain⟨wa,hwa⟩:∃wa,wr.alloc (.cells #[.slice u1 u2 u3] 36)=wa:=⟨_,rfl⟩
     rw[hwa]at hba hxa
     have hBa:=Ae HB.out hba;have HBa:=Ab hBa;have HXa:=Ab ((Fit.of x2 x3).below hBa);have HSa:=Ab (HSy.out.below hba);have HTa:=Ab (HTy.out.below hba);obtain⟨yv,hyv⟩:∃V,Dq q x Pm=V:=⟨_,rfl⟩
     have HYV:=Ab hyv;have HTK:Aa (((xs.take (j+1)).map fun x=>Dq q x Pm)=((xs.take j).map fun x=>Dq q x Pm)++[yv]):=⟨by rw[Dg hxj,List.map_append,<-hyv];rfl⟩
     obtain⟨py,cyy,hvy⟩:=HSa.out.slice;have HUS:Aa (uy.length<=100000):=⟨by rw[HTy.out.len,List.length_map,List.length_take];omega⟩
     obtain⟨n1,hn1⟩:∃l,uy.length=l:=⟨_,rfl⟩
     rw[hn1]at hvy
     subst hvy;have hjn':(j:Int)<n:=by omega
     have hnj:¬n<=j:=by omega
     clear hcx hxj x1 x2 hbx hba hBa hyv hn1 HB HSy HTy
     go_wp2_with fail
     refine(Jl (HR7.out.below HBa.out) (HP7.out.below HBa.out) HXa.out (by decide) (by decide) (by omega) HYV.out).mono ?_;rintro en w5 ⟨_,rfl,⟨po,no,co,rfl,o1,o2⟩,b5⟩;have hb6:Below w5.heap.size w5 (w5.alloc (.cells #[.slice po no co] 36)):=Cu;have hx6:(w5.alloc (.cells #[.slice po no co] 36)).cell? ⟨w5.heap.size,0,none⟩=some (.slice po no co):=(Ad.made w5 (.slice po no co)).cell;have hn6:=o1.below hb6;obtain⟨w6,hw6⟩:∃w4,w5.alloc (.cells #[.slice po no co] 36)=w4:=⟨_,rfl⟩
     rw[hw6]at hb6 hx6 hn6
     have hb56:=Ae b5 hb6;have hs6:=HSa.out.below hb56;have hsz:wp.heap.size<=w6.heap.size:=(Ae HBa.out hb56).size;obtain⟨v9,w9,happ,hr9,hg9,_⟩:=hs6.app (x:=(po,no,co)) hx6 hsz HUS.out 32 (c:=1);have HB9:Aa (Below wp.heap.size wp w9):=⟨(Ae HBa.out hb56).grown hg9 hsz (fun g hg=>(hs6.own hg).1)⟩
     have HS9:=Ab hr9;have HT9:Aa (Cs w9 33 (uy++[(po,no,co)]) ((xs.take (j+1)).map fun x=>Dq q x Pm)):=⟨by
      rw[HTK.out];exact((HTa.out.below hb56).grown hs6 hg9).snoc (Jg hs6 hg9 hn6) o2⟩
     clear b5 o1 hb6 hx6 hn6 hb56 hs6 hsz hr9 hg9 hxa hcy
     go_wp2_with (at_builtin;refine Lib.wpList_append_run _ rfl _ _ _ _ rfl _ _ rfl rfl _ _ happ ?_;refine Ko.out ?_)
     refine⟨?_⟩;clear happ hwa;go_wp2;go_roundw
     case rel=>exact⟨j+1,_,by omega,by go_num,HB9,HS9,HT9⟩
     case measure=>simp[intOf];omega
    .obtain rfl:j=n:=by omega
     have hjn':¬(j:Int)<j:=by omega
     rw[List.take_of_length_le (by rw[<-HLX.out];exact Ar _)]at HTy
     obtain⟨ys,hys⟩:∃l,(xs.map fun x=>Dq q x Pm)=l:=⟨_,rfl⟩
     rw[hys]at HTy
     have hyl:ys.length=j:=by rw[<-hys,List.length_map];exact HLX.out.symm
     obtain⟨py,cy,e1,hpy⟩:=HSy.out.plist HTy.out;rw[hyl]at e1 hpy
     subst e1;obtain⟨wq,hwq⟩:∃x,x=wr:=⟨_,rfl⟩
     subst hwq;obtain⟨n,hnn⟩:∃x,x=j:=⟨_,rfl⟩
     subst hnn;have HYS:=Ab hys;have HYL:Aa (ys.length=n):=⟨hyl⟩
     have HPY:=Ab hpy;have HX8:=Ab (HX7.out.below HB.out);have HR8:=Ab (HR7.out.below HB.out);have HS8:=Ab (HS7.out.below HB.out);have HT8:=Ab (HT7.out.below HB.out);have B8:=Ab (Ae B7.out HB.out);have HW38:Aa (Below w3.heap.size w3 wq):=⟨Ae HW37.out HB.out⟩
     have HOW:Aa (∀g,(Value.slice pv m cv).ownBlock=some g->g<wq.heap.size):=⟨fun g hg=>(HS8.out.own hg).2⟩
     clear hys hyl hpy HSy HTy HB HX7 HR7 HS7 HT7 HP7 B7
     by_cases hf:Ey q n n xs=0
     .have HTHR:Aa _:=⟨Vr HPQ.out HR8.out HX8.out HPY.out (by decide) (by decide) (by omega) (by omega) hf⟩
      go_wp2_with fail
      refine HTHR.out.mono ?_;rintro en w5 ⟨_,ps,ss,rfl,⟨qg,cg,rfl,hg5,hfr⟩,hns,b5⟩;have HNS:=Ab hns;have HGS:=Ab hg5;have HFR:=Ab hfr;have HX9:=Ab (HX8.out.below b5);have HR9:=Ab (HR8.out.below b5);have HS9:=Ab (HS8.out.below b5);have HT9:=Ab (HT8.out.below b5);have HY9:=Ab (HPY.out.below b5);have B9:=Ab (Ae B8.out b5);have HW35:Aa (Below w3.heap.size w3 w5):=⟨Ae HW38.out b5⟩
      have HUNL:Aa (Ez q (ints xs)):=⟨(Oh xs).2 (Uq hf).2.2⟩
      have HEQ:Aa (ps=Pm++List.replicate (n-m) 0):=⟨Tn HPQ.out HUNL.out (by rw[hns.plen];exact HLX.out) (by rw[List.length_append,List.length_replicate,HPl.out,<-HLX.out];omega) hns.plt (fun z hz=>by
       rcases List.mem_append.1 hz with h1|h1
       .exact HPlt.out z h1
       .rw[(List.mem_replicate.1 h1).2];have:=HPQ.out.two;omega) (fun x hx=>by
       obtain⟨j,hj⟩:=List.getElem?_of_mem hx;have hjn:j<n:=by rw[HLX.out];exact(List.getElem?_eq_some_iff.1 hj).1
       have hy:ys[j]? = some (Dq q x Pm):=by rw[<-HYS.out,List.getElem?_map,hj];rfl
       rw[hns.at_ HPQ.out.two hjn hj hy (Fx HPQ.out.two Pm).lt,Sn HPQ.out.two])⟩
      clear hns hg5 hfr b5 HTHR HX8 HR8 HS8 HT8 HPY B8 hf;have hge:=HX9.out.cap;go_wp2
      go_loopw [16,17,92] (fun _ _ iv wr=>∃k:Nat,k<=n/\iv=.int .i64 k/\Aa (Below w5.heap.size w5 wr)) (fun _ _ iv _=>n-(intOf iv).toNat)
      case atStart=>exact⟨0,by omega,rfl,⟨Aw _ _⟩⟩
      case round=>
       obtain⟨k,hk,rfl,HB⟩:=hrel
       by_cases hkn:k<n
       .obtain⟨x,hxk⟩:∃a,xs[k]? = some a:=⟨xs[k]'(by rw[<-HLX.out];exact hkn),List.getElem?_eq_getElem _⟩
        obtain⟨yv,hyk⟩:∃a,ys[k]? = some a:=⟨ys[k]'(by rw[HYL.out];exact hkn),List.getElem?_eq_getElem _⟩
        have hyq:yv<q:=by
         have h1:=hyk;rw[<-HYS.out,List.getElem?_map,hxk]at h1
         simp only[Option.map_some,Option.some.injEq]at h1;rw[<-h1];exact(Fx HPQ.out.two Pm).lt
        have HVAL:Aa (Dq q x ps=yv):=⟨HNS.out.at_ HPQ.out.two hkn hxk hyk hyq⟩
        obtain⟨bx,ox,rfl,hbx,hcx⟩:=HX9.out.at_ (by omega)
        obtain⟨u1,u2,u3,x1,x2,x3⟩:=hcx k x hxk;obtain⟨by_,oy,rfl,hby,hcyy⟩:=HY9.out.at_ (by omega)
        obtain⟨t1,t2,t3,y1,y2,y3⟩:=hcyy k yv hyk;have hcy:wr.cell? ⟨bx,ox+k,none⟩=some (.slice u1 u2 u3):=(HB.out.cell (p:=⟨bx,ox+k,none⟩) hbx).trans x1;have hba:Below wr.heap.size wr (wr.alloc (.cells #[.slice u1 u2 u3] 36)):=Cu;have hxa:=Ad.made wr (.slice u1 u2 u3);obtain⟨wa,hwa⟩:∃wa,wr.alloc (.cells #[.slice u1 u2 u3] 36)=wa:=⟨_,rfl⟩
        rw[hwa]at hba hxa
        obtain⟨b9,hb9⟩:∃x,wr.heap.size=x:=⟨_,rfl⟩
        rw[hb9]at hxa
        have hBa:=Ae HB.out hba;have HXB:=Ab hxa;have HBa:=Ab hBa;have HX:=Ab ((Fit.of x2 x3).below hBa);have HYI:=Ab ((Fit.of y2 y3).below hBa);have HCY:Aa (∀w',Below wa.heap.size wa w'->w'.cell? ⟨by_,oy+k,none⟩=some (.slice t1 t2 t3)):=⟨fun w' hb=>((Ae HBa.out hb).cell (p:=⟨by_,oy+k,none⟩) hby).trans y1⟩
        have HRx:=Ab (HR9.out.below hBa);have HGx:=Ab (HGS.out.below hBa);have hkn':(k:Int)<n:=by omega
        have hnk:¬n<=k:=by omega
        clear hxk hyk hyq hcx hbx hcyy hby x1 x2 y1 y2 hba hxa hBa;go_wp2;clear hwa hb9 hcy;refine Aj (by kernel_rfl) (by kernel_rfl)
         [some (.pointer (some ⟨r,0,none⟩)),some (.slice qg n cg),some (.agg #[.slice u1 u2 u3]),none,some (.slice (some ⟨by_,oy,none⟩) n cy),some (.int .i64 (k:Nat)),some (.pointer (some ⟨by_,oy+k,none⟩)),some (.agg #[.slice t1 t2 t3]),none,some (.bool false)]
         [false,false,false,true,false,false,false,false,true,false] rfl
         (fun w1 w2=>Below w1.heap.size w1 w2)
         (fun _ w'=>Below wa.heap.size wa w')
         (fun i v w'=>match i with
          | 3=>Fit 33 yv v w'
          | 8=>v=.int .i64 0
          | _=>True)
         ?_ (Aw _ _).drew ?_ ?_
        .intro i v w1 w2 hf hb;split at hf
         .exact hf.below hb
         .exact hf
         .trivial
        .simp only[Bc,Nat.reduceAdd];refine⟨?_,?_,?_,?_,?_,?_,?_,?_,?_,?_,trivial⟩
         all_goals intro D sp w' hD hW hdp hbx'
         case refine_3=>
          have c0:=(HXB.out.below hbx' HXB.out.lt).cell
          with_reducible refine Af ?_ ?_
          all_goals simp[Region.wanted,yielded,execOp,Act.eval,Act.put,go_sem,c0]
         case refine_4=>
          (with_reducible refine Ac (w1:=w') (f := 33) (args:=#[.pointer (some ⟨r,0,none⟩),.slice qg n cg,.agg #[.slice u1 u2 u3]]) ?_ ?_ ?_)
          .simp[Region.wanted,yielded,Act.put,go_sem]
          .simp[Act.eval,Act.put,go_sem]
          .refine(Jl (HRx.out.below hbx') (HGx.out.below hbx') (HX.out.below hbx') (by decide) (by decide) (by omega) HVAL.out).mono ?_;rintro en w9 ⟨u,rfl,hu,hb⟩;exact⟨u,rfl,hb,hu,Ae hbx' hb⟩
         case refine_7=>
          (with_reducible refine Ai (w1:=w') (v:=.pointer (some ⟨by_,oy+k,none⟩)) ?_ ?_ ?_)
          .simp[Region.wanted,yielded,Act.put,go_sem]
          .simp[execOp,Act.eval,Act.put,go_sem,hkn]
          .exact⟨rfl,rfl⟩
         case refine_8=>
          have c0:=HCY.out w' hbx'
          with_reducible refine Af ?_ ?_
          all_goals simp[Region.wanted,yielded,execOp,Act.eval,Act.put,go_sem,c0]
         case refine_9=>
          have k3:Fit 33 yv (sp 3) w':=(hdp 3 (mq (by kernel_rfl))).2
          (with_reducible refine Ac (w1:=w') (f := 34) (args:=#[sp 3,.agg #[.slice t1 t2 t3]]) ?_ ?_ ?_)
          .simp[Region.wanted,yielded,Act.put,go_sem]
          .simp[Act.eval,Act.put,go_sem]
          .refine(Bj k3 (HYI.out.below hbx') (by decide) (by decide) (Bt.2 rfl)).mono ?_;rintro en w9 ⟨_,rfl,rfl,hb⟩;exact⟨_,rfl,hb,rfl,Ae hbx' hb⟩
         case refine_10=>
          have k8:(sp 8)=.int .i64 0:=(hdp 8 (mq (by kernel_rfl))).2
          with_reducible refine Af ?_ ?_
          all_goals simp[Region.wanted,yielded,execOp,Act.eval,Act.put,go_sem,k8]
         all_goals ((with_reducible refine Af ?_ ?_);all_goals first|(simp only[Region.wanted];done)|simp[Region.wanted,yielded,execOp,Act.eval,Act.put,go_sem])
        .intro sp w6 hsp hb;have HB6:=Ab (Ae HBa.out hb);clear hsp hb;simp only[Al,Nat.reduceAdd];generalize sp 3=y3,sp 8=y8 at *
         go_simp
         go_wp2;go_roundw
         case rel=>exact⟨k+1,by omega,by go_num,HB6⟩
         case measure=>simp[intOf];omega
       .obtain rfl:k=n:=by omega
        have hkn':¬(k:Int)<k:=by omega
        obtain⟨n,hnn⟩:∃x,x=k:=⟨_,rfl⟩
        subst hnn;obtain⟨wz,hwz⟩:∃x,x=wr:=⟨_,rfl⟩
        subst hwz;have HSz:=Ab (HS9.out.below HB.out);have HTz:=Ab (HT9.out.below HB.out);have HGz:=Ab (HGS.out.below HB.out);have Bz:=Ab (Ae B9.out HB.out);have HNE0:Aa (∀a,qg=some a->(Value.slice pv m cv).ownBlock≠some a.block):=⟨fun a ha h=>by
         have h1:=HOW.out _ h;have h2:=HFR.out a ha;omega⟩
        have HW3z:Aa (Below w3.heap.size w3 wz):=⟨Ae HW35.out HB.out⟩
        clear HB HX9 HR9 HS9 HT9 HY9 B9 HOW HFR HGS HNS HUNL HYS HYL;go_wp2
        go_loopw [9] (fun vp wr=>∃(k:Nat) (us:List (Option Addr×Nat×Nat)),m+k<=n/\aV vp=m+k/\Aa (Do wr w3.heap.size vp us)/\Aa (Cs wr 33 us (Pm++List.replicate k 0))/\Aa (Au wr 33 qg n cg ps)/\Aa (∀a,qg=some a->vp.ownBlock≠some a.block)/\Aa (Below w3.heap.size w3 wr)) (fun vp _=>n-aV vp)
        case atStart=>exact⟨0,us,by omega,rfl,HSz,⟨by rw[List.replicate_zero,List.append_nil];exact HTz.out⟩,HGz,HNE0,HW3z⟩
        case round=>
         obtain⟨k,us,hk,hsl,HS,HTr,HG,HNE,HB⟩:=hrel;obtain⟨pv,cv,hv⟩:=HS.out.slice;have hul:us.length=m+k:=by rw[HTr.out.len,List.length_append,List.length_replicate,HPl.out]
         obtain⟨L,hL⟩:∃l,us.length=l:=⟨_,rfl⟩
         rw[hL]at hv
         subst hv;have HUS:Aa (us.length<=100000):=⟨by omega⟩
         have HLk:Aa (L=m+k):=⟨by omega⟩
         by_cases hLn:L<n
         .have hLn':(L:Int)<n:=by omega
          have hb4:Below wr.heap.size wr (wr.alloc (.cells #[.slice none 0 0] 36)):=Cu;have hx4:(wr.alloc (.cells #[.slice none 0 0] 36)).cell? ⟨wr.heap.size,0,none⟩=some (.slice none 0 0):=(Ad.made wr (.slice none 0 0)).cell;obtain⟨w4,hw4⟩:∃w4,wr.alloc (.cells #[.slice none 0 0] 36)=w4:=⟨_,rfl⟩
          rw[hw4]at hb4 hx4
          have hs4:=HS.out.below hb4;have hg4:=HG.out.below hb4;have hsz:w3.heap.size<=w4.heap.size:=(Ae HB.out hb4).size;obtain⟨v9,w9,happ,hr9,hg9,hmv⟩:=hs4.app (x:=(none,0,0)) hx4 hsz HUS.out 32 (c:=1);have HB9:Aa (Below w3.heap.size w3 w9):=⟨(Ae HB.out hb4).grown hg9 hsz (fun g hg=>(hs4.own hg).1)⟩
          have HS9:=Ab hr9;have HT9:Aa (Cs w9 33 (us++[(none,0,0)]) (Pm++List.replicate (k+1) 0)):=⟨by
           rw[List.replicate_succ',<-List.append_assoc];exact((HTr.out.below hb4).grown hs4 hg9).snoc (Ag.nil _) (Dm 33)⟩
          have HG9:Aa (Au w9 33 qg n cg ps):=⟨Tx hg4 hs4 hg9 HNE.out⟩
          have HNE9:Aa (∀a,qg=some a->v9.ownBlock≠some a.block):=⟨fun a ha h=>by
           rcases hmv with h1|h1
           .exact HNE.out a ha (h1.symm.trans h)
           .have h2:=h1 _ h;obtain⟨bq,oq,e1,e2,_⟩:=hg4.at_ (by omega)
            rw[e1]at ha;cases ha
            simp only at h2;omega⟩
          have HSL:Aa (aV v9=m+(k+1)):=⟨by
           obtain⟨pw,cw,e1⟩:=hr9.slice;rw[e1,List.length_append];show us.length+1=_;omega⟩
          clear hb4 hx4 hs4 hg4 hsz hr9 hg9 hmv hL hul hsl
          go_wp2_with (at_builtin;refine Lib.wpList_append_run _ rfl _ _ _ _ rfl _ _ rfl rfl _ _ happ ?_;refine Ko.out ?_)
          refine⟨?_⟩;clear happ;go_wp2;go_roundw
          case rel=>exact⟨k+1,_,by have:=HLk.out;omega,HSL.out,HS9,HT9,HG9,HNE9,HB9⟩
          case measure=>
           have h1:=HLk.out;rw[HSL.out];show n-(m+(k+1))<n-L;omega
         .have hLn2:L=n:=by omega
          have hLn':¬(L:Int)<n:=by omega
          have hk2:k=n-m:=by have:=HLk.out;omega
          obtain⟨pz,cz,e1,hpz⟩:=HS.out.plist HTr.out;rw[List.length_append,List.length_replicate,HPl.out]at e1 hpz
          rw[hk2,<-HEQ.out,show m+(n-m)=n by omega]at hpz
          simp only[Value.slice.injEq]at e1;obtain⟨rfl,e5,rfl⟩:=e1;clear e5;have HPZ:=Ab hpz;have HBf:=Ab (Ae B3.out HB.out);subst hLn2;clear hk2 hpz hL hul hsl HEQ
          go_wp2_with fail
          refine(Sa HG.out HPZ.out (by decide) (by decide)).mono ?_;rintro en w6 ⟨_,rfl,rfl,b6⟩;have B6:=Ab (Ae HBf.out b6);clear b6;go_wp2;go_ret;exact⟨rfl,B6.out⟩
     .have HTE:Aa _:=⟨To (py:=py) (cy:=cy) HR8.out HX8.out (by decide) (by omega) (by omega) hf⟩
      have hF:(n=0/\Ey q n n xs=10) ∨ Ey q n n xs=11:=by
       unfold Ey at hf ⊢;split
       .exact .inl ⟨by assumption,rfl⟩
       .rename_i h0
        rw[if_neg h0]at hf
        rw[if_neg (by simp)]at hf ⊢
        split
        .rename_i h1
         rw[if_pos h1]at hf
         exact absurd rfl hf
        .exact .inr rfl
      rcases hF with ⟨h0,h10⟩|h11
      .rw[h10]at HTE
       subst h0;clear hf h10
       go_wp2_with fail
       refine HTE.out.mono ?_;rintro en w5 ⟨rfl,b5⟩;have B9:=Ab (Ae B8.out b5);clear b5 HTE;go_wp2;go_ret;exact⟨rfl,B9.out⟩
      .rw[h11]at HTE
       clear hf h11
       go_wp2_with fail
       refine HTE.out.mono ?_;rintro en w5 ⟨rfl,b5⟩;have B9:=Ab (Ae B8.out b5);clear b5 HTE;go_wp2;go_ret;exact⟨rfl,B9.out⟩
end Go.Proofs.YtnbmfaihlefgfaaGreatDoor
