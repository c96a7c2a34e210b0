/- A claim and its proof (dleq.Prove). -/
import Derived.Test.YtnbmfaihlefgfaaGreatDoorDlA
import Derived.Test.YtnbmfaihlefgfaaGreatDoorSgC
set_option maxRecDepth 1000000
set_option maxHeartbeats 16000000
set_option linter.all false
namespace Go.Proofs.YtnbmfaihlefgfaaGreatDoor
open Go Go.RowKit Go.Proofs.YtnbmfaihlefgfaaGreatDoor.Flow
def Ka (w:World):World:=w.alloc (.cells #[.int .u8 100,.int .u8 108,.int .u8 101,.int .u8 113] 5 (4,5))
theorem Ty (w:World):Below w.heap.size w (Ka w):=By
theorem Wp (w:World):(Ka w).heap.size=w.heap.size+1:=by simp[Ka]
theorem Wq (w:World):Au (Ka w) ⟨some ⟨w.heap.size,0,none⟩,4,4,Mr⟩:=by
 have h1:(Ka w).heap[w.heap.size]? = some (.cells #[.int .u8 100,.int .u8 108,.int .u8 101,.int .u8 113] 5 (4,5)):=by
  unfold Ka;rw[heap_alloc_new]
 exact⟨Ik (bs:=Mr) h1 rfl (by decide:4<=9223372036854775807),(by decide:∀x∈Mr,x<256)⟩
theorem Nj {w:World}{b P Q G H A B Y Z U V:Nat}{xa xb xy xz xu xv:Option Addr×Nat×Nat}{pm:Option Addr}{nm cm:Nat}{msg:List Nat}(hg:Bb w b P Q G H)(hT:Tabs w)(hC:AtC A B Y Z xa xb xy xz w)(hU:Dh w xu U)(hV:Dh w xv V)(lA:A<P)(lB:B<P)(lY:Y<P)(lZ:Z<P)(lU:U<P)(lV:V<P)(hs:Al P<=16)(hm:Au w ⟨pm,nm,cm,msg⟩) :
  Calls Tryz.prog 127 #[.agg #[.slice xa.1 xa.2.1 xa.2.2,.slice xb.1 xb.2.1 xb.2.2,.slice xy.1 xy.2.1 xy.2.2,.slice xz.1 xz.2.1 xz.2.2],.pointer (some ⟨b,0,none⟩),.agg #[.slice xu.1 xu.2.1 xu.2.2],.agg #[.slice xv.1 xv.2.1 xv.2.2],.slice pm nm cm] w fun en w'=>∃x,en=.returned x/\Fit 33 (Nk P Q A B Y Z U V msg) x w'/\Below w.heap.size w w':=by
 have hb0:Below w.heap.size w (w.alloc (.cells #[.slice xa.1 xa.2.1 xa.2.2,.slice xb.1 xb.2.1 xb.2.2,.slice xy.1 xy.2.1 xy.2.2,.slice xz.1 xz.2.1 xz.2.2] 82)):=By;have hx0:=Cm.made 82 w (.slice xa.1 xa.2.1 xa.2.2) (.slice xb.1 xb.2.1 xb.2.2) (.slice xy.1 xy.2.1 xy.2.2) (.slice xz.1 xz.2.1 xz.2.2);have hz0:(w.alloc (.cells #[.slice xa.1 xa.2.1 xa.2.2,.slice xb.1 xb.2.1 xb.2.2,.slice xy.1 xy.2.1 xy.2.2,.slice xz.1 xz.2.1 xz.2.2] 82)).heap.size=w.heap.size+1:=by simp
 have hbx:=Vr.mk3 (w.alloc (.cells #[.slice xa.1 xa.2.1 xa.2.2,.slice xb.1 xb.2.1 xb.2.2,.slice xy.1 xy.2.1 xy.2.2,.slice xz.1 xz.2.1 xz.2.2] 82)) (.slice xu.1 xu.2.1 xu.2.2) (.slice xv.1 xv.2.1 xv.2.2) (.slice none 0 0);have q0:=hbx.b0;have q1:=hbx.b1;have q2:=hbx.b2;have hbl:=Ae hb0 hbx.bel;have hx4:=hx0.below hbx.bel hx0.lt;rw[hz0]at q0 q1 q2
 have hzs:((((w.alloc (.cells #[.slice xa.1 xa.2.1 xa.2.2,.slice xb.1 xb.2.1 xb.2.2,.slice xy.1 xy.2.1 xy.2.2,.slice xz.1 xz.2.1 xz.2.2] 82)).alloc (.cells #[.slice xu.1 xu.2.1 xu.2.2] 36)).alloc (.cells #[.slice xv.1 xv.2.1 xv.2.2] 36)).alloc (.cells #[.slice none 0 0] 36)).heap.size=w.heap.size+1+1+1+1:=by simp
 obtain⟨wa,hwa⟩:∃wa,(((w.alloc (.cells #[.slice xa.1 xa.2.1 xa.2.2,.slice xb.1 xb.2.1 xb.2.2,.slice xy.1 xy.2.1 xy.2.2,.slice xz.1 xz.2.1 xz.2.2] 82)).alloc (.cells #[.slice xu.1 xu.2.1 xu.2.2] 36)).alloc (.cells #[.slice xv.1 xv.2.1 xv.2.2] 36)).alloc (.cells #[.slice none 0 0] 36)=wa:=⟨_,rfl⟩
 rw[hwa]at q0 q1 q2 hbl hx4 hzs
 have HBL:=Aa hbl;have hcv:=Joins.run_convert_bytes_const_at (P:=Tryz.prog) wa 60 5 #[.int .u8 100,.int .u8 108,.int .u8 101,.int .u8 113] 4 4 wa.heap.size rfl Tryz.underlying60 Tryz.underlying5;have hTr:Pt w 33 [xa,xb,xy,xz,xu,xv] [A,B,Y,Z,U,V]:=by
  have lim:∀N,N<P->N<Ap 33:=fun N h=>Nat.lt_trans h hg.lims.2.1
  exact((((((Pt.nil w 33).snoc hC.1 (lim _ lA)).snoc hC.2.1 (lim _ lB)).snoc hC.2.2.1 (lim _ lY)).snoc hC.2.2.2 (lim _ lZ)).snoc hU (lim _ lU)).snoc hV (lim _ lV)
 have hNl:∀N∈[A,B,Y,Z,U,V],N<P:=by
  intro N hN;simp only[List.mem_cons,List.not_mem_nil,or_false]at hN;rcases hN with rfl|rfl|rfl|rfl|rfl|rfl<;>assumption
 have hus:(#[.slice xa.1 xa.2.1 xa.2.2,.slice xb.1 xb.2.1 xb.2.2,.slice xy.1 xy.2.1 xy.2.2,.slice xz.1 xz.2.1 xz.2.2,.slice xu.1 xu.2.1 xu.2.2,.slice xv.1 xv.2.1 xv.2.2]:Array Value)=([xa,xb,xy,xz,xu,xv].map sv).toArray:=rfl;obtain⟨sz,hsz⟩:∃s,Al P=s:=⟨_,rfl⟩
 have HCH:Ad (∀L:List Part,L.map (·.bs)=Mr::([A,B,Y,Z,U,V].map fun N=>Ar N sz)++[msg]->be (Kx (Cb (L.map (·.bs))))%Q=Nk P Q A B Y Z U V msg):=⟨fun L h=>by
  rw[h];subst hsz;rfl⟩
 obtain⟨CH,hCH⟩:∃C,Nk P Q A B Y Z U V msg=C:=⟨_,rfl⟩
 rw[hCH]at HCH ⊢
 have HCl:Ad (CH<Ap 33):=⟨by rw[<-hCH];exact Nat.lt_trans (Rm (by have:=hg.lims.2.2.1;omega)) hg.lims.2.2.2⟩
 obtain⟨Ns,hNs⟩:∃l,[A,B,Y,Z,U,V]=l:=⟨_,rfl⟩
 obtain⟨us,hus2⟩:∃l,[xa,xb,xy,xz,xu,xv]=l:=⟨_,rfl⟩
 have hnl:Ns.length=6:=by rw[<-hNs];rfl
 rw[hNs]at hTr hNl HCH
 rw[hus2]at hTr hus
 rw[hsz]at hs
 have HTr:=Aa hTr;have HNl:=Aa hNl;have HNL:=Aa hnl;have HSz:=Aa hsz;have HSs:=Aa hs;have HG0:=Aa hg;have HT0:=Aa hT;have HM0:=Aa hm;have HZ0:=Aa q2;have HWA:Ad (w.heap.size+1+1+1<wa.heap.size):=⟨by omega⟩
 -- the worlds up to the loop
 have hb1:=Ty wa;have hP1:=Wq wa;have hz1:=Wp wa;obtain⟨w1,hw1⟩:∃W,wa.alloc (.cells #[.int .u8 100,.int .u8 108,.int .u8 101,.int .u8 113] 5 (4,5))=W:=⟨_,rfl⟩
 have hw1':Ka wa=w1:=hw1;rw[hw1']at hb1 hP1 hz1
 have hO2:=Gg.one (B:=wa.heap.size) (w:=w1) (by omega) hP1;rw[hz1]at hO2
 have hb2:Below w1.heap.size w1 (w1.alloc (.cells #[.slice (some ⟨wa.heap.size,0,none⟩) 4 4] 60)):=By;have hz2:(w1.alloc (.cells #[.slice (some ⟨wa.heap.size,0,none⟩) 4 4] 60)).heap.size=wa.heap.size+1+1:=by simp[hz1]
 obtain⟨w2,hw2⟩:∃W,w1.alloc (.cells #[.slice (some ⟨wa.heap.size,0,none⟩) 4 4] 60)=W:=⟨_,rfl⟩
 rw[hw2]at hb2 hz2
 have hO2':Gg w2 wa.heap.size (.slice (some ⟨wa.heap.size+1,0,none⟩) 1 1) [⟨some ⟨wa.heap.size,0,none⟩,4,4,Mr⟩]:=by rw[<-hw2];exact hO2
 have hb3:Below w2.heap.size w2 (w2.alloc (.cells #[.slice xa.1 xa.2.1 xa.2.2,.slice xb.1 xb.2.1 xb.2.2,.slice xy.1 xy.2.1 xy.2.2,.slice xz.1 xz.2.1 xz.2.2,.slice xu.1 xu.2.1 xu.2.2,.slice xv.1 xv.2.1 xv.2.2] 36)):=By;have hr3:(w2.alloc (.cells #[.slice xa.1 xa.2.1 xa.2.2,.slice xb.1 xb.2.1 xb.2.2,.slice xy.1 xy.2.1 xy.2.2,.slice xz.1 xz.2.1 xz.2.2,.slice xu.1 xu.2.1 xu.2.2,.slice xv.1 xv.2.1 xv.2.2] 36)).heap[w2.heap.size]? = some (.cells (us.map sv).toArray 36 (0,0)):=by rw[<-hus];exact heap_alloc_new w2 _
 obtain⟨w3,hw3⟩:∃W,w2.alloc (.cells #[.slice xa.1 xa.2.1 xa.2.2,.slice xb.1 xb.2.1 xb.2.2,.slice xy.1 xy.2.1 xy.2.2,.slice xz.1 xz.2.1 xz.2.2,.slice xu.1 xu.2.1 xu.2.2,.slice xv.1 xv.2.1 xv.2.2] 36)=W:=⟨_,rfl⟩
 rw[hw3]at hb3 hr3
 rw[hz2]at hr3
 have HR3:=Aa hr3;have HO3:=Aa (hO2'.below hb3);have HB3:Ad (Below wa.heap.size wa w3):=⟨Ae hb1 (Ae hb2 hb3)⟩
 have hc2:=hx4.below (Ae hb1 hb2) hx4.lt;obtain⟨ca0,ca1,ca2,ca3⟩:=hc2.cells;have cu:=(q0.below (Ae hb1 hb2) q0.lt).cell;have cv:=(q1.below (Ae hb1 hb2) q1.lt).cell;clear hzs hbx hb0 hz0 hx0 hg hT hC hU hV lA lB lY lZ lU lV hs hm hTr hNl hus hus2 hNs hnl hsz hCH q2 hb1 hP1 hw1' hO2 hb2 hO2' hb3 hr3 hc2;go_enter Tryz.func127,Tryz.ntmps127;go_wp2;clear ca0 ca1 ca2 ca3 cu cv hcv
 go_loopw [11,29] (fun pv iv wr=>∃(k:Nat) (L:List Part),k<=6/\iv=.int .i64 k/\Ad (Gg wr wa.heap.size pv L)/\Ad (L.map (·.bs)=Mr::((Ns.take k).map fun N=>Ar N sz))/\Ad (pv.ownBlock≠some (wa.heap.size+1+1))/\Ad (wr.heap[wa.heap.size+1+1]? = some (.cells (us.map sv).toArray 36 (0,0)))/\Ad (Below wa.heap.size wa wr)) (fun _ iv _=>6-(intOf iv).toNat)
 case atStart=>exact⟨0,_,by omega,rfl,HO3,⟨rfl⟩,⟨by simp[Value.ownBlock]⟩,HR3,HB3⟩
 case round=>
  obtain⟨k,L,hk,rfl,HO,HL,HNE,HR,HBw⟩:=hrel;have HLen:Ad (L.length=k+1):=⟨by
   have h1:=congrArg List.length HL.out;rw[List.length_map,List.length_cons,List.length_map,List.length_take,HNL.out]at h1
   omega⟩
  by_cases hkn:k<6
  .obtain⟨N,hN⟩:∃N,Ns[k]? = some N:=⟨Ns[k]'(by rw[HNL.out];exact hkn),List.getElem?_eq_getElem _⟩
   obtain⟨x,hx1,hx2,hx3⟩:=HTr.out.at_ k N hN
   have hck:wr.cell? ⟨wa.heap.size+1+1,k,none⟩=some (.slice x.1 x.2.1 x.2.2):=by
    simp[World.cell?,HR.out,hx1,sv]
   have hkn':(k:Int)<6:=by omega
   have HTk:Ad (Ns.take (k+1)=Ns.take k++[N]):=⟨Fq hN⟩
   have HNp:Ad (N<P):=⟨HNl.out N (List.mem_of_getElem? hN)⟩
   have hbB:Below wr.heap.size wr (wr.alloc (.cells #[.slice x.1 x.2.1 x.2.2] 36)):=By;have hXB:=Af.made wr (.slice x.1 x.2.1 x.2.2);obtain⟨wb,hwb⟩:∃W,wr.alloc (.cells #[.slice x.1 x.2.1 x.2.2] 36)=W:=⟨_,rfl⟩
   rw[hwb]at hbB hXB
   have HXB:=Aa hXB;have HBB:=Aa hbB;have HBt:=Aa (Ae HBL.out (Ae HBw.out hbB));have HFN:Ad (Fit 33 N (.agg #[.slice x.1 x.2.1 x.2.2]) wb):=⟨Fit.of (hx2.below HBt.out) hx3⟩
   have cX:=hXB.cell;clear hx1 hx2 hx3 hN hbB hXB
   go_wp2_with fail
   refine(Nc (HG0.out.below HBt.out) HFN.out (by decide) HNp.out HSz.out HSs.out).mono ?_;rintro en wc ⟨g,rfl,hg1,hblk,hbc⟩;have hbd:Below wc.heap.size wc (wc.alloc (.cells #[.slice (some ⟨g,0,none⟩) sz sz] 60)):=By;have hcd:(wc.alloc (.cells #[.slice (some ⟨g,0,none⟩) sz sz] 60)).cell? ⟨wc.heap.size,0,none⟩=some (.slice (some ⟨g,0,none⟩) sz sz):=by simp[go_sem]
   obtain⟨wd,hwd⟩:∃W,wc.alloc (.cells #[.slice (some ⟨g,0,none⟩) sz sz] 60)=W:=⟨_,rfl⟩
   rw[hwd]at hbd hcd
   have hbrd:=Ae HBB.out (Ae hbc hbd);have hpk:Au wd ⟨some ⟨g,0,none⟩,sz,sz,Ar N sz⟩:=(Ib hblk (by have:=HSs.out;omega)).below hbd;obtain⟨v9,w9,happ,ho9,hg9,hmv⟩:=(HO.out.below hbrd).app (P:=⟨some ⟨g,0,none⟩,sz,sz,Ar N sz⟩) (c:=1) (Ec HBw.out.size hbrd.size) hcd hpk
    (fun _ q hq e=>by
     cases hq;have h1:=(Eb HO.out.own _ e).2;have h2:=HBB.out.size;simp only at h1;omega) (by have:=HLen.out;omega) 216
   have HO9:=Aa ho9;have HB9:Ad (Below wa.heap.size wa w9):=⟨(Ae HBw.out hbrd).grown hg9 (Ec HBw.out.size hbrd.size) fun g hg=>(Eb HO.out.own g hg).1⟩
   have hrl:=(Gn HR.out).1;have HR9:Ad (w9.heap[wa.heap.size+1+1]? = some (.cells (us.map sv).toArray 36 (0,0))):=⟨by
    rw[hg9.block _ (De hrl hbrd.size) (fun e=>HNE.out e.symm),hbrd.block _ hrl];exact HR.out⟩
   have HNE9:Ad (v9.ownBlock≠some (wa.heap.size+1+1)):=⟨fun e=>by
    rcases hmv with h1|h1
    .rw[h1]at e;exact HNE.out e
    .have h2:=h1 _ e;have h3:=hbrd.size;omega⟩
   have HL9:Ad ((L++[(⟨some ⟨g,0,none⟩,sz,sz,Ar N sz⟩:Part)]).map (·.bs)=Mr::((Ns.take (k+1)).map fun N=>Ar N sz)):=⟨by
    rw[List.map_append,HL.out,HTk.out,List.map_append];rfl⟩
   clear hg1 hblk hbc hbd hcd hbrd hpk ho9 hg9 hmv hrl HFN HXB cX hck
   go_wp2_with (at_builtin;refine Lib.wpList_append_run _ rfl _ _ _ _ rfl _ _ rfl rfl _ _ happ ?_;refine Fn.out ?_)
   refine⟨?_⟩;clear happ;go_wp2;go_roundw
   case rel=>exact⟨k+1,_,by omega,by go_num,HO9,HL9,HNE9,HR9,HB9⟩
   case measure=>simp[intOf];omega
  .obtain rfl:k=6:=by omega
   have HTk:Ad (Ns.take 6=Ns):=⟨List.take_of_length_le (by rw[HNL.out];exact As _)⟩
   have hbd:Below wr.heap.size wr (wr.alloc (.cells #[.slice pm nm cm] 60)):=By;have hcd:(wr.alloc (.cells #[.slice pm nm cm] 60)).cell? ⟨wr.heap.size,0,none⟩=some (.slice pm nm cm):=by simp[go_sem]
   obtain⟨wd,hwd⟩:∃W,wr.alloc (.cells #[.slice pm nm cm] 60)=W:=⟨_,rfl⟩
   rw[hwd]at hbd hcd
   have hbwd:=Ae HBL.out (Ae HBw.out hbd);obtain⟨v9,w9,happ,ho9,hg9,_⟩:=(HO.out.below hbd).app (P:=⟨pm,nm,cm,msg⟩) (c:=1) (Ec HBw.out.size hbd.size) hcd (HM0.out.below hbwd)
    (fun h0 q hq e=>by
     have h1:=(Eb HO.out.own _ e).1;have h2:=HM0.out.lt h0 q hq;have h3:=HWA.out;omega) (by have:=HLen.out;omega) 216
   obtain⟨p9,c9,e9,hin⟩:=ho9.in_;have HB9:Ad (Below wa.heap.size wa w9):=⟨(Ae HBw.out hbd).grown hg9 (Ec HBw.out.size hbd.size) fun g hg=>(Eb HO.out.own g hg).1⟩
   have hm9:(L++[(⟨pm,nm,cm,msg⟩:Part)]).map (·.bs)=Mr::(Ns.map fun N=>Ar N sz)++[msg]:=by
    rw[List.map_append,HL.out,HTk.out];rfl
   have hl9:(L++[(⟨pm,nm,cm,msg⟩:Part)]).length=8:=by rw[List.length_append,HLen.out];rfl
   rw[hl9]at e9 hin
   have HIN:=Aa hin;have HCH9:=Aa (HCH.out _ hm9);clear hbd hcd hbwd ho9 hg9 hin hm9 hl9;subst e9
   go_wp2_with (at_builtin;refine Lib.wpList_append_run _ rfl _ _ _ _ rfl _ _ rfl rfl _ _ happ ?_;refine Fn.out ?_)
   refine⟨?_⟩;clear happ hwd;have HBw9:=Aa (HBL.out.trans (HB9.out.mono (by have:=HWA.out;omega)))
   go_wp2_with fail
   refine(lL (HG0.out.below HBw9.out) (HT0.out.below HBw9.out HT0.out.size) HIN.out).mono ?_;rintro en w10 ⟨_,rfl,⟨p5,n5,c5,rfl,h5,l5⟩,hb4⟩;rw[HCH9.out]at h5 l5
   have hz:=(HZ0.out.below HB9.out HWA.out).below hb4 (De HWA.out HB9.out.size);have fz:=hz.free;have kz:=hz.cell;have ks:=(hz.set (.slice p5 n5 c5)).cell;have HN:Ad (Fit 33 CH (.agg #[.slice p5 n5 c5]) (w10.setCell ⟨w.heap.size+1+1+1,0,none⟩ (.slice p5 n5 c5))):=⟨Fit.of (h5.store hz _) l5⟩
   have HBf:Ad (Below w.heap.size w (w10.setCell ⟨w.heap.size+1+1+1,0,none⟩ (.slice p5 n5 c5))):=⟨(Ae HBw9.out hb4).setCell (show w.heap.size<=w.heap.size+1+1+1 by omega) _⟩
   clear h5 l5 hb4 hz;go_wp2;exact bodyPost_ret (v:=.agg #[.slice p5 n5 c5]) (by simp[results,Tryz.results127,go_sem,ks]) rfl ⟨_,rfl,HN.out,HBf.out⟩
theorem Au.kn {B:Nat}{P:Part}{w w':World}(h:Au w P)(hk:KN B w w'):Au w' P:=by
 refine⟨⟨h.row.len,h.row.cap,h.row.max,fun h0=>?_⟩,h.bytes⟩;obtain⟨k1,k2,k3,k4⟩:=h.row.row h0;refine⟨k1,k2,k3,?_⟩;rcases k4 with e|⟨b,off,h1,h2,h3⟩
 .exact .inl e
 .refine .inr ⟨b,off,h1,De h2 hk.k.bel.size,fun i x hx=>?_⟩;have hc:=h3 i x hx;have hblk:w'.heap[b]? = w.heap[b]? := by
   have hc2:=hc;unfold World.cell? at hc2
   dsimp only at hc2
   cases ho:w.heap[b]? with
   | none=>rw[ho]at hc2;cases hc2
   | some o=>
    rw[ho]at hc2
    refine hk.blk b o ho fun q m d e=>?_
    subst e
    dsimp only at hc2
    cases hj:off+i with
    | zero=>rw[hj]at hc2;simp at hc2
    | succ j=>rw[hj]at hc2;simp at hc2
  rw[World.cell?_of_block (a:=⟨b,off+i,none⟩) hblk];exact hc
def oY (n:Nat)(bs:List Nat)(v:Value)(w:World):Prop:=∃p c,v=.slice p n c/\Au w ⟨p,n,c,bs⟩
theorem oY.kn {B n:Nat}{bs:List Nat}{v:Value}{w w':World}(h:oY n bs v w)(hk:KN B w w'):oY n bs v w':=let ⟨p,c,h1,h2⟩:=h;⟨p,c,h1,h2.kn hk⟩
theorem qP {w:World}{e A B:Nat}{x y:Option Addr×Nat×Nat}(h1:Dh w x A)(h2:Dh w y B)(l1:A<Ap e)(l2:B<Ap e):Pt w e [x,y] [A,B]:=((Pt.nil w e).snoc h1 l1).snoc h2 l2
theorem jO {w:World}{b P Q G H e A B X:Nat}{va vb vx:Value}{pm:Option Addr}{nm cm:Nat}{msg:List Nat}(hg:Bb w b P Q G H)(hT:Tabs w)(ha:Fit 33 A va w)(hb:Fit 33 B vb w)(hx:Fit e X vx w)(he:e<=30000)(hX:X<Q)(mA:Cx P Q A)(mB:Cx P Q B)(hP:Al P<=16)(hQ:Al Q<=16)(hm:Au w ⟨pm,nm,cm,msg⟩)(hz:pm=none->cm=0)(hn:nm<=1000) :
  Calls Tryz.prog 125 #[.pointer (some ⟨b,0,none⟩),va,vb,vx,.slice pm nm cm] w fun en w'=>∃c u,en=.returned (.tuple #[c,u,.int .i64 0])/\nB A B (A^X%P) (B^X%P) c w'/\Ci 0 (lD P Q A B X msg) u w'/\Below w.heap.size w w':=by
 obtain⟨pa,na,ca,rfl,h1,h2⟩:=Aw ha;obtain⟨pb,nb,cb,rfl,h3,h4⟩:=Aw hb;obtain⟨px,nx,cx,rfl,h5,h6⟩:=Aw hx;have hbx:=Vr.mk3 w (.slice pa na ca) (.slice pb nb cb) (.slice px nx cx);have hz3:(((w.alloc (.cells #[.slice pa na ca] 36)).alloc (.cells #[.slice pb nb cb] 36)).alloc (.cells #[.slice px nx cx] 36)).heap.size=w.heap.size+1+1+1:=by simp
 obtain⟨w0,hw0⟩:∃wa,((w.alloc (.cells #[.slice pa na ca] 36)).alloc (.cells #[.slice pb nb cb] 36)).alloc (.cells #[.slice px nx cx] 36)=wa:=⟨_,rfl⟩
 rw[hw0]at hbx hz3
 have hb0:Below w0.heap.size w0 (w0.alloc (.cells #[.slice none 0 0,.slice none 0 0,.slice none 0 0,.slice none 0 0] 82)):=By;have hz0:(w0.alloc (.cells #[.slice none 0 0,.slice none 0 0,.slice none 0 0,.slice none 0 0] 82)).heap[w0.heap.size]? = some (z4 82):=heap_alloc_new w0 _;obtain⟨wa,hwa⟩:∃wa,w0.alloc (.cells #[.slice none 0 0,.slice none 0 0,.slice none 0 0,.slice none 0 0] 82)=wa:=⟨_,rfl⟩
 rw[hwa]at hb0 hz0
 rw[hz3]at hz0
 have hbel:=Ae hbx.bel hb0;have HXA:=Aa (hbx.b0.below hb0 hbx.b0.lt);have HXB:=Aa (hbx.b1.below hb0 hbx.b1.lt);have HXX:=Aa (hbx.b2.below hb0 hbx.b2.lt);have HB:=Aa hbel;have HFA:=Aa ((Fit.of h1 h2).below hbel);have HFB:=Aa ((Fit.of h3 h4).below hbel);have HFX:=Aa ((Fit.of h5 h6).below hbel);have HG:=Aa (hg.below hbel);have HT:=Aa (hT.below hbel hT.size);have HM:=Aa (hm.below hbel);have HPs:=Aa hP;have HQs:=Aa hQ;have HZ0:=Aa hz0;have HWS:Ad ((w.heap.size+1+1+1)<wa.heap.size):=⟨(Gn hz0).1⟩
 have HG0:=Aa hg;have HZM:=Aa hz;have HNM:=Aa hn;have HAl:=Aa mA.2.1;have HBl:=Aa mB.2.1;have HXl:=Aa hX;have HP2:=hg.lims.1;have HQ2:=hg.lims.2.2.1;have HQl:=Aa hg.lims.2.2.2;have hPl:=hg.lims.2.1;have HIN:=Aa (decide_eq_true hX);have HMB:Ad ([A,B].all (Tw P Q)=true):=⟨by
  simp only[List.all_cons,List.all_nil,Bool.and_true,Bool.and_eq_true];exact⟨Og.2 mA,Og.2 mB⟩⟩
 obtain⟨MM,hMM⟩:∃M,Ji P A B msg=M:=⟨_,rfl⟩
 obtain⟨LL,hLL⟩:∃L,MM.length=L:=⟨_,rfl⟩
 obtain⟨Y,hY⟩:∃Y,A^X%P=Y:=⟨_,rfl⟩
 obtain⟨Z,hZ⟩:∃Y,B^X%P=Y:=⟨_,rfl⟩
 obtain⟨K,hK⟩:∃K,Ym Q X MM=K:=⟨_,rfl⟩
 obtain⟨U,hU⟩:∃W,A^K%P=W:=⟨_,rfl⟩
 obtain⟨V,hV⟩:∃W,B^K%P=W:=⟨_,rfl⟩
 obtain⟨CC,hCC⟩:∃C,Nk P Q A B Y Z U V msg=C:=⟨_,rfl⟩
 obtain⟨SS,hSS⟩:∃S,(K+CC*X%Q)%Q=S:=⟨_,rfl⟩
 obtain⟨SB,hSB⟩:∃S,lD P Q A B X msg=S:=⟨_,rfl⟩
 have HSBE:Ad (Ar CC (Al Q)++Ar SS (Al Q)=SB):=⟨by
  rw[<-hSB];unfold lD rS rM rL;rw[hMM,hK,hU,hV,hY,hZ,hCC,hSS]⟩
 have HMM:=Aa hMM;have HLL:=Aa hLL;have HYE:=Aa hY;have HZE:=Aa hZ;have HKE:=Aa hK;have HUE:=Aa hU;have HVE:=Aa hV;have HCE:=Aa hCC;have HSE:=Aa hSS;have HYl:Ad (Y<P):=⟨by rw[<-hY];exact Nat.mod_lt _ (by omega)⟩
 have HZl:Ad (Z<P):=⟨by rw[<-hZ];exact Nat.mod_lt _ (by omega)⟩
 have HUl:Ad (U<P):=⟨by rw[<-hU];exact Nat.mod_lt _ (by omega)⟩
 have HVl:Ad (V<P):=⟨by rw[<-hV];exact Nat.mod_lt _ (by omega)⟩
 have HCl:Ad (CC<Q):=⟨by rw[<-hCC];exact Rm (by omega)⟩
 have HSl:Ad (SS<Q):=⟨by rw[<-hSS];exact Nat.mod_lt _ (by omega)⟩
 have HKb:Ad (K<Ap 33):=⟨by rw[<-hK];exact Nat.lt_trans (nM HQ2) HQl.out⟩
 have HCb:Ad (CC<Ap 33):=⟨Nat.lt_trans HCl.out HQl.out⟩
 rw[hSB,hY,hZ];have c0:=(hbx.b2.below hb0 hbx.b2.lt).cell;clear hMM hLL hY hZ hK hU hV hCC hSS hSB h1 h2 h3 h4 h5 h6 hbx hg ha hb hx hm hz hn hb0 hz0 hbel hX mA mB hT hPl;go_enter Tryz.func125,Tryz.ntmps125
 go_wp2_with fail
 refine(Hx (Xv.of HG.out) HFX.out he).mono ?_;rintro en w1 ⟨rfl,hb⟩;rw[HIN.out];have HZ1:Ad (w1.heap[(w.heap.size+1+1+1)]? = some (z4 82)):=⟨by rw[hb.block _ HWS.out];exact HZ0.out⟩
 have HWS1:Ad ((w.heap.size+1+1+1)<w1.heap.size):=⟨De HWS.out hb.size⟩
 replace HXA:=Aa (HXA.out.below hb HXA.out.lt);replace HXB:=Aa (HXB.out.below hb HXB.out.lt);replace HXX:=Aa (HXX.out.below hb HXX.out.lt);replace HFA:=Aa (HFA.out.below hb);replace HFB:=Aa (HFB.out.below hb);replace HFX:=Aa (HFX.out.below hb);replace HG:=Aa (HG.out.below hb);replace HT:=Aa (HT.out.below hb HT.out.size);replace HM:=Aa (HM.out.below hb);replace HB:=Aa (Ae HB.out hb);clear hb c0 HZ0 HWS;have c1:=HXA.out.cell;have c2:=HXB.out.cell;have hb2:Below w1.heap.size w1 (w1.alloc (.cells #[.slice pa na ca,.slice pb nb cb] 36)):=By;have hr2:(w1.alloc (.cells #[.slice pa na ca,.slice pb nb cb] 36)).heap[w1.heap.size]? = some (.cells #[.slice pa na ca,.slice pb nb cb] 36 (0,0)):=heap_alloc_new w1 _;obtain⟨w2,hw2⟩:∃W,w1.alloc (.cells #[.slice pa na ca,.slice pb nb cb] 36)=W:=⟨_,rfl⟩
 rw[hw2]at hb2 hr2
 have HZ2:Ad (w2.heap[(w.heap.size+1+1+1)]? = some (z4 82)):=⟨by rw[hb2.block _ HWS1.out];exact HZ1.out⟩
 have HWS2:Ad ((w.heap.size+1+1+1)<w2.heap.size):=⟨De HWS1.out hb2.size⟩
 replace HXA:=Aa (HXA.out.below hb2 HXA.out.lt);replace HXB:=Aa (HXB.out.below hb2 HXB.out.lt);replace HXX:=Aa (HXX.out.below hb2 HXX.out.lt);replace HFA:=Aa (HFA.out.below hb2);replace HFB:=Aa (HFB.out.below hb2);replace HFX:=Aa (HFX.out.below hb2);replace HG:=Aa (HG.out.below hb2);replace HT:=Aa (HT.out.below hb2 HT.out.size);replace HM:=Aa (HM.out.below hb2);replace HB:=Aa (Ae HB.out hb2);have HPL:=Aa (Pi (us:=[(pa,na,ca),(pb,nb,cb)]) (Ns:=[A,B]) hr2 (qP (Ef HFA.out) (Ef HFB.out) HFA.out.lim HFB.out.lim) (show 2<=1000000 by decide));clear hb2 hr2 HZ1 HWS1
 go_wp2_with fail
 clear c1 c2;refine(Ki HG.out HPL.out (by decide)).mono ?_;rintro en w3 ⟨rfl,hb⟩;rw[HMB.out];have HZ3:Ad (w3.heap[(w.heap.size+1+1+1)]? = some (z4 82)):=⟨by rw[hb.block _ HWS2.out];exact HZ2.out⟩
 have HWS3:Ad ((w.heap.size+1+1+1)<w3.heap.size):=⟨De HWS2.out hb.size⟩
 replace HXA:=Aa (HXA.out.below hb HXA.out.lt);replace HXB:=Aa (HXB.out.below hb HXB.out.lt);replace HXX:=Aa (HXX.out.below hb HXX.out.lt);replace HFA:=Aa (HFA.out.below hb);replace HFB:=Aa (HFB.out.below hb);replace HFX:=Aa (HFX.out.below hb);replace HG:=Aa (HG.out.below hb);replace HT:=Aa (HT.out.below hb HT.out.size);replace HM:=Aa (HM.out.below hb);replace HB:=Aa (Ae HB.out hb);clear hb HZ2 HWS2 HPL;go_wp2;clear hw2 hwa hw0 hz3;refine Ak (by kernel_rfl) (by kernel_rfl)
  [some (.agg #[.slice pa na ca]),none,some (.agg #[.slice pb nb cb]),none,some (.pointer (some ⟨b,0,none⟩)),some (.agg #[.slice pa na ca]),some (.agg #[.slice px nx cx]),none,some (.pointer (some ⟨b,0,none⟩)),some (.agg #[.slice pb nb cb]),some (.agg #[.slice px nx cx]),none,none,none,none]
  [false,true,false,true,false,false,false,true,false,false,false,true,true,true,true] rfl
  (fun wA wB=>KT 82 (w3.heap.size) wA wB)
  (fun D sp w'=>RG (w3.heap.size) w3 [] w'/\Yb (D 13) (D 14) (sp 13) w3.heap.size (z4 82) (pB 82 A B Y Z) w')
  (fun i v w'=>match i with
   | 1=>Fit 33 A v w'
   | 3=>Fit 33 B v w'
   | 7=>Fit 33 (Y) v w'
   | 11=>Fit 33 (Z) v w'
   | 12=>nB A B Y Z v w'
   | _=>True)
  ?_ ⟨RG.start (As _) (fun x hx=>by cases hx),Yb.start (As _)⟩ ?_ ?_
 .intro i v wA wB hf hb;split at hf
  .exact hf.kt hb
  .exact hf.kt hb
  .exact hf.kt hb
  .exact hf.kt hb
  .exact hf.kt hb
  .trivial
 .simp only[Az,Nat.reduceAdd];refine⟨?_,?_,?_,?_,?_,?_,?_,?_,?_,?_,?_,?_,?_,?_,?_,trivial⟩
  all_goals intro D sp w' hD hW hdp hg
  case refine_1|refine_6=>
   have c0:=(HXA.out.below hg.1.keep.bel HXA.out.lt).cell
   with_reducible refine Ac ?_ ?_
   all_goals simp[Region.wanted,yielded,execOp,Act.eval,Act.put,go_sem,c0]
  case refine_2=>
   (with_reducible refine Ab (w1:=w') (f := 180) (args:=#[.agg #[.slice pa na ca]]) ?_ ?_ ?_)
   .simp[Region.wanted,yielded,Act.put,go_sem]
   .simp[Act.eval,Act.put,go_sem]
   .refine(Qu (HFA.out.keep hg.1.keep) (by decide)).mono ?_;rintro en w9 ⟨u,rfl,hu,hb⟩;exact⟨u,rfl,KT.of hb hg.1.base,hu,hg.1.later hb,by simpa [upd]using hg.2.later hb (fun o h=>h.below hb)⟩
  case refine_3|refine_10=>
   have c0:=(HXB.out.below hg.1.keep.bel HXB.out.lt).cell
   with_reducible refine Ac ?_ ?_
   all_goals simp[Region.wanted,yielded,execOp,Act.eval,Act.put,go_sem,c0]
  case refine_4=>
   (with_reducible refine Ab (w1:=w') (f := 180) (args:=#[.agg #[.slice pb nb cb]]) ?_ ?_ ?_)
   .simp[Region.wanted,yielded,Act.put,go_sem]
   .simp[Act.eval,Act.put,go_sem]
   .refine(Qu (HFB.out.keep hg.1.keep) (by decide)).mono ?_;rintro en w9 ⟨u,rfl,hu,hb⟩;exact⟨u,rfl,KT.of hb hg.1.base,hu,hg.1.later hb,by simpa [upd]using hg.2.later hb (fun o h=>h.below hb)⟩
  case refine_7|refine_11=>
   have c0:=(HXX.out.below hg.1.keep.bel HXX.out.lt).cell
   with_reducible refine Ac ?_ ?_
   all_goals simp[Region.wanted,yielded,execOp,Act.eval,Act.put,go_sem,c0]
  case refine_8=>
   (with_reducible refine Ab (w1:=w') (f := 42) (args:=#[.pointer (some ⟨b,0,none⟩),.agg #[.slice pa na ca],.agg #[.slice px nx cx]]) ?_ ?_ ?_)
   .simp[Region.wanted,yielded,Act.put,go_sem]
   .simp[Act.eval,Act.put,go_sem]
   .refine(El (HG.out.below hg.1.keep.bel) (HFA.out.keep hg.1.keep) (HFX.out.keep hg.1.keep) (by decide) (by omega)).mono ?_;rintro en w9 ⟨u,rfl,hu,hb⟩;rw[HYE.out]at hu
    exact⟨u,rfl,KT.of hb hg.1.base,hu,hg.1.later hb,by simpa [upd]using hg.2.later hb (fun o h=>h.below hb)⟩
  case refine_12=>
   (with_reducible refine Ab (w1:=w') (f := 42) (args:=#[.pointer (some ⟨b,0,none⟩),.agg #[.slice pb nb cb],.agg #[.slice px nx cx]]) ?_ ?_ ?_)
   .simp[Region.wanted,yielded,Act.put,go_sem]
   .simp[Act.eval,Act.put,go_sem]
   .refine(El (HG.out.below hg.1.keep.bel) (HFB.out.keep hg.1.keep) (HFX.out.keep hg.1.keep) (by decide) (by omega)).mono ?_;rintro en w9 ⟨u,rfl,hu,hb⟩;rw[HZE.out]at hu
    exact⟨u,rfl,KT.of hb hg.1.base,hu,hg.1.later hb,by simpa [upd]using hg.2.later hb (fun o h=>h.below hb)⟩
  case refine_13=>
   have hxa:∃p n c,sp 1=.agg #[.slice p n c]/\Aj w' p n c (A)/\A<Ap (33):=(hdp 1 (mq (by kernel_rfl))).2
   (with_reducible refine Aq hxa fun pa hxa1=>Aq hxa1 fun na hxa2=>Aq hxa2 fun ca hxa3=>?_)
   have ha:=hxa3.1;have hxb:∃p n c,sp 3=.agg #[.slice p n c]/\Aj w' p n c (B)/\B<Ap (33):=(hdp 3 (mq (by kernel_rfl))).2
   (with_reducible refine Aq hxb fun pb hxb1=>Aq hxb1 fun nb hxb2=>Aq hxb2 fun cb hxb3=>?_)
   have hb:=hxb3.1;have hxy:∃p n c,sp 7=.agg #[.slice p n c]/\Aj w' p n c (Y)/\Y<Ap (33):=(hdp 7 (mq (by kernel_rfl))).2
   (with_reducible refine Aq hxy fun py hxy1=>Aq hxy1 fun ny hxy2=>Aq hxy2 fun cy hxy3=>?_)
   have hy:=hxy3.1;have hxz:∃p n c,sp 11=.agg #[.slice p n c]/\Aj w' p n c (Z)/\Z<Ap (33):=(hdp 11 (mq (by kernel_rfl))).2
   (with_reducible refine Aq hxz fun pz hxz1=>Aq hxz1 fun nz hxz2=>Aq hxz2 fun cz hxz3=>?_)
   have hz:=hxz3.1
   (with_reducible refine Ag (w1:=w') (v:=.agg #[.slice pa na ca,.slice pb nb cb,.slice py ny cy,.slice pz nz cz]) ?_ ?_ ?_)
   .simp only[Region.wanted]
   .simp[execOp,Act.eval,Act.put,go_sem,ha,hb,hy,hz]
   .exact⟨KT.same _ _ _,⟨(pa,na,ca),(pb,nb,cb),(py,ny,cy),(pz,nz,cz),rfl,hxa3.2.1,hxb3.2.1,hxy3.2.1,hxz3.2.1⟩,hg.1,by simpa [upd]using hg.2⟩
  case refine_14=>
   have h9:D 14=false:=hW 14 (mq (by kernel_rfl));rw[hD,h9]at hg
   (with_reducible refine Ag (w1:=w'.alloc (.cells #[.slice none 0 0,.slice none 0 0,.slice none 0 0,.slice none 0 0] 82)) (v:=.pointer (some ⟨w'.heap.size,0,none⟩)) ?_ ?_ ?_)
   .simp only[Region.wanted]
   .simp[execOp,go_sem]
   .have hb:Below w'.heap.size w' (w'.alloc (.cells #[.slice none 0 0,.slice none 0 0,.slice none 0 0,.slice none 0 0] 82)):=By;refine⟨KT.of hb hg.1.base,trivial,hg.1.later hb,?_⟩;have h8:Yb true false _ _ (z4 82) _ _:=Yb.made hg.2;simpa [upd,h9]using h8
  case refine_15=>
   have hx:∃xa xb xy xz:Option Addr×Nat×Nat,sp 12=.agg #[.slice xa.1 xa.2.1 xa.2.2,.slice xb.1 xb.2.1 xb.2.2,.slice xy.1 xy.2.1 xy.2.2,.slice xz.1 xz.2.1 xz.2.2]/\AtC A B Y Z xa xb xy xz w':=(hdp 12 (mq (by kernel_rfl))).2
   (with_reducible refine Aq hx fun xa hx1=>Aq hx1 fun xb hx2=>Aq hx2 fun xy hx3=>Aq hx3 fun xz hx4=>?_)
   have h1:=hx4.1;have h9:D 13=true:=(hdp 13 (mq (by kernel_rfl))).1;rw[hD,h9]at hg
   have hm:=hg.2.2 rfl
   (with_reducible refine Aq hm fun bq hm1=>?_)
   have h3:=hm1.1;have h6:w'.heap[bq]? = some (.cells #[.slice none 0 0,.slice none 0 0,.slice none 0 0,.slice none 0 0] 82 (0,0)):=hm1.2.2.1 rfl;have hp:=put4 (u0:=.slice xa.1 xa.2.1 xa.2.2) (u1:=.slice xb.1 xb.2.1 xb.2.2) (u2:=.slice xy.1 xy.2.1 xy.2.2) (u3:=.slice xz.1 xz.2.1 xz.2.2) h6;have hs:=Rg (none,0,0) (none,0,0) (none,0,0) (none,0,0);have hkt:=hp.kt h6 hs hm1.2.1;have g0:=cells4 h6
   (with_reducible refine An (w1:=Ra w' bq (.slice xa.1 xa.2.1 xa.2.2) (.slice xb.1 xb.2.1 xb.2.2) (.slice xy.1 xy.2.1 xy.2.2) (.slice xz.1 xz.2.1 xz.2.2)) ?_ ?_ ?_)
   .simp only[Region.wanted]
   .simp[execOp,Act.eval,Act.put,go_sem,h1,h3,g0.1.1,g0.1.2.1,g0.1.2.2.1,g0.1.2.2.2,g0.2.1,g0.2.2.1,g0.2.2.2.1,g0.2.2.2.2,Ra]
   .refine⟨hkt,trivial,hg.1.putO hp h6 hs hm1.2.1 (fun x hx=>by cases hx),?_⟩;have h8:Yb true true (sp 13) _ (z4 82) (pB 82 A B Y Z) _:=⟨by rw[hp.size];exact hg.2.1,fun _=>⟨bq,h3,hm1.2.1,Th.done hp.new ⟨xa,xb,xy,xz,rfl,hx4.2.kt hkt⟩⟩⟩
    simpa [upd,h9]using h8
  all_goals ((with_reducible refine Ac ?_ ?_);all_goals first|(simp only[Region.wanted];done)|simp[Region.wanted,yielded,execOp,Act.eval,Act.put,go_sem])
 .intro sp w4 hsp hk;obtain⟨hk1,_,hk2⟩:=hk;obtain⟨b13,e13,hb13,hst⟩:=hk2 rfl;obtain⟨_,hbox,xa,xb,xy,xz,rfl,hat⟩:=hst.2 rfl;have hb:=hk1.keep.bel;have HC4:=Aa hbox;have HA4:=Aa hat;have HNE:Ad (b13≠(w.heap.size+1+1+1)):=⟨by have:=HWS3.out;omega⟩
  have HZ4:Ad (w4.heap[(w.heap.size+1+1+1)]? = some (z4 82)):=⟨by rw[hb.block _ HWS3.out];exact HZ3.out⟩
  have HWS4:Ad ((w.heap.size+1+1+1)<w4.heap.size):=⟨De HWS3.out hb.size⟩
  replace HXA:=Aa (HXA.out.below hb HXA.out.lt);replace HXB:=Aa (HXB.out.below hb HXB.out.lt);replace HXX:=Aa (HXX.out.below hb HXX.out.lt);replace HFA:=Aa (HFA.out.below hb);replace HFB:=Aa (HFB.out.below hb);replace HFX:=Aa (HFX.out.below hb);replace HG:=Aa (HG.out.below hb);replace HT:=Aa (HT.out.below hb HT.out.size);replace HM:=Aa (HM.out.below hb);replace HB:=Aa (Ae HB.out hb);clear hsp hk1 hk2 hst hbox hat hb13 hb HZ3 HWS3;simp only[Am,Nat.reduceAdd];rw[e13];clear e13;generalize sp 1=y1,sp 3=y3,sp 7=y7,sp 11=y11,sp 12=y12,sp 14=y14 at *
  go_simp
  go_wp2;refine Ak (by kernel_rfl) (by kernel_rfl)
   [some (.pointer (some ⟨b,0,none⟩)),some (.agg #[.slice px nx cx]),some (.pointer (some ⟨b,0,none⟩)),some (.agg #[.slice pa na ca]),some (.agg #[.slice pb nb cb]),some (.slice pm nm cm),none,none,none,none]
   [false,false,false,false,false,false,true,true,true,true] rfl
   (fun wA wB=>KN (w4.heap.size) wA wB)
   (fun D sp w'=>RG (w4.heap.size) w4 [] w'/\Pa (D 8) (D 9) (sp 8) (w4.heap.size) (K) w')
   (fun i v w'=>match i with
    | 6=>oY LL MM v w'
    | 7=>Fit 33 (K) v w'
    | _=>True)
   ?_ ⟨RG.start (As _) (fun x hx=>by cases hx),Pa.start (As _)⟩ ?_ ?_
  .intro i v wA wB hf hb;split at hf
   .exact hf.kn hb
   .exact hf.kn hb
   .trivial
  .simp only[Az,Nat.reduceAdd];refine⟨?_,?_,?_,?_,?_,?_,?_,?_,?_,?_,trivial⟩
   all_goals intro D sp w' hD hW hdp hg
   case refine_2=>
    have c0:=(HXX.out.below hg.1.keep.bel HXX.out.lt).cell
    with_reducible refine Ac ?_ ?_
    all_goals simp[Region.wanted,yielded,execOp,Act.eval,Act.put,go_sem,c0]
   case refine_4=>
    have c0:=(HXA.out.below hg.1.keep.bel HXA.out.lt).cell
    with_reducible refine Ac ?_ ?_
    all_goals simp[Region.wanted,yielded,execOp,Act.eval,Act.put,go_sem,c0]
   case refine_5=>
    have c0:=(HXB.out.below hg.1.keep.bel HXB.out.lt).cell
    with_reducible refine Ac ?_ ?_
    all_goals simp[Region.wanted,yielded,execOp,Act.eval,Act.put,go_sem,c0]
   case refine_7=>
    (with_reducible refine Ab (w1:=w') (f := 181) (args:=#[.pointer (some ⟨b,0,none⟩),.agg #[.slice pa na ca],.agg #[.slice pb nb cb],.slice pm nm cm]) ?_ ?_ ?_)
    .simp[Region.wanted,yielded,Act.put,go_sem]
    .simp[Act.eval,Act.put,go_sem]
    .refine(Zu (HG.out.below hg.1.keep.bel) (HFA.out.below hg.1.keep.bel) (HFB.out.below hg.1.keep.bel) (by decide) HAl.out HBl.out HPs.out (HM.out.below hg.1.keep.bel) HZM.out HNM.out).mono ?_;rintro en w9 ⟨p9,c9,rfl,hu,hb⟩;rw[HMM.out,HLL.out]at hu
     rw[HMM.out,HLL.out];exact⟨_,rfl,KN.of hb hg.1.base,⟨p9,c9,rfl,hu⟩,hg.1.later hb,by simpa [upd]using hg.2.later hb⟩
   case refine_8=>
    have hr:∃p c,sp 6=.slice p LL c/\Au w' ⟨p,LL,c,MM⟩:=(hdp 6 (mq (by kernel_rfl))).2
    (with_reducible refine Aq hr fun p6 hr1=>Aq hr1 fun c6 hr2=>?_)
    have ea:=hr2.1
    (with_reducible refine Ab (w1:=w') (f := 106) (args:=#[.pointer (some ⟨b,0,none⟩),.agg #[.slice px nx cx],.slice p6 LL c6]) ?_ ?_ ?_)
    .simp only[Region.wanted]
    .simp[Act.eval,Act.put,go_sem,ea]
    .refine(kV (HG.out.below hg.1.keep.bel) (HT.out.below hg.1.keep.bel HT.out.size) (HFX.out.below hg.1.keep.bel) he HXl.out HQs.out hr2.2).mono ?_;rintro en w9 ⟨u,rfl,hu,hb⟩;rw[HKE.out]at hu
     exact⟨u,rfl,KN.of hb hg.1.base,hu,hg.1.later hb,by simpa [upd]using hg.2.later hb⟩
   case refine_9=>
    have h9:D 9=false:=hW 9 (mq (by kernel_rfl));rw[hD,h9]at hg
    (with_reducible refine Ag (w1:=w'.alloc (.cells #[.slice none 0 0] 36)) (v:=.pointer (some ⟨w'.heap.size,0,none⟩)) ?_ ?_ ?_)
    .simp[Region.wanted,yielded,Act.put,go_sem]
    .simp[execOp,go_sem]
    .have hb:Below w'.heap.size w' (w'.alloc (.cells #[.slice none 0 0] 36)):=By;refine⟨KN.of hb hg.1.base,trivial,hg.1.later hb,?_⟩;have h8:=hg.2.made;simpa [upd,h9]using h8
   case refine_10=>
    have hx:∃p n c,sp 7=.agg #[.slice p n c]/\Aj w' p n c (K)/\K<Ap (33):=(hdp 7 (mq (by kernel_rfl))).2
    (with_reducible refine Aq hx fun p hx1=>Aq hx1 fun n hx2=>Aq hx2 fun c hx3=>?_)
    have h1:=hx3.1;have h9:D 8=true:=(hdp 8 (mq (by kernel_rfl))).1;rw[h9]at hg
    have hp:=hg.2.put (hx3.2.1)
    (with_reducible refine Aq hp fun b hy0=>Aq hy0 fun q hy1=>Aq hy1 fun m hy2=>Aq hy2 fun k hy3=>?_)
    have h3:=hy3.1;have h6:=hy3.2.2.1.cell;have h7:=hy3.2.2.1.free
    (with_reducible refine An (w1:=w'.setCell ⟨b,0,none⟩ (.slice p n c)) ?_ ?_ ?_)
    .simp[Region.wanted,yielded,Act.put,go_sem]
    .simp[execOp,Act.eval,Act.put,go_sem,h1,h3,h6,h7]
    .refine⟨KN.store hy3.2.2.1 (Ec (As _) hy3.2.1) _,trivial,hg.1.store_over hy3.2.2.1 (As _) hy3.2.1 (fun x hx=>by cases hx) _,?_⟩;have h8:=hy3.2.2.2;simpa [upd,h9]using h8
   all_goals ((with_reducible refine Ac ?_ ?_);all_goals first|(simp only[Region.wanted];done)|simp[Region.wanted,yielded,execOp,Act.eval,Act.put,go_sem])
  .intro sp w5 hsp hg;obtain⟨hg1,_,hmk⟩:=hg;obtain⟨b14,e14,_,pk,nk,ck,hxk,hnk⟩:=hmk rfl;replace hnk:=hnk rfl;have HXK:=Aa hxk;have HFK:=Aa (Fit.of hnk HKb.out);have hb:=hg1.keep.bel;have HC5:=Aa ((hb.block _ (Gn HC4.out).1).trans HC4.out);have HA5:=Aa (HA4.out.below hb);have HZ5:Ad (w5.heap[(w.heap.size+1+1+1)]? = some (z4 82)):=⟨by rw[hb.block _ HWS4.out];exact HZ4.out⟩
   have HWS5:Ad ((w.heap.size+1+1+1)<w5.heap.size):=⟨De HWS4.out hb.size⟩
   replace HXA:=Aa (HXA.out.below hb HXA.out.lt);replace HXB:=Aa (HXB.out.below hb HXB.out.lt);replace HXX:=Aa (HXX.out.below hb HXX.out.lt);replace HFA:=Aa (HFA.out.below hb);replace HFB:=Aa (HFB.out.below hb);replace HFX:=Aa (HFX.out.below hb);replace HG:=Aa (HG.out.below hb);replace HT:=Aa (HT.out.below hb HT.out.size);replace HM:=Aa (HM.out.below hb);replace HB:=Aa (Ae HB.out hb);clear hsp hg1 hmk hxk hnk hb HC4 HA4 HZ4 HWS4;have hCL:Ad (∀w',Below w5.heap.size w5 w'->w'.heap[b13]? = some (.cells #[.slice xa.1 xa.2.1 xa.2.2,.slice xb.1 xb.2.1 xb.2.2,.slice xy.1 xy.2.1 xy.2.2,.slice xz.1 xz.2.1 xz.2.2] 82 (0,0))):=⟨fun w' hb=>(hb.block _ (Gn HC5.out).1).trans HC5.out⟩
   have hCA:Ad _:=HA5;simp only[Am,Nat.reduceAdd];rw[e14];clear e14;generalize sp 6=y6,sp 7=y7,sp 9=y9 at *
   go_simp
   go_wp2;refine Ak (by kernel_rfl) (by kernel_rfl)
    [some (.agg #[.slice xa.1 xa.2.1 xa.2.2,.slice xb.1 xb.2.1 xb.2.2,.slice xy.1 xy.2.1 xy.2.2,.slice xz.1 xz.2.1 xz.2.2]),some (.pointer (some ⟨b,0,none⟩)),some (.pointer (some ⟨b,0,none⟩)),some (.agg #[.slice pa na ca]),some (.agg #[.slice pk nk ck]),none,some (.pointer (some ⟨b,0,none⟩)),some (.agg #[.slice pb nb cb]),some (.agg #[.slice pk nk ck]),none,some (.slice pm nm cm),none,none,none]
    [false,false,false,false,false,true,false,false,false,true,false,true,true,true] rfl
    (fun wA wB=>KN (w5.heap.size) wA wB)
    (fun D sp w'=>RG (w5.heap.size) w5 [] w'/\Pa (D 12) (D 13) (sp 12) (w5.heap.size) (CC) w')
    (fun i v w'=>match i with
     | 5=>Fit 33 (U) v w'
     | 9=>Fit 33 (V) v w'
     | 11=>Fit 33 (CC) v w'
     | _=>True)
    ?_ ⟨RG.start (As _) (fun x hx=>by cases hx),Pa.start (As _)⟩ ?_ ?_
   .intro i v wA wB hf hb;split at hf
    .exact hf.kn hb
    .exact hf.kn hb
    .exact hf.kn hb
    .trivial
   .simp only[Az,Nat.reduceAdd];refine⟨?_,?_,?_,?_,?_,?_,?_,?_,?_,?_,?_,?_,?_,?_,trivial⟩
    all_goals intro D sp w' hD hW hdp hg
    case refine_1=>
     have g0:=(cells4 (hCL.out w' hg.1.keep.bel)).1
     with_reducible refine Ac ?_ ?_
     all_goals simp[Region.wanted,yielded,execOp,Act.eval,Act.put,go_sem,g0.1,g0.2.1,g0.2.2.1,g0.2.2.2]
    case refine_4=>
     have c0:=(HXA.out.below hg.1.keep.bel HXA.out.lt).cell
     with_reducible refine Ac ?_ ?_
     all_goals simp[Region.wanted,yielded,execOp,Act.eval,Act.put,go_sem,c0]
    case refine_5|refine_9=>
     have c0:=(HXK.out.below hg.1.keep.bel HXK.out.lt).cell
     with_reducible refine Ac ?_ ?_
     all_goals simp[Region.wanted,yielded,execOp,Act.eval,Act.put,go_sem,c0]
    case refine_6=>
     (with_reducible refine Ab (w1:=w') (f := 42) (args:=#[.pointer (some ⟨b,0,none⟩),.agg #[.slice pa na ca],.agg #[.slice pk nk ck]]) ?_ ?_ ?_)
     .simp[Region.wanted,yielded,Act.put,go_sem]
     .simp[Act.eval,Act.put,go_sem]
     .refine(El (HG.out.below hg.1.keep.bel) (HFA.out.below hg.1.keep.bel) (HFK.out.below hg.1.keep.bel) (by decide) (by decide)).mono ?_;rintro en w9 ⟨u,rfl,hu,hb⟩;rw[HUE.out]at hu
      exact⟨u,rfl,KN.of hb hg.1.base,hu,hg.1.later hb,by simpa [upd]using hg.2.later hb⟩
    case refine_8=>
     have c0:=(HXB.out.below hg.1.keep.bel HXB.out.lt).cell
     with_reducible refine Ac ?_ ?_
     all_goals simp[Region.wanted,yielded,execOp,Act.eval,Act.put,go_sem,c0]
    case refine_10=>
     (with_reducible refine Ab (w1:=w') (f := 42) (args:=#[.pointer (some ⟨b,0,none⟩),.agg #[.slice pb nb cb],.agg #[.slice pk nk ck]]) ?_ ?_ ?_)
     .simp[Region.wanted,yielded,Act.put,go_sem]
     .simp[Act.eval,Act.put,go_sem]
     .refine(El (HG.out.below hg.1.keep.bel) (HFB.out.below hg.1.keep.bel) (HFK.out.below hg.1.keep.bel) (by decide) (by decide)).mono ?_;rintro en w9 ⟨u,rfl,hu,hb⟩;rw[HVE.out]at hu
      exact⟨u,rfl,KN.of hb hg.1.base,hu,hg.1.later hb,by simpa [upd]using hg.2.later hb⟩
    case refine_12=>
     have hxu:∃p n c,sp 5=.agg #[.slice p n c]/\Aj w' p n c (U)/\U<Ap (33):=(hdp 5 (mq (by kernel_rfl))).2
     (with_reducible refine Aq hxu fun pu hxu1=>Aq hxu1 fun nu hxu2=>Aq hxu2 fun cu hxu3=>?_)
     have hu:=hxu3.1;have hxv:∃p n c,sp 9=.agg #[.slice p n c]/\Aj w' p n c (V)/\V<Ap (33):=(hdp 9 (mq (by kernel_rfl))).2
     (with_reducible refine Aq hxv fun pv hxv1=>Aq hxv1 fun nv hxv2=>Aq hxv2 fun cv hxv3=>?_)
     have hv:=hxv3.1
     (with_reducible refine Ab (w1:=w') (f := 127) (args:=#[.agg #[.slice xa.1 xa.2.1 xa.2.2,.slice xb.1 xb.2.1 xb.2.2,.slice xy.1 xy.2.1 xy.2.2,.slice xz.1 xz.2.1 xz.2.2],.pointer (some ⟨b,0,none⟩),.agg #[.slice pu nu cu],.agg #[.slice pv nv cv],.slice pm nm cm]) ?_ ?_ ?_)
     .simp only[Region.wanted]
     .simp[Act.eval,Act.put,go_sem,hu,hv]
     .refine(Nj (HG.out.below hg.1.keep.bel) (HT.out.below hg.1.keep.bel HT.out.size) (hCA.out.below hg.1.keep.bel) (xu:=(pu,nu,cu)) (xv:=(pv,nv,cv)) hxu3.2.1 hxv3.2.1 HAl.out HBl.out HYl.out HZl.out HUl.out HVl.out HPs.out (HM.out.below hg.1.keep.bel)).mono ?_;rintro en w9 ⟨u,rfl,hu9,hb9⟩;rw[HCE.out]at hu9
      have hb:=hb9;exact⟨u,rfl,KN.of hb hg.1.base,hu9,hg.1.later hb,by simpa [upd]using hg.2.later hb⟩
    case refine_13=>
     have h9:D 13=false:=hW 13 (mq (by kernel_rfl));rw[hD,h9]at hg
     (with_reducible refine Ag (w1:=w'.alloc (.cells #[.slice none 0 0] 36)) (v:=.pointer (some ⟨w'.heap.size,0,none⟩)) ?_ ?_ ?_)
     .simp[Region.wanted,yielded,Act.put,go_sem]
     .simp[execOp,go_sem]
     .have hb:Below w'.heap.size w' (w'.alloc (.cells #[.slice none 0 0] 36)):=By;refine⟨KN.of hb hg.1.base,trivial,hg.1.later hb,?_⟩;have h8:=hg.2.made;simpa [upd,h9]using h8
    case refine_14=>
     have hx:∃p n c,sp 11=.agg #[.slice p n c]/\Aj w' p n c (CC)/\CC<Ap (33):=(hdp 11 (mq (by kernel_rfl))).2
     (with_reducible refine Aq hx fun p hx1=>Aq hx1 fun n hx2=>Aq hx2 fun c hx3=>?_)
     have h1:=hx3.1;have h9:D 12=true:=(hdp 12 (mq (by kernel_rfl))).1;rw[h9]at hg
     have hp:=hg.2.put (hx3.2.1)
     (with_reducible refine Aq hp fun b hy0=>Aq hy0 fun q hy1=>Aq hy1 fun m hy2=>Aq hy2 fun k hy3=>?_)
     have h3:=hy3.1;have h6:=hy3.2.2.1.cell;have h7:=hy3.2.2.1.free
     (with_reducible refine An (w1:=w'.setCell ⟨b,0,none⟩ (.slice p n c)) ?_ ?_ ?_)
     .simp[Region.wanted,yielded,Act.put,go_sem]
     .simp[execOp,Act.eval,Act.put,go_sem,h1,h3,h6,h7]
     .refine⟨KN.store hy3.2.2.1 (Ec (As _) hy3.2.1) _,trivial,hg.1.store_over hy3.2.2.1 (As _) hy3.2.1 (fun x hx=>by cases hx) _,?_⟩;have h8:=hy3.2.2.2;simpa [upd,h9]using h8
    all_goals ((with_reducible refine Ac ?_ ?_);all_goals first|(simp only[Region.wanted];done)|simp[Region.wanted,yielded,execOp,Act.eval,Act.put,go_sem])
   .intro sp w6 hsp hg;obtain⟨hg1,_,hmk⟩:=hg;obtain⟨b15,e15,_,pc,nc,cc,hxc,hnc⟩:=hmk rfl;replace hnc:=hnc rfl;have HXC:=Aa hxc;have HFC:=Aa (Fit.of hnc HCb.out);have hb:=hg1.keep.bel;have HC6:=Aa (hCL.out w6 hb);have HZ6:Ad (w6.heap[(w.heap.size+1+1+1)]? = some (z4 82)):=⟨by rw[hb.block _ HWS5.out];exact HZ5.out⟩
    have HWS6:Ad ((w.heap.size+1+1+1)<w6.heap.size):=⟨De HWS5.out hb.size⟩
    have hCA6:=hCA.out.below hb;replace HXA:=Aa (HXA.out.below hb HXA.out.lt);replace HXB:=Aa (HXB.out.below hb HXB.out.lt);replace HXX:=Aa (HXX.out.below hb HXX.out.lt);replace HFA:=Aa (HFA.out.below hb);replace HFB:=Aa (HFB.out.below hb);replace HFX:=Aa (HFX.out.below hb);replace HG:=Aa (HG.out.below hb);replace HT:=Aa (HT.out.below hb HT.out.size);replace HM:=Aa (HM.out.below hb);replace HB:=Aa (Ae HB.out hb);replace HXK:=Aa (HXK.out.below hb HXK.out.lt);replace HFK:=Aa (HFK.out.below hb);clear hsp hg1 hmk hxc hnc hb hCA HA5 HZ5 HWS5 HC5 hCL;have hCA:=Aa hCA6;clear hCA6;have HG6:Ad (∀w',Ao (w.heap.size+1+1+1) w6 w'->Bb w' b P Q G H):=⟨fun w' k=>(Kp.of HG0.out (As _) HB.out).keep ⟨k.bel.mono (by omega),k.nat⟩⟩
    have hKB:Ad (∀w',KT 82 (w.heap.size+1+1+1) w6 w'->∀g v,Af w6 g v->Af w' g v):=⟨fun w' k g v h=>k.blk _ _ _ _ h (.inl (by decide))⟩
    have HSB:Ad (∀ {w':World},KT 82 (w.heap.size+1+1+1) w6 w'->(w.heap.size+1+1+1)<=w'.heap.size):=⟨fun k=>by have h1:=k.k.bel.size;have h2:=HWS6.out;omega⟩
    simp only[Am,Nat.reduceAdd];rw[e15];clear e15;generalize sp 5=y5,sp 9=y9,sp 11=y11,sp 13=y13 at *
    go_simp
    go_wp2;refine Ai (by kernel_rfl) (by kernel_rfl)
     [some (.agg #[.slice xa.1 xa.2.1 xa.2.2,.slice xb.1 xb.2.1 xb.2.2,.slice xy.1 xy.2.1 xy.2.2,.slice xz.1 xz.2.1 xz.2.2]),some (.pointer (some ⟨b,0,none⟩)),some (.agg #[.slice pk nk ck]),some (.agg #[.slice pc nc cc]),some (.agg #[.slice px nx cx]),none,some (.pointer (some ⟨b,0,none⟩)),none,none,none,some (.int .i64 0)]
     [false,false,false,false,false,true,false,true,true,true,false] rfl
     (fun w1 w2=>KT 82 (w.heap.size+1+1+1) w1 w2)
     (fun D w'=>KT 82 (w.heap.size+1+1+1) w6 w'/\Th (D 8) (w.heap.size+1+1+1) (z4 82) (pB 82 A B Y Z) w'/\w'.heap[b13]? = some (.cells #[.slice xa.1 xa.2.1 xa.2.2,.slice xb.1 xb.2.1 xb.2.2,.slice xy.1 xy.2.1 xy.2.2,.slice xz.1 xz.2.1 xz.2.2] 82 (0,0)))
     (fun i v w'=>match i with
      | 5=>Pv CC SS v w'
      | 7=>Ci 0 SB v w'
      | 8=>True
      | 9=>Ci 0 SB v w'
      | _=>True)
     ?_ ⟨KT.drew _ _ _,Th.start HZ6.out,HC6.out⟩ ?_ ?_
    .intro i v w1 w2 hf hb;split at hf
     .exact hf.kt hb
     .exact hf.kt hb
     .exact hf
     .exact hf.kt hb
     .trivial
    .simp only[Ba,Nat.reduceAdd];refine⟨?_,?_,?_,?_,?_,?_,?_,?_,?_,?_,?_,trivial⟩
     all_goals intro D sp w' hD hW hdp hbx'
     case refine_1=>
      have g0:=(cells4 hbx'.2.2).1
      with_reducible refine Ac ?_ ?_
      all_goals simp[Region.wanted,yielded,execOp,Act.eval,Act.put,go_sem,g0.1,g0.2.1,g0.2.2.1,g0.2.2.2]
     case refine_3=>
      have c0:=(hKB.out w' hbx'.1 _ _ HXK.out).cell
      with_reducible refine Ac ?_ ?_
      all_goals simp[Region.wanted,yielded,execOp,Act.eval,Act.put,go_sem,c0]
     case refine_4=>
      have c0:=(hKB.out w' hbx'.1 _ _ HXC.out).cell
      with_reducible refine Ac ?_ ?_
      all_goals simp[Region.wanted,yielded,execOp,Act.eval,Act.put,go_sem,c0]
     case refine_5=>
      have c0:=(HXX.out.below hbx'.1.k.bel (by omega)).cell
      with_reducible refine Ac ?_ ?_
      all_goals simp[Region.wanted,yielded,execOp,Act.eval,Act.put,go_sem,c0]
     case refine_6=>
      (with_reducible refine Ab (w1:=w') (f := 108) (args:=#[.pointer (some ⟨b,0,none⟩),.agg #[.slice pk nk ck],.agg #[.slice pc nc cc],.agg #[.slice px nx cx]]) ?_ ?_ ?_)
      .simp[Region.wanted,yielded,Act.put,go_sem]
      .simp[Act.eval,Act.put,go_sem]
      .refine(Xs (HG6.out w' hbx'.1.k) (HFK.out.keep hbx'.1.k) (HFC.out.keep hbx'.1.k) (HFX.out.keep hbx'.1.k) (by decide) (by decide) he).mono ?_;rintro en w9 ⟨u,rfl,hu,hb⟩;rw[HSE.out]at hu
       exact⟨u,rfl,KT.of hb (HSB.out hbx'.1),hu,⟨hbx'.1.trans (KT.of hb (HSB.out hbx'.1)),by simpa [upd]using hbx'.2.1.later hb (fun o h=>h.below hb),by rw[hb.block _ (Gn hbx'.2.2).1];exact hbx'.2.2⟩⟩
     case refine_8=>
      have hx:∃x y:Option Addr×Nat×Nat,sp 5=.agg #[.slice x.1 x.2.1 x.2.2,.slice y.1 y.2.1 y.2.2]/\Dh w' x CC/\Dh w' y SS:=(hdp 5 (mq (by kernel_rfl))).2
      (with_reducible refine Aq hx fun x hx1=>Aq hx1 fun y hx2=>?_)
      have h1:=hx2.1
      (with_reducible refine Ab (w1:=w') (f := 109) (args:=#[.agg #[.slice x.1 x.2.1 x.2.2,.slice y.1 y.2.1 y.2.2],.pointer (some ⟨b,0,none⟩)]) ?_ ?_ ?_)
      .simp only[Region.wanted]
      .simp[Act.eval,Act.put,go_sem,h1]
      .refine(Vz (Xv.of (HG6.out w' hbx'.1.k)) HQs.out hx2.2.1 hx2.2.2 HCl.out HSl.out HQl.out).mono ?_;rintro en w9 ⟨u,rfl,hu,hb⟩;rw[HSBE.out]at hu
       exact⟨u,rfl,KT.of hb (HSB.out hbx'.1),hu.zero,⟨hbx'.1.trans (KT.of hb (HSB.out hbx'.1)),by simpa [upd]using hbx'.2.1.later hb (fun o h=>h.below hb),by rw[hb.block _ (Gn hbx'.2.2).1];exact hbx'.2.2⟩⟩
     case refine_9=>
      rw[hD]at hbx'
      have g0:=(cells4 hbx'.2.2).1;have h6:w'.heap[(w.heap.size+1+1+1)]? = some (.cells #[.slice none 0 0,.slice none 0 0,.slice none 0 0,.slice none 0 0] 82 (0,0)):=hbx'.2.1.1 rfl;have hp:=put4 (u0:=.slice xa.1 xa.2.1 xa.2.2) (u1:=.slice xb.1 xb.2.1 xb.2.2) (u2:=.slice xy.1 xy.2.1 xy.2.2) (u3:=.slice xz.1 xz.2.1 xz.2.2) h6;have hkt:=hp.kt h6 (Rg (none,0,0) (none,0,0) (none,0,0) (none,0,0)) (As _);have g6:=cells4 h6
      (with_reducible refine An (w1:=Ra w' (w.heap.size+1+1+1) (.slice xa.1 xa.2.1 xa.2.2) (.slice xb.1 xb.2.1 xb.2.2) (.slice xy.1 xy.2.1 xy.2.2) (.slice xz.1 xz.2.1 xz.2.2)) ?_ ?_ ?_)
      .simp only[Region.wanted]
      .simp[execOp,Act.eval,Act.put,go_sem,g6.1.1,g6.1.2.1,g6.1.2.2.1,g6.1.2.2.2,g6.2.1,g6.2.2.1,g6.2.2.2.1,g6.2.2.2.2,Ra]
      .refine⟨hkt,trivial,hbx'.1.trans hkt,?_,by rw[hp.old _ HNE.out];exact hbx'.2.2⟩;have h8:Th true (w.heap.size+1+1+1) (z4 82) (pB 82 A B Y Z) _:=Th.done hp.new ⟨xa,xb,xy,xz,rfl,(hCA.out.keep hbx'.1.k).kt hkt⟩;simpa [upd]using h8
     case refine_10=>
      have k7:Ci 0 SB (sp 7) w':=(hdp 7 (mq (by kernel_rfl))).2
      (with_reducible refine Ag (w1:=w') (v:=sp 7) ?_ ?_ ?_)
      .simp only[Region.wanted]
      .simp[execOp,Act.eval,Act.put,go_sem]
      .exact⟨KT.same _ _ _,k7,by simpa [upd]using hbx'⟩
     all_goals ((with_reducible refine Ac ?_ ?_);all_goals first|(simp only[Region.wanted];done)|simp[Region.wanted,yielded,execOp,Act.eval,Act.put,go_sem])
    .intro sp w7 hsp hk;obtain⟨hk1,hk2,_⟩:=hk;obtain⟨_,hbox,ya,yb,yy,yz,rfl,hat⟩:=hk2.2 rfl;have HO:Ad (Ci 0 SB (sp 9) w7):=⟨hsp 9 rfl⟩
     have HV:Ad (nB A B Y Z (.agg #[.slice ya.1 ya.2.1 ya.2.2,.slice yb.1 yb.2.1 yb.2.2,.slice yy.1 yy.2.1 yy.2.2,.slice yz.1 yz.2.1 yz.2.2]) w7):=⟨⟨ya,yb,yy,yz,rfl,hat⟩⟩
     have HBf:Ad (Below w.heap.size w w7):=⟨HB.out.trans (hk1.k.bel.mono (by omega))⟩
     obtain⟨g0,g1,g2,g3⟩:=(cells4 hbox).1;clear hsp hk1 hk2 hbox hat;simp only[Am,Nat.reduceAdd];generalize sp 5=y5,sp 7=y7,sp 8=y8,sp 9=y9 at *
     go_simp
     go_wp2;exact bodyPost_ret (v:=.tuple #[.agg #[.slice ya.1 ya.2.1 ya.2.2,.slice yb.1 yb.2.1 yb.2.2,.slice yy.1 yy.2.1 yy.2.2,.slice yz.1 yz.2.1 yz.2.2],y9,.int .i64 0]) (by simp[results,Tryz.results125,go_sem,g0,g1,g2,g3]) rfl ⟨_,_,rfl,HV.out,HO.out,HBf.out⟩
end Go.Proofs.YtnbmfaihlefgfaaGreatDoor
