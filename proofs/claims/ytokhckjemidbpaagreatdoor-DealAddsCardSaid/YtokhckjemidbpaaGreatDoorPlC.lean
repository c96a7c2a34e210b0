/- Products of pledges, place by place (pledge.Join). -/
import Derived.Test.YtokhckjemidbpaaGreatDoorDeQ
set_option maxRecDepth 1000000
set_option maxHeartbeats 16000000
set_option linter.all false
namespace Go.Proofs.YtokhckjemidbpaaGreatDoor
open Go Go.RowKit Go.Proofs.YtokhckjemidbpaaGreatDoor.Flow
structure Te (w:World) (e:Nat) (p:Option Addr) (n:Nat) (Ls:List (List Nat)):Prop where
 len:n=Ls.length
 at_:0<n->∃b off,p=some ⟨b,off,none⟩/\b<w.heap.size/\∀i L,Ls[i]? = some L->∃q m d,w.cell? ⟨b,off+i,none⟩=some (.slice q m d)/\Aq w e q m d L
theorem Te.below {w w':World}{e n:Nat}{p:Option Addr}{Ls:List (List Nat)}(h:Te w e p n Ls)(hb:Below w.heap.size w w'):Te w' e p n Ls:=by
 refine⟨h.len,fun h0=>?_⟩;obtain⟨b,off,h1,h2,h3⟩:=h.at_ h0
 exact⟨b,off,h1,Da h2 hb.size,fun i L hL=>
  let ⟨q,m,d,k1,k2⟩:=h3 i L hL
  ⟨q,m,d,(hb.cell (p:=⟨b,off+i,none⟩) h2).trans k1,k2.below hb⟩⟩
theorem Cy.full {w:World}{B:Nat}{v:Value}{us:List (Option Addr×Nat×Nat)}(h:Cy w B v us)(h0:0<us.length) :
  ∃(g cap:Nat) (rest:List (Option Addr×Nat×Nat)),v=.slice (some ⟨g,0,none⟩) us.length cap/\B<=g/\Cr w g (us++rest)/\us.length+rest.length=cap/\cap<=9223372036854775807:=by
 rcases h.ex with ⟨_,rfl⟩|⟨g,cap,rest,h1,h2,h3,h4,h5⟩
 .simp at h0
 .exact⟨g,cap,rest,h1,h2,by unfold Cr;unfold Eh at h3;rw[List.map_append];exact h3,h4,h5⟩
theorem Cy.of_full {w:World}{B g cap:Nat}{us rest:List (Option Addr×Nat×Nat)}(hB:B<=g)(h:Cr w g (us++rest))(hl:us.length+rest.length=cap)(hm:cap<=9223372036854775807):Cy w B (.slice (some ⟨g,0,none⟩) us.length cap) us :=
 ⟨.inr ⟨g,cap,rest,rfl,hB,by unfold Eh;unfold Cr at h;rw[<-List.map_append];exact h,hl,hm⟩⟩
theorem Cn.keep {w w':World}{B e:Nat}{us:List (Option Addr×Nat×Nat)}{Ns:List Nat}(h:Cn w e us Ns)(k:Am B w w'):Cn w' e us Ns :=
 ⟨h.len,fun i N hN=>let ⟨x,h1,h2,h3⟩:=h.at_ i N hN;⟨x,h1,k.nat _ _ _ _ h2,h3⟩⟩
theorem Cn.set {w:World}{e N i:Nat}{us:List (Option Addr×Nat×Nat)}{Ns:List Nat}{x:Option Addr×Nat×Nat}(h:Cn w e us Ns)(hx:Cw w x N)(hl:N<An e):Cn w e (us.set i x) (Ns.set i N):=by
 refine⟨by rw[List.length_set,List.length_set];exact h.len,fun j M hM=>?_⟩
 by_cases hj:j=i
 .subst hj;have hj2:j<Ns.length:=by have:=(List.getElem?_eq_some_iff.1 hM).1;simpa using this
  rw[List.getElem?_set_self hj2]at hM
  cases hM;exact⟨x,List.getElem?_set_self (by rw[h.len];exact hj2),hx,hl⟩
 .rw[List.getElem?_set_ne (by omega)]at hM
  obtain⟨y,h1,h2⟩:=h.at_ j M hM
  exact⟨y,by rw[List.getElem?_set_ne (by omega)];exact h1,h2⟩
theorem gY {w w':World}{B e N:Nat}{v u:Value}{us:List (Option Addr×Nat×Nat)}(hr:Cy w B v us)(hg:w.grownBy w' v.ownBlock)(h:Fit e N u w):Fit e N u w' :=
 let ⟨p,n,c,h1,h2,h3⟩:=h
 ⟨p,n,c,h1,Dx hr hg h2,h3⟩
theorem Qc {P N:Nat}:∀(Ls:List (List Nat)) (acc:List Nat),(∀L∈Ls,L.length<=N)->acc.length<=N->(El P Ls acc).length<=N
 | [],_,_,h=>h
 | L::Ls,acc,hl,h=>Qc Ls (Bd P acc L) (fun M hM=>hl M (List.mem_cons_of_mem _ hM)) (by rw[De];have:=hl L List.mem_cons_self;omega)
theorem fT {w:World}{b P Q GG HH e n c:Nat}{p:Option Addr}{Ls:List (List Nat)}(hg:Au w b P Q GG HH)(hL:Te w e p n Ls)(he:e<=200)(hn:n<=1000)(hl:∀L∈Ls,L.length<=1000) :
  Calls Tryz.prog 61 #[.pointer (some ⟨b,0,none⟩),.slice p n c] w fun en w'=>∃q m d,en=.returned (.slice q m d)/\m=(El P Ls []).length/\Aq w' 33 q m d (El P Ls [])/\Below w.heap.size w w':=by
 have HG:=Ab hg;have HLs:=Ab hL;have HLn:=Ab hL.len;have HLl:=Ab hl;have HMl:Aa (∀k,(El P (Ls.take k) []).length<=1000):=⟨fun k=>Qc _ _ (fun L hL=>hl L (List.mem_of_mem_take hL)) (by simp)⟩
 have HP2:=Ab hg.lims.1;clear hg hL hl;go_enter Tryz.func61,Tryz.ntmps61;go_wp2
 go_loopw [5,7,8,9,14] (fun vc _ _ _ iv wr=>∃(k:Nat) (us:List (Option Addr×Nat×Nat)),k<=n/\iv=.int .i64 k/\Aa (Below w.heap.size w wr)/\Aa (Cy wr w.heap.size vc us)/\Aa (Cn wr 33 us (El P (Ls.take k) []))) (fun _ _ _ _ iv _=>n-(intOf iv).toNat)
 case atStart=>exact⟨0,[],by omega,rfl,⟨Ba _ _⟩,⟨Cy.nil _ _⟩,⟨Cn.nil _ _⟩⟩
 case round=>
  obtain⟨k,us,hk,rfl,HB,HS,HT⟩:=hrel
  by_cases hkn:k<n
  .obtain⟨L,hLk⟩:∃s,Ls[k]? = some s:=⟨Ls[k]'(by rw[<-HLn.out];exact hkn),List.getElem?_eq_getElem _⟩
   obtain⟨bb,off,rfl,hb,hc⟩:=HLs.out.at_ (by omega)
   obtain⟨px,m,cx,hc1,hc2⟩:=hc k L hLk;have hx:wr.cell? ⟨bb,off+k,none⟩=some (.slice px m cx):=(HB.out.cell (p:=⟨bb,off+k,none⟩) hb).trans hc1;have HPX:=Ab hc2;have HLm:=Ab hc2.len;have hm1:m<=1000:=by rw[hc2.len];exact HLl.out L (List.mem_of_getElem? hLk)
   obtain⟨acc,hacc⟩:∃l,El P (Ls.take k) []=l:=⟨_,rfl⟩
   have HACC:Aa (El P (Ls.take (k+1)) []=Bd P acc L):=⟨by rw[Cz hLk,Nq,hacc]⟩
   have HAL:Aa (acc.length<=1000):=⟨by rw[<-hacc];exact HMl.out k⟩
   rw[hacc]at HT
   have HT0:Aa (Cn wr 33 us (Bd P acc (L.take 0))):=⟨by rw[List.take_zero,Jj];exact HT.out⟩
   have hkn':(k:Int)<n:=by omega
   have hnk:¬n<=k:=by omega
   have hcap:m<=cx:=hc2.cap;have hcx:cx<=9223372036854775807:=hc2.max;clear hc hLk hb hc1 hc2 hacc;go_wp2;clear hx
   go_loopw [5,8,9,20] (fun vc _ _ iv wr=>∃(i:Nat) (us:List (Option Addr×Nat×Nat)),i<=m/\iv=.int .i64 i/\Aa (Below w.heap.size w wr)/\Aa (Cy wr w.heap.size vc us)/\Aa (Cn wr 33 us (Bd P acc (L.take i)))) (fun _ _ _ iv _=>m-(intOf iv).toNat)
   case atStart=>exact⟨0,us,by omega,rfl,HB,HS,HT0⟩
   case round=>
    clear HB HS HT HT0;obtain⟨i,us,hi,rfl,HB,HS,HT⟩:=hrel
    by_cases him:i<m
    .obtain⟨a,hai⟩:∃a,L[i]? = some a:=⟨L[i]'(by rw[<-HLm.out];exact him),List.getElem?_eq_getElem _⟩
     obtain⟨b2,off2,rfl,hb2,hc2⟩:=HPX.out.at_ (by omega)
     obtain⟨q1,m1,d1,ha1,ha2,ha3⟩:=hc2 i a hai;have hcy:wr.cell? ⟨b2,off2+i,none⟩=some (.slice q1 m1 d1):=(HB.out.cell (p:=⟨b2,off2+i,none⟩) hb2).trans ha1;have hba:Below wr.heap.size wr (wr.alloc (.cells #[.slice q1 m1 d1] 37)):=Bt;have hxa:=Ae.made wr (.slice q1 m1 d1);obtain⟨wa,hwa⟩:∃wa,wr.alloc (.cells #[.slice q1 m1 d1] 37)=wa:=⟨_,rfl⟩
     rw[hwa]at hba hxa
     obtain⟨b9,hb9⟩:∃x,wr.heap.size=x:=⟨_,rfl⟩
     rw[hb9]at hxa
     have HBa:Aa (Below w.heap.size w wa):=⟨Af HB.out hba⟩
     obtain⟨pv,cv,hv⟩:=HS.out.slice;obtain⟨n1,hn1⟩:∃l,us.length=l:=⟨_,rfl⟩
     rw[hn1]at hv
     subst hv;have HXA:=Ab hxa;have HFA0:=Ab ((Fit.of ha2 ha3).below HBa.out);have HSa:=Ab (HS.out.below hba);have HTa:=Ab (HT.out.below hba);have HOW:Aa (∀g,(Value.slice pv n1 cv).ownBlock=some g->g<b9):=⟨fun g h=>by rw[<-hb9];exact(HS.out.own h).2⟩
     have hlen:us.length=max acc.length i:=by rw[HT.out.len,De,List.length_take,<-HLm.out];omega
     have HUS:Aa (us.length<=100000):=⟨by have:=HAL.out;omega⟩
     have him':(i:Int)<m:=by omega
     have hmi:¬m<=i:=by omega
     by_cases hia:acc.length<=i
     .have hli:us.length=i:=by omega
      have hni1:i=n1:=by omega
      subst hni1;obtain⟨Z,hZ⟩:∃Z,1*a%P=Z:=⟨_,rfl⟩
      have HZ:=Ab hZ;have HNl:Aa ((Bd P acc (L.take i)).length=i):=⟨by rw[<-HT.out.len];exact hli⟩
      have HNS:Aa (Bd P acc (L.take (i+1))=(Bd P acc (L.take i)++[1]).set i Z):=⟨by
       rw[Mr P L acc i a hia hai,hZ,List.set_append_right _ _ (by rw[HNl.out];exact Aw _),HNl.out,Nat.sub_self];rfl⟩
      have HLI:=Ab hli;have HSv:Aa (Cy wa w.heap.size (.slice pv i cv) us):=⟨HSa.out⟩
      have HOWv:Aa (∀g,(Value.slice pv i cv).ownBlock=some g->g<b9):=⟨HOW.out⟩
      clear hn1 hc2 hai ha1 ha2 hba hxa hb2 hlen hia hZ hli HB HS HT HSa HOW
      go_wp2_with fail
      refine(Ea wa).mono ?_;rintro en w3 ⟨_,rfl,⟨po,no,co,rfl,o1,o2⟩,b3⟩;have hb4:Below w3.heap.size w3 (w3.alloc (.cells #[.slice po no co] 37)):=Bt;have hx4:(w3.alloc (.cells #[.slice po no co] 37)).cell? ⟨w3.heap.size,0,none⟩=some (.slice po no co):=(Ae.made w3 (.slice po no co)).cell;obtain⟨w4,hw4⟩:∃w4,w3.alloc (.cells #[.slice po no co] 37)=w4:=⟨_,rfl⟩
      rw[hw4]at hb4 hx4
      have hb34:=Af b3 hb4;have hx9:=HXA.out.below hb34 HXA.out.lt;have hs4:=HSv.out.below hb34;have hsz:w.heap.size<=w4.heap.size:=(Af HBa.out hb34).size;obtain⟨v9,w5,happ,hr5,hg5,hmv⟩:=hs4.app (x:=(po,no,co)) hx4 hsz HUS.out 62 (c:=1);have ht5:Cn w5 33 (us++[(po,no,co)]) (Bd P acc (L.take i)++[1]):=((HTa.out.below hb34).grown hs4 hg5).snoc (Dx hs4 hg5 (o1.below hb4)) (Da o2 (Cc (by decide)));have hul:(us++[(po,no,co)]).length=i+1:=by rw[List.length_append,HLI.out];rfl
      obtain⟨gj,cj,rest,rfl,hbj,hsr,hcj,hmj⟩:=hr5.full (by rw[hul];omega);rw[hul]at happ hcj
      obtain⟨n2,hn2⟩:∃n2,i+1=n2:=⟨_,rfl⟩
      rw[hn2]at happ hcj hul
      have hgj:gj≠b9:=by
       rcases hmv with h1|h1
       .have:=HOWv.out gj h1.symm;omega
       .have:=h1 gj rfl;have h2:=hx9.lt;omega
      have hx5:w5.heap[b9]? = some (.cells #[.slice q1 m1 d1] 37 (0,0)):=by
       rw[hg5.block b9 hx9.lt fun e=>by have:=HOWv.out b9 e.symm;omega];exact hx9
      have HBc:Aa (Below w.heap.size w w5):=⟨(Af HBa.out hb34).grown hg5 hsz (fun g hg=>(HSv.out.own hg).1)⟩
      obtain⟨ut,hut⟩:∃l,us++[(po,no,co)]=l:=⟨_,rfl⟩
      rw[hut]at ht5 hul hsr
      obtain⟨uz,huz⟩:∃l,ut++rest=l:=⟨_,rfl⟩
      rw[huz]at hsr
      have HUZ:=Ab huz;have HUL:=Ab hul;have HIN:Aa (i<n2):=⟨by omega⟩
      have HCJ:Aa (ut.length+rest.length=cj/\cj<=9223372036854775807):=⟨⟨by rw[hul];exact hcj,hmj⟩⟩
      have HSZ:Aa (Cr w5 gj uz):=⟨hsr⟩
      have HTc:=Ab ht5;have HBJ:=Ab hbj;have huk:uz[i]? = some (po,no,co):=by rw[<-huz,List.getElem?_append_left (by omega),<-hut,List.getElem?_append_right (by rw[HLI.out];exact Aw _),HLI.out,Nat.sub_self];rfl
      obtain⟨uo,huo⟩:∃u:Option Addr×Nat×Nat,(po,no,co)=u:=⟨_,rfl⟩
      have HUK:Aa (uz[i]? = some uo):=⟨by rw[<-huo];exact huk⟩
      have HFO:Aa (Fit 33 1 (.agg #[.slice uo.1 uo.2.1 uo.2.2]) w5):=⟨by rw[<-huo];exact(Fit.of (Dx hs4 hg5 (o1.below hb4)) (Da o2 (Cc (by decide))))⟩
      have HFA:=Ab (gY hs4 hg5 (HFA0.out.below hb34));have HGL:Aa (Ps w.heap.size w5 b P Q GG HH):=⟨Ps.of HG.out HBc.out (Aw _)⟩
      have HBW:Aa (w.heap.size<=w5.heap.size):=⟨HBc.out.size⟩
      have HNE:Aa (∀y∈([(b9,.cells #[.slice q1 m1 d1] 37 (0,0))]:List (Nat×Obj)),y.1≠gj):=⟨fun y hy=>by
       simp only[List.mem_cons,List.not_mem_nil,or_false]at hy;subst hy;exact fun e=>hgj e.symm⟩
      have HLS:Aa (∀y∈([(b9,.cells #[.slice q1 m1 d1] 37 (0,0))]:List (Nat×Obj)),w5.heap[y.1]? = some y.2):=⟨fun y hy=>by
       simp only[List.mem_cons,List.not_mem_nil,or_false]at hy;subst hy;exact hx5⟩
      have hL2:¬n2<=i:=by omega
      obtain⟨wc,hwc⟩:∃wc,w5=wc:=⟨_,rfl⟩
      clear b3 hb4 hx4 hb34 hx9 hs4 hsz hr5 hg5 hmv ht5 hul hbj hsr hcj hmj hgj hx5 hut huz huk o1 huo
      go_wp2_with (at_builtin;refine Lib.wpList_append_run _ rfl _ _ _ _ rfl _ _ rfl rfl _ _ happ ?_;refine Gn.out ?_)
      refine⟨?_⟩;clear happ;subst hwc;go_wp2;refine Aj (by kernel_rfl) (by kernel_rfl)
       [some (.slice (some ⟨gj,0,none⟩) n2 cj),some (.int .i64 (i:Nat)),some (.pointer (some ⟨b,0,none⟩)),some (.slice (some ⟨gj,0,none⟩) n2 cj),some (.int .i64 (i:Nat)),some (.pointer (some ⟨gj,i,none⟩)),some (.agg #[.slice uo.1 uo.2.1 uo.2.2]),some (.agg #[.slice q1 m1 d1]),none,some (.pointer (some ⟨gj,i,none⟩)),none]
       [false,false,false,false,false,false,false,false,true,false,true] rfl
       (fun wA wB=>Am (w.heap.size) wA wB)
       (fun D sp w'=>RG (w.heap.size) w5 [(b9,.cells #[.slice q1 m1 d1] 37 (0,0))] w'/\Xx (D 10) (gj) uz i (Z) w')
       (fun i v w'=>match i with
        | 8=>Fit 33 Z v w'
        | _=>True)
       ?_ ⟨RG.start HBW.out HLS.out,⟨fun _=>HSZ.out,fun e=>by cases e⟩⟩ ?_ ?_
      .intro i v wA wB hf hb;split at hf
       .exact hf.keep hb
       .trivial
      .simp only[Az,Nat.reduceAdd];refine⟨?_,?_,?_,?_,?_,?_,?_,?_,?_,?_,?_,trivial⟩
       all_goals intro D sp w' hD hW hdp hg
       case refine_6|refine_10=>
        (with_reducible refine Ah (w1:=w') (v:=.pointer (some ⟨gj,i,none⟩)) ?_ ?_ ?_)
        .simp[Region.wanted,yielded,Act.put,go_sem]
        .simp[execOp,Act.eval,Act.put,go_sem,hL2]
        .exact⟨rfl,rfl⟩
       case refine_7=>
        have c0:=(hg.2.z (hW 10 (mq (by kernel_rfl)))).cell HUK.out
        with_reducible refine Ad ?_ ?_
        all_goals simp[Region.wanted,yielded,execOp,Act.eval,Act.put,go_sem,c0]
       case refine_8=>
        have c0:w'.cell? ⟨b9,0,none⟩=some (.slice q1 m1 d1):=Ae.cell (hg.1.of List.mem_cons_self)
        with_reducible refine Ad ?_ ?_
        all_goals simp[Region.wanted,yielded,execOp,Act.eval,Act.put,go_sem,c0]
       case refine_9=>
        (with_reducible refine Ac (w1:=w') (f := 124) (args:=#[.pointer (some ⟨b,0,none⟩),.agg #[.slice uo.1 uo.2.1 uo.2.2],.agg #[.slice q1 m1 d1]]) ?_ ?_ ?_)
        .simp[Region.wanted,yielded,Act.put,go_sem]
        .simp[Act.eval,Act.put,go_sem]
        .refine(Ku (HGL.out.keep hg.1.keep).at_ (HFO.out.keep hg.1.keep) (HFA.out.keep hg.1.keep) (by decide) (by omega)).mono ?_;rintro en w9 ⟨u,rfl,hu,hb⟩;rw[HZ.out]at hu
         exact⟨u,rfl,Am.of hb hg.1.base,hu,hg.1.later hb,by simpa [upd]using hg.2.later hb⟩
       case refine_11=>
        have hx:∃p n c,sp 8=.agg #[.slice p n c]/\Ag w' p n c (Z)/\Z<An (33):=(hdp 8 (mq (by kernel_rfl))).2
        (with_reducible refine Av hx fun p hx1=>Av hx1 fun n hx2=>Av hx2 fun c hx3=>?_)
        have h1:=hx3.1;rw[hD]at hg
        have hs:=hg.2.1 rfl;have h6:=hs.cell HUK.out;have h7:=hs.free i
        (with_reducible refine Ap (w1:=w'.setCell ⟨gj,i,none⟩ (.slice p n c)) ?_ ?_ ?_)
        .simp[Region.wanted,yielded,Act.put,go_sem]
        .simp[execOp,Act.eval,Act.put,go_sem,h1,h6,h7]
        .refine⟨Am.store_row hs HBJ.out _ _,trivial,hg.1.store_row hs HBJ.out HNE.out _ _,?_⟩;have h8:=hg.2.put hx3.2.1;simpa [upd]using h8
       all_goals ((with_reducible refine Ad ?_ ?_);all_goals first|(simp only[Region.wanted];done)|simp[Region.wanted,yielded,execOp,Act.eval,Act.put,go_sem])
      .intro sp w9 hsp hg;obtain⟨hg1,hg2⟩:=hg;obtain⟨pz,nz,cz,hs8,hn8⟩:=hg2.o rfl;have hl8:Fit 33 Z (sp 8) w9:=hsp 8 rfl;rw[<-HUZ.out,List.set_append_left _ _ (by rw[HUL.out];exact HIN.out)]at hs8
       have HS9:Aa (Cy w9 w.heap.size (.slice (some ⟨gj,0,none⟩) n2 cj) (ut.set i (pz,nz,cz))):=⟨by
        have:=Cy.of_full (cap:=cj) HBJ.out hs8 (by rw[List.length_set];exact HCJ.out.1) HCJ.out.2
        rwa [List.length_set,HUL.out]at this⟩
       have HT9:Aa (Cn w9 33 (ut.set i (pz,nz,cz)) (Bd P acc (L.take (i+1)))):=⟨by
        rw[HNS.out];exact(HTc.out.keep hg1.keep).set hn8 hl8.lim⟩
       have HB9:Aa (Below w.heap.size w w9):=⟨HBc.out.trans hg1.keep.bel⟩
       clear hsp hg1 hg2 hs8 hn8 hl8;simp only[Al,Nat.reduceAdd];generalize sp 8=y8,sp 10=y10 at *
       go_simp
       go_wp2;go_roundw
       case rel=>exact⟨i+1,_,by omega,by go_num,HB9,HS9,HT9⟩
       case measure=>simp[intOf];omega
     .have hli:i<us.length:=by omega
      obtain⟨CC,hCC⟩:∃C,acc[i]? = some C:=⟨acc[i]'(by omega),List.getElem?_eq_getElem _⟩
      obtain⟨Z,hZ⟩:∃Z,CC*a%P=Z:=⟨_,rfl⟩
      have HZ:=Ab hZ;have HNS:Aa (Bd P acc (L.take (i+1))=(Bd P acc (L.take i)).set i Z):=⟨by rw[Sh P L acc i a CC hCC hai,hZ]⟩
      have hNi:(Bd P acc (L.take i))[i]? = some CC:=by rw[Gg P _ _ i (by rw[List.length_take];omega)];exact hCC
      obtain⟨uo,huo,ho2,ho3⟩:=HTa.out.at_ i CC hNi
      obtain⟨gj,cj,rest,e0,hbj,hsr,hcj,hmj⟩:=HSa.out.full (by omega);simp only[Value.slice.injEq]at e0;obtain⟨rfl,e5,e3⟩:=e0;clear e5;have e4:cj=cv:=e3.symm;subst e4;have hgj:gj≠b9:=by have:=HOW.out gj rfl;omega
      obtain⟨n2,hn2⟩:∃n2,n2=n1:=⟨_,rfl⟩
      subst hn2;have HUL:Aa (us.length=n2):=⟨hn1⟩
      obtain⟨ut,hut⟩:∃l,us=l:=⟨_,rfl⟩
      subst hut;obtain⟨uz,huz⟩:∃l,us++rest=l:=⟨_,rfl⟩
      rw[huz]at hsr
      have HUZ:=Ab huz;have HIN:Aa (i<n2):=⟨by omega⟩
      have HCJ:Aa (us.length+rest.length=cj/\cj<=9223372036854775807):=⟨⟨hcj,hmj⟩⟩
      have HSZ:Aa (Cr wa gj uz):=⟨hsr⟩
      have HTc:=Ab HTa.out;have HBJ:=Ab hbj;have HUK:Aa (uz[i]? = some uo):=⟨by rw[<-huz,List.getElem?_append_left (by omega)];exact huo⟩
      have HFO:Aa (Fit 33 CC (.agg #[.slice uo.1 uo.2.1 uo.2.2]) wa):=⟨Fit.of ho2 ho3⟩
      have HFA:=Ab HFA0.out;have HGL:Aa (Ps w.heap.size wa b P Q GG HH):=⟨Ps.of HG.out HBa.out (Aw _)⟩
      have HBW:Aa (w.heap.size<=wa.heap.size):=⟨HBa.out.size⟩
      have HBc:=Ab HBa.out;have HNE:Aa (∀y∈([(b9,.cells #[.slice q1 m1 d1] 37 (0,0))]:List (Nat×Obj)),y.1≠gj):=⟨fun y hy=>by
       simp only[List.mem_cons,List.not_mem_nil,or_false]at hy;subst hy;exact fun e=>hgj e.symm⟩
      have HLS:Aa (∀y∈([(b9,.cells #[.slice q1 m1 d1] 37 (0,0))]:List (Nat×Obj)),wa.heap[y.1]? = some y.2):=⟨fun y hy=>by
       simp only[List.mem_cons,List.not_mem_nil,or_false]at hy;subst hy;exact HXA.out⟩
      have hL2:¬n2<=i:=by omega
      have hlq:((i:Int)==(n2:Int))=false:=by rw[beq_eq_false_iff_ne];omega
      have hlq2:¬(i:Int)=(n2:Int):=by omega
      clear hn1 hc2 hai ha1 ha2 hba hxa hb2 hlen hia hZ hli HB HS HT HSa HOW hCC hNi huo ho2 hbj hsr hcj hmj hgj huz HTa;go_wp2;clear hwa hb9 hcy;refine Aj (by kernel_rfl) (by kernel_rfl)
       [some (.slice (some ⟨gj,0,none⟩) n2 cj),some (.int .i64 (i:Nat)),some (.pointer (some ⟨b,0,none⟩)),some (.slice (some ⟨gj,0,none⟩) n2 cj),some (.int .i64 (i:Nat)),some (.pointer (some ⟨gj,i,none⟩)),some (.agg #[.slice uo.1 uo.2.1 uo.2.2]),some (.agg #[.slice q1 m1 d1]),none,some (.pointer (some ⟨gj,i,none⟩)),none]
       [false,false,false,false,false,false,false,false,true,false,true] rfl
       (fun wA wB=>Am (w.heap.size) wA wB)
       (fun D sp w'=>RG (w.heap.size) wa [(b9,.cells #[.slice q1 m1 d1] 37 (0,0))] w'/\Xx (D 10) (gj) uz i (Z) w')
       (fun i v w'=>match i with
        | 8=>Fit 33 Z v w'
        | _=>True)
       ?_ ⟨RG.start HBW.out HLS.out,⟨fun _=>HSZ.out,fun e=>by cases e⟩⟩ ?_ ?_
      .intro i v wA wB hf hb;split at hf
       .exact hf.keep hb
       .trivial
      .simp only[Az,Nat.reduceAdd];refine⟨?_,?_,?_,?_,?_,?_,?_,?_,?_,?_,?_,trivial⟩
       all_goals intro D sp w' hD hW hdp hg
       case refine_6|refine_10=>
        (with_reducible refine Ah (w1:=w') (v:=.pointer (some ⟨gj,i,none⟩)) ?_ ?_ ?_)
        .simp[Region.wanted,yielded,Act.put,go_sem]
        .simp[execOp,Act.eval,Act.put,go_sem,hL2]
        .exact⟨rfl,rfl⟩
       case refine_7=>
        have c0:=(hg.2.z (hW 10 (mq (by kernel_rfl)))).cell HUK.out
        with_reducible refine Ad ?_ ?_
        all_goals simp[Region.wanted,yielded,execOp,Act.eval,Act.put,go_sem,c0]
       case refine_8=>
        have c0:w'.cell? ⟨b9,0,none⟩=some (.slice q1 m1 d1):=Ae.cell (hg.1.of List.mem_cons_self)
        with_reducible refine Ad ?_ ?_
        all_goals simp[Region.wanted,yielded,execOp,Act.eval,Act.put,go_sem,c0]
       case refine_9=>
        (with_reducible refine Ac (w1:=w') (f := 124) (args:=#[.pointer (some ⟨b,0,none⟩),.agg #[.slice uo.1 uo.2.1 uo.2.2],.agg #[.slice q1 m1 d1]]) ?_ ?_ ?_)
        .simp[Region.wanted,yielded,Act.put,go_sem]
        .simp[Act.eval,Act.put,go_sem]
        .refine(Ku (HGL.out.keep hg.1.keep).at_ (HFO.out.keep hg.1.keep) (HFA.out.keep hg.1.keep) (by decide) (by omega)).mono ?_;rintro en w9 ⟨u,rfl,hu,hb⟩;rw[HZ.out]at hu
         exact⟨u,rfl,Am.of hb hg.1.base,hu,hg.1.later hb,by simpa [upd]using hg.2.later hb⟩
       case refine_11=>
        have hx:∃p n c,sp 8=.agg #[.slice p n c]/\Ag w' p n c (Z)/\Z<An (33):=(hdp 8 (mq (by kernel_rfl))).2
        (with_reducible refine Av hx fun p hx1=>Av hx1 fun n hx2=>Av hx2 fun c hx3=>?_)
        have h1:=hx3.1;rw[hD]at hg
        have hs:=hg.2.1 rfl;have h6:=hs.cell HUK.out;have h7:=hs.free i
        (with_reducible refine Ap (w1:=w'.setCell ⟨gj,i,none⟩ (.slice p n c)) ?_ ?_ ?_)
        .simp[Region.wanted,yielded,Act.put,go_sem]
        .simp[execOp,Act.eval,Act.put,go_sem,h1,h6,h7]
        .refine⟨Am.store_row hs HBJ.out _ _,trivial,hg.1.store_row hs HBJ.out HNE.out _ _,?_⟩;have h8:=hg.2.put hx3.2.1;simpa [upd]using h8
       all_goals ((with_reducible refine Ad ?_ ?_);all_goals first|(simp only[Region.wanted];done)|simp[Region.wanted,yielded,execOp,Act.eval,Act.put,go_sem])
      .intro sp w9 hsp hg;obtain⟨hg1,hg2⟩:=hg;obtain⟨pz,nz,cz,hs8,hn8⟩:=hg2.o rfl;have hl8:Fit 33 Z (sp 8) w9:=hsp 8 rfl;rw[<-HUZ.out,List.set_append_left _ _ (by rw[HUL.out];exact HIN.out)]at hs8
       have HS9:Aa (Cy w9 w.heap.size (.slice (some ⟨gj,0,none⟩) n2 cj) (us.set i (pz,nz,cz))):=⟨by
        have:=Cy.of_full (cap:=cj) HBJ.out hs8 (by rw[List.length_set];exact HCJ.out.1) HCJ.out.2
        rwa [List.length_set,HUL.out]at this⟩
       have HT9:Aa (Cn w9 33 (us.set i (pz,nz,cz)) (Bd P acc (L.take (i+1)))):=⟨by
        rw[HNS.out];exact(HTc.out.keep hg1.keep).set hn8 hl8.lim⟩
       have HB9:Aa (Below w.heap.size w w9):=⟨HBc.out.trans hg1.keep.bel⟩
       clear hsp hg1 hg2 hs8 hn8 hl8;simp only[Al,Nat.reduceAdd];generalize sp 8=y8,sp 10=y10 at *
       go_simp
       go_wp2;go_roundw
       case rel=>exact⟨i+1,_,by omega,by go_num,HB9,HS9,HT9⟩
       case measure=>simp[intOf];omega
    .obtain rfl:i=m:=by omega
     have him':¬(i:Int)<i:=by omega
     have htk:L.take i=L:=List.take_of_length_le (by rw[<-HLm.out];exact Aw _);have HT9:Aa (Cn wr 33 us (El P (Ls.take (k+1)) [])):=⟨by rw[HACC.out];rw[htk]at HT;exact HT.out⟩
     clear htk;go_wp2;go_roundw
     case rel=>exact⟨k+1,_,by omega,by go_num,HB,HS,HT9⟩
     case measure=>simp[intOf];omega
  .obtain rfl:k=n:=by omega
   have hkn':¬(k:Int)<k:=by omega
   have htk:Ls.take k=Ls:=List.take_of_length_le (by rw[<-HLn.out];exact Aw _);rw[htk]at HT
   obtain⟨q,d,rfl,hp⟩:=HS.out.plist HT.out;have HP:=Ab hp;clear htk hp HS HT;go_wp2;go_ret;exact⟨q,_,d,rfl,rfl,HP.out,HB.out⟩
end Go.Proofs.YtokhckjemidbpaaGreatDoor
