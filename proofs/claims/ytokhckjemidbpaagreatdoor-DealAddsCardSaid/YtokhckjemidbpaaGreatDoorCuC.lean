/- The insertion sort of slices.SortFunc, over numbers. -/
import Derived.Test.YtokhckjemidbpaaGreatDoorGqB
import Derived.Test.YtokhckjemidbpaaGreatDoorCpF
import Derived.RangeFuncNested
import Derived.RangeFuncBound
import Derived.RangeFuncCalls
import Derived.RangeFuncLeaves
import Derived.OwnWalkIn
import Derived.TacticsInMore
import Derived.LoopNIn
import Derived.LoopIn
import Derived.BigRegion
set_option maxRecDepth 1000000
set_option maxHeartbeats 16000000
set_option linter.all false
namespace Go.Proofs.YtokhckjemidbpaaGreatDoor
open Go Go.RowKit Go.Proofs.YtokhckjemidbpaaGreatDoor.Flow
def sv (x:Option Addr×Nat×Nat):Value:=.slice x.1 x.2.1 x.2.2
def Cr (w:World)(g:Nat)(us:List (Option Addr×Nat×Nat)):Prop:=w.heap[g]? = some (.cells (us.map sv).toArray 37 (0,0))
theorem Cr.lt {w:World}{g:Nat}{us:List (Option Addr×Nat×Nat)}(h:Cr w g us):g<w.heap.size:=(Gs h).1
theorem Cr.below {w w':World}{g B:Nat}{us:List (Option Addr×Nat×Nat)}(h:Cr w g us)(hb:Below B w w')(hg:g<B):Cr w' g us:=by
 unfold Cr at *;rw[hb.block g hg];exact h
theorem Cr.cell {w:World}{g j:Nat}{us:List (Option Addr×Nat×Nat)}{x:Option Addr×Nat×Nat}(h:Cr w g us)(hj:us[j]? = some x):w.cell? ⟨g,j,none⟩=some (.slice x.1 x.2.1 x.2.2):=by
 unfold Cr at h;simp[World.cell?,h,hj,sv]
theorem Cr.free {w:World}{g:Nat}{us:List (Option Addr×Nat×Nat)}(h:Cr w g us)(j:Nat):w.frozen? ⟨g,j,none⟩=false:=by
 unfold Cr at h;simp[World.frozen?,h]
theorem Cr.set {w:World}{g:Nat}{us:List (Option Addr×Nat×Nat)}(h:Cr w g us)(j:Nat)(p:Option Addr)(n c:Nat):Cr (w.setCell ⟨g,j,none⟩ (.slice p n c)) g (us.set j (p,n,c)):=by
 unfold Cr at *;simp[World.setCell,Array.getElem?_modify,h,List.map_set,sv]
theorem Cr.apart {w:World}{p:Option Addr}{n c N g:Nat}{us:List (Option Addr×Nat×Nat)}(hb:Cr w g us)(h:Ag w p n c N)(h0:0<n):∀q,p=some q->q.block≠g:=by
 obtain⟨ws,r1,r2,r3,r4⟩:=h.ex;intro a ha hab;obtain⟨b',off,k1,k2,k3⟩:=r1.pos h0;rw[k1]at ha;cases ha
 have hbb:b'=g:=hab;subst hbb;have h1:=k3 0 (ws.getD 0 0) (by rw[Dn];simp[show 0<ws.length by rw[<-r1.len];exact h0]);rw[Nat.add_zero]at h1
 rcases Nat.lt_or_ge off us.length with h2|h2
 .rw[hb.cell (List.getElem?_eq_getElem h2)]at h1
  cases h1
 .unfold Cr at hb;simp[World.cell?,hb,List.getElem?_eq_none h2]at h1
theorem Cr.nat {w:World}{p:Option Addr}{n c N g:Nat}{us:List (Option Addr×Nat×Nat)}(hb:Cr w g us)(h:Ag w p n c N)(j:Nat)(v:Value):Ag (w.setCell ⟨g,j,none⟩ v) p n c N:=by
 rcases Nat.eq_zero_or_pos n with rfl|h0
 .exact h.empty (by simp)
 .exact h.setCell (a:=⟨g,j,none⟩) (fun q hq=>hb.apart h h0 q hq) v
theorem Am.store_row {B:Nat}{w:World}{g:Nat}{us:List (Option Addr×Nat×Nat)}(hb:Cr w g us)(hB:B<=g)(j:Nat)(v:Value):Am B w (w.setCell ⟨g,j,none⟩ v) :=
 ⟨(Ba _ _).setCell hB _,fun _ _ _ _ k=>hb.nat k j v⟩
theorem RG.store_row {B:Nat}{wx:World}{l:List (Nat×Obj)}{w:World}{g:Nat}{us:List (Option Addr×Nat×Nat)}(h:RG B wx l w)(hb:Cr w g us)(hB:B<=g)(hn:∀x∈l,x.1≠g)(j:Nat)(v:Value):RG B wx l (w.setCell ⟨g,j,none⟩ v) :=
 ⟨h.keep.trans (Am.store_row hb hB j v),by simpa using h.base,fun x hx=>by
  have:=hn x hx;simp[World.setCell,Array.getElem?_modify,this.symm];exact h.blk x hx⟩
structure Xx (d:Bool) (g:Nat) (us:List (Option Addr×Nat×Nat)) (k N:Nat) (w:World):Prop where
 z:d=false->Cr w g us
 o:d=true->∃p n c,Cr w g (us.set k (p,n,c))/\Ag w p n c N
theorem Xx.later {d:Bool}{g k N:Nat}{us:List (Option Addr×Nat×Nat)}{w w':World}(h:Xx d g us k N w)(hb:Below w.heap.size w w'):Xx d g us k N w' :=
 ⟨fun e=>(h.z e).below hb (h.z e).lt,fun e=>let ⟨p,n,c,h1,h2⟩:=h.o e;⟨p,n,c,h1.below hb h1.lt,h2.below hb⟩⟩
theorem Xx.put {g k N:Nat}{us:List (Option Addr×Nat×Nat)}{w:World}(h:Xx false g us k N w){p:Option Addr}{n c:Nat}(hx:Ag w p n c N):Xx true g us k N (w.setCell ⟨g,k,none⟩ (.slice p n c)) :=
 ⟨(fun e=>by cases e),fun _=>⟨p,n,c,(h.z rfl).set k p n c,(h.z rfl).nat hx k _⟩⟩
theorem Nu (n:Nat)(h:n<=1000000)(w:World):(Instr.makeSlice 62 (.int .i64 (n:Nat)) (.int .i64 (n:Nat))).run Tryz.prog w =
  .ok (.slice (some ⟨w.heap.size,0,none⟩) n n) (w.alloc (.cells (madeCells #[.slice none 0 0] n) 37)):=by
 obtain⟨i,hi,hz,hs,hb⟩:=info_parts Tryz.info_Nat;have:=run_make (P:=Tryz.prog) w 62 37 i (.agg #[.slice none 0 0]) Tryz.underlying62 hi hz .i64 .i64 n n (by omega) (by omega) (by rw[hb];omega) (by omega);simp only[Int.toNat_natCast,hs,Nat.mul_one]at this;rw[this];rfl
theorem Cr.made (w:World)(n:Nat):Cr (w.alloc (.cells (madeCells #[.slice none 0 0] n) 37)) w.heap.size (List.replicate n (none,0,0)):=by
 unfold Cr;have h:=toList_madeCells_one (Value.slice none 0 0) n;have h2:madeCells #[Value.slice none 0 0] n=((List.replicate n ((none,0,0):Option Addr×Nat×Nat)).map sv).toArray:=by
  rw[<-Array.toArray_toList (xs:=madeCells #[Value.slice none 0 0] n),h,List.map_replicate];rfl
 rw[<-h2];exact heap_alloc_new w _
def Ra (w:World)(e:Nat)(us:List (Option Addr×Nat×Nat))(Ns:List Nat)(k:Nat):Prop:=∀j N,j<k->Ns[j]? = some N->∃x,us[j]? = some x/\Ag w x.1 x.2.1 x.2.2 N/\N<An e
theorem Ra.keep {w w':World}{B e k:Nat}{us:List (Option Addr×Nat×Nat)}{Ns:List Nat}(h:Ra w e us Ns k)(hk:Am B w w'):Ra w' e us Ns k:=fun j N hj hN=>
 let ⟨x,h1,h2,h3⟩:=h j N hj hN
 ⟨x,h1,hk.nat _ _ _ _ h2,h3⟩
theorem Ra.step {w:World}{e k N:Nat}{us:List (Option Addr×Nat×Nat)}{Ns:List Nat}(h:Ra w e us Ns k)(hk:k<us.length)(hN:Ns[k]? = some N){p:Option Addr}{n c:Nat}(hn:Ag w p n c N)(hl:N<An e):Ra w e (us.set k (p,n,c)) Ns (k+1):=fun j M hj hM=>by
 rcases Nat.lt_or_ge j k with h1|h1
 .obtain⟨x,h2,h3⟩:=h j M h1 hM;exact⟨x,by rw[List.getElem?_set_ne (by omega)];exact h2,h3⟩
 .obtain rfl:j=k:=by omega
  rw[hN]at hM;cases hM
  exact⟨(p,n,c),List.getElem?_set_self hk,hn,hl⟩
theorem Ra.plist {w:World}{g e n:Nat}{us:List (Option Addr×Nat×Nat)}{Ns:List Nat}(h:Ra w e us Ns n)(hr:Cr w g us)(hn:Ns.length=n)(hl:n<=1000000):Aq w e (some ⟨g,0,none⟩) n n Ns :=
 ⟨hn.symm,Aw _,by omega,(fun e=>by cases e),fun _=>⟨g,0,rfl,hr.lt,fun i N hN=>by
  have hi:i<n:=by have:=(List.getElem?_eq_some_iff.1 hN).1;omega
  obtain⟨x,h1,h2,h3⟩:=h i N hi hN;exact⟨x.1,x.2.1,x.2.2,by rw[Nat.zero_add];exact hr.cell h1,h2,h3⟩⟩⟩
theorem kJ {w:World}{e n c:Nat}{p:Option Addr}{Es:List Nat}(h:Aq w e p n c Es)(he:e<=200)(hn:n<=1000000) :
  Calls Tryz.prog 197 #[.slice p n c] w fun en w'=>en=.returned (.int .i64 (Gr Es:Nat))/\Below w.heap.size w w':=by
 have HP:=Ab h;have HLN:=Ab h.len;clear h;go_enter Tryz.func197,Tryz.ntmps197;go_wp2
 go_loopw [3,5,8] (fun mv _ iv wr=>∃k:Nat,k<=n/\iv=.int .i64 k/\mv=.int .i64 (Gr (Es.take k):Nat)/\Aa (Below w.heap.size w wr)) (fun _ _ iv _=>n-(intOf iv).toNat)
 case atStart=>exact⟨0,by omega,rfl,rfl,⟨Ba _ _⟩⟩
 case round=>
  obtain⟨k,hk,rfl,hm,HB⟩:=hrel;obtain⟨M,hM⟩:∃M,Gr (Es.take k)=M:=⟨_,rfl⟩
  rw[hM]at hm
  subst hm
  by_cases hkn:k<n
  .obtain⟨X,hXk⟩:∃X,Es[k]? = some X:=⟨Es[k]'(by rw[<-HLN.out];exact hkn),List.getElem?_eq_getElem _⟩
   obtain⟨b,off,rfl,hb,hc⟩:=(HP.out.below HB.out).at_ (by omega)
   obtain⟨q,m,d,hx,hnx,hlim⟩:=hc k X hXk;have hm9:m<1000000:=by have:=hnx.len_le hlim;omega
   have hbw:Below wr.heap.size wr (wr.alloc (.cells #[.slice q m d] 37)):=Bt;have hbx:=Ae.made wr (.slice q m d);obtain⟨wb,hwb⟩:∃wb,wr.alloc (.cells #[.slice q m d] 37)=wb:=⟨_,rfl⟩
   rw[hwb]at hbw hbx
   have HNX:=Ab (hnx.below hbw);have HBW:=Ab (Af HB.out hbw);have cb:=hbx.cell;have HT:Aa (Gr (Es.take (k+1))=max M (Bh X)):=⟨by rw[Cz hXk,Sj,hM]⟩
   have HL:Aa (Bh X<=10000):=⟨by have:=In hlim;omega⟩
   have hkn':(k:Int)<n:=by omega
   clear hc hnx hlim hXk hM hbw hbx hb
   go_wp2_with fail
   refine(Fx wb q m d X HNX.out hm9).mono ?_;rintro en w1 ⟨rfl,hb1⟩;have HB1:=Ab (Af HBW.out hb1);obtain⟨L,hL⟩:∃L,Bh X=L:=⟨_,rfl⟩
   rw[hL]at HT HL ⊢
   clear hb1 hL cb
   by_cases hml:M<L
   .have hml':(M:Int)<L:=by omega
    have hml2:¬(L:Int)<=M:=by omega
    have hml3:¬(L:Int)<M:=by omega
    have hmx:max (M:Int) (L:Int)=(L:Int):=by omega
    have HTT:Aa (Gr (Es.take (k+1))=L):=⟨by rw[HT.out];omega⟩
    go_wp2;go_roundw
    case rel=>exact⟨k+1,by omega,by go_num,by rw[HTT.out],HB1⟩
    case measure=>simp[intOf];omega
   .have hml':¬(M:Int)<L:=by omega
    have hml2:(L:Int)<=M:=by omega
    have hmx:max (M:Int) (L:Int)=(M:Int):=by omega
    have HTT:Aa (Gr (Es.take (k+1))=M):=⟨by rw[HT.out];omega⟩
    go_wp2;go_roundw
    case rel=>exact⟨k+1,by omega,by go_num,by rw[HTT.out],HB1⟩
    case measure=>simp[intOf];omega
  .obtain rfl:k=n:=by omega
   have hkn':¬(k:Int)<k:=by omega
   have HMM:Aa (Gr Es=M):=⟨by rw[<-hM,List.take_of_length_le (by rw[<-HLN.out];exact Aw _)]⟩
   clear hM;go_wp2;go_ret;exact⟨by rw[HMM.out];rfl,HB.out⟩
theorem lK {w:World}{e b P Q G H n c:Nat}{p:Option Addr}{Bs:List Nat}(hg:Au w b P Q G H)(h:Aq w e p n c Bs)(he:e<=200)(hn:n<=1000) :
  Calls Tryz.prog 196 #[.pointer (some ⟨b,0,none⟩),.slice p n c] w fun en w'=>∃g,en=.returned (.slice (some ⟨g,0,none⟩) n n)/\Aq w' 33 (some ⟨g,0,none⟩) n n (Bs.map fun x=>x%P)/\Below w.heap.size w w':=by
 obtain⟨rp,rq,pg,ng,cg,ph,nh,ch,g1,g2,_⟩:=hg.ex;have HL:Aa (b<w.heap.size/\rp<w.heap.size):=⟨hg.lt,g2.at_.lt⟩
 have HLN:=Ab h.len;have HP:=Ab h;have HGA:=Ab g1;have HR:=Ab g2;have hmk:=fun w=>Nu n (by omega) w
 obtain⟨w0,hw0⟩:∃w0,w.alloc (.cells (madeCells #[.slice none 0 0] n) 37)=w0:=⟨_,rfl⟩
 have hb0:Below w.heap.size w w0:=by rw[<-hw0];exact(Ba _ _).alloc (Aw _) _
 have HS0:Aa (Cr w0 w.heap.size (List.replicate n (none,0,0))):=⟨by rw[<-hw0];exact Cr.made w n⟩
 have HB0:=Ab hb0;clear hg h g1 g2 hb0;go_enter Tryz.func196,Tryz.ntmps196;go_wp2
 go_loopw [6,7,13] (fun _ _ iv wr=>∃(k:Nat) (us:List (Option Addr×Nat×Nat)),k<=n/\iv=.int .i64 k/\us.length=n/\Aa (Cr wr w.heap.size us)/\Aa (Ra wr 33 us (Bs.map fun x=>x%P) k)/\Aa (Below w.heap.size w wr)) (fun _ _ iv _=>n-(intOf iv).toNat)
 case atStart=>exact⟨0,List.replicate n (none,0,0),by omega,rfl,by simp,HS0,⟨fun j N hj=>by omega⟩,HB0⟩
 case round=>
  obtain⟨k,us,hk,rfl,hus,HSr,HVr,HBr⟩:=hrel
  by_cases hkn:k<n
  .obtain⟨X,hXk⟩:∃X,Bs[k]? = some X:=⟨Bs[k]'(by rw[<-HLN.out];exact hkn),List.getElem?_eq_getElem _⟩
   obtain⟨b2,off,rfl,hb,hc⟩:=(HP.out.below HBr.out).at_ (by omega)
   obtain⟨q,m,d,hx,hnx,hlim⟩:=hc k X hXk;have HUK:Aa (us[k]? = some (us[k]'(by omega))):=⟨List.getElem?_eq_getElem _⟩
   have hbw:Below wr.heap.size wr (wr.alloc (.cells #[.slice q m d] 37)):=Bt;have hbx:=Ae.made wr (.slice q m d);obtain⟨wb,hwb⟩:∃wb,wr.alloc (.cells #[.slice q m d] 37)=wb:=⟨_,rfl⟩
   rw[hwb]at hbw hbx
   have HBX:=Ab hbx;have HXb:=Ab ((Fit.of hnx hlim).below hbw);have HBb:=Ab (Af HBr.out hbw);have HGr:=Ab ((HBb.out.block b HL.out.1).trans HGA.out);have HRb:=Ab (HR.out.below HBb.out);have HSb:=Ab (HSr.out.below hbw HSr.out.lt);have HVb:=Ab (HVr.out.keep (B:=w.heap.size) (Am.of hbw HBr.out.size));have HNE:Aa (∀x∈([(wr.heap.size,.cells #[.slice q m d] 37 (0,0))]:List (Nat×Obj)),x.1≠w.heap.size):=⟨List.forall_mem_cons.2 ⟨by simp only;have:=HSr.out.lt;omega,fun x hx=>by cases hx⟩⟩
   have HNk:Aa ((Bs.map fun x=>x%P)[k]? = some (X%P)):=⟨by rw[List.getElem?_map,hXk];rfl⟩
   have HPl:Aa (X%P<An 33):=⟨Nat.lt_trans (Nat.mod_lt _ (by have:=HR.out.two;omega)) HR.out.lim⟩
   have hkn':(k:Int)<n:=by omega
   clear hc hnx hlim hXk hbw hbx hb hmk;go_wp2;refine Aj (by kernel_rfl) (by kernel_rfl)
    [some (.slice (some ⟨w.heap.size,0,none⟩) n n),some (.int .i64 (k:Nat)),some (.pointer (some ⟨b,0,none⟩)),some (.pointer (some ⟨b,0,none⟩)),some (.pointer (some ⟨b,0,none⟩)),some (.pointer (some ⟨rp,0,none⟩)),some (.agg #[.slice q m d]),none,some (.pointer (some ⟨w.heap.size,k,none⟩)),none]
    [false,false,false,false,false,false,false,true,false,true] rfl
    (fun w1 w2=>Am (w.heap.size) w1 w2)
    (fun D sp w'=>RG (w.heap.size) wb [(wr.heap.size,.cells #[.slice q m d] 37 (0,0))] w'/\Xx (D 9) (w.heap.size) us k (X%P) w')
    (fun i v w'=>match i with
     | 7=>Fit 33 (X%P) v w'
     | _=>True)
    ?_ ⟨RG.start HBb.out.size (List.forall_mem_cons.2 ⟨HBX.out,fun x hx=>by cases hx⟩),⟨fun _=>HSb.out,fun e=>by cases e⟩⟩ ?_ ?_
   .intro i v w1 w2 hf hb;split at hf
    .exact hf.keep hb
    .trivial
   .simp only[Az,Nat.reduceAdd];refine⟨?_,?_,?_,?_,?_,?_,?_,?_,?_,?_,trivial⟩
    all_goals intro D sp w' hD hW hdp hg
    case refine_6=>
     have c0:=(Db ((hg.1.keep.bel.block b HL.out.1).trans HGr.out)).1
     with_reducible refine Ad ?_ ?_
     all_goals simp[Region.wanted,yielded,execOp,Act.eval,Act.put,go_sem,c0]
    case refine_7=>
     have c0:w'.cell? ⟨wr.heap.size,0,none⟩=some (.slice q m d):=Ae.cell (hg.1.of List.mem_cons_self)
     with_reducible refine Ad ?_ ?_
     all_goals simp[Region.wanted,yielded,execOp,Act.eval,Act.put,go_sem,c0]
    case refine_8=>
     (with_reducible refine Ac (w1:=w') (f := 31) (args:=#[.pointer (some ⟨rp,0,none⟩),.agg #[.slice q m d]]) ?_ ?_ ?_)
     .simp[Region.wanted,yielded,Act.put,go_sem]
     .simp[Act.eval,Act.put,go_sem]
     .refine(Cv (HRb.out.keep HL.out.2 hg.1.keep) (HXb.out.keep hg.1.keep) (by omega)).mono ?_;rintro en w9 ⟨u,rfl,hu,hb⟩;exact⟨u,rfl,Am.of hb hg.1.base,hu,hg.1.later hb,by simpa [upd]using hg.2.later hb⟩
    case refine_9=>
     have hnk:¬n<=k:=Nat.not_le.2 hkn
     with_reducible refine Ad ?_ ?_
     all_goals simp[Region.wanted,yielded,execOp,Act.eval,Act.put,go_sem,hnk]
    case refine_10=>
     have hx:∃p n c,sp 7=.agg #[.slice p n c]/\Ag w' p n c (X%P)/\X%P<An (33):=(hdp 7 (mq (by kernel_rfl))).2
     (with_reducible refine Av hx fun p hx1=>Av hx1 fun n hx2=>Av hx2 fun c hx3=>?_)
     have h1:=hx3.1;rw[hD]at hg
     have hs:=hg.2.1 rfl;have h6:=hs.cell HUK.out;have h7:=hs.free k
     (with_reducible refine Ap (w1:=w'.setCell ⟨w.heap.size,k,none⟩ (.slice p n c)) ?_ ?_ ?_)
     .simp[Region.wanted,yielded,Act.put,go_sem]
     .simp[execOp,Act.eval,Act.put,go_sem,h1,h6,h7]
     .refine⟨Am.store_row hs (Aw _) _ _,trivial,hg.1.store_row hs (Aw _) HNE.out _ _,?_⟩;have h8:=hg.2.put hx3.2.1;simpa [upd]using h8
    all_goals ((with_reducible refine Ad ?_ ?_);all_goals first|(simp only[Region.wanted];done)|simp[Region.wanted,yielded,execOp,Act.eval,Act.put,go_sem])
   .intro sp w8 hsp hg;obtain⟨hg1,hg2⟩:=hg;obtain⟨pz,nz,cz,hs8,hn8⟩:=hg2.o rfl;have HS8:=Ab hs8;have HV8:=Ab ((HVb.out.keep hg1.keep).step (by omega) HNk.out hn8 HPl.out);have HB8:=Ab (HBb.out.trans hg1.keep.bel);have hlen:(us.set k (pz,nz,cz)).length=n:=by rw[List.length_set];exact hus
    have HLEN:=Ab hlen;clear hsp hg1 hg2 hs8 hn8 hlen;simp only[Al,Nat.reduceAdd];generalize sp 7=y7,sp 9=y9 at *
    go_simp
    go_wp2;go_roundw
    case rel=>exact⟨k+1,us.set k (pz,nz,cz),by omega,by go_num,HLEN.out,HS8,HV8,HB8⟩
    case measure=>simp[intOf];omega
  .obtain rfl:k=n:=by omega
   have hkn':¬(k:Int)<k:=by omega
   have HPL:=Ab (HVr.out.plist HSr.out (by rw[List.length_map];exact HLN.out.symm) (by omega));clear hmk;go_wp2;go_ret;exact⟨w.heap.size,rfl,HPL.out,HBr.out⟩
open Go Go.RowKit
structure Mid (p:Nat->Prop) (W W':World):Prop where
 os:W'.os=W.os
 tape:W'.tape=W.tape
 output:W'.output=W.output
 size:W.heap.size<=W'.heap.size
 block:∀k,k<W.heap.size->p k->W'.heap[k]? = W.heap[k]?
theorem Mid.trans {p:Nat->Prop}{A B C:World}(h:Mid p A B)(k:Mid p B C):Mid p A C :=
 ⟨k.os.trans h.os,k.tape.trans h.tape,k.output.trans h.output,Er h.size k.size,fun i hi hp=>(k.block i (Da hi h.size) hp).trans (h.block i hi hp)⟩
theorem Mid.of {p:Nat->Prop}{W W':World}(h:Below W.heap.size W W'):Mid p W W':=⟨h.os,h.tape,h.output,h.size,fun k hk _=>h.block k hk⟩
theorem Mid.putObj {p:Nat->Prop}(W:World)(l:Nat)(o:Obj)(h:¬p l):Mid p W (W.putObj l o) :=
 let g:=grownBy_putObj' W l o
 ⟨g.os,g.tape,g.output,g.size,fun k hk hp=>g.block k hk (fun e=>by cases e;exact h hp)⟩
theorem Mid.below {p:Nat->Prop}{W W':World}(h:Mid p W W'){B:Nat}(hB:B<=W.heap.size)(hp:∀k,k<B->p k):Below B W W' :=
 ⟨h.os,h.tape,h.output,h.size,fun k hk=>h.block k (Da hk hB) (hp k hk)⟩
theorem Mid.cell {p:Nat->Prop}{W W':World}(h:Mid p W W'){a:Addr}{u:Value}(hp:p a.block)(hc:W.cell? a=some u):W'.cell? a=some u:=by
 have hlt:a.block<W.heap.size:=by
  unfold World.cell? at hc;rcases Nat.lt_or_ge a.block W.heap.size with h1|h1
  .exact h1
  .simp[Array.getElem?_eq_none h1]at hc
 rw[World.cell?_of_block (w:=W) (h.block _ hlt hp)];exact hc
theorem grown_of {W W':World}(h:Below W.heap.size W W'):W.grownBy W' none:=⟨h.os,h.tape,h.output,h.size,fun k hk _=>h.block k hk⟩
theorem OwnFrom.step {β:Type}{B:Nat}{I:β->World->Prop}(h:OwnFrom B I){s:β}{W W':World}(hs:I s W)(hb:Below W.heap.size W W'):I s W' :=
 h s W W' none hs (grown_of hb) (fun r e=>by cases e)
theorem Wt {β:Type}{B B':Nat}{I:β->World->Prop}(h:OwnFrom B I)(hB:B<=B'):OwnFrom B' I :=
 fun s W W' row hs hg hr=>h s W W' row hs hg (fun r e=>⟨Er hB (hr r e).1,(hr r e).2⟩)
variable {F:Fence} {n:Nat} {P:Program}
def eA (F:Fence)(n:Nat)(P:Program)(g:Nat)(lb:Array Value)(B l N:Nat)(Kp:World->World->Prop)(Gd:Nat->Array Value->World->Prop)(W:World):Prop :=
 ∀J:Nat->World->Prop,OwnFrom B J ->
  (∀k v W1,k<N->J k W1->Gd k v W1->YieldAt F (n-1) P l v W1 fun e W'=>e=.returned (.bool true)/\J (k+1) W'/\Kp W1 W')->J 0 W ->
  CallsIn F n P g (#[.func (.yield l) #[] #[]]++lb) W fun e W'=>(∃v,e=.returned v)/\J N W'
variable {F:Fence} {n:Nat} {P:Program}
theorem Fq {g:Operand}{ts:Array Tmp}{assign body:Code}{Q:Exit->Act->World->Prop}{a:Act}{w:World}(hro:F.round=none)(h1:1<=n){gf:Nat}{lb:Array Value}(hg:a.eval g=.func (.func gf) #[] lb)(hFg:F.fn gf)(eg:∀args w,(callFunc gf args).run P w=.ok (.enter gf args) w){N:Nat}{Kp:World->World->Prop}{Gd:Nat->Array Value->World->Prop}(hGd:∀k vs W,Gd k vs W->vs.size=ts.size)(hseq:∀W,W.heap.size=w.heap.size+2->Below w.heap.size w W->eA F (n-1) P gf lb (w.heap.size+2) (w.heap.size+1) N Kp Gd W)(hKt:∀ {A B C:World},Kp A B->Kp B C->Kp A C)(hKb:∀W o,Kp W (W.putObj (w.heap.size+1) o))(I:Nat->World->Prop)(hI:OwnFrom w.heap.size I)(h0:I 0 w)(Ax:Nat->Act->World->Prop)(hAx:∀k a',OwnFrom w.heap.size (fun(_:Unit) W=>Ax k a' W))(hassign:∀(l k:Nat) (v:Array Value) (W:World) (K:Act->World->Prop),k<N->I k W->Gd k v W->(∀a' W',KeepsFrom w.heap.size W W'->Kp W W'->Ax k a' W'->K a' W') ->
   assign.wpIn (F.inRound l) (n-1-1) P (Exit.then K (fun _ _ _=>False)) { tmps:=(ts.zip v).foldl (fun t (p,v)=>t.setIfInBounds p v) a.tmps,defers:=[] } W)(hbody:∀(l k:Nat) (a':Act) (W:World),k<N->Ax k a' W->body.wpIn (F.inRound l) (n-1-1) P (fun e _ W'=>e=.normal/\KeepsFrom w.heap.size W W'/\Kp W W'/\I (k+1) W') a' W)(hdone:∀(D:Nat) (W:World),w.heap.size<=D->I N W->W.heap[D]? = some (.deferred (some []))->Q .normal { a with defers:={ target:=.collected D,args:=#[] }::a.defers } W) :
  (Code.rangeFunc g ts assign body).wpIn F n P Q a w:=by
 refine wpIn_rangeFunc fun fn hfn=>?_
 rw[hro]
 -- the record, as it stands and as it is in a round
 let st (s:LoopState):Obj:=.loop { state:=s,pending:=none,fn,tmps:=a.tmps,params:=ts,assign,body,defers:=w.heap.size }
 let W1:World:=(w.alloc (.deferred (some []))).alloc (st .ready)
 have hs1:W1.heap.size=w.heap.size+2:=by simp[W1]
 have hr1:W1.heap[w.heap.size+1]? = some (st .ready):=by
  have:=World.alloc_heap_new (w.alloc (.deferred (some []))) (st .ready);rwa [World.size_alloc]at this
 have hd1:W1.heap[w.heap.size]? = some (.deferred (some [])):=(Below.heap_alloc _ _ _ (by simp)).trans (World.alloc_heap_new w _);have hb1:Below w.heap.size w W1:=((Ba _ w).alloc (Aw _) _).alloc (by simp) _;have hI1:I 0 W1:=hI.alloc _ (hI.alloc _ h0);refine⟨w.heap.size+1,[{ target:=.collected w.heap.size,args:=#[] }],W1,{ target:=.fn (.func gf) lb,args:=#[.func (.yield (w.heap.size+1)) #[] #[]] },W1,gf,
  #[.func (.yield (w.heap.size+1)) #[] #[]]++lb,W1,run_enterLoop_outer _ _ _ _ _,?_,?_,?_,fun _=>h1,?_⟩
 .simp only[resolve,hg];simp[go_sem]
 .intro f' hf';simp[Target.leads]at hf';subst hf';exact hFg
 .simp[invoke,go_sem,eg]
 -- what holds between two rounds
 let J:Nat->World->Prop:=fun k W=>I k W/\W.heap[w.heap.size+1]? = some (st .ready)/\W.heap[w.heap.size]? = some (.deferred (some []))
 have hJ:OwnFrom (w.heap.size+2) J:=fun k A B row hs hgr hr=>by
  have far:∀j,j<w.heap.size+2->some j≠row:=fun j hj e=>by have:=(hr j e.symm).1;omega
  refine⟨Wt hI (by omega) k A B row hs.1 hgr hr,?_,?_⟩
  .exact(hgr.block _ (Gs hs.2.1).1 (far _ (by omega))).trans hs.2.1
  .exact(hgr.block _ (Gs hs.2.2).1 (far _ (by omega))).trans hs.2.2
 refine(hseq W1 hs1 hb1 J hJ ?_ ⟨hI1,hr1,hd1⟩).mono ?_
 ·-- one round
  rintro k v W hkN ⟨hi,hl,hd⟩ hgd;have hy:=run_yield (P:=P) (args:=v) hl (hGd k v W hgd);refine⟨fn,_,assign,body,hy,roundIn_of_wpIn hfn ?_⟩;refine hassign _ k v W _ hkN hi hgd ?_;intro a' Wa hka hkpa hax;have hla:=hka.same _ _ (by omega) hl rfl;have hda:=hka.same _ _ (Aw _) hd rfl;have hlt:=(Gs hla).1;refine⟨_,run_beginRound hla rfl,?_⟩
  let Wb:World:=Wa.putObj (w.heap.size+1) (st .busy)
  have hlb:Wb.heap[w.heap.size+1]? = some (st .busy):=World.putObj_heap_same hlt;have hdb:Wb.heap[w.heap.size]? = some (.deferred (some [])):=(World.putObj_heap_other (by omega)).trans hda;refine wpIn_mono (hbody _ k a' Wb hkN ((hAx k a').putObj (s:=()) _ hax (by omega) hla rfl)) ?_;rintro e a3 W3 ⟨rfl,hk3,hp3,hi3⟩;have hl3:=hk3.same _ _ (by omega) hlb rfl;have hd3:=hk3.same _ _ (Aw _) hdb rfl;have hlt3:=(Gs hl3).1;refine⟨_,_,run_endRound (P:=P) none hl3,rfl,⟨hI.putObj _ hi3 (by omega) hl3 rfl,World.putObj_heap_same hlt3,(World.putObj_heap_other (by omega)).trans hd3⟩,?_⟩;exact hKt hkpa (hKt (hKb Wa _) (hKt hp3 (hKb W3 _)))
 ·-- behind the iterator
  rintro e W2 ⟨⟨v,rfl⟩,hi,hl,hd⟩;exact⟨none,_,run_endLoop (P:=P) hl (by simp),hdone _ _ (Aw _) (hI.putObj _ hi (by omega) hl rfl) ((World.putObj_heap_other (by omega)).trans hd)⟩
section
variable {W W':World} {row:Option Nat}
def Calm (W:World)(row:Option Nat):Prop:=∀r,row=some r->∃o:Obj,W.heap[r]? = some o/\o.isCells=false
theorem Df (hg:W.grownBy W' row)(hr:Calm W row){b:Nat}{cs:Array Value}{t:TypeId}{m:Nat×Nat}(h:W.heap[b]? = some (.cells cs t m)):W'.heap[b]? = some (.cells cs t m):=by
 rw[hg.block b (Gs h).1 (fun e=>by
  obtain⟨o,ho,hc⟩:=hr b e.symm;rw[h]at ho;cases ho;cases hc)]
 exact h
theorem Row.kept {k:IntKind}{p:Option Addr}{n c:Nat}{xs:List Nat}(h:Row W k p n c xs)(hg:W.grownBy W' row)(hr:Calm W row):Row W' k p n c xs:=by
 refine⟨h.len,h.cap,h.max,?_⟩;rcases h.at_ with h1|⟨b,off,h1,h2,h3⟩
 .exact .inl h1
 .exact .inr ⟨b,off,h1,Da h2 hg.size,fun i x hx=>cell_kept (h3 i x hx) hg hr⟩
theorem Ag.kept {p:Option Addr}{n c N:Nat}(h:Ag W p n c N)(hg:W.grownBy W' row)(hr:Calm W row):Ag W' p n c N:=by
 obtain⟨ws,r1,r2,r3,r4⟩:=h.ex;exact⟨ws,r1.kept hg hr,r2,r3,r4⟩
theorem Fit.kept {e N:Nat}{v:Value}(h:Fit e N v W)(hg:W.grownBy W' row)(hr:Calm W row):Fit e N v W' :=
 let ⟨p,n,c,h1,h2,h3⟩:=h
 ⟨p,n,c,h1,h2.kept hg hr,h3⟩
end
attribute [local go_sem] Oper.semAt_some
structure Cn (w:World) (e:Nat) (us:List (Option Addr×Nat×Nat)) (Ns:List Nat):Prop where
 len:us.length=Ns.length
 at_:∀(i N:Nat),Ns[i]? = some N->∃x,us[i]? = some x/\Cw w x N/\N<An e
theorem Cn.below {w w':World}{e:Nat}{us:List (Option Addr×Nat×Nat)}{Ns:List Nat}(h:Cn w e us Ns)(hb:Below w.heap.size w w'):Cn w' e us Ns :=
 ⟨h.len,fun i N hN=>let ⟨x,h1,h2,h3⟩:=h.at_ i N hN;⟨x,h1,h2.below hb,h3⟩⟩
theorem Cn.get {w:World}{e i:Nat}{us:List (Option Addr×Nat×Nat)}{Ns:List Nat}{x:Option Addr×Nat×Nat}(h:Cn w e us Ns)(hx:us[i]? = some x):∃N,Ns[i]? = some N/\Cw w x N/\N<An e:=by
 have hi:i<Ns.length:=by rw[<-h.len];exact(List.getElem?_eq_some_iff.1 hx).1
 obtain⟨y,h1,h2⟩:=h.at_ i _ (List.getElem?_eq_getElem hi)
 rw[hx]at h1;cases h1
 exact⟨_,List.getElem?_eq_getElem hi,h2⟩
structure Oj (w:World) (p:Option Addr) (n c b off:Nat) (us:List (Option Addr×Nat×Nat)):Prop where
 len:us.length=n
 cap:n<=c
 max:c<=9223372036854775807
 ptr:0<n->p=some ⟨b,off,none⟩/\b<w.heap.size
 cell:∀(i:Nat) (x:Option Addr×Nat×Nat),us[i]? = some x->w.cell? ⟨b,off+i,none⟩=some (sv x)
theorem Oj.below {w w':World}{p:Option Addr}{n c b off:Nat}{us:List (Option Addr×Nat×Nat)}(h:Oj w p n c b off us)(hb:Below w.heap.size w w'):Oj w' p n c b off us :=
 ⟨h.len,h.cap,h.max,fun h0=>⟨(h.ptr h0).1,Da (h.ptr h0).2 hb.size⟩,fun i x hx=>by
  have h0:0<n:=by rw[<-h.len];have:=(List.getElem?_eq_some_iff.1 hx).1;omega
  rw[hb.cell (p:=⟨b,off+i,none⟩) (h.ptr h0).2];exact h.cell i x hx⟩
theorem Qa {w:World}{e:Nat}{p:Option Addr}{n c:Nat}{Ns:List Nat}(h:Aq w e p n c Ns):∃us b off,Cn w e us Ns/\Oj w p n c b off us:=by
 rcases Nat.eq_zero_or_pos n with h0|h0
 .have hN:Ns=[]:=List.eq_nil_of_length_eq_zero (by rw[<-h.len];exact h0);subst hN;exact⟨[],0,0,⟨rfl,fun i N hN=>by simp at hN⟩,⟨h0.symm,h.cap,h.max,fun h1=>by omega,fun i x hx=>by simp at hx⟩⟩
 .obtain⟨b,off,h1,h2,h3⟩:=h.at_ h0
  have hex:∀i:Nat,∃x:Option Addr×Nat×Nat,∀N,Ns[i]? = some N->w.cell? ⟨b,off+i,none⟩=some (sv x)/\Cw w x N/\N<An e:=fun i=>by
   cases hi:Ns[i]? with
   | none=>exact⟨(none,0,0),fun N hN=>by cases hN⟩
   | some N=>
    obtain⟨q,m,d,k1,k2,k3⟩:=h3 i N hi;exact⟨(q,m,d),fun M hM=>by cases hM;exact⟨k1,k2,k3⟩⟩
  let f:Nat->Option Addr×Nat×Nat:=fun i=>Classical.choose (hex i)
  have hf:∀(i N:Nat),Ns[i]? = some N->w.cell? ⟨b,off+i,none⟩=some (sv (f i))/\Cw w (f i) N/\N<An e:=fun i=>Classical.choose_spec (hex i)
  have hg:∀(i:Nat) (x:Option Addr×Nat×Nat),((List.range Ns.length).map f)[i]? = some x->i<Ns.length/\x=f i:=fun i x hx=>by
   rw[List.getElem?_map]at hx
   rcases Nat.lt_or_ge i Ns.length with hi|hi
   .rw[List.getElem?_range hi]at hx
    simp at hx;exact⟨hi,hx.symm⟩
   .rw[List.getElem?_eq_none (by simpa using hi)]at hx
    simp at hx
  refine⟨(List.range Ns.length).map f,b,off,⟨by simp,fun i N hN=>?_⟩,⟨by rw[List.length_map,List.length_range];exact h.len.symm,h.cap,h.max,fun _=>⟨h1,h2⟩,fun i x hx=>?_⟩⟩
  .have hi:i<Ns.length:=(List.getElem?_eq_some_iff.1 hN).1;exact⟨f i,by rw[List.getElem?_map,List.getElem?_range hi];rfl,(hf i N hN).2⟩
  .obtain⟨hi,rfl⟩:=hg i x hx;exact(hf i _ (List.getElem?_eq_getElem hi)).1
theorem We (w:World)(p:Option Addr)(n c:Nat) :
  Calls Tryz.prog 213 #[.slice p n c] w fun e w'=>e=.returned (.func (.func 236) #[] #[.pointer (some ⟨w.heap.size,0,none⟩)]) /\
   w'=w.alloc (.cells #[.slice p n c] 62):=by
 go_enter Tryz.func213,Tryz.ntmps213;go_wp2;go_ret;exact⟨rfl,rfl⟩
theorem Tl (n B l b1 b off len cap:Nat)(p:Option Addr)(us:List (Option Addr×Nat×Nat))(w0 W:World)(hr:Oj w0 p len cap b off us)(hlen:len<=1000000)(Kp:World->World->Prop)(hW:Below w0.heap.size w0 W)(hc1:W.cell? ⟨b1,0,none⟩=some (.slice p len cap))(hkp:∀A C,Kp A C->w0.heap.size<=A.heap.size->Below w0.heap.size A C) :
  eA Fence.wide n Tryz.prog 236 #[.pointer (some ⟨b1,0,none⟩)] B l len Kp (fun k vs _=>∃x,us[k]? = some x/\vs=#[.agg #[sv x]]) W:=by
 intro J hJ hY h0;have HJ:Aa (OwnFrom B J):=⟨hJ⟩
 have HY:=Ab hY;have HK:=Ab hkp;have HR:=Ab hr;have HJ0:=Ab h0;have HW:=Ab hW;clear hJ hY hkp hr h0 hW;refine callsIn_of_wp Tryz.func236 rfl trivial ?_ rfl;simp only[Tryz.ntmps236,List.size_toArray,List.length_cons,List.length_nil,Nat.reduceAdd,Nat.reduceSub,Array.replicate_succ,Array.replicate_zero,List.push_toArray,List.append_toArray,List.nil_append,List.cons_append]
 gi_wp2
 gi_loopw [4,7] (fun _ i wr=>∃k:Nat,k<=len/\i=.int .i64 (k:Nat)/\Aa (J k wr)/\Aa (Below w0.heap.size w0 wr)) (fun _ i _=>len-(intOf i).toNat)
 case atStart=>exact⟨0,by omega,rfl,HJ0,HW⟩
 case round=>
  obtain⟨k,hk,rfl,HJk,HB⟩:=hrel
  by_cases hkn:k<len
  .obtain⟨x,hx⟩:∃x,us[k]? = some x:=⟨us[k]'(by rw[HR.out.len];exact hkn),List.getElem?_eq_getElem _⟩
   obtain⟨rfl,hblt⟩:=HR.out.ptr (by omega);obtain⟨q,m,d⟩:=x;have hc:wr.cell? ⟨b,off+k,none⟩=some (.slice q m d):=(HB.out.cell (p:=⟨b,off+k,none⟩) hblt).trans (HR.out.cell k _ hx);have hkn':(k:Int)<len:=by omega
   obtain⟨wa,hwa⟩:∃wa,wr.alloc (.cells #[.slice q m d] 37)=wa:=⟨_,rfl⟩
   have hba:Below wr.heap.size wr wa:=by rw[<-hwa];exact(Ba _ _).alloc (Aw _) _
   have hbx:Ae wa wr.heap.size (.slice q m d):=by rw[<-hwa];exact Ae.made wr _
   have c4:=hbx.cell;have HBa:Aa (Below w0.heap.size w0 wa):=⟨HB.out.trans (hba.mono HB.out.size)⟩
   obtain⟨fn,tmps,assign,body,hy,hR⟩:=HY.out k #[.agg #[.slice q m d]] wa hkn (OwnFrom.step HJ.out HJk.out hba) ⟨_,hx,rfl⟩;have HRn:=Ab hR;clear hx hblt hba hbx hR
   gi_wp2_with fail
   refine⟨fun h=>by simp[Fence.wide]at h,HRn.out.mono ?_⟩;rintro e W3 ⟨rfl,hJ3,hk3⟩;have HJ3:=Ab hJ3;have HB3:=Ab (HBa.out.trans (HK.out _ _ hk3 HBa.out.size));clear hJ3 hk3 hy c4 hc
   gi_wp2
   go_roundw
   case rel=>exact⟨k+1,by omega,by go_num,HJ3,HB3⟩
   case measure=>simp[intOf];omega
  .have hkN:k=len:=by omega
   subst hkN;have hkn':¬(k:Int)<k:=by omega
   gi_wp2
   go_end0
   exact⟨⟨_,rfl⟩,HJk.out⟩
attribute [local go_sem] Oper.semAt_some
theorem Np {W W':World}{row:Option Nat}{B size n:Nat}{e:TypeId}{v:Value}{us:List Value}(h:W.ownsRow B e size v n us)(hg:W.grownBy W' row)(hr:Calm W row):W'.ownsRow B e size v n us:=by
 refine⟨h.1,?_⟩;rcases h.2 with h4|⟨g,cap,cur,e',hbg,hgg,h5⟩
 .exact .inl h4
 .exact .inr ⟨g,cap,cur,e',hbg,Df hg hr hgg,h5⟩
theorem Mi {W W':World}{B size n:Nat}{e:TypeId}{v:Value}{us:List Value}(h:W.ownsRow B e size v n us)(hb:Below W.heap.size W W'):W'.ownsRow B e size v n us:=by
 refine⟨h.1,?_⟩;rcases h.2 with h4|⟨g,cap,cur,e',hbg,hgg,h5⟩
 .exact .inl h4
 .exact .inr ⟨g,cap,cur,e',hbg,by rw[hb.block g (Gs hgg).1];exact hgg,h5⟩
theorem Tq {W:World}{B size n:Nat}{e:TypeId}{v:Value}{us:List Value}(h:W.ownsRow B e size v n us):∃p m c,v=.slice p m c:=by
 rcases h.2 with ⟨h1,_⟩|⟨g,cap,cur,h1,_⟩
 .exact⟨_,_,_,h1⟩
 .exact⟨_,_,_,h1⟩
structure Op (w:World) (B bx:Nat) (us:List (Option Addr×Nat×Nat)) (k:Nat) (W:World):Prop where
 ex:∃v,W.heap[bx]? = some (.cells #[v] 62 (0,0))/\W.ownsRow B 37 1 v k ((us.take k).map sv)
 bel:Below w.heap.size w W
theorem Op.stable {w:World}{B bx k:Nat}{us:List (Option Addr×Nat×Nat)}{W W':World}(h:Op w B bx us k W)(hb:Below W.heap.size W W'):Op w B bx us k W':=by
 obtain⟨v,h1,h2⟩:=h.ex;exact⟨⟨v,by rw[hb.block bx (Gs h1).1];exact h1,Mi h2 hb⟩,Af h.bel hb⟩
theorem Op.own {w:World}{B bx:Nat}{us:List (Option Addr×Nat×Nat)}{D:Nat}(hD:w.heap.size<=D):OwnFrom D (fun k=>Op w B bx us k):=fun k W W' row h hg hr=>by
 have hc:Calm W row:=fun j e=>(hr j e).2
 obtain⟨v,h1,h2⟩:=h.ex;exact⟨⟨v,Df hg hc h1,Np h2 hg hc⟩,h.bel.grown hg h.bel.size (fun j e=>Er hD (hr j e).1)⟩
theorem Op.grow {w:World}{B bx k D:Nat}{us:List (Option Addr×Nat×Nat)}{Wb W1 w':World}{v v':Value}{x:Option Addr×Nat×Nat}(h:Op w B bx us k Wb)(hv:Wb.heap[bx]? = some (.cells #[v] 62 (0,0)))(hrow:Wb.ownsRow B 37 1 v k ((us.take k).map sv))(hx:us[k]? = some x)(hbw:Below Wb.heap.size Wb W1)(hg:W1.grownBy w' v.ownBlock)(hown:w'.ownsRow B 37 1 v' (k+1) ((us.take k).map sv++[sv x]))(hB:w.heap.size<=B)(hbx:w.heap.size<=bx) :
  (w'.cell? ⟨bx,0,none⟩=some v/\w'.frozen? ⟨bx,0,none⟩=false)/\KeepsFrom D Wb (w'.setCell ⟨bx,0,none⟩ v')/\Mid (fun j=>j<w.heap.size) Wb (w'.setCell ⟨bx,0,none⟩ v')/\Op w B bx us (k+1) (w'.setCell ⟨bx,0,none⟩ v'):=by
 have hltx:=(Gs hv).1;have hne:∀g,v.ownBlock=some g->(∃cur,Wb.heap[g]? = some (.cells cur 37 (0,0)))/\B<=g:=fun g hg=>by
  rcases hrow.2 with ⟨e,_⟩|⟨g',cap,cur,e,hbg,hgg,_⟩
  .rw[e]at hg;cases hg
  .rw[e]at hg
   simp[Value.ownBlock]at hg
   subst hg;exact⟨⟨cur,hgg⟩,hbg⟩
 have hother:∀j,j<Wb.heap.size->(∀cur,Wb.heap[j]? ≠ some (.cells cur 37 (0,0)))->w'.heap[j]? = Wb.heap[j]? := fun j hj hn=>by
  rw[hg.block j (Da hj hbw.size) (fun e=>by obtain⟨⟨cur,h1⟩,_⟩:=hne j e.symm;exact hn cur h1),hbw.block j hj]
 have hv':w'.heap[bx]? = some (.cells #[v] 62 (0,0)):=by
  rw[hother bx hltx (fun cur e=>by rw[hv]at e;simp only[Option.some.injEq,Obj.cells.injEq]at e;exact absurd e.2.1 (by decide))];exact hv
 have hsz:Wb.heap.size<=w'.heap.size:=Er hbw.size hg.size;have hset:∀j,j≠bx->(w'.setCell ⟨bx,0,none⟩ v').heap[j]? = w'.heap[j]? := fun j hj=>heap_setCell_other w' ⟨bx,0,none⟩ j v' hj
 have hmid:Mid (fun j=>j<w.heap.size) Wb (w'.setCell ⟨bx,0,none⟩ v'):=by
  refine⟨hg.os.trans hbw.os,hg.tape.trans hbw.tape,hg.output.trans hbw.output,by simpa using hsz,fun j hj hp=>?_⟩;rw[hset j (by omega),hg.block j (Da hj hbw.size) (fun e=>by obtain⟨_,h1⟩:=hne j e.symm;omega),hbw.block j hj]
 refine⟨⟨by simp[World.cell?,hv'],by simp[World.frozen?,hv']⟩,⟨by simpa using hsz,fun j o _ hj ho=>?_⟩,hmid,⟨⟨v',?_,?_⟩,?_⟩⟩
 .have hjb:j≠bx:=fun e=>by subst e;rw[hv]at hj;cases hj;cases ho
  rw[hset j hjb,hother j (Gs hj).1 (fun cur e=>by rw[hj]at e;cases e;cases ho)];exact hj
 .simp[World.setCell,Array.getElem?_modify,hv']
 .rw[Cz hx,List.map_append,List.map_singleton];refine⟨hown.1,?_⟩;rcases hown.2 with h4|⟨g,cap,cur,e',hbg,hgg,h5⟩
  .exact .inl h4
  .exact .inr ⟨g,cap,cur,e',hbg,by
    rw[hset g (fun e=>by subst e;rw[hv']at hgg;simp only[Option.some.injEq,Obj.cells.injEq]at hgg;exact absurd hgg.2.1 (by decide))];exact hgg,h5⟩
 .exact h.bel.trans (hmid.below h.bel.size (fun j hj=>hj))
theorem Xw (w:World)(b1 b off len cap:Nat)(p:Option Addr)(us:List (Option Addr×Nat×Nat))(hr:Oj w p len cap b off us)(hlen:len<=1000000)(hc1:w.cell? ⟨b1,0,none⟩=some (.slice p len cap))(hb1:b1<w.heap.size) :
  CallsIn Fence.wide 10 Tryz.prog 245 #[.slice none 0 0,.func (.func 236) #[] #[.pointer (some ⟨b1,0,none⟩)]] w fun e w'=>
   ∃v,e=.returned v/\w'.ownsRow w.heap.size 37 1 v len (us.map sv)/\Below w.heap.size w w':=by
 have HR:=Ab hr;have HC1:=Ab hc1;have HB1:=Ab hb1;clear hr hc1 hb1;refine callsIn_of_wp_marks Tryz.func245 rfl trivial ?_ rfl;simp only[Tryz.ntmps245,List.size_toArray,List.length_cons,List.length_nil,Nat.reduceAdd,Nat.reduceSub,Array.replicate_succ,Array.replicate_zero,List.push_toArray,List.append_toArray,List.nil_append,List.cons_append];obtain⟨bx,hbx⟩:∃b,w.heap.size=b:=⟨_,rfl⟩
 obtain⟨W0,hW0⟩:∃W0,w.alloc (.cells #[.slice none 0 0] 62)=W0:=⟨_,rfl⟩
 have hb0:Below w.heap.size w W0:=by rw[<-hW0];exact(Ba _ _).alloc (Aw _) _
 have hs0:W0.heap.size=bx+1:=by rw[<-hW0,<-hbx];simp
 have hx0:W0.heap[bx]? = some (.cells #[.slice none 0 0] 62 (0,0)):=by rw[<-hW0,<-hbx];exact heap_alloc_new w _
 have HS0:Aa (Op w bx bx us 0 W0):=⟨⟨⟨_,hx0,World.ownsRow_nil W0 bx _ 1⟩,hb0⟩⟩
 have HZ0:=Ab hs0;have HBX:=Ab hbx;have HCW:Aa (W0.cell? ⟨b1,0,none⟩=some (.slice p len cap)):=⟨(hb0.cell (p:=⟨b1,0,none⟩) HB1.out).trans HC1.out⟩
 clear hb0 hs0 hx0
 gi_wp2_with fail
 clear hbx hW0;refine Fq rfl (by decide) (gf := 236) (lb:=#[.pointer (some ⟨b1,0,none⟩)]) rfl trivial (enters_of Tryz.func236 (by kernel_rfl) rfl)
  (N:=len) (Kp:=Mid (fun j=>j<w.heap.size)) (Gd:=fun k vs _=>∃x,us[k]? = some x/\vs=#[.agg #[sv x]]) (by rintro k vs W ⟨x,_,rfl⟩;rfl)
  (fun W5 hs5 hb5=>Tl (10-1) (W0.heap.size+2) (W0.heap.size+1) b1 b off len cap p us w W5 HR.out hlen _ (HS0.out.bel.trans (hb5.mono HS0.out.bel.size))
   ((hb5.cell (p:=⟨b1,0,none⟩) (by have:=HB1.out;have:=HS0.out.bel.size;simp;omega)).trans HCW.out) (fun A C h hA=>h.below hA (fun j hj=>hj)))
  (fun h k=>h.trans k) (fun W5 o=>Mid.putObj _ _ _ (by have:=HZ0.out;have:=HBX.out;omega))
  (fun k=>Op w bx bx us k) (Op.own (by have:=HZ0.out;have:=HBX.out;omega)) HS0.out
  (fun k a' W5=>∃(bv:Nat) (x:Option Addr×Nat×Nat),us[k]? = some x/\a'={ defers:=[],tmps:=#[.slice none 0 0,.func (.func 236) #[] #[.pointer (some ⟨b1,0,none⟩)],.pointer (some ⟨bx,0,none⟩),undef,.slice none 0 0,.pointer (some ⟨bv,0,none⟩),.func (.func 236) #[] #[.pointer (some ⟨b1,0,none⟩)],.agg #[.slice x.1 x.2.1 x.2.2],undef,undef,undef,undef,undef] }/\Ae W5 bv (sv x)/\Op w bx bx us k W5)
  ?ax ?assign ?body ?done
 case ax=>
  rintro k a' _ X Y row ⟨bv,x,hx,e,h1,h2⟩ hg hr;exact⟨bv,x,hx,e,Df hg (fun j e=>(hr j e).2) h1,Op.own (w:=w) (B:=bx) (bx:=bx) (us:=us) (D:=W0.heap.size) (by have:=HZ0.out;have:=HBX.out;omega) k X Y row h2 hg hr⟩
 case assign=>
  rintro l2 k v W5 K hk hi ⟨x,hx,rfl⟩ hK;obtain⟨q,m,d⟩:=x;have hbw:Below W5.heap.size W5 (W5.alloc (.cells #[.slice q m d] 37)):=Bt;have HK:=Ab hK;have HI:=Ab hi;have HX:=Ab hx;clear hK hi hx;unfold sv
  gi_wp2
  exact HK.out _ _ ((KeepsOthers.alloc _ _).from _) (Mid.of hbw) ⟨_,(q,m,d),HX.out,rfl,Ae.made W5 _,HI.out.stable hbw⟩
 case body=>
  rintro l2 k a' Wb hk ⟨bv,⟨q,m,d⟩,hx,rfl,hxn,hst⟩;obtain⟨v,hv,hrow⟩:=hst.ex;have cb:Wb.cell? ⟨bx,0,none⟩=some v:=by simp[World.cell?,hv]
  have cx:=hxn.cell;unfold sv at cx;have HX:=Ab hx;have HV:=Ab hv;have HST:=Ab hst;have HROW:=Ab hrow;clear hx hv hst hxn hrow;have hlk:=HROW.out.1
  gi_wp2_with (gi_at_builtin;refine Gn.out ?_)
  refine⟨?_⟩;clear cx cb;obtain⟨i1,hi1,hz1,hs1,hbb1⟩:=info_parts Tryz.info_Nat;have hbw:Below Wb.heap.size Wb (Wb.alloc (.cells #[.slice q m d] 37)):=Bt;have hcn:(Wb.alloc (.cells #[.slice q m d] 37)).cell? ⟨Wb.heap.size,0,none⟩=some (.slice q m d):=(Ae.made Wb (.slice q m d)).cell;have hbsz:bx<=Wb.heap.size:=Nat.le_of_lt (Gs HV.out).1;refine wpListIn_append_own _ rfl _ _ _ rfl bx _ i1 _ 1 _ Tryz.underlying62 hi1 hz1 hs1 rfl rfl (by decide) v k _ rfl (Mi HROW.out hbw) ⟨Wb.heap.size,0,none⟩ 1 1 [.slice q m d] rfl rfl
   (fun j u hj=>by
    cases j with
    | zero=>simp at hj;subst hj;exact hcn
    | succ j=>simp at hj)
   (fun u hj=>by simp at hj;subst hj;rfl) (by simp only[maxLen];omega) (Er (Nat.mul_le_mul (by omega:k+1<=1000001) (hbb1 ▸ (by decide:(24:Nat)<=1000))) (by decide)) (Er hbsz hbw.size) ?_
  intro v' w' hown hgr _;obtain⟨pv,nv,cv,rfl⟩:=Tq hown;obtain⟨⟨cb,fb⟩,hkf,hmd,hap⟩:=Op.grow (D:=W0.heap.size) HST.out HV.out HROW.out HX.out hbw hgr hown (by have:=HBX.out;omega) (by have:=HBX.out;omega);have HKF:=Ab hkf;have HMD:=Ab hmd;have HAP:=Ab hap;clear hkf hmd hap hown hgr hbw hcn hbsz hi1 hz1 hs1 hbb1 hlk
  gi_wp2
  exact⟨HKF.out,HMD.out,HAP.out⟩
 case done=>
  rintro D W5 hD hi hK;obtain⟨v,hv,hrow⟩:=hi.ex;have cb:W5.cell? ⟨bx,0,none⟩=some v:=by simp[World.cell?,hv]
  have HROW:=Ab hrow;have HK:=Ab hK;have HI:=Ab hi;clear hv hrow hK hi
  gi_wp2
  refine⟨by simp,.inl ⟨_,_,rfl,run_takeDeferred HK.out,?_⟩⟩;have hgr:=grownBy_putObj' W5 D (.deferred none);have hown:=HROW.out;rw[List.take_of_length_le (by rw[HR.out.len];exact Aw _)]at hown
  refine⟨v,?_,v,rfl,?_,?_⟩
  .simp[results,Tryz.f245,go_sem]
  .rw[HBX.out];exact Np hown hgr (fun j e=>by cases e;exact⟨_,HK.out,rfl⟩)
  .exact HI.out.bel.grown hgr HI.out.bel.size (fun j e=>by cases e;have:=HBX.out;have:=HZ0.out;omega)
theorem Tw (w:World)(b1 b off len cap:Nat)(p:Option Addr)(us:List (Option Addr×Nat×Nat))(hr:Oj w p len cap b off us)(hlen:len<=1000000)(hc1:w.cell? ⟨b1,0,none⟩=some (.slice p len cap))(hb1:b1<w.heap.size) :
  Calls Tryz.prog 234 #[.func (.func 236) #[] #[.pointer (some ⟨b1,0,none⟩)]] w fun e w'=>
   ∃v,e=.returned v/\w'.ownsRow w.heap.size 37 1 v len (us.map sv)/\Below w.heap.size w w':=by
 have HA:=Ab (callsIn_wide.1 (Xw w b1 b off len cap p us hr hlen hc1 hb1));clear hr hc1 hb1;go_enter Tryz.func234,Tryz.ntmps234
 go_wp2_with fail
 refine HA.out.mono ?_;rintro en w1 ⟨v,rfl,hv,hb⟩;have HV:=Ab hv;have HB:=Ab hb;clear hv hb HA;go_wp2;go_ret;exact⟨v,rfl,HV.out,HB.out⟩
def Eh (w:World)(g:Nat)(us:List (Option Addr×Nat×Nat))(rest:List Value):Prop:=w.heap[g]? = some (.cells (us.map sv++rest).toArray 37 (0,0))
theorem Eh.lt {w:World}{g:Nat}{us:List (Option Addr×Nat×Nat)}{rest:List Value}(h:Eh w g us rest):g<w.heap.size:=(Gs h).1
theorem Eh.below {w w':World}{g B:Nat}{us:List (Option Addr×Nat×Nat)}{rest:List Value}(h:Eh w g us rest)(hb:Below B w w')(hg:g<B):Eh w' g us rest:=by
 unfold Eh at *;rw[hb.block g hg];exact h
theorem Eh.cell {w:World}{g j:Nat}{us:List (Option Addr×Nat×Nat)}{rest:List Value}{x:Option Addr×Nat×Nat}(h:Eh w g us rest)(hj:us[j]? = some x):w.cell? ⟨g,j,none⟩=some (.slice x.1 x.2.1 x.2.2):=by
 have hl:j<us.length:=(List.getElem?_eq_some_iff.1 hj).1;unfold Eh at h;have:(us.map sv++rest)[j]? = some (sv x):=by rw[List.getElem?_append_left (by simpa using hl),List.getElem?_map,hj];rfl
 simp[World.cell?,h,this,sv]
theorem Eh.free {w:World}{g:Nat}{us:List (Option Addr×Nat×Nat)}{rest:List Value}(h:Eh w g us rest)(j:Nat):w.frozen? ⟨g,j,none⟩=false:=by
 unfold Eh at h;simp[World.frozen?,h]
theorem Eh.set {w:World}{g:Nat}{us:List (Option Addr×Nat×Nat)}{rest:List Value}(h:Eh w g us rest){j:Nat}(hj:j<us.length)(x:Option Addr×Nat×Nat):Eh (w.setCell ⟨g,j,none⟩ (.slice x.1 x.2.1 x.2.2)) g (us.set j x) rest:=by
 unfold Eh at *;have e:(us.set j x).map sv++rest=(us.map sv++rest).set j (sv x):=by
  rw[List.map_set,List.set_append_left _ _ (by simpa using hj)]
 rw[e];simp[World.setCell,Array.getElem?_modify,h,sv]
theorem fD {w:World}{e j A B:Nat}{us:List (Option Addr×Nat×Nat)}{Ms:List Nat}{xa xb:Option Addr×Nat×Nat}(h:Cn w e us Ms)(ha:us[j+1]? = some xa)(hb:us[j]? = some xb)(hA:Ms[j+1]? = some A)(hB:Ms[j]? = some B) :
  Cn w e ((us.set (j+1) xb).set j xa) ((Ms.set (j+1) B).set j A):=by
 refine⟨by simp[h.len],fun i N hN=>?_⟩;obtain⟨l1,_⟩:=List.getElem?_eq_some_iff.1 ha;obtain⟨m1,_⟩:=List.getElem?_eq_some_iff.1 hA
 by_cases e1:i=j
 .subst e1;rw[List.getElem?_set_self (by simp;omega)]at hN;cases hN
  obtain⟨x,k1,k2⟩:=h.at_ _ _ hA
  rw[ha]at k1;cases k1
  exact⟨xa,by rw[List.getElem?_set_self (by simp;omega)],k2⟩
 .rw[List.getElem?_set_ne (by omega)]at hN
  rw[List.getElem?_set_ne (by omega)]
  by_cases e2:i=j+1
  .subst e2;rw[List.getElem?_set_self m1]at hN;cases hN
   obtain⟨x,k1,k2⟩:=h.at_ _ _ hB
   rw[hb]at k1;cases k1
   exact⟨xb,by rw[List.getElem?_set_self l1],k2⟩
  .rw[List.getElem?_set_ne (by omega)]at hN
   rw[List.getElem?_set_ne (by omega)];exact h.at_ i N hN
structure Iw (w0:World) (e g:Nat) (rest:List Value) (Ns:List Nat) (us:List (Option Addr×Nat×Nat)) (Ms:List Nat) (w:World):Prop where
 row:Eh w g us rest
 trip:Cn w0 e us Ms
 perm:Ms.Perm Ns
 bel:Below w0.heap.size w0 w
 own:w0.heap.size<=g
theorem Iw.later {w0 w w':World}{e g:Nat}{rest:List Value}{Ns Ms:List Nat}{us:List (Option Addr×Nat×Nat)}(h:Iw w0 e g rest Ns us Ms w)(hb:Below w.heap.size w w'):Iw w0 e g rest Ns us Ms w' :=
 ⟨h.row.below hb h.row.lt,h.trip,h.perm,Af h.bel hb,h.own⟩
theorem Iw.len {w0 w:World}{e g:Nat}{rest:List Value}{Ns Ms:List Nat}{us:List (Option Addr×Nat×Nat)}(h:Iw w0 e g rest Ns us Ms w):us.length=Ns.length:=h.trip.len.trans h.perm.length_eq
theorem Iw.swap {w0 w:World}{e g j A B:Nat}{rest:List Value}{Ns Ms:List Nat}{us:List (Option Addr×Nat×Nat)}{xa xb:Option Addr×Nat×Nat}(h:Iw w0 e g rest Ns us Ms w)(ha:us[j+1]? = some xa)(hb:us[j]? = some xb)(hA:Ms[j+1]? = some A)(hB:Ms[j]? = some B){w':World}(hw:w'=(w.setCell ⟨g,j+1,none⟩ (.slice xb.1 xb.2.1 xb.2.2)).setCell ⟨g,j,none⟩ (.slice xa.1 xa.2.1 xa.2.2)):Iw w0 e g rest Ns ((us.set (j+1) xb).set j xa) ((Ms.set (j+1) B).set j A) w':=by
 have l1:=(List.getElem?_eq_some_iff.1 ha).1;subst hw;exact⟨(h.row.set l1 xb).set (by simp;omega) xa,fD h.trip ha hb hA hB,(Un hA hB).trans h.perm,(h.bel.setCell h.own _).setCell h.own _,h.own⟩
theorem lS {N M:Nat}:Bm N M<0 ↔ N<M:=by
 unfold Bm;split
 .omega
 .split<;>omega
theorem gS {w0 w:World}{e g n cap:Nat}{rest:List Value}{Ns Ms0:List Nat}{us0:List (Option Addr×Nat×Nat)}(h:Iw w0 e g rest Ns us0 Ms0 w)(hn:Ns.length=n)(hn2:n<=1000000)(he:e<=900000) :
  Calls Tryz.prog 254 #[.slice (some ⟨g,0,none⟩) n cap,.int .i64 0,.int .i64 n,.func (.func 24) #[] #[]] w fun en w'=>(∃v,en=.returned v)/\∃us Ms,Iw w0 e g rest Ns us Ms w'/\jD n Ms:=by
 have HS0:=Ab h;have HN:=Ab hn;clear h hn;go_enter Tryz.func254,Tryz.ntmps254;go_wp2
 go_loopw [8,9] (fun iv _ wr=>∃(i:Nat) (us:List (Option Addr×Nat×Nat)) (Ms:List Nat),iv=.int .i64 i/\(i<=n ∨ i=1)/\Aa (Iw w0 e g rest Ns us Ms wr)/\Aa (jD i Ms)) (fun iv _ _=>n-(intOf iv).toNat)
 case atStart=>exact⟨1,us0,Ms0,rfl,.inr rfl,HS0,⟨fun p r a b h1 h2=>by omega⟩⟩
 case round=>
  obtain⟨i,us,Ms,rfl,hi,HSo,HSr⟩:=hrel
  by_cases hin:i<n
  .have hin':(i:Int)<n:=by omega
   clear hi;have HI0:Aa (Ins i i Ms):=⟨HSr.out.ins⟩
   clear HSr;obtain⟨wo,hwo⟩:∃x,x=wr:=⟨_,rfl⟩
   subst hwo;go_wp2
   go_loopw [9] (fun jv wr=>∃(j:Nat) (us:List (Option Addr×Nat×Nat)) (Ms:List Nat),jv=.int .i64 j/\j<=i/\Aa (Iw w0 e g rest Ns us Ms wr)/\Aa (Ins i j Ms)) (fun jv _=>(intOf jv).toNat)
   case atStart=>exact⟨i,us,Ms,rfl,Aw _,HSo,HI0⟩
   case round=>
    clear HSo HI0;obtain⟨j',us,Ms,rfl,hj,HSO,HI⟩:=hrel;rcases Nat.eq_zero_or_pos j' with h0|h0
    .subst h0;go_wp2;refine Ak (by kernel_rfl) (by kernel_rfl)
      [some (.int .i64 0),some (.int .i64 0),some (.bool false),some (.bool false),some (undef),some (undef),some (undef),some (undef),some (undef),some (undef),some (undef),some (undef),some (undef),some (undef),some (undef),some (undef),some (.bool false)]
      [false,false,false,false,false,false,false,false,false,false,false,false,false,false,false,false,false] rfl
      (fun w1 w2=>Below w1.heap.size w1 w2)
      (fun _ w'=>Below wr.heap.size wr w')
      (fun i v w'=>match i with
       | _=>True)
      ?_ (Ba _ _).drew ?_ ?_
     .intro i v w1 w2 hf hb;split at hf
      .trivial
     .simp only[Bb,Nat.reduceAdd];refine⟨?_,?_,?_,?_,?_,?_,?_,?_,?_,?_,?_,?_,?_,?_,?_,?_,?_,trivial⟩
      all_goals intro D sp w' hD hW hdp hbx'
      case refine_5|refine_6|refine_7|refine_8|refine_9|refine_10|refine_11|refine_12|refine_13|refine_14|refine_15|refine_16=>
       (with_reducible refine Fh ?_ ?_)
       ·(simp[Region.wanted,yielded,Act.put,go_sem]<;>exact fun h=>by cases h)
       .exact⟨rfl,rfl⟩
      all_goals ((with_reducible refine Ad ?_ ?_);all_goals first|(simp only[Region.wanted];done)|simp[Region.wanted,yielded,execOp,Act.eval,Act.put,go_sem])
     .intro sp w7 hsp hbx';have HS7:=Ab (HSO.out.later hbx');clear hsp hbx';simp only[Al]
      go_simp
      go_wp2;have HSR:=Ab (HI.out.done (.inl rfl) (by rw[HSO.out.perm.length_eq,HN.out];exact hin));go_roundw
      case rel=>exact⟨i+1,us,Ms,by go_num,by omega,HS7,HSR⟩
      case measure=>simp[intOf];omega
    .obtain⟨j,rfl⟩:∃j,j'=j+1:=⟨j'-1,by omega⟩
     clear h0;have hlen:us.length=n:=HSO.out.len.trans HN.out;obtain⟨xa,hxa⟩:∃x,us[j+1]? = some x:=⟨_,List.getElem?_eq_getElem (by omega)⟩
     obtain⟨xb,hxb⟩:∃x,us[j]? = some x:=⟨_,List.getElem?_eq_getElem (by omega)⟩
     obtain⟨A,hA,ha2,ha3⟩:=HSO.out.trip.get hxa;obtain⟨B,hB,hb2,hb3⟩:=HSO.out.trip.get hxb;have HXA:=Ab hxa;have HXB:=Ab hxb;have HA:=Ab hA;have HB:=Ab hB;have HFA:Aa (Fit e A (.agg #[.slice xa.1 xa.2.1 xa.2.2]) wr):=⟨(Fit.of ha2 ha3).below HSO.out.bel⟩
     have HFB:Aa (Fit e B (.agg #[.slice xb.1 xb.2.1 xb.2.2]) wr):=⟨(Fit.of hb2 hb3).below HSO.out.bel⟩
     obtain⟨K,hKe⟩:∃K,Bm A B=K:=⟨_,rfl⟩
     have HK:=Ab hKe;have HKN:Aa (K<0 ↔ A<B):=⟨by rw[<-hKe];exact lS⟩
     have hj0:(0:Int)<((j+1:Nat):Int):=by omega
     have hn1:¬(n:Int)<=(j:Int)+1:=by omega
     have hj9:(0:Int)<=(j:Int)+1:=by omega
     have hwj:IntKind.i64.wrap (j:Int)=(j:Nat):=by rw[IntKind.wrap_i64];omega
     have hn2:¬n<=j:=by omega
     clear hxa hxb hA hB ha2 ha3 hb2 hb3 hKe hlen
     by_cases hK:K<0
     .go_wp2;refine Ak (by kernel_rfl) (by kernel_rfl)
       [some (.int .i64 ((j+1:Nat):Int)),some (.int .i64 0),some (.bool true),some (.bool true),some (.func (.func 24) #[] #[]),some (.slice (some ⟨g,0,none⟩) n cap),some (.int .i64 ((j+1:Nat):Int)),some (.pointer (some ⟨g,j+1,none⟩)),some (.agg #[.slice xa.1 xa.2.1 xa.2.2]),some (.slice (some ⟨g,0,none⟩) n cap),some (.int .i64 ((j+1:Nat):Int)),some (.int .i64 (j:Nat)),some (.pointer (some ⟨g,j,none⟩)),some (.agg #[.slice xb.1 xb.2.1 xb.2.2]),none,some (.bool true),some (.bool true)]
       [false,false,false,false,false,false,false,false,false,false,false,false,false,false,true,false,false] rfl
       (fun w1 w2=>Below w1.heap.size w1 w2)
       (fun _ w'=>Below wr.heap.size wr w')
       (fun i v w'=>match i with
        | 14=>v=.int .i64 K
        | _=>True)
       ?_ (Ba _ _).drew ?_ ?_
      .intro i v w1 w2 hf hb;split at hf
       .exact hf
       .trivial
      .simp only[Bb,Nat.reduceAdd];refine⟨?_,?_,?_,?_,?_,?_,?_,?_,?_,?_,?_,?_,?_,?_,?_,?_,?_,trivial⟩
       all_goals intro D sp w' hD hW hdp hbx'
       case refine_8=>
        (with_reducible refine Ah (w1:=w') (v:=.pointer (some ⟨g,j+1,none⟩)) ?_ ?_ ?_)
        .simp[Region.wanted,yielded,Act.put,go_sem]
        .simp[execOp,Act.eval,Act.put,go_sem,hn1,hj9]
        .exact⟨rfl,rfl⟩
       case refine_9=>
        have c0:=(HSO.out.row.below hbx' HSO.out.row.lt).cell HXA.out
        with_reducible refine Ad ?_ ?_
        all_goals simp[Region.wanted,yielded,execOp,Act.eval,Act.put,go_sem,c0]
       case refine_12=>
        (with_reducible refine Ah (w1:=w') (v:=.int .i64 (j:Nat)) ?_ ?_ ?_)
        .simp[Region.wanted,yielded,Act.put,go_sem]
        .simp[execOp,Act.eval,Act.put,go_sem,hwj]
        .exact⟨rfl,rfl⟩
       case refine_13=>
        (with_reducible refine Ah (w1:=w') (v:=.pointer (some ⟨g,j,none⟩)) ?_ ?_ ?_)
        .simp[Region.wanted,yielded,Act.put,go_sem]
        .simp[execOp,Act.eval,Act.put,go_sem,hn2]
        .exact⟨rfl,rfl⟩
       case refine_14=>
        have c0:=(HSO.out.row.below hbx' HSO.out.row.lt).cell HXB.out
        with_reducible refine Ad ?_ ?_
        all_goals simp[Region.wanted,yielded,execOp,Act.eval,Act.put,go_sem,c0]
       case refine_15=>
        (with_reducible refine Ac (w1:=w') (f := 24) (args:=#[.agg #[.slice xa.1 xa.2.1 xa.2.2],.agg #[.slice xb.1 xb.2.1 xb.2.2]]) ?_ ?_ ?_)
        .simp[Region.wanted,yielded,Act.put,go_sem]
        .simp[Act.eval,Act.put,go_sem]
        .refine(Hs (HFA.out.below hbx') (HFB.out.below hbx') he he).mono ?_;rintro en w9 ⟨_,rfl,rfl,hb⟩;rw[HK.out];exact⟨_,rfl,hb,rfl,Af hbx' hb⟩
       case refine_16=>
        have k14:(sp 14)=.int .i64 K:=(hdp 14 (mq (by kernel_rfl))).2
        with_reducible refine Ad ?_ ?_
        all_goals simp[Region.wanted,yielded,execOp,Act.eval,Act.put,go_sem,k14,hK]
       all_goals ((with_reducible refine Ad ?_ ?_);all_goals first|(simp only[Region.wanted];done)|simp[Region.wanted,yielded,execOp,Act.eval,Act.put,go_sem])
      .intro sp w7 hsp hbx';have HS7:=Ab (HSO.out.later hbx');clear hsp hbx';simp only[Al,Nat.reduceAdd];generalize sp 14=y14 at *
       go_simp
       have c1:=HS7.out.row.cell HXA.out;have c2:=HS7.out.row.cell HXB.out;have f1:=HS7.out.row.free (j+1);have f2:=HS7.out.row.free j;have HS8:Aa (Iw w0 e g rest Ns ((us.set (j+1) xb).set j xa) ((Ms.set (j+1) B).set j A) ((w7.setCell ⟨g,j+1,none⟩ (.slice xb.1 xb.2.1 xb.2.2)).setCell ⟨g,j,none⟩ (.slice xa.1 xa.2.1 xa.2.2)).drew):=⟨(HS7.out.swap HXA.out HXB.out HA.out HB.out rfl).later ((Ba _ _).drew)⟩
       have HI8:=Ab (HI.out.swap HA.out HB.out (HKN.out.1 hK));go_wp2
       go_region
       clear c1 c2 f1 f2;go_wp2;go_roundw
       case rel=>exact⟨j,_,_,by go_num,by omega,HS8,HI8⟩
       case measure=>simp[intOf]
     .go_wp2;refine Ak (by kernel_rfl) (by kernel_rfl)
       [some (.int .i64 ((j+1:Nat):Int)),some (.int .i64 0),some (.bool true),some (.bool true),some (.func (.func 24) #[] #[]),some (.slice (some ⟨g,0,none⟩) n cap),some (.int .i64 ((j+1:Nat):Int)),some (.pointer (some ⟨g,j+1,none⟩)),some (.agg #[.slice xa.1 xa.2.1 xa.2.2]),some (.slice (some ⟨g,0,none⟩) n cap),some (.int .i64 ((j+1:Nat):Int)),some (.int .i64 (j:Nat)),some (.pointer (some ⟨g,j,none⟩)),some (.agg #[.slice xb.1 xb.2.1 xb.2.2]),none,some (.bool false),some (.bool false)]
       [false,false,false,false,false,false,false,false,false,false,false,false,false,false,true,false,false] rfl
       (fun w1 w2=>Below w1.heap.size w1 w2)
       (fun _ w'=>Below wr.heap.size wr w')
       (fun i v w'=>match i with
        | 14=>v=.int .i64 K
        | _=>True)
       ?_ (Ba _ _).drew ?_ ?_
      .intro i v w1 w2 hf hb;split at hf
       .exact hf
       .trivial
      .simp only[Bb,Nat.reduceAdd];refine⟨?_,?_,?_,?_,?_,?_,?_,?_,?_,?_,?_,?_,?_,?_,?_,?_,?_,trivial⟩
       all_goals intro D sp w' hD hW hdp hbx'
       case refine_8=>
        (with_reducible refine Ah (w1:=w') (v:=.pointer (some ⟨g,j+1,none⟩)) ?_ ?_ ?_)
        .simp[Region.wanted,yielded,Act.put,go_sem]
        .simp[execOp,Act.eval,Act.put,go_sem,hn1,hj9]
        .exact⟨rfl,rfl⟩
       case refine_9=>
        have c0:=(HSO.out.row.below hbx' HSO.out.row.lt).cell HXA.out
        with_reducible refine Ad ?_ ?_
        all_goals simp[Region.wanted,yielded,execOp,Act.eval,Act.put,go_sem,c0]
       case refine_12=>
        (with_reducible refine Ah (w1:=w') (v:=.int .i64 (j:Nat)) ?_ ?_ ?_)
        .simp[Region.wanted,yielded,Act.put,go_sem]
        .simp[execOp,Act.eval,Act.put,go_sem,hwj]
        .exact⟨rfl,rfl⟩
       case refine_13=>
        (with_reducible refine Ah (w1:=w') (v:=.pointer (some ⟨g,j,none⟩)) ?_ ?_ ?_)
        .simp[Region.wanted,yielded,Act.put,go_sem]
        .simp[execOp,Act.eval,Act.put,go_sem,hn2]
        .exact⟨rfl,rfl⟩
       case refine_14=>
        have c0:=(HSO.out.row.below hbx' HSO.out.row.lt).cell HXB.out
        with_reducible refine Ad ?_ ?_
        all_goals simp[Region.wanted,yielded,execOp,Act.eval,Act.put,go_sem,c0]
       case refine_15=>
        (with_reducible refine Ac (w1:=w') (f := 24) (args:=#[.agg #[.slice xa.1 xa.2.1 xa.2.2],.agg #[.slice xb.1 xb.2.1 xb.2.2]]) ?_ ?_ ?_)
        .simp[Region.wanted,yielded,Act.put,go_sem]
        .simp[Act.eval,Act.put,go_sem]
        .refine(Hs (HFA.out.below hbx') (HFB.out.below hbx') he he).mono ?_;rintro en w9 ⟨_,rfl,rfl,hb⟩;rw[HK.out];exact⟨_,rfl,hb,rfl,Af hbx' hb⟩
       case refine_16=>
        have k14:(sp 14)=.int .i64 K:=(hdp 14 (mq (by kernel_rfl))).2
        with_reducible refine Ad ?_ ?_
        all_goals simp[Region.wanted,yielded,execOp,Act.eval,Act.put,go_sem,k14,hK]
       all_goals ((with_reducible refine Ad ?_ ?_);all_goals first|(simp only[Region.wanted];done)|simp[Region.wanted,yielded,execOp,Act.eval,Act.put,go_sem])
      .intro sp w7 hsp hbx';have HS7:=Ab (HSO.out.later hbx');clear hsp hbx';simp only[Al,Nat.reduceAdd];generalize sp 14=y14 at *
       go_simp
       go_wp2;have HSR:Aa _:=⟨HI.out.done (.inr fun a b hb ha=>by
        have e1:=HA.out;have e2:=HB.out;rw[ha]at e1;cases e1
        have hb9:Ms[j]? = some b:=hb;rw[hb9]at e2;cases e2
        have:=HKN.out;omega) (by rw[HSO.out.perm.length_eq,HN.out];exact hin)⟩
       go_roundw
       case rel=>exact⟨i+1,us,Ms,by go_num,by omega,HS7,HSR⟩
       case measure=>simp[intOf];omega
  .have hin':¬(i:Int)<n:=by omega
   have HSR:Aa (jD n Ms):=⟨fun p r a b h1 h2=>HSr.out p r a b h1 (by omega)⟩
   go_wp2
   go_end0
   exact⟨⟨_,rfl⟩,us,Ms,HSo.out,HSR.out⟩
end Go.Proofs.YtokhckjemidbpaaGreatDoor
