/- Numbers taken into a group's ring, in a row; how many bits the greatest of a row has. -/
import Derived.Test.YtokhckjemidbpaaGreatDoorGqB
import Derived.Test.YtokhckjemidbpaaGreatDoorCpF
set_option maxRecDepth 1000000
set_option maxHeartbeats 16000000
set_option linter.all false
namespace Go.Proofs.YtokhckjemidbpaaGreatDoor
open Go Go.RowKit Go.Proofs.YtokhckjemidbpaaGreatDoor.Flow
def sv (x:Option Addr×Nat×Nat):Value:=.slice x.1 x.2.1 x.2.2
def Dh (w:World)(g:Nat)(us:List (Option Addr×Nat×Nat)):Prop:=w.heap[g]? = some (.cells (us.map sv).toArray 37 (0,0))
theorem Dh.lt {w:World}{g:Nat}{us:List (Option Addr×Nat×Nat)}(h:Dh w g us):g<w.heap.size:=(Gg h).1
theorem Dh.below {w w':World}{g B:Nat}{us:List (Option Addr×Nat×Nat)}(h:Dh w g us)(hb:Below B w w')(hg:g<B):Dh w' g us:=by
 unfold Dh at *;rw[hb.block g hg];exact h
theorem Dh.cell {w:World}{g j:Nat}{us:List (Option Addr×Nat×Nat)}{x:Option Addr×Nat×Nat}(h:Dh w g us)(hj:us[j]? = some x):w.cell? ⟨g,j,none⟩=some (.slice x.1 x.2.1 x.2.2):=by
 unfold Dh at h;simp[World.cell?,h,hj,sv]
theorem Dh.free {w:World}{g:Nat}{us:List (Option Addr×Nat×Nat)}(h:Dh w g us)(j:Nat):w.frozen? ⟨g,j,none⟩=false:=by
 unfold Dh at h;simp[World.frozen?,h]
theorem Dh.set {w:World}{g:Nat}{us:List (Option Addr×Nat×Nat)}(h:Dh w g us)(j:Nat)(p:Option Addr)(n c:Nat):Dh (w.setCell ⟨g,j,none⟩ (.slice p n c)) g (us.set j (p,n,c)):=by
 unfold Dh at *;simp[World.setCell,Array.getElem?_modify,h,List.map_set,sv]
theorem Dh.apart {w:World}{p:Option Addr}{n c N g:Nat}{us:List (Option Addr×Nat×Nat)}(hb:Dh w g us)(h:Ag w p n c N)(h0:0<n):∀q,p=some q->q.block≠g:=by
 obtain⟨ws,r1,r2,r3,r4⟩:=h.ex;intro a ha hab;obtain⟨b',off,k1,k2,k3⟩:=r1.pos h0;rw[k1]at ha;cases ha
 have hbb:b'=g:=hab;subst hbb;have h1:=k3 0 (ws.getD 0 0) (by rw[Dy];simp[show 0<ws.length by rw[<-r1.len];exact h0]);rw[Nat.add_zero]at h1
 rcases Nat.lt_or_ge off us.length with h2|h2
 .rw[hb.cell (List.getElem?_eq_getElem h2)]at h1
  cases h1
 .unfold Dh at hb;simp[World.cell?,hb,List.getElem?_eq_none h2]at h1
theorem Dh.nat {w:World}{p:Option Addr}{n c N g:Nat}{us:List (Option Addr×Nat×Nat)}(hb:Dh w g us)(h:Ag w p n c N)(j:Nat)(v:Value):Ag (w.setCell ⟨g,j,none⟩ v) p n c N:=by
 rcases Nat.eq_zero_or_pos n with rfl|h0
 .exact h.empty (by simp)
 .exact h.setCell (a:=⟨g,j,none⟩) (fun q hq=>hb.apart h h0 q hq) v
theorem Am.store_row {B:Nat}{w:World}{g:Nat}{us:List (Option Addr×Nat×Nat)}(hb:Dh w g us)(hB:B<=g)(j:Nat)(v:Value):Am B w (w.setCell ⟨g,j,none⟩ v) :=
 ⟨(Ba _ _).setCell hB _,fun _ _ _ _ k=>hb.nat k j v⟩
theorem RG.store_row {B:Nat}{wx:World}{l:List (Nat×Obj)}{w:World}{g:Nat}{us:List (Option Addr×Nat×Nat)}(h:RG B wx l w)(hb:Dh w g us)(hB:B<=g)(hn:∀x∈l,x.1≠g)(j:Nat)(v:Value):RG B wx l (w.setCell ⟨g,j,none⟩ v) :=
 ⟨h.keep.trans (Am.store_row hb hB j v),by simpa using h.base,fun x hx=>by
  have:=hn x hx;simp[World.setCell,Array.getElem?_modify,this.symm];exact h.blk x hx⟩
structure dU (d:Bool) (g:Nat) (us:List (Option Addr×Nat×Nat)) (k N:Nat) (w:World):Prop where
 z:d=false->Dh w g us
 o:d=true->∃p n c,Dh w g (us.set k (p,n,c))/\Ag w p n c N
theorem dU.later {d:Bool}{g k N:Nat}{us:List (Option Addr×Nat×Nat)}{w w':World}(h:dU d g us k N w)(hb:Below w.heap.size w w'):dU d g us k N w' :=
 ⟨fun e=>(h.z e).below hb (h.z e).lt,fun e=>let ⟨p,n,c,h1,h2⟩:=h.o e;⟨p,n,c,h1.below hb h1.lt,h2.below hb⟩⟩
theorem dU.put {g k N:Nat}{us:List (Option Addr×Nat×Nat)}{w:World}(h:dU false g us k N w){p:Option Addr}{n c:Nat}(hx:Ag w p n c N):dU true g us k N (w.setCell ⟨g,k,none⟩ (.slice p n c)) :=
 ⟨(fun e=>by cases e),fun _=>⟨p,n,c,(h.z rfl).set k p n c,(h.z rfl).nat hx k _⟩⟩
theorem Nf (n:Nat)(h:n<=1000000)(w:World):(Instr.makeSlice 62 (.int .i64 (n:Nat)) (.int .i64 (n:Nat))).run Tryz.prog w =
  .ok (.slice (some ⟨w.heap.size,0,none⟩) n n) (w.alloc (.cells (madeCells #[.slice none 0 0] n) 37)):=by
 obtain⟨i,hi,hz,hs,hb⟩:=info_parts Tryz.info_Nat;have:=run_make (P:=Tryz.prog) w 62 37 i (.agg #[.slice none 0 0]) Tryz.underlying62 hi hz .i64 .i64 n n (by omega) (by omega) (by rw[hb];omega) (by omega);simp only[Int.toNat_natCast,hs,Nat.mul_one]at this;rw[this];rfl
theorem Dh.made (w:World)(n:Nat):Dh (w.alloc (.cells (madeCells #[.slice none 0 0] n) 37)) w.heap.size (List.replicate n (none,0,0)):=by
 unfold Dh;have h:=toList_madeCells_one (Value.slice none 0 0) n;have h2:madeCells #[Value.slice none 0 0] n=((List.replicate n ((none,0,0):Option Addr×Nat×Nat)).map sv).toArray:=by
  rw[<-Array.toArray_toList (xs:=madeCells #[Value.slice none 0 0] n),h,List.map_replicate];rfl
 rw[<-h2];exact heap_alloc_new w _
def Qq (w:World)(e:Nat)(us:List (Option Addr×Nat×Nat))(Ns:List Nat)(k:Nat):Prop:=∀j N,j<k->Ns[j]? = some N->∃x,us[j]? = some x/\Ag w x.1 x.2.1 x.2.2 N/\N<An e
theorem Qq.keep {w w':World}{B e k:Nat}{us:List (Option Addr×Nat×Nat)}{Ns:List Nat}(h:Qq w e us Ns k)(hk:Am B w w'):Qq w' e us Ns k:=fun j N hj hN=>
 let ⟨x,h1,h2,h3⟩:=h j N hj hN
 ⟨x,h1,hk.nat _ _ _ _ h2,h3⟩
theorem Qq.step {w:World}{e k N:Nat}{us:List (Option Addr×Nat×Nat)}{Ns:List Nat}(h:Qq w e us Ns k)(hk:k<us.length)(hN:Ns[k]? = some N){p:Option Addr}{n c:Nat}(hn:Ag w p n c N)(hl:N<An e):Qq w e (us.set k (p,n,c)) Ns (k+1):=fun j M hj hM=>by
 rcases Nat.lt_or_ge j k with h1|h1
 .obtain⟨x,h2,h3⟩:=h j M h1 hM;exact⟨x,by rw[List.getElem?_set_ne (by omega)];exact h2,h3⟩
 .obtain rfl:j=k:=by omega
  rw[hN]at hM;cases hM
  exact⟨(p,n,c),List.getElem?_set_self hk,hn,hl⟩
theorem Qq.plist {w:World}{g e n:Nat}{us:List (Option Addr×Nat×Nat)}{Ns:List Nat}(h:Qq w e us Ns n)(hr:Dh w g us)(hn:Ns.length=n)(hl:n<=1000000):Aq w e (some ⟨g,0,none⟩) n n Ns :=
 ⟨hn.symm,Av _,by omega,(fun e=>by cases e),fun _=>⟨g,0,rfl,hr.lt,fun i N hN=>by
  have hi:i<n:=by have:=(List.getElem?_eq_some_iff.1 hN).1;omega
  obtain⟨x,h1,h2,h3⟩:=h i N hi hN;exact⟨x.1,x.2.1,x.2.2,by rw[Nat.zero_add];exact hr.cell h1,h2,h3⟩⟩⟩
theorem kD {w:World}{e n c:Nat}{p:Option Addr}{Es:List Nat}(h:Aq w e p n c Es)(he:e<=200)(hn:n<=1000000) :
  Calls Tryz.prog 197 #[.slice p n c] w fun en w'=>en=.returned (.int .i64 (Gk Es:Nat))/\Below w.heap.size w w':=by
 have HP:=Ab h;have HLN:=Ab h.len;clear h;go_enter Tryz.func197,Tryz.ntmps197;go_wp2
 go_loopw [3,5,8] (fun mv _ iv wr=>∃k:Nat,k<=n/\iv=.int .i64 k/\mv=.int .i64 (Gk (Es.take k):Nat)/\Aa (Below w.heap.size w wr)) (fun _ _ iv _=>n-(intOf iv).toNat)
 case atStart=>exact⟨0,by omega,rfl,rfl,⟨Ba _ _⟩⟩
 case round=>
  obtain⟨k,hk,rfl,hm,HB⟩:=hrel;obtain⟨M,hM⟩:∃M,Gk (Es.take k)=M:=⟨_,rfl⟩
  rw[hM]at hm
  subst hm
  by_cases hkn:k<n
  .obtain⟨X,hXk⟩:∃X,Es[k]? = some X:=⟨Es[k]'(by rw[<-HLN.out];exact hkn),List.getElem?_eq_getElem _⟩
   obtain⟨b,off,rfl,hb,hc⟩:=(HP.out.below HB.out).at_ (by omega)
   obtain⟨q,m,d,hx,hnx,hlim⟩:=hc k X hXk;have hm9:m<1000000:=by have:=hnx.len_le hlim;omega
   have hbw:Below wr.heap.size wr (wr.alloc (.cells #[.slice q m d] 37)):=Bq;have hbx:=Af.made wr (.slice q m d);obtain⟨wb,hwb⟩:∃wb,wr.alloc (.cells #[.slice q m d] 37)=wb:=⟨_,rfl⟩
   rw[hwb]at hbw hbx
   have HNX:=Ab (hnx.below hbw);have HBW:=Ab (Ae HB.out hbw);have cb:=hbx.cell;have HT:Aa (Gk (Es.take (k+1))=max M (Bg X)):=⟨by rw[Cx hXk,Sa,hM]⟩
   have HL:Aa (Bg X<=10000):=⟨by have:=If hlim;omega⟩
   have hkn':(k:Int)<n:=by omega
   clear hc hnx hlim hXk hM hbw hbx hb
   go_wp2_with fail
   refine(Fr wb q m d X HNX.out hm9).mono ?_;rintro en w1 ⟨rfl,hb1⟩;have HB1:=Ab (Ae HBW.out hb1);obtain⟨L,hL⟩:∃L,Bg X=L:=⟨_,rfl⟩
   rw[hL]at HT HL ⊢
   clear hb1 hL cb
   by_cases hml:M<L
   .have hml':(M:Int)<L:=by omega
    have hml2:¬(L:Int)<=M:=by omega
    have hml3:¬(L:Int)<M:=by omega
    have hmx:max (M:Int) (L:Int)=(L:Int):=by omega
    have HTT:Aa (Gk (Es.take (k+1))=L):=⟨by rw[HT.out];omega⟩
    go_wp2;go_roundw
    case rel=>exact⟨k+1,by omega,by go_num,by rw[HTT.out],HB1⟩
    case measure=>simp[intOf];omega
   .have hml':¬(M:Int)<L:=by omega
    have hml2:(L:Int)<=M:=by omega
    have hmx:max (M:Int) (L:Int)=(M:Int):=by omega
    have HTT:Aa (Gk (Es.take (k+1))=M):=⟨by rw[HT.out];omega⟩
    go_wp2;go_roundw
    case rel=>exact⟨k+1,by omega,by go_num,by rw[HTT.out],HB1⟩
    case measure=>simp[intOf];omega
  .obtain rfl:k=n:=by omega
   have hkn':¬(k:Int)<k:=by omega
   have HMM:Aa (Gk Es=M):=⟨by rw[<-hM,List.take_of_length_le (by rw[<-HLN.out];exact Av _)]⟩
   clear hM;go_wp2;go_ret;exact⟨by rw[HMM.out];rfl,HB.out⟩
theorem lE {w:World}{e b P Q G H n c:Nat}{p:Option Addr}{Bs:List Nat}(hg:Au w b P Q G H)(h:Aq w e p n c Bs)(he:e<=200)(hn:n<=1000) :
  Calls Tryz.prog 196 #[.pointer (some ⟨b,0,none⟩),.slice p n c] w fun en w'=>∃g,en=.returned (.slice (some ⟨g,0,none⟩) n n)/\Aq w' 33 (some ⟨g,0,none⟩) n n (Bs.map fun x=>x%P)/\Below w.heap.size w w':=by
 obtain⟨rp,rq,pg,ng,cg,ph,nh,ch,g1,g2,_⟩:=hg.ex;have HL:Aa (b<w.heap.size/\rp<w.heap.size):=⟨hg.lt,g2.at_.lt⟩
 have HLN:=Ab h.len;have HP:=Ab h;have HGA:=Ab g1;have HR:=Ab g2;have hmk:=fun w=>Nf n (by omega) w
 obtain⟨w0,hw0⟩:∃w0,w.alloc (.cells (madeCells #[.slice none 0 0] n) 37)=w0:=⟨_,rfl⟩
 have hb0:Below w.heap.size w w0:=by rw[<-hw0];exact(Ba _ _).alloc (Av _) _
 have HS0:Aa (Dh w0 w.heap.size (List.replicate n (none,0,0))):=⟨by rw[<-hw0];exact Dh.made w n⟩
 have HB0:=Ab hb0;clear hg h g1 g2 hb0;go_enter Tryz.func196,Tryz.ntmps196;go_wp2
 go_loopw [6,7,13] (fun _ _ iv wr=>∃(k:Nat) (us:List (Option Addr×Nat×Nat)),k<=n/\iv=.int .i64 k/\us.length=n/\Aa (Dh wr w.heap.size us)/\Aa (Qq wr 33 us (Bs.map fun x=>x%P) k)/\Aa (Below w.heap.size w wr)) (fun _ _ iv _=>n-(intOf iv).toNat)
 case atStart=>exact⟨0,List.replicate n (none,0,0),by omega,rfl,by simp,HS0,⟨fun j N hj=>by omega⟩,HB0⟩
 case round=>
  obtain⟨k,us,hk,rfl,hus,HSr,HVr,HBr⟩:=hrel
  by_cases hkn:k<n
  .obtain⟨X,hXk⟩:∃X,Bs[k]? = some X:=⟨Bs[k]'(by rw[<-HLN.out];exact hkn),List.getElem?_eq_getElem _⟩
   obtain⟨b2,off,rfl,hb,hc⟩:=(HP.out.below HBr.out).at_ (by omega)
   obtain⟨q,m,d,hx,hnx,hlim⟩:=hc k X hXk;have HUK:Aa (us[k]? = some (us[k]'(by omega))):=⟨List.getElem?_eq_getElem _⟩
   have hbw:Below wr.heap.size wr (wr.alloc (.cells #[.slice q m d] 37)):=Bq;have hbx:=Af.made wr (.slice q m d);obtain⟨wb,hwb⟩:∃wb,wr.alloc (.cells #[.slice q m d] 37)=wb:=⟨_,rfl⟩
   rw[hwb]at hbw hbx
   have HBX:=Ab hbx;have HXb:=Ab ((Fit.of hnx hlim).below hbw);have HBb:=Ab (Ae HBr.out hbw);have HGr:=Ab ((HBb.out.block b HL.out.1).trans HGA.out);have HRb:=Ab (HR.out.below HBb.out);have HSb:=Ab (HSr.out.below hbw HSr.out.lt);have HVb:=Ab (HVr.out.keep (B:=w.heap.size) (Am.of hbw HBr.out.size));have HNE:Aa (∀x∈([(wr.heap.size,.cells #[.slice q m d] 37 (0,0))]:List (Nat×Obj)),x.1≠w.heap.size):=⟨List.forall_mem_cons.2 ⟨by simp only;have:=HSr.out.lt;omega,fun x hx=>by cases hx⟩⟩
   have HNk:Aa ((Bs.map fun x=>x%P)[k]? = some (X%P)):=⟨by rw[List.getElem?_map,hXk];rfl⟩
   have HPl:Aa (X%P<An 33):=⟨Nat.lt_trans (Nat.mod_lt _ (by have:=HR.out.two;omega)) HR.out.lim⟩
   have hkn':(k:Int)<n:=by omega
   clear hc hnx hlim hXk hbw hbx hb hmk;go_wp2;refine Aj (by kernel_rfl) (by kernel_rfl)
    [some (.slice (some ⟨w.heap.size,0,none⟩) n n),some (.int .i64 (k:Nat)),some (.pointer (some ⟨b,0,none⟩)),some (.pointer (some ⟨b,0,none⟩)),some (.pointer (some ⟨b,0,none⟩)),some (.pointer (some ⟨rp,0,none⟩)),some (.agg #[.slice q m d]),none,some (.pointer (some ⟨w.heap.size,k,none⟩)),none]
    [false,false,false,false,false,false,false,true,false,true] rfl
    (fun w1 w2=>Am (w.heap.size) w1 w2)
    (fun D sp w'=>RG (w.heap.size) wb [(wr.heap.size,.cells #[.slice q m d] 37 (0,0))] w'/\dU (D 9) (w.heap.size) us k (X%P) w')
    (fun i v w'=>match i with
     | 7=>Fit 33 (X%P) v w'
     | _=>True)
    ?_ ⟨RG.start HBb.out.size (List.forall_mem_cons.2 ⟨HBX.out,fun x hx=>by cases hx⟩),⟨fun _=>HSb.out,fun e=>by cases e⟩⟩ ?_ ?_
   .intro i v w1 w2 hf hb;split at hf
    .exact hf.keep hb
    .trivial
   .simp only[Az,Nat.reduceAdd];refine⟨?_,?_,?_,?_,?_,?_,?_,?_,?_,?_,trivial⟩
    all_goals intro D sp w' hD hW hdp hg
    case refine_6=>
     have c0:=(Cy ((hg.1.keep.bel.block b HL.out.1).trans HGr.out)).1
     with_reducible refine Ad ?_ ?_
     all_goals simp[Region.wanted,yielded,execOp,Act.eval,Act.put,go_sem,c0]
    case refine_7=>
     have c0:w'.cell? ⟨wr.heap.size,0,none⟩=some (.slice q m d):=Af.cell (hg.1.of List.mem_cons_self)
     with_reducible refine Ad ?_ ?_
     all_goals simp[Region.wanted,yielded,execOp,Act.eval,Act.put,go_sem,c0]
    case refine_8=>
     (with_reducible refine Ac (w1:=w') (f := 31) (args:=#[.pointer (some ⟨rp,0,none⟩),.agg #[.slice q m d]]) ?_ ?_ ?_)
     .simp[Region.wanted,yielded,Act.put,go_sem]
     .simp[Act.eval,Act.put,go_sem]
     .refine(Ce (HRb.out.keep HL.out.2 hg.1.keep) (HXb.out.keep hg.1.keep) (by omega)).mono ?_;rintro en w9 ⟨u,rfl,hu,hb⟩;exact⟨u,rfl,Am.of hb hg.1.base,hu,hg.1.later hb,by simpa [upd]using hg.2.later hb⟩
    case refine_9=>
     have hnk:¬n<=k:=Nat.not_le.2 hkn
     with_reducible refine Ad ?_ ?_
     all_goals simp[Region.wanted,yielded,execOp,Act.eval,Act.put,go_sem,hnk]
    case refine_10=>
     have hx:∃p n c,sp 7=.agg #[.slice p n c]/\Ag w' p n c (X%P)/\X%P<An (33):=(hdp 7 (mq (by kernel_rfl))).2
     (with_reducible refine Aw hx fun p hx1=>Aw hx1 fun n hx2=>Aw hx2 fun c hx3=>?_)
     have h1:=hx3.1;rw[hD]at hg
     have hs:=hg.2.1 rfl;have h6:=hs.cell HUK.out;have h7:=hs.free k
     (with_reducible refine Ap (w1:=w'.setCell ⟨w.heap.size,k,none⟩ (.slice p n c)) ?_ ?_ ?_)
     .simp[Region.wanted,yielded,Act.put,go_sem]
     .simp[execOp,Act.eval,Act.put,go_sem,h1,h6,h7]
     .refine⟨Am.store_row hs (Av _) _ _,trivial,hg.1.store_row hs (Av _) HNE.out _ _,?_⟩;have h8:=hg.2.put hx3.2.1;simpa [upd]using h8
    all_goals ((with_reducible refine Ad ?_ ?_);all_goals first|(simp only[Region.wanted];done)|simp[Region.wanted,yielded,execOp,Act.eval,Act.put,go_sem])
   .intro sp w8 hsp hg;obtain⟨hg1,hg2⟩:=hg;obtain⟨pz,nz,cz,hs8,hn8⟩:=hg2.o rfl;have HS8:=Ab hs8;have HV8:=Ab ((HVb.out.keep hg1.keep).step (by omega) HNk.out hn8 HPl.out);have HB8:=Ab (HBb.out.trans hg1.keep.bel);have hlen:(us.set k (pz,nz,cz)).length=n:=by rw[List.length_set];exact hus
    have HLEN:=Ab hlen;clear hsp hg1 hg2 hs8 hn8 hlen;simp only[Al,Nat.reduceAdd];generalize sp 7=y7,sp 9=y9 at *
    go_simp
    go_wp2;go_roundw
    case rel=>exact⟨k+1,us.set k (pz,nz,cz),by omega,by go_num,HLEN.out,HS8,HV8,HB8⟩
    case measure=>simp[intOf];omega
  .obtain rfl:k=n:=by omega
   have hkn':¬(k:Int)<k:=by omega
   have HPL:=Ab (HVr.out.plist HSr.out (by rw[List.length_map];exact HLN.out.symm) (by omega));clear hmk;go_wp2;go_ret;exact⟨w.heap.size,rfl,HPL.out,HBr.out⟩
end Go.Proofs.YtokhckjemidbpaaGreatDoor
