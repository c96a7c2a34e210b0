/- The product of powers of a group, bit by bit of all exponents at once. -/
import Derived.Test.YtnbmfaihlefgfaaGreatDoorGqB
set_option maxRecDepth 1000000
set_option maxHeartbeats 16000000
set_option linter.all false
namespace Go.Proofs.YtnbmfaihlefgfaaGreatDoor
open Go Go.RowKit Go.Proofs.YtnbmfaihlefgfaaGreatDoor.Flow
def sv (x:Option Addr×Nat×Nat):Value:=.slice x.1 x.2.1 x.2.2
def Cz (w:World)(g:Nat)(us:List (Option Addr×Nat×Nat)):Prop:=w.heap[g]? = some (.cells (us.map sv).toArray 36 (0,0))
theorem Cz.lt {w:World}{g:Nat}{us:List (Option Addr×Nat×Nat)}(h:Cz w g us):g<w.heap.size:=(Jb h).1
theorem Cz.below {w w':World}{g B:Nat}{us:List (Option Addr×Nat×Nat)}(h:Cz w g us)(hb:Below B w w')(hg:g<B):Cz w' g us:=by
 unfold Cz at *;rw[hb.block g hg];exact h
theorem Cz.cell {w:World}{g j:Nat}{us:List (Option Addr×Nat×Nat)}{x:Option Addr×Nat×Nat}(h:Cz w g us)(hj:us[j]? = some x):w.cell? ⟨g,j,none⟩=some (.slice x.1 x.2.1 x.2.2):=by
 unfold Cz at h;simp[World.cell?,h,hj,sv]
theorem Cz.free {w:World}{g:Nat}{us:List (Option Addr×Nat×Nat)}(h:Cz w g us)(j:Nat):w.frozen? ⟨g,j,none⟩=false:=by
 unfold Cz at h;simp[World.frozen?,h]
theorem Cz.set {w:World}{g:Nat}{us:List (Option Addr×Nat×Nat)}(h:Cz w g us)(j:Nat)(p:Option Addr)(n c:Nat):Cz (w.setCell ⟨g,j,none⟩ (.slice p n c)) g (us.set j (p,n,c)):=by
 unfold Cz at *;simp[World.setCell,Array.getElem?_modify,h,List.map_set,sv]
theorem Cz.apart {w:World}{p:Option Addr}{n c N g:Nat}{us:List (Option Addr×Nat×Nat)}(hb:Cz w g us)(h:Ah w p n c N)(h0:0<n):∀q,p=some q->q.block≠g:=by
 obtain⟨ws,r1,r2,r3,r4⟩:=h.ex;intro a ha hab;obtain⟨b',off,k1,k2,k3⟩:=r1.pos h0;rw[k1]at ha;cases ha
 have hbb:b'=g:=hab;subst hbb;have h1:=k3 0 (ws.getD 0 0) (by rw[Dd];simp[show 0<ws.length by rw[<-r1.len];exact h0]);rw[Nat.add_zero]at h1
 rcases Nat.lt_or_ge off us.length with h2|h2
 .rw[hb.cell (List.getElem?_eq_getElem h2)]at h1
  cases h1
 .unfold Cz at hb;simp[World.cell?,hb,List.getElem?_eq_none h2]at h1
theorem Cz.nat {w:World}{p:Option Addr}{n c N g:Nat}{us:List (Option Addr×Nat×Nat)}(hb:Cz w g us)(h:Ah w p n c N)(j:Nat)(v:Value):Ah (w.setCell ⟨g,j,none⟩ v) p n c N:=by
 rcases Nat.eq_zero_or_pos n with rfl|h0
 .exact h.empty (by simp)
 .exact h.setCell (a:=⟨g,j,none⟩) (fun q hq=>hb.apart h h0 q hq) v
theorem An.store_row {B:Nat}{w:World}{g:Nat}{us:List (Option Addr×Nat×Nat)}(hb:Cz w g us)(hB:B<=g)(j:Nat)(v:Value):An B w (w.setCell ⟨g,j,none⟩ v) :=
 ⟨(Bg _ _).setCell hB _,fun _ _ _ _ k=>hb.nat k j v⟩
theorem RG.store_row {B:Nat}{wx:World}{l:List (Nat×Obj)}{w:World}{g:Nat}{us:List (Option Addr×Nat×Nat)}(h:RG B wx l w)(hb:Cz w g us)(hB:B<=g)(hn:∀x∈l,x.1≠g)(j:Nat)(v:Value):RG B wx l (w.setCell ⟨g,j,none⟩ v) :=
 ⟨h.keep.trans (An.store_row hb hB j v),by simpa using h.base,fun x hx=>by
  have:=hn x hx;simp[World.setCell,Array.getElem?_modify,this.symm];exact h.blk x hx⟩
structure Wr (d:Bool) (g:Nat) (us:List (Option Addr×Nat×Nat)) (k N:Nat) (w:World):Prop where
 z:d=false->Cz w g us
 o:d=true->∃p n c,Cz w g (us.set k (p,n,c))/\Ah w p n c N
theorem Wr.later {d:Bool}{g k N:Nat}{us:List (Option Addr×Nat×Nat)}{w w':World}(h:Wr d g us k N w)(hb:Below w.heap.size w w'):Wr d g us k N w' :=
 ⟨fun e=>(h.z e).below hb (h.z e).lt,fun e=>let ⟨p,n,c,h1,h2⟩:=h.o e;⟨p,n,c,h1.below hb h1.lt,h2.below hb⟩⟩
theorem Wr.put {g k N:Nat}{us:List (Option Addr×Nat×Nat)}{w:World}(h:Wr false g us k N w){p:Option Addr}{n c:Nat}(hx:Ah w p n c N):Wr true g us k N (w.setCell ⟨g,k,none⟩ (.slice p n c)) :=
 ⟨(fun e=>by cases e),fun _=>⟨p,n,c,(h.z rfl).set k p n c,(h.z rfl).nat hx k _⟩⟩
theorem Rt (n:Nat)(h:n<=1000000)(w:World):(Instr.makeSlice 32 (.int .i64 (n:Nat)) (.int .i64 (n:Nat))).run Tryz.prog w =
  .ok (.slice (some ⟨w.heap.size,0,none⟩) n n) (w.alloc (.cells (madeCells #[.slice none 0 0] n) 36)):=by
 obtain⟨i,hi,hz,hs,hb⟩:=info_parts Tryz.info_Nat;have:=run_make (P:=Tryz.prog) w 32 36 i (.agg #[.slice none 0 0]) Tryz.underlying32 hi hz .i64 .i64 n n (by omega) (by omega) (by rw[hb];omega) (by omega);simp only[Int.toNat_natCast,hs,Nat.mul_one]at this;rw[this];rfl
theorem Cz.made (w:World)(n:Nat):Cz (w.alloc (.cells (madeCells #[.slice none 0 0] n) 36)) w.heap.size (List.replicate n (none,0,0)):=by
 unfold Cz;have h:=toList_madeCells_one (Value.slice none 0 0) n;have h2:madeCells #[Value.slice none 0 0] n=((List.replicate n ((none,0,0):Option Addr×Nat×Nat)).map sv).toArray:=by
  rw[<-Array.toArray_toList (xs:=madeCells #[Value.slice none 0 0] n),h,List.map_replicate];rfl
 rw[<-h2];exact heap_alloc_new w _
def Sl (w:World)(e:Nat)(us:List (Option Addr×Nat×Nat))(Ns:List Nat)(k:Nat):Prop:=∀j N,j<k->Ns[j]? = some N->∃x,us[j]? = some x/\Ah w x.1 x.2.1 x.2.2 N/\N<Ao e
theorem Sl.keep {w w':World}{B e k:Nat}{us:List (Option Addr×Nat×Nat)}{Ns:List Nat}(h:Sl w e us Ns k)(hk:An B w w'):Sl w' e us Ns k:=fun j N hj hN=>
 let ⟨x,h1,h2,h3⟩:=h j N hj hN
 ⟨x,h1,hk.nat _ _ _ _ h2,h3⟩
theorem Sl.step {w:World}{e k N:Nat}{us:List (Option Addr×Nat×Nat)}{Ns:List Nat}(h:Sl w e us Ns k)(hk:k<us.length)(hN:Ns[k]? = some N){p:Option Addr}{n c:Nat}(hn:Ah w p n c N)(hl:N<Ao e):Sl w e (us.set k (p,n,c)) Ns (k+1):=fun j M hj hM=>by
 rcases Nat.lt_or_ge j k with h1|h1
 .obtain⟨x,h2,h3⟩:=h j M h1 hM;exact⟨x,by rw[List.getElem?_set_ne (by omega)];exact h2,h3⟩
 .obtain rfl:j=k:=by omega
  rw[hN]at hM;cases hM
  exact⟨(p,n,c),List.getElem?_set_self hk,hn,hl⟩
theorem Sl.plist {w:World}{g e n:Nat}{us:List (Option Addr×Nat×Nat)}{Ns:List Nat}(h:Sl w e us Ns n)(hr:Cz w g us)(hn:Ns.length=n)(hl:n<=1000000):Bd w e (some ⟨g,0,none⟩) n n Ns :=
 ⟨hn.symm,Av _,by omega,(fun e=>by cases e),fun _=>⟨g,0,rfl,hr.lt,fun i N hN=>by
  have hi:i<n:=by have:=(List.getElem?_eq_some_iff.1 hN).1;omega
  obtain⟨x,h1,h2,h3⟩:=h i N hi hN;exact⟨x.1,x.2.1,x.2.2,by rw[Nat.zero_add];exact hr.cell h1,h2,h3⟩⟩⟩
theorem iP {w:World}{e n c:Nat}{p:Option Addr}{Es:List Nat}(h:Bd w e p n c Es)(he:e<=200)(hn:n<=1000000) :
  Calls Tryz.prog 186 #[.slice p n c] w fun en w'=>en=.returned (.int .i64 (Gs Es:Nat))/\Below w.heap.size w w':=by
 have HP:=Aa h;have HLN:=Aa h.len;clear h;go_enter Tryz.func186,Tryz.ntmps186;go_wp2
 go_loopw [3,5,8] (fun mv _ iv wr=>∃k:Nat,k<=n/\iv=.int .i64 k/\mv=.int .i64 (Gs (Es.take k):Nat)/\Ac (Below w.heap.size w wr)) (fun _ _ iv _=>n-(intOf iv).toNat)
 case atStart=>exact⟨0,by omega,rfl,rfl,⟨Bg _ _⟩⟩
 case round=>
  obtain⟨k,hk,rfl,hm,HB⟩:=hrel;obtain⟨M,hM⟩:∃M,Gs (Es.take k)=M:=⟨_,rfl⟩
  rw[hM]at hm
  subst hm
  by_cases hkn:k<n
  .obtain⟨X,hXk⟩:∃X,Es[k]? = some X:=⟨Es[k]'(by rw[<-HLN.out];exact hkn),List.getElem?_eq_getElem _⟩
   obtain⟨b,off,rfl,hb,hc⟩:=(HP.out.below HB.out).at_ (by omega)
   obtain⟨q,m,d,hx,hnx,hlim⟩:=hc k X hXk;have hm9:m<1000000:=by have:=hnx.len_le hlim;omega
   have hbw:Below wr.heap.size wr (wr.alloc (.cells #[.slice q m d] 36)):=Cy;have hbx:=Af.made wr (.slice q m d);obtain⟨wb,hwb⟩:∃wb,wr.alloc (.cells #[.slice q m d] 36)=wb:=⟨_,rfl⟩
   rw[hwb]at hbw hbx
   have HNX:=Aa (hnx.below hbw);have HBW:=Aa (Ae HB.out hbw);have cb:=hbx.cell;have HT:Ac (Gs (Es.take (k+1))=max M (Al X)):=⟨by rw[Ez hXk,Rr,hM]⟩
   have HL:Ac (Al X<=10000):=⟨by have:=Hj hlim;omega⟩
   have hkn':(k:Int)<n:=by omega
   clear hc hnx hlim hXk hM hbw hbx hb
   go_wp2_with fail
   refine(Ex wb q m d X HNX.out hm9).mono ?_;rintro en w1 ⟨rfl,hb1⟩;have HB1:=Aa (Ae HBW.out hb1);obtain⟨L,hL⟩:∃L,Al X=L:=⟨_,rfl⟩
   rw[hL]at HT HL ⊢
   clear hb1 hL cb
   by_cases hml:M<L
   .have hml':(M:Int)<L:=by omega
    have hml2:¬(L:Int)<=M:=by omega
    have hml3:¬(L:Int)<M:=by omega
    have hmx:max (M:Int) (L:Int)=(L:Int):=by omega
    have HTT:Ac (Gs (Es.take (k+1))=L):=⟨by rw[HT.out];omega⟩
    go_wp2;go_roundw
    case rel=>exact⟨k+1,by omega,by go_num,by rw[HTT.out],HB1⟩
    case measure=>simp[intOf];omega
   .have hml':¬(M:Int)<L:=by omega
    have hml2:(L:Int)<=M:=by omega
    have hmx:max (M:Int) (L:Int)=(M:Int):=by omega
    have HTT:Ac (Gs (Es.take (k+1))=M):=⟨by rw[HT.out];omega⟩
    go_wp2;go_roundw
    case rel=>exact⟨k+1,by omega,by go_num,by rw[HTT.out],HB1⟩
    case measure=>simp[intOf];omega
  .obtain rfl:k=n:=by omega
   have hkn':¬(k:Int)<k:=by omega
   have HMM:Ac (Gs Es=M):=⟨by rw[<-hM,List.take_of_length_le (by rw[<-HLN.out];exact Av _)]⟩
   clear hM;go_wp2;go_ret;exact⟨by rw[HMM.out];rfl,HB.out⟩
theorem jG {w:World}{e b P Q G H n c:Nat}{p:Option Addr}{Bs:List Nat}(hg:Bb w b P Q G H)(h:Bd w e p n c Bs)(he:e<=200)(hn:n<=1000) :
  Calls Tryz.prog 185 #[.pointer (some ⟨b,0,none⟩),.slice p n c] w fun en w'=>∃g,en=.returned (.slice (some ⟨g,0,none⟩) n n)/\Bd w' 33 (some ⟨g,0,none⟩) n n (Bs.map fun x=>x%P)/\Below w.heap.size w w':=by
 obtain⟨rp,rq,pg,ng,cg,ph,nh,ch,g1,g2,_⟩:=hg.ex;have HL:Ac (b<w.heap.size/\rp<w.heap.size):=⟨hg.lt,g2.at_.lt⟩
 have HLN:=Aa h.len;have HP:=Aa h;have HGA:=Aa g1;have HR:=Aa g2;have hmk:=fun w=>Rt n (by omega) w
 obtain⟨w0,hw0⟩:∃w0,w.alloc (.cells (madeCells #[.slice none 0 0] n) 36)=w0:=⟨_,rfl⟩
 have hb0:Below w.heap.size w w0:=by rw[<-hw0];exact(Bg _ _).alloc (Av _) _
 have HS0:Ac (Cz w0 w.heap.size (List.replicate n (none,0,0))):=⟨by rw[<-hw0];exact Cz.made w n⟩
 have HB0:=Aa hb0;clear hg h g1 g2 hb0;go_enter Tryz.func185,Tryz.ntmps185;go_wp2
 go_loopw [6,7,13] (fun _ _ iv wr=>∃(k:Nat) (us:List (Option Addr×Nat×Nat)),k<=n/\iv=.int .i64 k/\us.length=n/\Ac (Cz wr w.heap.size us)/\Ac (Sl wr 33 us (Bs.map fun x=>x%P) k)/\Ac (Below w.heap.size w wr)) (fun _ _ iv _=>n-(intOf iv).toNat)
 case atStart=>exact⟨0,List.replicate n (none,0,0),by omega,rfl,by simp,HS0,⟨fun j N hj=>by omega⟩,HB0⟩
 case round=>
  obtain⟨k,us,hk,rfl,hus,HSr,HVr,HBr⟩:=hrel
  by_cases hkn:k<n
  .obtain⟨X,hXk⟩:∃X,Bs[k]? = some X:=⟨Bs[k]'(by rw[<-HLN.out];exact hkn),List.getElem?_eq_getElem _⟩
   obtain⟨b2,off,rfl,hb,hc⟩:=(HP.out.below HBr.out).at_ (by omega)
   obtain⟨q,m,d,hx,hnx,hlim⟩:=hc k X hXk;have HUK:Ac (us[k]? = some (us[k]'(by omega))):=⟨List.getElem?_eq_getElem _⟩
   have hbw:Below wr.heap.size wr (wr.alloc (.cells #[.slice q m d] 36)):=Cy;have hbx:=Af.made wr (.slice q m d);obtain⟨wb,hwb⟩:∃wb,wr.alloc (.cells #[.slice q m d] 36)=wb:=⟨_,rfl⟩
   rw[hwb]at hbw hbx
   have HBX:=Aa hbx;have HXb:=Aa ((Fit.of hnx hlim).below hbw);have HBb:=Aa (Ae HBr.out hbw);have HGr:=Aa ((HBb.out.block b HL.out.1).trans HGA.out);have HRb:=Aa (HR.out.below HBb.out);have HSb:=Aa (HSr.out.below hbw HSr.out.lt);have HVb:=Aa (HVr.out.keep (B:=w.heap.size) (An.of hbw HBr.out.size));have HNE:Ac (∀x∈([(wr.heap.size,.cells #[.slice q m d] 36 (0,0))]:List (Nat×Obj)),x.1≠w.heap.size):=⟨List.forall_mem_cons.2 ⟨by simp only;have:=HSr.out.lt;omega,fun x hx=>by cases hx⟩⟩
   have HNk:Ac ((Bs.map fun x=>x%P)[k]? = some (X%P)):=⟨by rw[List.getElem?_map,hXk];rfl⟩
   have HPl:Ac (X%P<Ao 33):=⟨Nat.lt_trans (Nat.mod_lt _ (by have:=HR.out.two;omega)) HR.out.lim⟩
   have hkn':(k:Int)<n:=by omega
   clear hc hnx hlim hXk hbw hbx hb hmk;go_wp2;refine Ak (by kernel_rfl) (by kernel_rfl)
    [some (.slice (some ⟨w.heap.size,0,none⟩) n n),some (.int .i64 (k:Nat)),some (.pointer (some ⟨b,0,none⟩)),some (.pointer (some ⟨b,0,none⟩)),some (.pointer (some ⟨b,0,none⟩)),some (.pointer (some ⟨rp,0,none⟩)),some (.agg #[.slice q m d]),none,some (.pointer (some ⟨w.heap.size,k,none⟩)),none]
    [false,false,false,false,false,false,false,true,false,true] rfl
    (fun w1 w2=>An (w.heap.size) w1 w2)
    (fun D sp w'=>RG (w.heap.size) wb [(wr.heap.size,.cells #[.slice q m d] 36 (0,0))] w'/\Wr (D 9) (w.heap.size) us k (X%P) w')
    (fun i v w'=>match i with
     | 7=>Fit 33 (X%P) v w'
     | _=>True)
    ?_ ⟨RG.start HBb.out.size (List.forall_mem_cons.2 ⟨HBX.out,fun x hx=>by cases hx⟩),⟨fun _=>HSb.out,fun e=>by cases e⟩⟩ ?_ ?_
   .intro i v w1 w2 hf hb;split at hf
    .exact hf.keep hb
    .trivial
   .simp only[Bf,Nat.reduceAdd];refine⟨?_,?_,?_,?_,?_,?_,?_,?_,?_,?_,trivial⟩
    all_goals intro D sp w' hD hW hdp hg
    case refine_6=>
     have c0:=(Dj ((hg.1.keep.bel.block b HL.out.1).trans HGr.out)).1
     with_reducible refine Ad ?_ ?_
     all_goals simp[Region.wanted,yielded,execOp,Act.eval,Act.put,go_sem,c0]
    case refine_7=>
     have c0:w'.cell? ⟨wr.heap.size,0,none⟩=some (.slice q m d):=Af.cell (hg.1.of List.mem_cons_self)
     with_reducible refine Ad ?_ ?_
     all_goals simp[Region.wanted,yielded,execOp,Act.eval,Act.put,go_sem,c0]
    case refine_8=>
     (with_reducible refine Ab (w1:=w') (f := 32) (args:=#[.pointer (some ⟨rp,0,none⟩),.agg #[.slice q m d]]) ?_ ?_ ?_)
     .simp[Region.wanted,yielded,Act.put,go_sem]
     .simp[Act.eval,Act.put,go_sem]
     .refine(Ed (HRb.out.keep HL.out.2 hg.1.keep) (HXb.out.keep hg.1.keep) (by omega)).mono ?_;rintro en w9 ⟨u,rfl,hu,hb⟩;exact⟨u,rfl,An.of hb hg.1.base,hu,hg.1.later hb,by simpa [upd]using hg.2.later hb⟩
    case refine_9=>
     have hnk:¬n<=k:=Nat.not_le.2 hkn
     with_reducible refine Ad ?_ ?_
     all_goals simp[Region.wanted,yielded,execOp,Act.eval,Act.put,go_sem,hnk]
    case refine_10=>
     have hx:∃p n c,sp 7=.agg #[.slice p n c]/\Ah w' p n c (X%P)/\X%P<Ao (33):=(hdp 7 (mq (by kernel_rfl))).2
     (with_reducible refine Az hx fun p hx1=>Az hx1 fun n hx2=>Az hx2 fun c hx3=>?_)
     have h1:=hx3.1;rw[hD]at hg
     have hs:=hg.2.1 rfl;have h6:=hs.cell HUK.out;have h7:=hs.free k
     (with_reducible refine Ar (w1:=w'.setCell ⟨w.heap.size,k,none⟩ (.slice p n c)) ?_ ?_ ?_)
     .simp[Region.wanted,yielded,Act.put,go_sem]
     .simp[execOp,Act.eval,Act.put,go_sem,h1,h6,h7]
     .refine⟨An.store_row hs (Av _) _ _,trivial,hg.1.store_row hs (Av _) HNE.out _ _,?_⟩;have h8:=hg.2.put hx3.2.1;simpa [upd]using h8
    all_goals ((with_reducible refine Ad ?_ ?_);all_goals first|(simp only[Region.wanted];done)|simp[Region.wanted,yielded,execOp,Act.eval,Act.put,go_sem])
   .intro sp w8 hsp hg;obtain⟨hg1,hg2⟩:=hg;obtain⟨pz,nz,cz,hs8,hn8⟩:=hg2.o rfl;have HS8:=Aa hs8;have HV8:=Aa ((HVb.out.keep hg1.keep).step (by omega) HNk.out hn8 HPl.out);have HB8:=Aa (HBb.out.trans hg1.keep.bel);have hlen:(us.set k (pz,nz,cz)).length=n:=by rw[List.length_set];exact hus
    have HLEN:=Aa hlen;clear hsp hg1 hg2 hs8 hn8 hlen;simp only[Am,Nat.reduceAdd];generalize sp 7=y7,sp 9=y9 at *
    go_simp
    go_wp2;go_roundw
    case rel=>exact⟨k+1,us.set k (pz,nz,cz),by omega,by go_num,HLEN.out,HS8,HV8,HB8⟩
    case measure=>simp[intOf];omega
  .obtain rfl:k=n:=by omega
   have hkn':¬(k:Int)<k:=by omega
   have HPL:=Aa (HVr.out.plist HSr.out (by rw[List.length_map];exact HLN.out.symm) (by omega));clear hmk;go_wp2;go_ret;exact⟨w.heap.size,rfl,HPL.out,HBr.out⟩
theorem Bd.tight {w:World}{e f:Nat}{p:Option Addr}{n c:Nat}{Ns:List Nat}(h:Bd w e p n c Ns)(hl:∀N∈Ns,N<Ao f):Bd w f p n c Ns:=by
 refine⟨h.len,h.cap,h.max,h.nil,fun h0=>?_⟩;obtain⟨b,off,h1,h2,h3⟩:=h.at_ h0
 exact⟨b,off,h1,h2,fun i N hN=>let ⟨q,m,d,k1,k2,_⟩:=h3 i N hN;⟨q,m,d,k1,k2,hl N (List.mem_of_getElem? hN)⟩⟩
theorem Bd.wide {w:World}{e f:Nat}{p:Option Addr}{n c:Nat}{Ns:List Nat}(h:Bd w e p n c Ns)(hf:e<=f):Bd w f p n c Ns:=by
 refine⟨h.len,h.cap,h.max,h.nil,fun h0=>?_⟩;obtain⟨b,off,h1,h2,h3⟩:=h.at_ h0
 exact⟨b,off,h1,h2,fun i N hN=>let ⟨q,m,d,k1,k2,k3⟩:=h3 i N hN;⟨q,m,d,k1,k2,Dq k3 (Cc hf)⟩⟩
theorem Ej.wide {w:World}{e f:Nat}{p:Option Addr}{n c:Nat}{l:List Bp}(h:Ej w e p n c l)(hf:e<=f):Ej w f p n c l:=by
 refine⟨h.len,h.cap,h.max,h.nil,fun h0=>?_⟩;obtain⟨b,off,h1,h2,h3⟩:=h.at_ h0
 refine⟨b,off,h1,h2,fun i s hs=>?_⟩;obtain⟨q0,m0,d0,q1,m1,d1,q2,m2,d2,k0,k1,k2,k3,k4,k5,k6,k7⟩:=h3 i s hs;exact⟨q0,m0,d0,q1,m1,d1,q2,m2,d2,k0,k1,k2,k3,Dq k4 (Cc hf),k5,Dq k6 (Cc hf),k7.wide hf⟩
theorem bK (w:World)(e:Nat)(l:List Bp)(he:e<=900000):dH 221 #[] w e l (fun s=>@decide (Eg s) (Classical.propDecidable _)):=by
 refine⟨fun W M u _ _ hu=>?_⟩;rw[Array.append_empty];exact bJ hu he
theorem eK (n:Nat)(h:n<=1000000)(w:World):(Instr.makeSlice 32 (.int .i64 0) (.int .i64 (n:Nat))).run Tryz.prog w =
  .ok (.slice (some ⟨w.heap.size,0,none⟩) 0 n) (w.alloc (.cells (madeCells #[.slice none 0 0] n) 36)):=by
 obtain⟨i,hi,hz,hs,hb⟩:=info_parts Tryz.info_Nat;have:=run_make (P:=Tryz.prog) w 32 36 i (.agg #[.slice none 0 0]) Tryz.underlying32 hi hz .i64 .i64 0 n (by omega) (by omega) (by rw[hb];omega) (by omega);simp only[Int.toNat_natCast,hs,Nat.mul_one]at this;rw[this];rfl
theorem Ek.made (w:World)(B n:Nat)(hn:n<=1000000)(hB:B<=w.heap.size)(bad:Nat->Prop):Ek Ah 36 B bad (w.alloc (.cells (madeCells #[.slice Option.none 0 0] n) 36)) (.slice (some ⟨w.heap.size,0,Option.none⟩) 0 n) [] :=
 ⟨[],World.ownsRow_made w _ n hB (by simp only[maxLen];omega) (by rw[size_madeCells,Nat.mul_one]),rfl,fun i N h=>by simp at h⟩
theorem Sf {l:List Bp}{k:Nat}{s:Bp}(h:l[k]? = some s):Bz [] (l.take (k+1)) ↔ Bz [] (l.take k)/\Gq s.n s.base s.ps ((l.take k).map (·.n)):=by
 rw[Ez h,Sg,List.nil_append]
theorem fF {l:List Bp}(k:Nat)(h:Bz [] l):Bz [] (l.take k):=by
 rw[<-List.take_append_drop k l]at h
 exact((Nu _ _ _).1 h).1
open Classical in
theorem mH (f:Nat)(hf:f<=100):∀(w:World) (p:Option Addr) (n c:Nat) (l:List Bp),Ej w 200 p n c l->n<=60->(∀s∈l,s.ps.length<=1000)->(∀s∈l,¬Eg s->s.n<Ao f/\s.base<Ao f/\∀q∈s.ps,q<Ao f) ->
  Calls Tryz.prog 193 #[.slice p n c] w fun en w'=>en=.returned (.int .i64 (if ∃s∈l,Eg s then 4 else if Bz [] l then 0 else 8))/\Below w.heap.size w w':=by
 intro w p n c l h hn hps hlim;have HH:=Aa h;have HLN:=Aa h.len;have HPS:=Aa hps;have HLIM:=Aa hlim;obtain⟨ANS,hANS⟩:∃X:Int,(if ∃s∈l,Eg s then 4 else if Bz [] l then 0 else 8)=X:=⟨_,rfl⟩
 have HANS:=Aa hANS;rw[hANS];clear h hps hlim hANS;have hn64:¬(64:Int)<n:=by omega
 obtain⟨S0,hS0⟩:∃X,l.any (fun s=>decide (Eg s))=X:=⟨_,rfl⟩
 have HS0:=Aa hS0;clear hS0;go_enter Tryz.func193,Tryz.ntmps193
 go_wp2_with fail
 refine(Rc w 200 p n c l _ _ (enters_of Tryz.func221 (by kernel_rfl) rfl) (fun s=>decide (Eg s)) HH.out (bK _ 200 l (by decide))).mono ?_;rintro en w1 ⟨rfl,hb1⟩;rw[HS0.out];have HB1:=Aa hb1;clear hb1
 cases S0 with
 | true=>
  have HF:Ac (ANS=4):=⟨by
   rw[<-HANS.out];obtain⟨s,hs,ht⟩:=List.any_eq_true.1 HS0.out;exact if_pos ⟨s,hs,of_decide_eq_true ht⟩⟩
  go_wp2;go_ret;exact⟨by rw[HF.out];rfl,HB1.out⟩
 | false=>
  have hnl:∀s∈l,¬Eg s:=fun s hs ht=>by
   have:=List.any_eq_false.1 HS0.out s hs;exact this (decide_eq_true ht)
  have HNL:=Aa hnl;have HANS2:Ac ((if Bz [] l then 0 else 8:Int)=ANS):=⟨by
   rw[<-HANS.out];exact(if_neg (fun h=>by obtain⟨s,hs,ht⟩:=h;exact hnl s hs ht)).symm⟩
  have HLT:Ac (∀s∈l,s.n<Ao f/\s.base<Ao f/\∀q∈s.ps,q<Ao f):=⟨fun s hs=>HLIM.out s hs (hnl s hs)⟩
  clear hnl;have hmk:=fun wx=>eK n (by omega) wx
  have HOV:=Aa (Ek.made w1 w.heap.size n (by omega) HB1.out.size (fun g=>w.heap.size<=g));have hbm:Below w1.heap.size w1 (w1.alloc (.cells (madeCells #[.slice none 0 0] n) 36)):=Cy;have HBM:=Aa (Ae HB1.out hbm);clear hbm;go_wp2
  go_loopw [3,5,18] (fun vv _ iv wr=>∃k:Nat,k<=n/\iv=.int .i64 k/\Ac (Below w.heap.size w wr)/\Ac (Ek Ah 36 w.heap.size (fun g=>w.heap.size<=g) wr vv ((l.take k).map (·.n)))/\Ac (Bz [] (l.take k))) (fun _ _ iv _=>n-(intOf iv).toNat)
  case atStart=>exact⟨0,by omega,rfl,HBM,HOV,⟨trivial⟩⟩
  case round=>
   obtain⟨k,hk,rfl,HB,HO,HC⟩:=hrel
   by_cases hkn:k<n
   .obtain⟨S,hSk⟩:∃s,l[k]? = some s:=⟨l[k]'(by rw[<-HLN.out];exact hkn),List.getElem?_eq_getElem _⟩
    have HSk:=Aa hSk;have HM:=Aa (List.mem_of_getElem? hSk);obtain⟨b,off,rfl,hb,hc⟩:=HH.out.at_ (by omega)
    obtain⟨q0,m0,d0,q1,m1,d1,q2,m2,d2,y0,y1,y2,y3,y4,y5,y6,y7⟩:=hc k S hSk;have HNA:=Aa y3;have HNB:=Aa y5;have HNP:=Aa (y7.tight (HLT.out S HM.out).2.2);have hcl:∀o,wr.cell? ⟨b,o,none⟩=w.cell? ⟨b,o,none⟩:=fun o=>HB.out.cell (p:=⟨b,o,none⟩) hb
    have x0:wr.cell? ⟨b,off+k*3,none⟩=some (.slice q0 m0 d0):=by rw[hcl];exact y0
    have x1:wr.cell? ⟨b,off+k*3+1,none⟩=some (.slice q1 m1 d1):=by rw[hcl];exact y1
    have x2:wr.cell? ⟨b,off+k*3+2,none⟩=some (.slice q2 m2 d2):=by rw[hcl];exact y2
    have hkn':(k:Int)<n:=by omega
    have hbx:Below wr.heap.size wr (wr.alloc (.cells #[.slice q0 m0 d0,.slice q1 m1 d1,.slice q2 m2 d2] 182)):=Cy;have HBX3:=Aa (Pg.made 182 wr (.slice q0 m0 d0) (.slice q1 m1 d1) (.slice q2 m2 d2));obtain⟨wa,hwa⟩:∃wa,wr.alloc (.cells #[.slice q0 m0 d0,.slice q1 m1 d1,.slice q2 m2 d2] 182)=wa:=⟨_,rfl⟩
    rw[hwa]at hbx HBX3
    have HBa:=Aa (Ae HB.out hbx);have HOa:=Aa (HO.out.below hbx);have hmem:∀N∈(l.take k).map (·.n),N<Ao f:=fun N hN=>by
     obtain⟨s,hs,rfl⟩:=List.mem_map.1 hN;exact(HLT.out s (List.mem_of_mem_take hs)).1
    have HL60:Ac (((l.take k).map (·.n)).length<=1000):=⟨by rw[List.length_map,List.length_take];omega⟩
    obtain⟨Ks,hKs⟩:∃Ks,(l.take k).map (·.n)=Ks:=⟨_,rfl⟩
    have HKs:=Aa hKs;rw[hKs]at hmem HL60 HOa HO
    clear hKs;obtain⟨nk,hnk⟩:∃nk,Ks.length=nk:=⟨_,rfl⟩
    obtain⟨p1,c1,rfl,hp1⟩:=HOa.out.plist hmem;have HNk:=Aa hnk;rw[hnk]at hp1 HL60 HOa HO
    rw[hnk];clear hnk;have HP1:=Aa hp1;have z0:=HBX3.out.cells.1;have z1:=HBX3.out.cells.2.1;have z2:=HBX3.out.cells.2.2;clear hc hcl y0 y1 y2 y3 y4 y5 y6 y7 hbx hmem hp1 hSk;obtain⟨D,hD⟩:∃X,decide (Gq S.n S.base S.ps Ks)=X:=⟨_,rfl⟩
    have HD:=Aa hD;clear hD
    go_wp2_with fail
    refine(lU f hf wa S.n S.base q0 m0 d0 q1 m1 d1 q2 m2 d2 S.ps _ _ _ _ (HNA.out.below HBa.out) (HLT.out S HM.out).1 (HNB.out.below HBa.out) (HLT.out S HM.out).2.1 (HNP.out.below HBa.out) HP1.out (by rw[HNP.out.len];exact HPS.out S HM.out) HL60.out).mono ?_;rintro en w3 ⟨rfl,hb3⟩;rw[HD.out];have HB3:=Aa (Ae HBa.out hb3);have HO3:=Aa (HOa.out.below hb3);have HX3:=Aa (HBX3.out.below hb3 HBX3.out.lt);clear hb3 x0 x1 x2 z0 z1 z2
    cases D with
    | false=>
     have HF:Ac (ANS=8):=⟨by
      rw[<-HANS2.out,if_neg];intro hh;exact of_decide_eq_false HD.out (by rw[<-HKs.out];exact((Sf HSk.out).1 (fF (k+1) hh)).2)⟩
     go_wp2;go_ret;exact⟨by rw[HF.out];rfl,HB3.out⟩
    | true=>
     have HC':Ac (Bz [] (l.take (k+1))):=⟨(Sf HSk.out).2 ⟨HC.out,by rw[HKs.out];exact of_decide_eq_true HD.out⟩⟩
     have HTk:Ac ((l.take (k+1)).map (·.n)=Ks++[S.n]):=⟨by rw[Ez HSk.out,List.map_append,HKs.out];rfl⟩
     have hb4:Below w3.heap.size w3 (w3.alloc (.cells #[.slice q0 m0 d0] 36)):=Cy;have hx4:(w3.alloc (.cells #[.slice q0 m0 d0] 36)).cell? ⟨w3.heap.size,0,none⟩=some (.slice q0 m0 d0):=(Af.made w3 (.slice q0 m0 d0)).cell;obtain⟨w4,hw4⟩:∃w4,w3.alloc (.cells #[.slice q0 m0 d0] 36)=w4:=⟨_,rfl⟩
     rw[hw4]at hb4 hx4
     have hB4:=Ae HB3.out hb4;have hfirm:Je (fun w=>Ah w q0 m0 d0 S.n) (fun g=>w.heap.size<=g) w4:=Fw.firm (HNA.out.below hB4) fun q hq hle=>by
      have:=Fw.lt HNA.out q hq;omega
     obtain⟨i1,hi1,hz1,hs1,hbb1⟩:=info_parts Tryz.info_Nat;obtain⟨v9,w9,happ,ho9,hg9,_⟩:=(HO3.out.below hb4).app Tryz.underlying32 hi1 hz1 hs1 hbb1 rfl (by decide) hB4.size (a:=⟨w3.heap.size,0,none⟩) (c:=1) (x:=(q0,m0,d0)) hx4 hfirm (fun g hg=>(HO3.out.block g hg).1) (by rw[HNk.out];exact Fb HL60.out (by decide)) 32;have HO9:=Aa ho9;have HB9:Ac (Below w.heap.size w w9):=⟨hB4.grown hg9 hB4.size fun g hg=>(HO3.out.block g hg).1⟩
     have z0:=HX3.out.cells.1;clear hb4 hx4 hB4 hfirm hi1 hz1 hs1 hbb1 ho9 hg9
     go_wp2_with (at_builtin;refine Lib.wpList_append_run _ rfl _ _ _ _ rfl _ _ rfl rfl _ _ happ ?_;refine Sp.out ?_)
     refine⟨?_⟩;clear happ z0;go_wp2;go_roundw
     case rel=>exact⟨k+1,by omega,by go_num,HB9,⟨by rw[HTk.out];exact HO9.out⟩,HC'⟩
     case measure=>simp[intOf];omega
   .obtain rfl:k=n:=by omega
    have hkn':¬(k:Int)<k:=by omega
    have htk:l.take k=l:=List.take_of_length_le (by rw[<-HLN.out];exact Av _);rw[htk]at HC
    have HF:Ac (ANS=0):=⟨by rw[<-HANS2.out,if_pos HC.out]⟩
    clear htk;go_wp2;go_ret;exact⟨by rw[HF.out];rfl,HB.out⟩
theorem Bd.lim {w:World}{e:Nat}{p:Option Addr}{n c:Nat}{Ns:List Nat}(h:Bd w e p n c Ns):∀N∈Ns,N<Ao e:=fun N hN=>by
 obtain⟨i,hi⟩:=List.getElem?_of_mem hN;obtain⟨b,off,_,_,h3⟩:=h.at_ (by rw[h.len];have:=(List.getElem?_eq_some_iff.1 hi).1;omega)
 obtain⟨_,_,_,_,_,h4⟩:=h3 i N hi;exact h4
theorem Ej.lim {w:World}{e:Nat}{p:Option Addr}{n c:Nat}{l:List Bp}(h:Ej w e p n c l):∀s∈l,s.n<Ao e/\s.base<Ao e/\∀q∈s.ps,q<Ao e:=fun s hs=>by
 obtain⟨i,hi⟩:=List.getElem?_of_mem hs;obtain⟨b,off,_,_,h3⟩:=h.at_ (by rw[h.len];have:=(List.getElem?_eq_some_iff.1 hi).1;omega)
 obtain⟨_,_,_,_,_,_,_,_,_,_,_,_,_,k4,_,k6,k7⟩:=h3 i s hi;exact⟨k4,k6,k7.lim⟩
theorem Wo {e N:Nat}(he:e<=32)(h:N<Ao e):¬1024<Al N:=by
 have:Al N<=32*e:=(Bc N _).2 (by
  have:Ao e=2^(32*e):=by unfold Ao;rw[Nat.pow_mul]
  rw[<-this];exact h)
 omega
theorem iL (w:World)(e f:Nat)(l:List Bp)(b:Nat)(v:Value)(N:Nat)(hb:b<w.heap.size)(hc:w.cell? ⟨b,0,none⟩=some v)(hv:Fit f N (.agg #[v]) w)(he:e<=900000)(hf:f<=900000) :
  dH 191 #[.pointer (some ⟨b,0,none⟩)] w e l (fun s=>decide (s.n=N)):=by
 refine⟨fun W s u hbw _ hu=>?_⟩;have hc':W.cell? ⟨b,0,none⟩=some v:=(hbw.cell (p:=⟨b,0,none⟩) hb).trans hc;have hv':=hv.below hbw;obtain⟨q0,m0,d0,q1,m1,d1,q2,m2,d2,rfl,h0,l0,h1,l1,h2⟩:=hu.ex;have hbW:b<W.heap.size:=Dq hb hbw.size;have hbx:Below W.heap.size W (W.alloc (.cells #[.slice q0 m0 d0,.slice q1 m1 d1,.slice q2 m2 d2] 182)):=Cy;have HBX3:=Aa (Pg.made 182 W (.slice q0 m0 d0) (.slice q1 m1 d1) (.slice q2 m2 d2));obtain⟨wa,hwa⟩:∃wa,W.alloc (.cells #[.slice q0 m0 d0,.slice q1 m1 d1,.slice q2 m2 d2] 182)=wa:=⟨_,rfl⟩
 rw[hwa]at hbx HBX3
 have hc2:wa.cell? ⟨b,0,none⟩=some v:=(hbx.cell (p:=⟨b,0,none⟩) hbW).trans hc';have HA:=Aa ((Fit.of h0 l0).below hbx);have HV:=Aa (hv'.below hbx);have HX:=Aa hbx;have hca:=HBX3.out.cells.1;obtain⟨pv,nv,cv,hev,_,_⟩:=hv;cases hev;obtain⟨SN,hSN⟩:∃x,s.n=x:=⟨_,rfl⟩
 rw[hSN]at HA
 have HSN:=Aa hSN;clear hSN hu h0 l0 h1 l1 h2 hbx hv' hc' hc;go_enter Tryz.func191,Tryz.ntmps191
 go_wp2_with fail
 refine(Wh HA.out HV.out he hf).mono ?_;rintro en w1 ⟨_,rfl,rfl,hb1⟩;have HB1:=Aa (Ae HX.out hb1);have e0:((Bm SN N:Int)==0)=decide (SN=N):=by
  by_cases hnm:SN=N
  .simp[hnm,Bv.2]
  .have:Bm SN N≠0:=fun h0=>hnm (Bv.1 h0)
   simp[hnm,this]
 have HE:=Aa e0;clear e0 hb1 hc2 hca;generalize Bm SN N=K at *;go_wp2;go_ret;exact⟨by rw[HSN.out,<-HE.out];rfl,HB1.out⟩
open Classical in
theorem cX (e:Nat)(he:e<=32):∀(w:World) (N:Nat) (v:Value) (p:Option Addr) (n c:Nat) (l:List Bp),Fit e N v w->Ej w e p n c l->n<=60->(∀s∈l,s.ps.length<=1000) ->
  Calls Tryz.prog 141 #[v,.slice p n c] w fun en w'=>en=.returned (.bool (decide (Cj N ∨ (Bz [] l/\∃s∈l,s.n=N))))/\Below w.heap.size w w':=by
 intro w N v p n c l hv h hn hps;obtain⟨pu,nu,cu,rfl,hu1,hu2⟩:=hv;have hbx:=Cu.mk1 w (.slice pu nu cu) 36;obtain⟨wa,hwa⟩:∃wa,w.alloc (.cells #[.slice pu nu cu] 36)=wa:=⟨_,rfl⟩
 have hbox:=Af.made w (.slice pu nu cu);rw[hwa]at hbx hbox
 have HBOX:=Aa hbox;have HX:=Aa hbx.bel;have HF:=Aa ((Fit.of hu1 hu2).below hbx.bel);have HP:=Aa (h.below hbx.bel);have HPS:=Aa hps;have HLIM:=Aa h.lim;obtain⟨ANS,hANS⟩:∃X,decide (Cj N ∨ (Bz [] l/\∃s∈l,s.n=N))=X:=⟨_,rfl⟩
 have HANS:=Aa hANS;rw[hANS];have hca:=hbox.cell;clear hANS hps h hu1 hu2 hbx hbox;obtain⟨S,hS⟩:∃X,decide (Cj N)=X:=⟨_,rfl⟩
 have HS:=Aa hS;clear hS;go_enter Tryz.func141,Tryz.ntmps141
 go_wp2_with fail
 refine(Jh wa N e _ HF.out (by omega)).mono ?_;rintro en w1 ⟨rfl,hb1⟩;rw[HS.out];have HB1:=Aa hb1;have HBOX1:=Aa (HBOX.out.below hb1 HBOX.out.lt);clear hb1 hca
 cases S with
 | true=>
  have HA:Ac (ANS=true):=⟨by rw[<-HANS.out];exact decide_eq_true (.inl (of_decide_eq_true HS.out))⟩
  have HE:=Aa (Ae HX.out HB1.out);go_wp2;go_ret;exact⟨by rw[HA.out];rfl,HE.out⟩
 | false=>
  obtain⟨C,hC⟩:∃X,l.any (fun s=>decide (s.n=N))=X:=⟨_,rfl⟩
  have HC:=Aa hC;clear hC;have HAS:=Aa (iL w1 e e l w.heap.size (.slice pu nu cu) N HBOX1.out.lt HBOX1.out.cell (HF.out.below HB1.out) (by omega) (by omega))
  go_wp2_with fail
  refine(Rc w1 e p n c l _ _ (enters_of Tryz.func191 (by kernel_rfl) rfl) _ (HP.out.below HB1.out) HAS.out).mono ?_;rintro en w2 ⟨rfl,hb2⟩;rw[HC.out];have HB2:=Aa (Ae HB1.out hb2);clear hb2
  cases C with
  | false=>
   have HA:Ac (ANS=false):=⟨by
    rw[<-HANS.out];refine decide_eq_false fun hh=>?_
    rcases hh with hh|⟨_,s,hs,hsn⟩
    .exact of_decide_eq_false HS.out hh
    .exact List.any_eq_false.1 HC.out s hs (decide_eq_true hsn)⟩
   have HE:=Aa (Ae HX.out HB2.out);go_wp2;go_ret;exact⟨by rw[HA.out];rfl,HE.out⟩
  | true=>
   have hnl:∀s∈l,¬Eg s:=fun s hs ht=>by
    have:=HLIM.out s hs;rcases ht with ht|ht|⟨q,hq,ht⟩
    .exact Wo he this.1 ht
    .exact Wo he this.2.1 ht
    .exact Wo he (this.2.2 q hq) ht
   have hne:¬ ∃s∈l,Eg s:=fun hh=>by obtain⟨s,hs,ht⟩:=hh;exact hnl s hs ht
   have hex:∃s∈l,s.n=N:=by
    obtain⟨s,hs,ht⟩:=List.any_eq_true.1 HC.out;exact⟨s,hs,of_decide_eq_true ht⟩
   have HNE:=Aa hne;have HEX:=Aa hex;clear hnl hne hex
   go_wp2_with fail
   refine(mH e (by omega) w2 p n c l ((HP.out.below HB2.out).wide (by omega)) hn HPS.out (fun s hs _=>HLIM.out s hs)).mono ?_;rintro en w3 ⟨rfl,hb3⟩;rw[if_neg HNE.out];have HE:=Aa (Ae HX.out (Ae HB2.out hb3));clear hb3
   by_cases hch:Bz [] l
   .rw[if_pos hch];have HA:Ac (ANS=true):=⟨by rw[<-HANS.out];exact decide_eq_true (.inr ⟨hch,HEX.out⟩)⟩
    clear hch;go_wp2;go_ret;exact⟨by rw[HA.out];rfl,HE.out⟩
   .rw[if_neg hch];have HA:Ac (ANS=false):=⟨by
     rw[<-HANS.out];refine decide_eq_false fun hh=>?_
     rcases hh with hh|hh
     .exact of_decide_eq_false HS.out hh
     .exact hch hh.1⟩
    clear hch;go_wp2;go_ret;exact⟨by rw[HA.out];rfl,HE.out⟩
structure Ws (B:Nat) (w:World) (e:Nat) (p:Option Addr) (n c:Nat) (Ns:List Nat):Prop where
 pl:Bd w e p n c Ns
 lo:0<n->∀q,p=some q->q.block<B
theorem Ws.keep {B:Nat}{w w':World}{e:Nat}{p:Option Addr}{n c:Nat}{Ns:List Nat}(h:Ws B w e p n c Ns)(k:An B w w'):Ws B w' e p n c Ns:=by
 refine⟨⟨h.pl.len,h.pl.cap,h.pl.max,h.pl.nil,fun h0=>?_⟩,h.lo⟩;obtain⟨b,off,h1,h2,h3⟩:=h.pl.at_ h0
 have hb:b<B:=h.lo h0 _ h1;exact⟨b,off,h1,Dq h2 k.bel.size,fun i N hN=>
  let ⟨q,m,d,k1,k2,k3⟩:=h3 i N hN
  ⟨q,m,d,(k.bel.cell (p:=⟨b,off+i,none⟩) hb).trans k1,k.nat _ _ _ _ k2,k3⟩⟩
theorem Ws.of {B:Nat}{w w':World}{e:Nat}{p:Option Addr}{n c:Nat}{Ns:List Nat}(h:Bd w e p n c Ns)(hb:Below w.heap.size w w')(hB:w.heap.size<=B):Ws B w' e p n c Ns :=
 ⟨h.below hb,fun h0 q hq=>by
  obtain⟨b,off,h1,h2,_⟩:=h.at_ h0
  rw[h1]at hq;cases hq
  exact Dq h2 hB⟩
structure Pf (B:Nat) (w:World) (b P Q G H:Nat):Prop where
 ex:∃rp rq pg ng cg ph nh ch,w.heap[b]? = some (.cells #[.pointer (some ⟨rp,0,none⟩),.pointer (some ⟨rq,0,none⟩),.slice pg ng cg,.slice ph nh ch] 127 (0,0))/\(Ring w rp P 33/\Ring w rq Q 33/\Ah w pg ng cg G/\G<Ao 33/\Ah w ph nh ch H/\H<Ao 33)/\b<B/\rp<B/\rq<B
theorem Pf.at_ {B:Nat}{w:World}{b P Q G H:Nat}(h:Pf B w b P Q G H):Bb w b P Q G H :=
 let ⟨rp,rq,pg,ng,cg,ph,nh,ch,h1,h2,_⟩:=h.ex
 ⟨rp,rq,pg,ng,cg,ph,nh,ch,h1,h2⟩
theorem Pf.keep {B:Nat}{w w':World}{b P Q G H:Nat}(h:Pf B w b P Q G H)(k:An B w w'):Pf B w' b P Q G H :=
 let ⟨rp,rq,pg,ng,cg,ph,nh,ch,h1,h2,h3,h4,h5⟩:=h.ex
 ⟨rp,rq,pg,ng,cg,ph,nh,ch,(k.bel.block b h3).trans h1,⟨h2.1.keep h4 k,h2.2.1.keep h5 k,k.nat _ _ _ _ h2.2.2.1,h2.2.2.2.1,k.nat _ _ _ _ h2.2.2.2.2.1,h2.2.2.2.2.2⟩,h3,h4,h5⟩
theorem Pf.of {B:Nat}{w w':World}{b P Q G H:Nat}(h:Bb w b P Q G H)(hb:Below w.heap.size w w')(hB:w.heap.size<=B):Pf B w' b P Q G H:=by
 have hl:=h.lt;obtain⟨rp,rq,pg,ng,cg,ph,nh,ch,h1,h2⟩:=h.ex;have l1:=h2.1.at_.lt
 have l2:=h2.2.1.at_.lt
 obtain⟨rp',rq',pg',ng',cg',ph',nh',ch',k1,k2⟩:=(h.below hb).ex;rw[hb.block b hl,h1]at k1
 simp only[Option.some.injEq,Obj.cells.injEq,Array.mk.injEq,List.cons.injEq,Value.pointer.injEq,Addr.mk.injEq,and_true]at k1;obtain⟨rfl,rfl,e3,e4⟩:=k1;cases e3;cases e4;exact⟨rp,rq,pg,ng,cg,ph,nh,ch,(hb.block b hl).trans h1,k2,by omega,by omega,by omega⟩
structure mS (d:Bool) (b:Nat) (p0:Option Addr) (n0 c0 N:Nat) (w:World):Prop where
 z:d=false->Af w b (.slice p0 n0 c0)
 o:d=true->∃p n c,Af w b (.slice p n c)/\Ah w p n c N
theorem mS.later {d:Bool}{b n0 c0 N:Nat}{p0:Option Addr}{w w':World}(h:mS d b p0 n0 c0 N w)(hb:Below w.heap.size w w'):mS d b p0 n0 c0 N w' :=
 ⟨fun e=>(h.z e).below hb (h.z e).lt,fun e=>let ⟨p,n,c,h1,h2⟩:=h.o e;⟨p,n,c,h1.below hb h1.lt,h2.below hb⟩⟩
theorem mS.put {b n0 c0 N:Nat}{p0:Option Addr}{w:World}(h:mS false b p0 n0 c0 N w){p:Option Addr}{n c:Nat}(hx:Ah w p n c N):∃q m k,Af w b (.slice q m k)/\mS true b p0 n0 c0 N (w.setCell ⟨b,0,none⟩ (.slice p n c)) :=
 ⟨p0,n0,c0,h.z rfl,(fun e=>by cases e),fun _=>⟨p,n,c,(h.z rfl).set _,hx.store (h.z rfl) _⟩⟩
theorem fQ (X I:Nat):Nz X (I:Int)=X/2^I%2:=by
 unfold Nz bit;rw[if_pos (by omega),Int.toNat_natCast];have:X/2^I%2=0 ∨ X/2^I%2=1:=by omega
 rcases this with h|h<;>simp[h]
theorem kM {Bs Es:List Nat}{k b e:Nat}(h1:Bs[k]? = some b)(h2:Es[k]? = some e):(Bs.zip Es)[k]? = some (b,e):=by
 rw[List.getElem?_zip_eq_some];exact⟨h1,h2⟩
theorem Tt (P:Nat):∀(Bs Es:List Nat),Bx ((Bs.map fun x=>x%P).zip Es)%P=Bx (Bs.zip Es)%P
 | [],_=>rfl
 | _::_,[]=>rfl
 | b::Bs,e::Es=>by
  show (b%P)^e*Bx ((Bs.map fun x=>x%P).zip Es)%P=b^e*Bx (Bs.zip Es)%P;rw[Nat.mul_mod,Tt P Bs Es,<-Nat.pow_mod,<-Nat.mul_mod]
def Fm (w:World)(b N:Nat):Prop:=∃p n c,Af w b (.slice p n c)/\Ah w p n c N
theorem eA {w:World}{b P Q G H e1 e2 n c m d:Nat}{p q:Option Addr}{Bs Es:List Nat}(hg:Bb w b P Q G H)(hB:Bd w e1 p n c Bs)(hE:Bd w e2 q m d Es)(he1:e1<=200)(he2:e2<=200)(hn:n<=1000)(hm:m<=1000) :
  Calls Tryz.prog 139 #[.pointer (some ⟨b,0,none⟩),.slice p n c,.slice q m d] w fun e w'=>∃x,e=.returned (.tuple #[x,.int .i64 (if n=m then 0 else 1)])/\Fit 33 (if n=m then Kj P 1 (Bs.zip Es) else 0) x w'/\Below w.heap.size w w':=by
 have hb6:=Af.made w (.slice none 0 0);have hbel:Below w.heap.size w (w.alloc (.cells #[.slice none 0 0] 36)):=Cy;obtain⟨wa,hwa⟩:∃wa,w.alloc (.cells #[.slice none 0 0] 36)=wa:=⟨_,rfl⟩
 rw[hwa]at hb6 hbel
 have HBX:=Aa hb6;have HB:=Aa hbel;have HG:=Aa hg;have HBS:=Aa hB;have HES:=Aa hE;have HP2:=Aa hg.lims.1;have HPl:=Aa hg.lims.2.1;clear hb6 hbel hg hB hE
 by_cases hnm:n=m
 .subst hnm;rw[if_pos rfl,if_pos rfl];go_enter Tryz.func139,Tryz.ntmps139
  go_wp2_with fail
  refine(jG (HG.out.below HB.out) (HBS.out.below HB.out) he1 hn).mono ?_;rintro en w1 ⟨g,rfl,hpl,hb1⟩;have HW:=Aa hpl;have HB1:=Aa (Ae HB.out hb1);have HBX1:=Aa (HBX.out.below hb1 HBX.out.lt);clear hpl hb1 HBX
  go_wp2_with fail
  refine(Dt w1).mono ?_;rintro en w2 ⟨_,rfl,⟨p1,n1,c1,rfl,hn1,_⟩,hb2⟩;have hb3:Below w2.heap.size w2 (w2.alloc (.cells #[.slice p1 n1 c1] 36)):=Cy;have hX3:=Af.made w2 (.slice p1 n1 c1);obtain⟨w3,hw3⟩:∃w3,w2.alloc (.cells #[.slice p1 n1 c1] 36)=w3:=⟨_,rfl⟩
  rw[hw3]at hb3 hX3
  have HN3:=Aa (hn1.below hb3);have HX3:=Aa hX3;have hb13:=Ae hb2 hb3;have HB13:=Aa hb13;have HB3:=Aa (Ae HB1.out hb13);have HS12:Ac (w1.heap.size<=w2.heap.size):=⟨hb2.size⟩
  have HBX3:Ac (Af w3 w.heap.size (.slice none 0 0)/\w.heap.size<w2.heap.size):=⟨HBX1.out.below hb13 HBX1.out.lt,Dq HBX1.out.lt hb2.size⟩
  clear hn1 hb2 hb3 hX3 hb13 HBX1
  go_wp2_with fail
  refine(iP (HES.out.below HB3.out) he2 (by omega)).mono ?_;rintro en w4 ⟨rfl,hb4⟩;obtain⟨M,hM⟩:∃M,Gs Es=M:=⟨_,rfl⟩
  rw[hM];have hM1:M<=10000:=by
   rw[<-hM];refine Yc Es fun x hx=>?_
   have:=Hj (HES.out.lim x hx);omega
  obtain⟨L,hL⟩:∃L,(Bs.map fun x=>x%P).zip Es=L:=⟨_,rfl⟩
  have HTop:Ac (Bx (Mc M L)%P=1):=⟨by
   rw[Xq M L fun x hx=>by
    rw[<-hL]at hx
    have:=(List.of_mem_zip hx).2;rw[<-hM];exact Yb Es _ this]
   exact Nat.mod_eq_of_lt (by have:=HP2.out;omega)⟩
  have HBot:Ac (Bx (Mc 0 L)%P=Kj P 1 (Bs.zip Es)):=⟨by rw[fD,<-hL,Tt,eC HP2.out]⟩
  have HLl:Ac (L.length=n):=⟨by rw[<-hL,List.length_zip,List.length_map,<-HBS.out.len,<-HES.out.len,Nat.min_self]⟩
  have HLL:=Aa hL;have HG4:Ac (Pf w2.heap.size w4 b P Q G H):=⟨Pf.of HG.out (Ae HB3.out hb4) (by have:=HBX3.out.2;omega)⟩
  have HW4:Ac (Ws w2.heap.size w4 33 (some ⟨g,0,none⟩) n n (Bs.map fun x=>x%P)):=⟨Ws.of HW.out (Ae HB13.out hb4) HS12.out⟩
  have HE4:Ac (Ws w2.heap.size w4 e2 q n d Es):=⟨Ws.of HES.out (Ae HB3.out hb4) (by have:=HBX3.out.2;omega)⟩
  have HX4:Ac (Fm w4 w2.heap.size (Bx (Mc M L)%P)):=⟨_,_,_,HX3.out.below hb4 HX3.out.lt,by rw[HTop.out];exact HN3.out.below hb4⟩
  have HB4:=Aa (Ae HB3.out hb4);have HBX4:Ac (Af w4 w.heap.size (.slice none 0 0)):=⟨HBX3.out.1.below hb4 HBX3.out.1.lt⟩
  have HL4:Ac (w2.heap.size<=w4.heap.size):=⟨Nat.le_of_lt (Dq HX3.out.lt hb4.size)⟩
  have HWS:Ac (w.heap.size<w2.heap.size):=⟨HBX3.out.2⟩
  clear hb4 hM hL HX3 HN3 HBX3 HTop HB13 HS12 HW HB3 HB1 HB;go_wp2
  go_loopw [10,11,12] (fun iv _ _ wr=>∃(k:Nat) (z:Int),k<=M/\iv=.int .i64 z/\z=(k:Int)-1/\Ac (An w2.heap.size w4 wr)/\Ac (Fm wr w2.heap.size (Bx (Mc k L)%P))) (fun iv _ _ _=>(intOf iv+1).toNat)
  case atStart=>exact⟨M,(M:Int)-1,by omega,by go_num,rfl,⟨An.same _ _⟩,HX4⟩
  case round=>
   obtain⟨k,z,hk,rfl,hz,HKr,HXr⟩:=hrel;obtain⟨pz,nz,cz,hzb,hzn⟩:=HXr.out;have HZB:=Aa hzb;have c9:=hzb.cell
   by_cases hk0:0<k
   .obtain⟨I,rfl⟩:∃I,k=I+1:=⟨k-1,by omega⟩
    obtain rfl:z=(I:Nat):=by omega
    clear hz;obtain⟨A,hA⟩:∃A,Bx (Mc (I+1) L)=A:=⟨_,rfl⟩
    rw[hA]at hzn
    have HA:=Aa hA;have HF:Ac (Fit 33 (A%P) (.agg #[.slice pz nz cz]) wr):=⟨Fit.of hzn (Nat.lt_trans (Nat.mod_lt _ (by have:=HP2.out;omega)) HPl.out)⟩
    have HGr:=Aa (HG4.out.keep HKr.out);clear hzn hzb hA hk0
    go_wp2_with fail
    refine(Kt HGr.out.at_ HF.out HF.out (by decide) (by decide)).mono ?_;rintro en w5 ⟨_,rfl,⟨p5,n5,c5,rfl,hn5,_⟩,hb5⟩;have hX5:=HZB.out.below hb5 HZB.out.lt;have k9:=hX5.cell;have f9:=hX5.free;have HK6:Ac (An w2.heap.size w4 (w5.setCell ⟨w2.heap.size,0,none⟩ (.slice p5 n5 c5))):=⟨HKr.out.trans ((An.of hb5 (Nat.le_of_lt HZB.out.lt)).trans (An.store hX5 (Av _) _))⟩
    have HX6:Ac (Fm (w5.setCell ⟨w2.heap.size,0,none⟩ (.slice p5 n5 c5)) w2.heap.size (A*A*Bx (Mt I (L.take 0))%P)):=⟨p5,n5,c5,hX5.set _,by
     have:A*A*Bx (Mt I (L.take 0))%P=(A%P)*(A%P)%P:=by
      rw[show Bx (Mt I (L.take 0))=1 from rfl,Nat.mul_one,Nat.mul_mod]
     rw[this];exact hn5.store hX5 _⟩
    obtain⟨w6,hw6⟩:∃w6,w5.setCell ⟨w2.heap.size,0,none⟩ (.slice p5 n5 c5)=w6:=⟨_,rfl⟩
    rw[hw6]at HK6 HX6
    clear hb5 hn5 hX5 c9;obtain⟨wo,hwo⟩:∃x,x=wr:=⟨_,rfl⟩
    subst hwo;go_wp2
    go_loopw [40,11,12] (fun jv _ _ wr=>∃j:Nat,j<=n/\jv=.int .i64 j/\Ac (An w2.heap.size w4 wr)/\Ac (Fm wr w2.heap.size (A*A*Bx (Mt I (L.take j))%P))) (fun jv _ _ _=>n-(intOf jv).toNat)
    case atStart=>exact⟨0,by omega,rfl,HK6,HX6⟩
    case round=>
     obtain⟨j,hj,rfl,HKi,HXi⟩:=hrel;obtain⟨px,nx,cx,hxb,hxn⟩:=HXi.out;have HXB:=Aa hxb;have HXN:=Aa hxn
     by_cases hjn:j<n
     .obtain⟨X,hXj⟩:∃X,Es[j]? = some X:=⟨Es[j]'(by rw[<-HES.out.len];exact hjn),List.getElem?_eq_getElem _⟩
      obtain⟨Y,hYj⟩:∃Y,(Bs.map fun x=>x%P)[j]? = some Y:=⟨(Bs.map fun x=>x%P)[j]'(by rw[List.length_map,<-HBS.out.len];exact hjn),List.getElem?_eq_getElem _⟩
      obtain⟨b2,off,rfl,hb2,hc2⟩:=(HE4.out.keep HKi.out).pl.at_ (by omega)
      obtain⟨q2,m2,d2,hx2,hn2,hl2⟩:=hc2 j X hXj;have hbw:Below wr.heap.size wr (wr.alloc (.cells #[.slice q2 m2 d2] 36)):=Cy;have hbx:=Af.made wr (.slice q2 m2 d2);obtain⟨wb,hwb⟩:∃wb,wr.alloc (.cells #[.slice q2 m2 d2] 36)=wb:=⟨_,rfl⟩
      rw[hwb]at hbw hbx
      have cb:=hbx.cell;have HNX:=Aa (hn2.below hbw);have hm9:m2<1000000:=by have:=hn2.len_le hl2;omega
      have HT:Ac (Mt I (L.take (j+1))=Mt I (L.take j)++[(Y,X/2^I%2)]):=⟨fP (by rw[<-HLL.out];exact kM hYj hXj)⟩
      have HKw:Ac (An w2.heap.size wr wb):=⟨An.of hbw (Nat.le_of_lt HXB.out.lt)⟩
      have HXBw:=Aa (HXB.out.below hbw HXB.out.lt);have HYj:=Aa hYj;have hjn':(j:Int)<n:=by omega
      clear hc2 hn2 hl2 hXj hYj hbw hbx hxb hxn hb2
      go_wp2_with fail
      refine(Us wb q2 m2 d2 X (I:Nat) HNX.out hm9 (by omega) (by omega)).mono ?_;rintro en w8 ⟨rfl,hb8⟩;rw[fQ];have HK8:Ac (An w2.heap.size wr w8):=⟨HKw.out.trans (An.of hb8 (Nat.le_of_lt HXBw.out.lt))⟩
      have HX8:=Aa (HXBw.out.below hb8 HXBw.out.lt);obtain⟨bt,hbt⟩:∃t,X/2^I%2=t:=⟨_,rfl⟩
      have hb01:bt=0 ∨ bt=1:=by omega
      rw[hbt]at HT ⊢
      clear hb8 hbt cb;rcases hb01 with rfl|rfl
      .have HXE:Ac (Fm w8 w2.heap.size (A*A*Bx (Mt I (L.take (j+1)))%P)):=⟨px,nx,cx,HX8.out,by rw[HT.out,Mj,Nat.pow_zero,Nat.mul_one];exact HK8.out.nat _ _ _ _ HXN.out⟩
       have HKE:Ac (An w2.heap.size w4 w8):=⟨HKi.out.trans HK8.out⟩
       go_wp2;go_roundw
       case rel=>exact⟨j+1,by omega,by go_num,HKE,HXE⟩
       case measure=>simp[intOf];omega
      .obtain⟨b3,off3,he3,_,hc3⟩:=(HW4.out.keep (HKi.out.trans HK8.out)).pl.at_ (by omega)
       obtain⟨pw,nw,cw,hw1,hw2,hw4⟩:=hc3 j Y HYj.out;cases he3;rw[Nat.zero_add]at hw1
       have HCW:=Aa hw1;have HFW:Ac (Fit 33 Y (.agg #[.slice pw nw cw]) w8):=⟨Fit.of hw2 hw4⟩
       have HGL:Ac (g<w2.heap.size):=⟨HW4.out.lo (by omega) _ rfl⟩
       obtain⟨V0,hV0⟩:∃V,A*A*Bx (Mt I (L.take j))=V:=⟨_,rfl⟩
       rw[hV0]at HXN
       have HFX:Ac (Fit 33 (V0%P) (.agg #[.slice px nx cx]) w8):=⟨Fit.of (HK8.out.nat _ _ _ _ HXN.out) (Nat.lt_trans (Nat.mod_lt _ (by have:=HP2.out;omega)) HPl.out)⟩
       obtain⟨Z,hZ⟩:∃Z,V0%P*Y%P=Z:=⟨_,rfl⟩
       have HZ:=Aa hZ;have HZE:Ac (A*A*Bx (Mt I (L.take (j+1)))%P=Z):=⟨by rw[HT.out,Mj,Nat.pow_one,<-Nat.mul_assoc,hV0,<-hZ,Nat.mod_mul_mod]⟩
       have HG1:=Aa (HG4.out.keep (HKi.out.trans HK8.out));have HLE:Ac (w2.heap.size<=w8.heap.size):=⟨Nat.le_of_lt HX8.out.lt⟩
       have HKE:Ac (An w2.heap.size w4 w8):=⟨HKi.out.trans HK8.out⟩
       clear hc3 hw1 hw2 hw4 hV0 hZ HK8 HKi;go_wp2;refine Ak (by kernel_rfl) (by kernel_rfl)
        [some (.pointer (some ⟨b,0,none⟩)),some (.agg #[.slice px nx cx]),some (.slice (some ⟨g,0,none⟩) n n),some (.int .i64 (j:Nat)),some (.pointer (some ⟨g,j,none⟩)),some (.agg #[.slice pw nw cw]),none,none]
        [false,false,false,false,false,false,true,true] rfl
        (fun wA wB=>An (w2.heap.size) wA wB)
        (fun D sp w'=>RG (w2.heap.size) w8 [] w'/\mS (D 7) (w2.heap.size) px nx cx (Z) w')
        (fun i v w'=>match i with
         | 6=>Fit 33 Z v w'
         | _=>True)
        ?_ ⟨RG.start HLE.out (fun x hx=>by cases hx),⟨fun _=>HX8.out,fun e=>by cases e⟩⟩ ?_ ?_
       .intro i v wA wB hf hb;split at hf
        .exact hf.keep hb
        .trivial
       .simp only[Bf,Nat.reduceAdd];refine⟨?_,?_,?_,?_,?_,?_,?_,?_,trivial⟩
        all_goals intro D sp w' hD hW hdp hg
        case refine_2=>
         have c0:=(hg.2.z (hW 7 (mq (by kernel_rfl)))).cell
         with_reducible refine Ad ?_ ?_
         all_goals simp[Region.wanted,yielded,execOp,Act.eval,Act.put,go_sem,c0]
        case refine_5=>
         have hnj:¬n<=j:=Nat.not_le.2 hjn
         with_reducible refine Ad ?_ ?_
         all_goals simp[Region.wanted,yielded,execOp,Act.eval,Act.put,go_sem,hnj]
        case refine_6=>
         have c0:w'.cell? ⟨g,j,none⟩=some (.slice pw nw cw):=(hg.1.keep.bel.cell (p:=⟨g,j,none⟩) HGL.out).trans HCW.out
         with_reducible refine Ad ?_ ?_
         all_goals simp[Region.wanted,yielded,execOp,Act.eval,Act.put,go_sem,c0]
        case refine_7=>
         (with_reducible refine Ab (w1:=w') (f := 89) (args:=#[.pointer (some ⟨b,0,none⟩),.agg #[.slice px nx cx],.agg #[.slice pw nw cw]]) ?_ ?_ ?_)
         .simp[Region.wanted,yielded,Act.put,go_sem]
         .simp[Act.eval,Act.put,go_sem]
         .refine(Kt (HG1.out.keep hg.1.keep).at_ (HFX.out.keep hg.1.keep) (HFW.out.keep hg.1.keep) (by decide) (by decide)).mono ?_;rintro en w9 ⟨u,rfl,hu,hb⟩;rw[HZ.out]at hu
          exact⟨u,rfl,An.of hb hg.1.base,hu,hg.1.later hb,by simpa [upd]using hg.2.later hb⟩
        case refine_8=>
         have hx:∃p n c,sp 6=.agg #[.slice p n c]/\Ah w' p n c (Z)/\Z<Ao (33):=(hdp 6 (mq (by kernel_rfl))).2
         (with_reducible refine Az hx fun p hx1=>Az hx1 fun n hx2=>Az hx2 fun c hx3=>?_)
         have h1:=hx3.1;rw[hD]at hg
         have hp:=hg.2.put (hx3.2.1)
         (with_reducible refine Az hp fun q hy1=>Az hy1 fun m hy2=>Az hy2 fun k hy3=>?_)
         have h6:=hy3.1.cell;have h7:=hy3.1.free
         (with_reducible refine Ar (w1:=w'.setCell ⟨w2.heap.size,0,none⟩ (.slice p n c)) ?_ ?_ ?_)
         .simp[Region.wanted,yielded,Act.put,go_sem]
         .simp[execOp,Act.eval,Act.put,go_sem,h1,h6,h7]
         .refine⟨An.store hy3.1 (Av _) _,trivial,hg.1.store hy3.1 (Av _) (fun x hx=>by cases hx) _,?_⟩;have h8:=hy3.2;simpa [upd]using h8
        all_goals ((with_reducible refine Ad ?_ ?_);all_goals first|(simp only[Region.wanted];done)|simp[Region.wanted,yielded,execOp,Act.eval,Act.put,go_sem])
       .intro sp w9 hsp hg;obtain⟨hg1,hg2⟩:=hg;obtain⟨pf,nf,cf,hf1,hf2⟩:=hg2.o rfl;have HXE:Ac (Fm w9 w2.heap.size (A*A*Bx (Mt I (L.take (j+1)))%P)):=⟨pf,nf,cf,hf1,by rw[HZE.out];exact hf2⟩
        have HK9:Ac (An w2.heap.size w4 w9):=⟨HKE.out.trans hg1.keep⟩
        clear hsp hg1 hg2 hf1 hf2;simp only[Am,Nat.reduceAdd];generalize sp 6=y6,sp 7=y7 at *
        go_simp
        go_wp2;go_roundw
        case rel=>exact⟨j+1,by omega,by go_num,HK9,HXE⟩
        case measure=>simp[intOf];omega
     .obtain rfl:j=n:=by omega
      have hjn':¬(j:Int)<j:=by omega
      have HXE:Ac (Fm wr w2.heap.size (Bx (Mc I L)%P)):=⟨px,nx,cx,HXB.out,by
       rw[Xr I L,HA.out];have:=HXN.out;rw[List.take_of_length_le (by rw[HLl.out];exact Av _)]at this
       exact this⟩
      clear hxb hxn;go_wp2;go_roundw
      case rel=>exact⟨I,(I:Int)-1,by omega,by go_num,by omega,HKi,HXE⟩
      case measure=>simp[intOf]
   .obtain rfl:k=0:=by omega
    obtain rfl:z = -1:=by omega
    clear hz;have hrb:Af wr w.heap.size (.slice none 0 0):=HBX4.out.below (B:=w2.heap.size) HKr.out.bel HWS.out;have k6:=hrb.cell;have f6:=hrb.free;rw[HBot.out]at hzn
    have HNF:=Aa (hzn.store hrb (.slice pz nz cz));have HLM:Ac (Kj P 1 (Bs.zip Es)<Ao 33):=⟨Nat.lt_trans (Rq HP2.out _ _ (by have:=HP2.out;omega)) HPl.out⟩
    have hbf:Below w.heap.size w (wr.setCell ⟨w.heap.size,0,none⟩ (.slice pz nz cz)):=(HB4.out.trans (HKr.out.bel.mono (Nat.le_of_lt HWS.out))).setCell (Av _) _;have HBF:=Aa hbf;clear hzn hzb hrb hbf hk0;go_wp2;exact bodyPost_ret (v:=.tuple #[.agg #[.slice pz nz cz],.int .i64 0]) (by simp[results,Tryz.results139,go_sem,k6]) rfl ⟨_,rfl,Fit.of HNF.out HLM.out,HBF.out⟩
 .rw[if_neg hnm,if_neg hnm];have hne:((n:Int)==(m:Nat))=false:=by rw[beq_eq_false_iff_ne];omega
  have hne2:¬(n:Int)=(m:Nat):=by omega
  have k6:=HBX.out.cell;have f6:=HBX.out.free;have hbf:Below w.heap.size w (wa.setCell ⟨w.heap.size,0,none⟩ (.slice none 0 0)):=HB.out.setCell (Av _) _;have HBF:=Aa hbf;clear hnm hbf;go_enter Tryz.func139,Tryz.ntmps139;go_wp2;exact bodyPost_ret (v:=.tuple #[.agg #[.slice none 0 0],.int .i64 1]) (by simp[results,Tryz.results139,go_sem,k6]) rfl ⟨_,rfl,Fit.of (Ah.nil _) (by decide),HBF.out⟩
end Go.Proofs.YtnbmfaihlefgfaaGreatDoor
