/- Numbers taken into a group's ring, in a row; how many bits the greatest of a row has. -/
import Derived.Test.YtokhckjemidbpaaGreatDoorGqA
import Derived.Test.YtokhckjemidbpaaGreatDoorCpF
set_option maxRecDepth 1000000
set_option maxHeartbeats 16000000
set_option linter.all false
namespace Go.Proofs.YtokhckjemidbpaaGreatDoor
open Go Go.RowKit Go.Proofs.YtokhckjemidbpaaGreatDoor.Flow
theorem bG {w:World}{e N:Nat}{v:Value}(h:Fit e N v w)(he:e<=900000) :
  Calls Tryz.prog 148 #[v] w fun en w'=>en=.returned (.bool (decide (N=1)))/\Below w.heap.size w w':=by
 obtain⟨p,n,c,rfl,h1,h2⟩:=h;have hb1:=Ae.made w (.slice p n c);have hbel:Below w.heap.size w (w.alloc (.cells #[.slice p n c] 37)):=Bt;obtain⟨wa,hwa⟩:∃wa,w.alloc (.cells #[.slice p n c] 37)=wa:=⟨_,rfl⟩
 rw[hwa]at hb1 hbel
 have HF:=Ac ((Fit.of h1 h2).below hbel);have HBX:=Ac hb1;have HB:=Ac hbel;obtain⟨K,hK⟩:∃K,Br N 1=K:=⟨_,rfl⟩
 have HK:=Ac hK;obtain⟨X,hX⟩:∃X,decide (N=1)=X:=⟨_,rfl⟩
 have hE:((K:Int)==0)=X:=by
  rw[<-hK,<-hX]
  by_cases hn:N=1
  .simp[hn,Ch.2]
  .have:Br N 1≠0:=fun h0=>hn (Ch.1 h0)
   simp[hn,this]
 rw[hX];clear hK hX h1 h2 hb1 hbel;go_enter Tryz.func148,Tryz.ntmps148;go_wp2;refine Ak (by kernel_rfl) (by kernel_rfl)
  [some (.agg #[.slice p n c]),none,none,some (.bool X),some (.bool X)]
  [false,true,true,false,false] rfl
  (fun w1 w2=>Ao (w.heap.size) w1 w2)
  (fun D sp w'=>RG (w.heap.size) wa [(w.heap.size,.cells #[.slice p n c] 37 (0,0))] w'/\True)
  (fun i v w'=>match i with
   | 1=>Fit 1 1 v w'
   | 2=>v=.int .i64 K
   | _=>True)
  ?_ ⟨RG.start HB.out.size (List.forall_mem_cons.2 ⟨HBX.out,fun x hx=>by cases hx⟩),trivial⟩ ?_ ?_
 .intro i v w1 w2 hf hb;split at hf
  .exact hf.keep hb
  .exact hf
  .trivial
 .simp only[Bc,Nat.reduceAdd];refine⟨?_,?_,?_,?_,?_,trivial⟩
  all_goals intro D sp w' hD hW hdp hg
  case refine_1=>
   have c0:w'.cell? ⟨w.heap.size,0,none⟩=some (.slice p n c):=Ae.cell (hg.1.of List.mem_cons_self)
   with_reducible refine Af ?_ ?_
   all_goals simp[Region.wanted,yielded,execOp,Act.eval,Act.put,go_sem,c0]
  case refine_2=>
   (with_reducible refine Ad (w1:=w') (f := 17) (args:=#[.int .u64 1]) ?_ ?_ ?_)
   .simp[Region.wanted,yielded,Act.put,go_sem]
   .simp[Act.eval,Act.put,go_sem]
   .refine(Ek w').mono ?_;rintro en w9 ⟨u,rfl,hu,hb⟩;exact⟨u,rfl,Ao.of hb hg.1.base,hu,hg.1.later hb,trivial⟩
  case refine_3=>
   have k1:Fit 1 1 (sp 1) w':=(hdp 1 (mq (by kernel_rfl))).2
   (with_reducible refine Ad (w1:=w') (f := 24) (args:=#[.agg #[.slice p n c],sp 1]) ?_ ?_ ?_)
   .simp[Region.wanted,yielded,Act.put,go_sem]
   .simp[Act.eval,Act.put,go_sem]
   .refine(Bb (HF.out.keep hg.1.keep) k1 he (by decide) HK.out).mono ?_;rintro en w9 ⟨u,rfl,rfl,hb⟩;exact⟨_,rfl,Ao.of hb hg.1.base,rfl,hg.1.later hb,trivial⟩
  case refine_4=>
   have k2:(sp 2)=.int .i64 K:=(hdp 2 (mq (by kernel_rfl))).2
   with_reducible refine Af ?_ ?_
   all_goals simp[Region.wanted,yielded,execOp,Act.eval,Act.put,go_sem,k2,hE]
  all_goals ((with_reducible refine Af ?_ ?_);all_goals first|(simp only[Region.wanted];done)|simp[Region.wanted,yielded,execOp,Act.eval,Act.put,go_sem])
 .intro sp w7 hsp hg;have HB7:=Ac (HB.out.trans hg.1.keep.bel);clear hsp hg;simp only[Am,Nat.reduceAdd];generalize sp 1=y1,sp 2=y2 at *
  go_simp
  go_wp2;go_ret;exact⟨rfl,HB7.out⟩
theorem Vp {w:World}{b P Q G H e1 e2 A E:Nat}{v u:Value}(h:Be w b P Q G H)(hv:Fit e1 A v w)(hu:Fit e2 E u w)(he1:e1<=30000)(he2:e2<=30000) :
  Calls Tryz.prog 124 #[.pointer (some ⟨b,0,none⟩),v,u] w fun e w'=>∃x,e=.returned x/\Fit 33 (A*E%P) x w'/\Below w.heap.size w w':=by
 obtain⟨pa,na,ca,rfl,h1,h2⟩:=Av hv;obtain⟨pb,nb,cb,rfl,k1,k2⟩:=Av hu;have hbx:=Zn.mk3 w (.slice pa na ca) (.slice pb nb cb) (.slice none 0 0);have hbl:=h.lt;obtain⟨wa,hwa⟩:∃wa,((w.alloc (.cells #[.slice pa na ca] 37)).alloc (.cells #[.slice pb nb cb] 37)).alloc (.cells #[.slice none 0 0] 37)=wa:=⟨_,rfl⟩
 rw[hwa]at hbx
 obtain⟨X,hX⟩:∃X,A*E%P=X:=⟨_,rfl⟩
 have HX:=Ac hX;have HLX:Aa (X<Al 33):=⟨by rw[<-hX];exact Nat.lt_trans (Nat.mod_lt _ (by have:=h.lims.1;omega)) h.lims.2.1⟩
 rw[hX];obtain⟨rp,rq,pg,ng,cg,ph,nh,ch,g1,g2,_⟩:=h.ex;have HL:Aa (b<w.heap.size/\rp<w.heap.size):=⟨hbl,g2.at_.lt⟩
 have HG:=Ac ((hbx.bel.block b hbl).trans g1);have HR:=Ac (g2.below hbx.bel);have HA:=Ac ((Fit.of h1 h2).below hbx.bel);have HE:=Ac ((Fit.of k1 k2).below hbx.bel);have HB0:Aa (w.heap.size<=w.heap.size+1+1):=⟨by omega⟩
 have HNE:Aa (∀x∈[((w.heap.size,.cells #[.slice pa na ca] 37 (0,0)):Nat×Obj),(w.heap.size+1,.cells #[.slice pb nb cb] 37 (0,0))],x.1≠w.heap.size+1+1):=⟨List.forall_mem_cons.2 ⟨by simp only;omega,List.forall_mem_cons.2 ⟨by simp only;omega,fun x hx=>by cases hx⟩⟩⟩
 have HBX:=Ac hbx;clear hX g1 g2 h1 h2 k1 k2 hbx hbl h hv hu;go_enter Tryz.func124,Tryz.ntmps124;go_wp2;refine Ak (by kernel_rfl) (by kernel_rfl)
  [some (.pointer (some ⟨b,0,none⟩)),none,some (.pointer (some ⟨b,0,none⟩)),some (.pointer (some ⟨b,0,none⟩)),some (.pointer (some ⟨rp,0,none⟩)),some (.agg #[.slice pa na ca]),some (.agg #[.slice pb nb cb]),none,none]
  [false,true,false,false,false,false,false,true,true] rfl
  (fun w1 w2=>Ao (w.heap.size) w1 w2)
  (fun D sp w'=>RG (w.heap.size) wa [(w.heap.size,.cells #[.slice pa na ca] 37 (0,0)),(w.heap.size+1,.cells #[.slice pb nb cb] 37 (0,0))] w'/\Ww (D 8) (w.heap.size+1+1) (X) w')
  (fun i v w'=>match i with
   | 1=>v=.pointer (some ⟨b,0,none⟩)
   | 7=>Fit 33 (X) v w'
   | _=>True)
  ?_ ⟨RG.start HBX.out.bel.size (List.forall_mem_cons.2 ⟨HBX.out.b0,List.forall_mem_cons.2 ⟨HBX.out.b1,fun x hx=>by cases hx⟩⟩),Ww.fresh HBX.out.b2⟩ ?_ ?_
 .intro i v w1 w2 hf hb;split at hf
  .exact hf
  .exact hf.keep hb
  .trivial
 .simp only[Bc,Nat.reduceAdd];refine⟨?_,?_,?_,?_,?_,?_,?_,?_,?_,trivial⟩
  all_goals intro D sp w' hD hW hdp hg
  case refine_2=>
   (with_reducible refine Ad (w1:=w') (f := 81) (args:=#[.pointer (some ⟨b,0,none⟩)]) ?_ ?_ ?_)
   .simp[Region.wanted,yielded,Act.put,go_sem]
   .simp[Act.eval,Act.put,go_sem]
   .refine(Gi w' b).mono ?_;rintro en w9 ⟨rfl,rfl⟩;exact⟨_,rfl,Ao.same _ _,rfl,hg.1,by simpa [upd]using hg.2⟩
  case refine_3=>
   have k1:(sp 1)=.pointer (some ⟨b,0,none⟩):=(hdp 1 (mq (by kernel_rfl))).2
   with_reducible refine Af ?_ ?_
   all_goals simp[Region.wanted,yielded,execOp,Act.eval,Act.put,go_sem,k1]
  case refine_5=>
   have c0:=(Dn ((hg.1.keep.bel.block b HL.out.1).trans HG.out)).1
   with_reducible refine Af ?_ ?_
   all_goals simp[Region.wanted,yielded,execOp,Act.eval,Act.put,go_sem,c0]
  case refine_6=>
   have c0:w'.cell? ⟨w.heap.size,0,none⟩=some (.slice pa na ca):=Ae.cell (hg.1.of List.mem_cons_self)
   with_reducible refine Af ?_ ?_
   all_goals simp[Region.wanted,yielded,execOp,Act.eval,Act.put,go_sem,c0]
  case refine_7=>
   have c0:w'.cell? ⟨w.heap.size+1,0,none⟩=some (.slice pb nb cb):=Ae.cell (hg.1.of (List.mem_cons_of_mem _ List.mem_cons_self))
   with_reducible refine Af ?_ ?_
   all_goals simp[Region.wanted,yielded,execOp,Act.eval,Act.put,go_sem,c0]
  case refine_8=>
   (with_reducible refine Ad (w1:=w') (f := 33) (args:=#[.pointer (some ⟨rp,0,none⟩),.agg #[.slice pa na ca],.agg #[.slice pb nb cb]]) ?_ ?_ ?_)
   .simp[Region.wanted,yielded,Act.put,go_sem]
   .simp[Act.eval,Act.put,go_sem]
   .refine(Ex (HR.out.keep HL.out.2 hg.1.keep) (HA.out.keep hg.1.keep) (HE.out.keep hg.1.keep) (by omega) (by omega)).mono ?_;rintro en w9 ⟨u,rfl,hu,hb⟩;rw[HX.out]at hu
    exact⟨u,rfl,Ao.of hb hg.1.base,hu,hg.1.later hb,by simpa [upd]using hg.2.later hb⟩
  case refine_9=>
   have hx:∃p n c,sp 7=.agg #[.slice p n c]/\Ah w' p n c (X)/\X<Al (33):=(hdp 7 (mq (by kernel_rfl))).2
   (with_reducible refine Ba hx fun p hx1=>Ba hx1 fun n hx2=>Ba hx2 fun c hx3=>?_)
   have h1:=hx3.1;have hp:=hg.2.put (hx3.2.1)
   (with_reducible refine Ba hp fun q hy1=>Ba hy1 fun m hy2=>Ba hy2 fun k hy3=>?_)
   have h6:=hy3.1.cell;have h7:=hy3.1.free
   (with_reducible refine Ap (w1:=w'.setCell ⟨w.heap.size+1+1,0,none⟩ (.slice p n c)) ?_ ?_ ?_)
   .simp[Region.wanted,yielded,Act.put,go_sem]
   .simp[execOp,Act.eval,Act.put,go_sem,h1,h6,h7]
   .refine⟨Ao.store hy3.1 HB0.out _,trivial,hg.1.store hy3.1 HB0.out HNE.out _,?_⟩;have h8:=hy3.2;simpa [upd]using h8
  all_goals ((with_reducible refine Af ?_ ?_);all_goals first|(simp only[Region.wanted];done)|simp[Region.wanted,yielded,execOp,Act.eval,Act.put,go_sem])
 .intro sp w7 hsp hg;obtain⟨hg1,pz,nz,cz,hz1,hz2⟩:=hg;have kz:=hz1.cell;have HZ:=Ac (hz2 rfl);have HB7:=Ac (HBX.out.bel.trans hg1.keep.bel);clear hsp hg1 hz1 hz2;simp only[Am,Nat.reduceAdd];generalize sp 1=y1,sp 7=y7,sp 8=y8 at *
  go_simp
  go_wp2;exact bodyPost_ret (v:=.agg #[.slice pz nz cz]) (by simp[results,Tryz.results124,go_sem,kz]) rfl ⟨_,rfl,Fit.of HZ.out HLX.out,HB7.out⟩
def sv (x:Option Addr×Nat×Nat):Value:=.slice x.1 x.2.1 x.2.2
def Ol (w:World)(g:Nat)(us:List (Option Addr×Nat×Nat)):Prop:=w.heap[g]? = some (.cells (us.map sv).toArray 37 (0,0))
theorem Ao.store_row {B:Nat}{w:World}{g:Nat}{us:List (Option Addr×Nat×Nat)}(hb:Ol w g us)(hB:B<=g)(j:Nat)(v:Value):Ao B w (w.setCell ⟨g,j,none⟩ v) :=
 ⟨(Bf _ _).setCell hB _,fun _ _ _ _ k=>hb.nat k j v⟩
structure kI (d:Bool) (g:Nat) (us:List (Option Addr×Nat×Nat)) (k N:Nat) (w:World):Prop where
 z:d=false->Ol w g us
 o:d=true->∃p n c,Ol w g (us.set k (p,n,c))/\Ah w p n c N
theorem Ve (n:Nat)(h:n<=1000000)(w:World):(Instr.makeSlice 62 (.int .i64 (n:Nat)) (.int .i64 (n:Nat))).run Tryz.prog w =
  .ok (.slice (some ⟨w.heap.size,0,none⟩) n n) (w.alloc (.cells (madeCells #[.slice none 0 0] n) 37)):=by
 obtain⟨i,hi,hz,hs,hb⟩:=info_parts Tryz.info_Nat;have:=run_make (P:=Tryz.prog) w 62 37 i (.agg #[.slice none 0 0]) Tryz.underlying62 hi hz .i64 .i64 n n (by omega) (by omega) (by rw[hb];omega) (by omega);simp only[Int.toNat_natCast,hs,Nat.mul_one]at this;rw[this];rfl
theorem Ol.made (w:World)(n:Nat):Ol (w.alloc (.cells (madeCells #[.slice none 0 0] n) 37)) w.heap.size (List.replicate n (none,0,0)):=by
 unfold Ol;have h:=toList_madeCells_one (Value.slice none 0 0) n;have h2:madeCells #[Value.slice none 0 0] n=((List.replicate n ((none,0,0):Option Addr×Nat×Nat)).map sv).toArray:=by
  rw[<-Array.toArray_toList (xs:=madeCells #[Value.slice none 0 0] n),h,List.map_replicate];rfl
 rw[<-h2];exact heap_alloc_new w _
def jZ (w:World)(e:Nat)(us:List (Option Addr×Nat×Nat))(Ns:List Nat)(k:Nat):Prop:=∀j N,j<k->Ns[j]? = some N->∃x,us[j]? = some x/\Ah w x.1 x.2.1 x.2.2 N/\N<Al e
theorem dP {w:World}{e n c:Nat}{p:Option Addr}{Es:List Nat}(h:Aw w e p n c Es)(he:e<=200)(hn:n<=1000000) :
  Calls Tryz.prog 197 #[.slice p n c] w fun en w'=>en=.returned (.int .i64 (Fs Es:Nat))/\Below w.heap.size w w':=by
 have HP:=Ac h;have HLN:=Ac h.len;clear h;go_enter Tryz.func197,Tryz.ntmps197;go_wp2
 go_loopw [3,5,8] (fun mv _ iv wr=>∃k:Nat,k<=n/\iv=.int .i64 k/\mv=.int .i64 (Fs (Es.take k):Nat)/\Aa (Below w.heap.size w wr)) (fun _ _ iv _=>n-(intOf iv).toNat)
 case atStart=>exact⟨0,by omega,rfl,rfl,⟨Bf _ _⟩⟩
 case round=>
  obtain⟨k,hk,rfl,hm,HB⟩:=hrel;obtain⟨M,hM⟩:∃M,Fs (Es.take k)=M:=⟨_,rfl⟩
  rw[hM]at hm
  subst hm
  by_cases hkn:k<n
  .obtain⟨X,hXk⟩:∃X,Es[k]? = some X:=⟨Es[k]'(by rw[<-HLN.out];exact hkn),List.getElem?_eq_getElem _⟩
   obtain⟨b,off,rfl,hb,hc⟩:=(HP.out.below HB.out).at_ (by omega)
   obtain⟨q,m,d,hx,hnx,hlim⟩:=hc k X hXk;have hm9:m<1000000:=by have:=hnx.len_le hlim;omega
   have hbw:Below wr.heap.size wr (wr.alloc (.cells #[.slice q m d] 37)):=Bt;have hbx:=Ae.made wr (.slice q m d);obtain⟨wb,hwb⟩:∃wb,wr.alloc (.cells #[.slice q m d] 37)=wb:=⟨_,rfl⟩
   rw[hwb]at hbw hbx
   have HNX:=Ac (hnx.below hbw);have HBW:=Ac (Ab HB.out hbw);have cb:=hbx.cell;have HT:Aa (Fs (Es.take (k+1))=max M (Az X)):=⟨by rw[Ga hXk,Pq,hM]⟩
   have HL:Aa (Az X<=10000):=⟨by have:=Fk hlim;omega⟩
   have hkn':(k:Int)<n:=by omega
   clear hc hnx hlim hXk hM hbw hbx hb
   go_wp2_with fail
   refine(Dp wb q m d X HNX.out hm9).mono ?_;rintro en w1 ⟨rfl,hb1⟩;have HB1:=Ac (Ab HBW.out hb1);obtain⟨L,hL⟩:∃L,Az X=L:=⟨_,rfl⟩
   rw[hL]at HT HL ⊢
   clear hb1 hL cb
   by_cases hml:M<L
   .have hml':(M:Int)<L:=by omega
    have hml2:¬(L:Int)<=M:=by omega
    have hml3:¬(L:Int)<M:=by omega
    have hmx:max (M:Int) (L:Int)=(L:Int):=by omega
    have HTT:Aa (Fs (Es.take (k+1))=L):=⟨by rw[HT.out];omega⟩
    go_wp2;go_roundw
    case rel=>exact⟨k+1,by omega,by go_num,by rw[HTT.out],HB1⟩
    case measure=>simp[intOf];omega
   .have hml':¬(M:Int)<L:=by omega
    have hml2:(L:Int)<=M:=by omega
    have hmx:max (M:Int) (L:Int)=(M:Int):=by omega
    have HTT:Aa (Fs (Es.take (k+1))=M):=⟨by rw[HT.out];omega⟩
    go_wp2;go_roundw
    case rel=>exact⟨k+1,by omega,by go_num,by rw[HTT.out],HB1⟩
    case measure=>simp[intOf];omega
  .obtain rfl:k=n:=by omega
   have hkn':¬(k:Int)<k:=by omega
   have HMM:Aa (Fs Es=M):=⟨by rw[<-hM,List.take_of_length_le (by rw[<-HLN.out];exact Ar _)]⟩
   clear hM;go_wp2;go_ret;exact⟨by rw[HMM.out];rfl,HB.out⟩
theorem eM {w:World}{e b P Q G H n c:Nat}{p:Option Addr}{Bs:List Nat}(hg:Be w b P Q G H)(h:Aw w e p n c Bs)(he:e<=200)(hn:n<=1000) :
  Calls Tryz.prog 196 #[.pointer (some ⟨b,0,none⟩),.slice p n c] w fun en w'=>∃g,en=.returned (.slice (some ⟨g,0,none⟩) n n)/\Aw w' 33 (some ⟨g,0,none⟩) n n (Bs.map fun x=>x%P)/\Below w.heap.size w w':=by
 obtain⟨rp,rq,pg,ng,cg,ph,nh,ch,g1,g2,_⟩:=hg.ex;have HL:Aa (b<w.heap.size/\rp<w.heap.size):=⟨hg.lt,g2.at_.lt⟩
 have HLN:=Ac h.len;have HP:=Ac h;have HGA:=Ac g1;have HR:=Ac g2;have hmk:=fun w=>Ve n (by omega) w
 obtain⟨w0,hw0⟩:∃w0,w.alloc (.cells (madeCells #[.slice none 0 0] n) 37)=w0:=⟨_,rfl⟩
 have hb0:Below w.heap.size w w0:=by rw[<-hw0];exact(Bf _ _).alloc (Ar _) _
 have HS0:Aa (Ol w0 w.heap.size (List.replicate n (none,0,0))):=⟨by rw[<-hw0];exact Ol.made w n⟩
 have HB0:=Ac hb0;clear hg h g1 g2 hb0;go_enter Tryz.func196,Tryz.ntmps196;go_wp2
 go_loopw [6,7,13] (fun _ _ iv wr=>∃(k:Nat) (us:List (Option Addr×Nat×Nat)),k<=n/\iv=.int .i64 k/\us.length=n/\Aa (Ol wr w.heap.size us)/\Aa (jZ wr 33 us (Bs.map fun x=>x%P) k)/\Aa (Below w.heap.size w wr)) (fun _ _ iv _=>n-(intOf iv).toNat)
 case atStart=>exact⟨0,List.replicate n (none,0,0),by omega,rfl,by simp,HS0,⟨fun j N hj=>by omega⟩,HB0⟩
 case round=>
  obtain⟨k,us,hk,rfl,hus,HSr,HVr,HBr⟩:=hrel
  by_cases hkn:k<n
  .obtain⟨X,hXk⟩:∃X,Bs[k]? = some X:=⟨Bs[k]'(by rw[<-HLN.out];exact hkn),List.getElem?_eq_getElem _⟩
   obtain⟨b2,off,rfl,hb,hc⟩:=(HP.out.below HBr.out).at_ (by omega)
   obtain⟨q,m,d,hx,hnx,hlim⟩:=hc k X hXk;have HUK:Aa (us[k]? = some (us[k]'(by omega))):=⟨List.getElem?_eq_getElem _⟩
   have hbw:Below wr.heap.size wr (wr.alloc (.cells #[.slice q m d] 37)):=Bt;have hbx:=Ae.made wr (.slice q m d);obtain⟨wb,hwb⟩:∃wb,wr.alloc (.cells #[.slice q m d] 37)=wb:=⟨_,rfl⟩
   rw[hwb]at hbw hbx
   have HBX:=Ac hbx;have HXb:=Ac ((Fit.of hnx hlim).below hbw);have HBb:=Ac (Ab HBr.out hbw);have HGr:=Ac ((HBb.out.block b HL.out.1).trans HGA.out);have HRb:=Ac (HR.out.below HBb.out);have HSb:=Ac (HSr.out.below hbw HSr.out.lt);have HVb:=Ac (HVr.out.keep (B:=w.heap.size) (Ao.of hbw HBr.out.size));have HNE:Aa (∀x∈([(wr.heap.size,.cells #[.slice q m d] 37 (0,0))]:List (Nat×Obj)),x.1≠w.heap.size):=⟨List.forall_mem_cons.2 ⟨by simp only;have:=HSr.out.lt;omega,fun x hx=>by cases hx⟩⟩
   have HNk:Aa ((Bs.map fun x=>x%P)[k]? = some (X%P)):=⟨by rw[List.getElem?_map,hXk];rfl⟩
   have HPl:Aa (X%P<Al 33):=⟨Nat.lt_trans (Nat.mod_lt _ (by have:=HR.out.two;omega)) HR.out.lim⟩
   have hkn':(k:Int)<n:=by omega
   clear hc hnx hlim hXk hbw hbx hb hmk;go_wp2;refine Ak (by kernel_rfl) (by kernel_rfl)
    [some (.slice (some ⟨w.heap.size,0,none⟩) n n),some (.int .i64 (k:Nat)),some (.pointer (some ⟨b,0,none⟩)),some (.pointer (some ⟨b,0,none⟩)),some (.pointer (some ⟨b,0,none⟩)),some (.pointer (some ⟨rp,0,none⟩)),some (.agg #[.slice q m d]),none,some (.pointer (some ⟨w.heap.size,k,none⟩)),none]
    [false,false,false,false,false,false,false,true,false,true] rfl
    (fun w1 w2=>Ao (w.heap.size) w1 w2)
    (fun D sp w'=>RG (w.heap.size) wb [(wr.heap.size,.cells #[.slice q m d] 37 (0,0))] w'/\kI (D 9) (w.heap.size) us k (X%P) w')
    (fun i v w'=>match i with
     | 7=>Fit 33 (X%P) v w'
     | _=>True)
    ?_ ⟨RG.start HBb.out.size (List.forall_mem_cons.2 ⟨HBX.out,fun x hx=>by cases hx⟩),⟨fun _=>HSb.out,fun e=>by cases e⟩⟩ ?_ ?_
   .intro i v w1 w2 hf hb;split at hf
    .exact hf.keep hb
    .trivial
   .simp only[Bc,Nat.reduceAdd];refine⟨?_,?_,?_,?_,?_,?_,?_,?_,?_,?_,trivial⟩
    all_goals intro D sp w' hD hW hdp hg
    case refine_6=>
     have c0:=(Dn ((hg.1.keep.bel.block b HL.out.1).trans HGr.out)).1
     with_reducible refine Af ?_ ?_
     all_goals simp[Region.wanted,yielded,execOp,Act.eval,Act.put,go_sem,c0]
    case refine_7=>
     have c0:w'.cell? ⟨wr.heap.size,0,none⟩=some (.slice q m d):=Ae.cell (hg.1.of List.mem_cons_self)
     with_reducible refine Af ?_ ?_
     all_goals simp[Region.wanted,yielded,execOp,Act.eval,Act.put,go_sem,c0]
    case refine_8=>
     (with_reducible refine Ad (w1:=w') (f := 31) (args:=#[.pointer (some ⟨rp,0,none⟩),.agg #[.slice q m d]]) ?_ ?_ ?_)
     .simp[Region.wanted,yielded,Act.put,go_sem]
     .simp[Act.eval,Act.put,go_sem]
     .refine(Dh (HRb.out.keep HL.out.2 hg.1.keep) (HXb.out.keep hg.1.keep) (by omega)).mono ?_;rintro en w9 ⟨u,rfl,hu,hb⟩;exact⟨u,rfl,Ao.of hb hg.1.base,hu,hg.1.later hb,by simpa [upd]using hg.2.later hb⟩
    case refine_9=>
     have hnk:¬n<=k:=Nat.not_le.2 hkn
     with_reducible refine Af ?_ ?_
     all_goals simp[Region.wanted,yielded,execOp,Act.eval,Act.put,go_sem,hnk]
    case refine_10=>
     have hx:∃p n c,sp 7=.agg #[.slice p n c]/\Ah w' p n c (X%P)/\X%P<Al (33):=(hdp 7 (mq (by kernel_rfl))).2
     (with_reducible refine Ba hx fun p hx1=>Ba hx1 fun n hx2=>Ba hx2 fun c hx3=>?_)
     have h1:=hx3.1;rw[hD]at hg
     have hs:=hg.2.1 rfl;have h6:=hs.cell HUK.out;have h7:=hs.free k
     (with_reducible refine Ap (w1:=w'.setCell ⟨w.heap.size,k,none⟩ (.slice p n c)) ?_ ?_ ?_)
     .simp[Region.wanted,yielded,Act.put,go_sem]
     .simp[execOp,Act.eval,Act.put,go_sem,h1,h6,h7]
     .refine⟨Ao.store_row hs (Ar _) _ _,trivial,hg.1.store_row hs (Ar _) HNE.out _ _,?_⟩;have h8:=hg.2.put hx3.2.1;simpa [upd]using h8
    all_goals ((with_reducible refine Af ?_ ?_);all_goals first|(simp only[Region.wanted];done)|simp[Region.wanted,yielded,execOp,Act.eval,Act.put,go_sem])
   .intro sp w8 hsp hg;obtain⟨hg1,hg2⟩:=hg;obtain⟨pz,nz,cz,hs8,hn8⟩:=hg2.o rfl;have HS8:=Ac hs8;have HV8:=Ac ((HVb.out.keep hg1.keep).step (by omega) HNk.out hn8 HPl.out);have HB8:=Ac (HBb.out.trans hg1.keep.bel);have hlen:(us.set k (pz,nz,cz)).length=n:=by rw[List.length_set];exact hus
    have HLEN:=Ac hlen;clear hsp hg1 hg2 hs8 hn8 hlen;simp only[Am,Nat.reduceAdd];generalize sp 7=y7,sp 9=y9 at *
    go_simp
    go_wp2;go_roundw
    case rel=>exact⟨k+1,us.set k (pz,nz,cz),by omega,by go_num,HLEN.out,HS8,HV8,HB8⟩
    case measure=>simp[intOf];omega
  .obtain rfl:k=n:=by omega
   have hkn':¬(k:Int)<k:=by omega
   have HPL:=Ac (HVr.out.plist HSr.out (by rw[List.length_map];exact HLN.out.symm) (by omega));clear hmk;go_wp2;go_ret;exact⟨w.heap.size,rfl,HPL.out,HBr.out⟩
end Go.Proofs.YtokhckjemidbpaaGreatDoor
