/- A group's product, its power, its members. -/
import Derived.Test.YtnbmfaihlefgfaaGreatDoorGqM
set_option maxRecDepth 1000000
set_option maxHeartbeats 16000000
set_option linter.all false
namespace Go.Proofs.YtnbmfaihlefgfaaGreatDoor
open Go Go.RowKit Go.Proofs.YtnbmfaihlefgfaaGreatDoor.Flow
theorem eO (w:World):Fit 0 0 (.agg #[.slice none 0 0]) w:=Fit.of (Ai.nil w) (by decide)
theorem Ap.trans {B:Nat}{w1 w2 w3:World}(h:Ap B w1 w2)(k:Ap B w2 w3):Ap B w1 w3:=⟨h.bel.trans k.bel,fun p n c N x=>k.nat p n c N (h.nat p n c N x)⟩
theorem Ap.drew (B:Nat)(w:World):Ap B w w.drew:=⟨(Br _ _).drew,fun _ _ _ _ k=>k.below ((Br _ _).drew)⟩
structure RG (B:Nat) (wx:World) (l:List (Nat×Obj)) (w:World):Prop where
 keep:Ap B wx w
 base:B<=w.heap.size
 blk:∀x∈l,w.heap[x.1]? = some x.2
theorem RG.start {B:Nat}{wx:World}{l:List (Nat×Obj)}(hB:B<=wx.heap.size)(hl:∀x∈l,wx.heap[x.1]? = some x.2):RG B wx l wx.drew:=⟨Ap.drew _ _,hB,hl⟩
theorem RG.later {B:Nat}{wx:World}{l:List (Nat×Obj)}{w w':World}(h:RG B wx l w)(hb:Below w.heap.size w w'):RG B wx l w' :=
 ⟨h.keep.trans (Ap.of hb h.base),Dm h.base hb.size,fun x hx=>by rw[hb.block x.1 (Hy (h.blk x hx)).1];exact h.blk x hx⟩
theorem RG.store {B:Nat}{wx:World}{l:List (Nat×Obj)}{w:World}{b m d:Nat}{q:Option Addr}(h:RG B wx l w)(hb:Af w b (.slice q m d))(hB:B<=b)(hn:∀x∈l,x.1≠b)(v:Value):RG B wx l (w.setCell ⟨b,0,none⟩ v) :=
 ⟨h.keep.trans (Ap.store hb hB v),by simpa using h.base,fun x hx=>by
  have:=hn x hx;simp[World.setCell,Array.getElem?_modify,this.symm];exact h.blk x hx⟩
theorem RG.of {B:Nat}{wx:World}{l:List (Nat×Obj)}{w:World}(h:RG B wx l w){b:Nat}{o:Obj}(hm:(b,o)∈l):w.heap[b]? = some o:=h.blk _ hm
def Xx (d:Bool)(b N:Nat)(w:World):Prop:=∃p n c,Af w b (.slice p n c)/\(d=true->Ai w p n c N)
theorem Xx.fresh {w:World}{b N:Nat}{p:Option Addr}{n c:Nat}(h:Af w b (.slice p n c)):Xx false b N w:=⟨p,n,c,h,fun e=>by cases e⟩
theorem Xx.later {d:Bool}{b N:Nat}{w w':World}(h:Xx d b N w)(hb:Below w.heap.size w w'):Xx d b N w' :=
 let ⟨p,n,c,h1,h2⟩:=h
 ⟨p,n,c,h1.below hb h1.lt,fun e=>(h2 e).below hb⟩
theorem Xx.put {d:Bool}{b N:Nat}{w:World}(h:Xx d b N w){p:Option Addr}{n c:Nat}(hx:Ai w p n c N):∃q m k,Af w b (.slice q m k)/\Xx true b N (w.setCell ⟨b,0,none⟩ (.slice p n c)) :=
 let ⟨q,m,k,h1,_⟩:=h
 ⟨q,m,k,h1,p,n,c,h1.set _,fun _=>hx.store h1 _⟩
def bC (d f:Bool)(v:Value)(B N:Nat)(w:World):Prop:=B<=w.heap.size/\(d=true->∃b,v=.pointer (some ⟨b,0,none⟩)/\B<=b/\Xx f b N w)
theorem bC.start {v:Value}{B N:Nat}{w:World}(h:B<=w.heap.size):bC false false v B N w:=⟨h,fun e=>by cases e⟩
theorem bC.later {d f:Bool}{v:Value}{B N:Nat}{w w':World}(h:bC d f v B N w)(hb:Below w.heap.size w w'):bC d f v B N w' :=
 ⟨Dm h.1 hb.size,fun e=>let ⟨b,h1,h2,h3⟩:=h.2 e;⟨b,h1,h2,h3.later hb⟩⟩
theorem bC.made {v:Value}{B N:Nat}{w:World}(h:bC false false v B N w):bC true false (.pointer (some ⟨w.heap.size,0,none⟩)) B N (w.alloc (.cells #[.slice none 0 0] 36)) :=
 ⟨by simp;have:=h.1;omega,fun _=>⟨_,rfl,h.1,Xx.fresh (Af.made _ _)⟩⟩
theorem bC.put {f:Bool}{v:Value}{B N:Nat}{w:World}(h:bC true f v B N w){p:Option Addr}{n c:Nat}(hx:Ai w p n c N) :
  ∃b q m k,v=.pointer (some ⟨b,0,none⟩)/\B<=b/\Af w b (.slice q m k)/\bC true true v B N (w.setCell ⟨b,0,none⟩ (.slice p n c)) :=
 let ⟨b,h1,h2,h3⟩:=h.2 rfl
 let ⟨q,m,k,h4,h5⟩:=h3.put hx
 ⟨b,q,m,k,h1,h2,h4,by simpa using h.1,fun _=>⟨b,h1,h2,h5⟩⟩
theorem RG.store_over {B B2:Nat}{wx:World}{l:List (Nat×Obj)}{w:World}{b m d:Nat}{q:Option Addr}(h:RG B wx l w)(hb:Af w b (.slice q m d))(hB:B<=B2)(hB2:B2<=b)(hl:∀x∈l,x.1<B2)(v:Value):RG B wx l (w.setCell ⟨b,0,none⟩ v) :=
 h.store hb (Dm hB hB2) (fun x hx=>by have:=hl x hx;omega) v
def Km (e N:Nat)(t v:Value)(w:World):Prop:=∃p n c,v=.tuple #[.agg #[.slice p n c],t]/\Ai w p n c N/\N<Ao e
theorem Km.keep {e N B:Nat}{t v:Value}{w w':World}(h:Km e N t v w)(k:Ap B w w'):Km e N t v w' :=
 let ⟨p,n,c,h1,h2,h3⟩:=h
 ⟨p,n,c,h1,k.nat _ _ _ _ h2,h3⟩
theorem Ring.keep {B r M f:Nat}{w w':World}(h:Ring w r M f)(hr:r<B)(k:Ap B w w'):Ring w' r M f:=by
 obtain⟨p,n,c,h1,h2,h3⟩:=h.at_.ex
 exact⟨⟨p,n,c,by rw[k.bel.block r hr];exact h1,k.nat _ _ _ _ h2,h3⟩,h.two,h.lim,h.few⟩
structure Cp (w:World) (b P Q G H:Nat):Prop where
 ex:∃rp rq pg ng cg ph nh ch,w.heap[b]? = some (.cells #[.pointer (some ⟨rp,0,none⟩),.pointer (some ⟨rq,0,none⟩),.slice pg ng cg,.slice ph nh ch] 127 (0,0))/\Ring w rp P 33/\Ring w rq Q 33/\Ai w pg ng cg G/\G<Ao 33/\Ai w ph nh ch H/\H<Ao 33
theorem Cp.lt {w:World}{b P Q G H:Nat}(h:Cp w b P Q G H):b<w.heap.size:=by
 obtain⟨_,_,_,_,_,_,_,_,h1,_⟩:=h.ex;exact(Hy h1).1
theorem Cp.below {w w':World}{b P Q G H:Nat}(h:Cp w b P Q G H)(hb:Below w.heap.size w w'):Cp w' b P Q G H:=by
 have hl:=h.lt;obtain⟨rp,rq,pg,ng,cg,ph,nh,ch,h1,h2,h3,h4,h5,h6,h7⟩:=h.ex;exact⟨rp,rq,pg,ng,cg,ph,nh,ch,by rw[hb.block b hl];exact h1,h2.below hb,h3.below hb,h4.below hb,h5,h6.below hb,h7⟩
theorem Cp.lims {w:World}{b P Q G H:Nat}(h:Cp w b P Q G H):2<=P/\P<Ao 33/\2<=Q/\Q<Ao 33:=by
 obtain⟨_,_,_,_,_,_,_,_,_,h2,h3,_⟩:=h.ex;exact⟨h2.two,h2.lim,h3.two,h3.lim⟩
theorem Fn {w:World}{b:Nat}{v0 v1 v2 v3:Value}(h:w.heap[b]? = some (.cells #[v0,v1,v2,v3] 127 (0,0))) :
  w.cell? ⟨b,0,none⟩=some v0/\w.cell? ⟨b,1,none⟩=some v1/\w.cell? ⟨b,2,none⟩=some v2/\w.cell? ⟨b,3,none⟩=some v3:=by
 simp[World.cell?,h]
theorem Ge (w:World)(b:Nat):Calls Tryz.prog 87 #[.pointer (some ⟨b,0,none⟩)] w fun e w'=>e=.returned (.pointer (some ⟨b,0,none⟩))/\w'=w:=by
 go_enter Tryz.func87,Tryz.ntmps87;go_wp2;go_ret;exact⟨rfl,rfl⟩
theorem Qw {w:World}{e N:Nat}{v:Value}(h:Fit e N v w)(he:e<=300000) :
  Calls Tryz.prog 115 #[v] w fun en w'=>∃x,en=.returned x/\Fit e N x w'/\Below w.heap.size w w':=by
 obtain⟨pa,na,ca,rfl,h1,h2⟩:=Au h;have hbx:=dU.mk2 w (.slice pa na ca) (.slice none 0 0);have hz:∀w',Fit 0 0 (.agg #[.slice none 0 0]) w':=fun w'=>Fit.of (Ai.nil w') (by decide)
 have HZ:=Ag hz;clear hz;go_enter Tryz.func115,Tryz.ntmps115
 go_wp2_with fail
 refine(Mu (h.below hbx.bel) (HZ.out _) (by omega) (by omega)).mono ?_;rintro en w1 ⟨x,rfl,hx,hb⟩;replace hbx:=hbx.later hb;obtain⟨pc,nc,cc,rfl,y1,_⟩:=hx;have c1:=hbx.b1.cell;have f1:=hbx.b1.free;have z1:=hbx.b1.lt;go_wp2;exact bodyPost_ret (v:=.agg #[.slice pc nc cc]) (by simp[results,Tryz.results115,go_sem,c1]) rfl ⟨_,rfl,Fit.of (y1.store hbx.b1 _) h2,hbx.bel.setCell (by simp) _⟩
theorem Ra {w:World}{e N:Nat}{v:Value}(h:Fit e N v w)(he:e<=900000) :
  Calls Tryz.prog 189 #[v] w fun en w'=>en=.returned (.int .i64 (Ay N:Nat))/\Below w.heap.size w w':=by
 obtain⟨p,n,c,rfl,h1,h2⟩:=h;have hn:n<1000000:=by have:=h1.len_le h2;omega
 have hl:Ak N<=30000000:=by have:=Ld h2;omega
 have hbx:=Dq.mk1 w (.slice p n c) 36;have H1:=Aa (h1.below hbx.bel);have HBX:=Aa hbx.bel;have HS:Ab (Ay N=(Ak N+7)/8):=⟨rfl⟩
 clear h1 h2 hbx;go_enter Tryz.func189,Tryz.ntmps189
 go_wp2_with fail
 refine(Gh _ p n c N H1.out hn).mono ?_;rintro en w1 ⟨rfl,hb1⟩;have HB1:=Aa (Ae HBX.out hb1);clear hb1;obtain⟨L,hL⟩:∃L,Ak N=L:=⟨_,rfl⟩
 rw[hL]at hl HS
 simp only[hL];clear hL;go_wp2;go_ret;refine⟨?_,HB1.out⟩;rw[HS.out];exact congrArg (fun z=>Ending.returned (.int .i64 z)) (by omega)
theorem pX {w:World}{b P Q G H:Nat}(h:Cp w b P Q G H) :
  Calls Tryz.prog 82 #[.pointer (some ⟨b,0,none⟩)] w fun e w'=>∃x,e=.returned x/\Fit 33 P x w'/\Below w.heap.size w w':=by
 have hb1:=Af.made w (.slice none 0 0);have hbel:Below w.heap.size w (w.alloc (.cells #[.slice none 0 0] 36)):=Dl;obtain⟨wa,hwa⟩:∃wa,w.alloc (.cells #[.slice none 0 0] 36)=wa:=⟨_,rfl⟩
 rw[hwa]at hb1 hbel
 obtain⟨rp,rq,pg,ng,cg,ph,nh,ch,h1,h2,h3,h4,h5,h6,h7⟩:=(h.below hbel).ex;obtain⟨c0,cq,c2,c3⟩:=Fn h1;have HR:=Aa h2;have HBX:=Aa hb1;have HB:=Aa hbel;clear h h1 h2 h3 h4 h5 h6 h7 hb1 hbel;go_enter Tryz.func82,Tryz.ntmps82
 go_wp2_with fail
 refine(Ge wa b).mono ?_;rintro en w1 ⟨rfl,rfl⟩
 go_wp2_with fail
 refine(Gr HR.out).mono ?_;rintro en w2 ⟨x,rfl,hx,hb2⟩;obtain⟨pc,nc,cc,rfl,y1,y2⟩:=hx;have hbn:=HBX.out.below hb2 HBX.out.lt;have k1:=hbn.cell;have f1:=hbn.free;have z1:=hbn.lt;clear c0 cq c2 c3;go_wp2;exact bodyPost_ret (v:=.agg #[.slice pc nc cc]) (by simp[results,Tryz.results82,go_sem,k1]) rfl ⟨_,rfl,Fit.of (y1.store hbn _) y2,(Ae HB.out hb2).setCell (by simp) _⟩
theorem qA {w:World}{b P Q G H:Nat}(h:Cp w b P Q G H) :
  Calls Tryz.prog 43 #[.pointer (some ⟨b,0,none⟩)] w fun e w'=>∃x,e=.returned x/\Fit 33 G x w'/\Below w.heap.size w w':=by
 have hb1:=Af.made w (.slice none 0 0);have hbel:Below w.heap.size w (w.alloc (.cells #[.slice none 0 0] 36)):=Dl;obtain⟨wa,hwa⟩:∃wa,w.alloc (.cells #[.slice none 0 0] 36)=wa:=⟨_,rfl⟩
 rw[hwa]at hb1 hbel
 obtain⟨rp,rq,pg,ng,cg,ph,nh,ch,h1,h2,h3,h4,h5,h6,h7⟩:=(h.below hbel).ex;obtain⟨c0,cq,c2,c3⟩:=Fn h1;have HR:=Aa (Fit.of h4 h5);have HBX:=Aa hb1;have HB:=Aa hbel;clear h h1 h2 h3 h4 h5 h6 h7 hb1 hbel;go_enter Tryz.func43,Tryz.ntmps43
 go_wp2_with fail
 refine(Ge wa b).mono ?_;rintro en w1 ⟨rfl,rfl⟩
 go_wp2_with fail
 refine(Qw HR.out (by decide)).mono ?_;rintro en w2 ⟨x,rfl,hx,hb2⟩;obtain⟨pc,nc,cc,rfl,y1,y2⟩:=hx;have hbn:=HBX.out.below hb2 HBX.out.lt;have k1:=hbn.cell;have f1:=hbn.free;have z1:=hbn.lt;clear c0 cq c2 c3;go_wp2;exact bodyPost_ret (v:=.agg #[.slice pc nc cc]) (by simp[results,Tryz.results43,go_sem,k1]) rfl ⟨_,rfl,Fit.of (y1.store hbn _) y2,(Ae HB.out hb2).setCell (by simp) _⟩
theorem pZ {w:World}{b P Q G H:Nat}(h:Cp w b P Q G H) :
  Calls Tryz.prog 77 #[.pointer (some ⟨b,0,none⟩)] w fun e w'=>∃x,e=.returned x/\Fit 33 H x w'/\Below w.heap.size w w':=by
 have hb1:=Af.made w (.slice none 0 0);have hbel:Below w.heap.size w (w.alloc (.cells #[.slice none 0 0] 36)):=Dl;obtain⟨wa,hwa⟩:∃wa,w.alloc (.cells #[.slice none 0 0] 36)=wa:=⟨_,rfl⟩
 rw[hwa]at hb1 hbel
 obtain⟨rp,rq,pg,ng,cg,ph,nh,ch,h1,h2,h3,h4,h5,h6,h7⟩:=(h.below hbel).ex;obtain⟨c0,cq,c2,c3⟩:=Fn h1;have HR:=Aa (Fit.of h6 h7);have HBX:=Aa hb1;have HB:=Aa hbel;clear h h1 h2 h3 h4 h5 h6 h7 hb1 hbel;go_enter Tryz.func77,Tryz.ntmps77
 go_wp2_with fail
 refine(Ge wa b).mono ?_;rintro en w1 ⟨rfl,rfl⟩
 go_wp2_with fail
 refine(Qw HR.out (by decide)).mono ?_;rintro en w2 ⟨x,rfl,hx,hb2⟩;obtain⟨pc,nc,cc,rfl,y1,y2⟩:=hx;have hbn:=HBX.out.below hb2 HBX.out.lt;have k1:=hbn.cell;have f1:=hbn.free;have z1:=hbn.lt;clear c0 cq c2 c3;go_wp2;exact bodyPost_ret (v:=.agg #[.slice pc nc cc]) (by simp[results,Tryz.results77,go_sem,k1]) rfl ⟨_,rfl,Fit.of (y1.store hbn _) y2,(Ae HB.out hb2).setCell (by simp) _⟩
theorem Gg {w:World}{b P Q G H:Nat}(h:Cp w b P Q G H) :
  Calls Tryz.prog 20 #[.pointer (some ⟨b,0,none⟩)] w fun e w'=>∃r,e=.returned (.pointer (some ⟨r,0,none⟩))/\Ring w' r Q 33/\Below w.heap.size w w':=by
 have hq:=h.lims.2.2.1;obtain⟨rp,rq,pg,ng,cg,ph,nh,ch,h1,h2,h3,h4,h5,h6,h7⟩:=h.ex;obtain⟨c0,cq,c2,c3⟩:=Fn h1;have HR:=Aa h3;clear h h1 h2 h3 h4 h5 h6 h7;go_enter Tryz.func20,Tryz.ntmps20
 go_wp2_with fail
 refine(Ge w b).mono ?_;rintro en w1 ⟨rfl,rfl⟩
 go_wp2_with fail
 refine(Gr HR.out).mono ?_;rintro en w2 ⟨x,rfl,hx,hb2⟩;have HX:=Aa hx;have HB2:=Aa hb2;clear hx hb2 c0 cq c2 c3
 go_wp2_with fail
 refine(Jy HX.out (by decide)).mono ?_;rintro en w3 ⟨hb3,hh⟩;rcases hh with ⟨hl,_⟩|⟨_,r,rfl,hr,_⟩
 .omega
 have HR3:=Aa hr;have HB3:=Aa (Ae HB2.out hb3);clear hr hb3;go_wp2;go_ret;exact⟨r,rfl,HR3.out,HB3.out⟩
theorem gM {w:World}{e N:Nat}{v:Value}(h:Fit e N v w)(he:e<=900000) :
  Calls Tryz.prog 134 #[v] w fun en w'=>en=.returned (.bool (decide (N=1)))/\Below w.heap.size w w':=by
 obtain⟨p,n,c,rfl,h1,h2⟩:=h;have hb1:=Af.made w (.slice p n c);have hbel:Below w.heap.size w (w.alloc (.cells #[.slice p n c] 36)):=Dl;obtain⟨wa,hwa⟩:∃wa,w.alloc (.cells #[.slice p n c] 36)=wa:=⟨_,rfl⟩
 rw[hwa]at hb1 hbel
 have HF:=Aa ((Fit.of h1 h2).below hbel);have HBX:=Aa hb1;have HB:=Aa hbel;obtain⟨K,hK⟩:∃K,By N 1=K:=⟨_,rfl⟩
 have HK:=Aa hK;obtain⟨X,hX⟩:∃X,decide (N=1)=X:=⟨_,rfl⟩
 have hE:((K:Int)==0)=X:=by
  rw[<-hK,<-hX]
  by_cases hn:N=1
  .simp[hn,Cr.2]
  .have:By N 1≠0:=fun h0=>hn (Cr.1 h0)
   simp[hn,this]
 rw[hX];clear hK hX h1 h2 hb1 hbel;go_enter Tryz.func134,Tryz.ntmps134;go_wp2;refine Am (by kernel_rfl) (by kernel_rfl)
  [some (.agg #[.slice p n c]),none,none,some (.bool X),some (.bool X)]
  [false,true,true,false,false] rfl
  (fun w1 w2=>Ap (w.heap.size) w1 w2)
  (fun D sp w'=>RG (w.heap.size) wa [(w.heap.size,.cells #[.slice p n c] 36 (0,0))] w'/\True)
  (fun i v w'=>match i with
   | 1=>Fit 1 1 v w'
   | 2=>v=.int .i64 K
   | _=>True)
  ?_ ⟨RG.start HB.out.size (List.forall_mem_cons.2 ⟨HBX.out,fun x hx=>by cases hx⟩),trivial⟩ ?_ ?_
 .intro i v w1 w2 hf hb;split at hf
  .exact hf.keep hb
  .exact hf
  .trivial
 .simp only[Bw,Nat.reduceAdd];refine⟨?_,?_,?_,?_,?_,trivial⟩
  all_goals intro D sp w' hD hW hdp hg
  case refine_1=>
   have c0:w'.cell? ⟨w.heap.size,0,none⟩=some (.slice p n c):=Af.cell (hg.1.of List.mem_cons_self)
   with_reducible refine Ad ?_ ?_
   all_goals simp[Region.wanted,yielded,execOp,Act.eval,Act.put,go_sem,c0]
  case refine_2=>
   (with_reducible refine Ac (w1:=w') (f := 21) (args:=#[.int .u64 1]) ?_ ?_ ?_)
   .simp[Region.wanted,yielded,Act.put,go_sem]
   .simp[Act.eval,Act.put,go_sem]
   .refine(Ek w').mono ?_;rintro en w9 ⟨u,rfl,hu,hb⟩;exact⟨u,rfl,Ap.of hb hg.1.base,hu,hg.1.later hb,trivial⟩
  case refine_3=>
   have k1:Fit 1 1 (sp 1) w':=(hdp 1 (mq (by kernel_rfl))).2
   (with_reducible refine Ac (w1:=w') (f := 34) (args:=#[.agg #[.slice p n c],sp 1]) ?_ ?_ ?_)
   .simp[Region.wanted,yielded,Act.put,go_sem]
   .simp[Act.eval,Act.put,go_sem]
   .refine(Cj (HF.out.keep hg.1.keep) k1 he (by decide) HK.out).mono ?_;rintro en w9 ⟨u,rfl,rfl,hb⟩;exact⟨_,rfl,Ap.of hb hg.1.base,rfl,hg.1.later hb,trivial⟩
  case refine_4=>
   have k2:(sp 2)=.int .i64 K:=(hdp 2 (mq (by kernel_rfl))).2
   with_reducible refine Ad ?_ ?_
   all_goals simp[Region.wanted,yielded,execOp,Act.eval,Act.put,go_sem,k2,hE]
  all_goals ((with_reducible refine Ad ?_ ?_);all_goals first|(simp only[Region.wanted];done)|simp[Region.wanted,yielded,execOp,Act.eval,Act.put,go_sem])
 .intro sp w7 hsp hg;have HB7:=Aa (HB.out.trans hg.1.keep.bel);clear hsp hg;simp only[An,Nat.reduceAdd];generalize sp 1=y1,sp 2=y2 at *
  go_simp
  go_wp2;go_ret;exact⟨rfl,HB7.out⟩
theorem lB {w:World}{b P Q G H e1 e2 A E:Nat}{v u:Value}(h:Cp w b P Q G H)(hv:Fit e1 A v w)(hu:Fit e2 E u w)(he1:e1<=30000)(he2:e2<=30000) :
  Calls Tryz.prog 89 #[.pointer (some ⟨b,0,none⟩),v,u] w fun e w'=>∃x,e=.returned x/\Fit 33 (A*E%P) x w'/\Below w.heap.size w w':=by
 obtain⟨pa,na,ca,rfl,h1,h2⟩:=Au hv;obtain⟨pb,nb,cb,rfl,k1,k2⟩:=Au hu;have hbx:=aZ.mk3 w (.slice pa na ca) (.slice pb nb cb) (.slice none 0 0);have hbl:=h.lt;obtain⟨wa,hwa⟩:∃wa,((w.alloc (.cells #[.slice pa na ca] 36)).alloc (.cells #[.slice pb nb cb] 36)).alloc (.cells #[.slice none 0 0] 36)=wa:=⟨_,rfl⟩
 rw[hwa]at hbx
 obtain⟨X,hX⟩:∃X,A*E%P=X:=⟨_,rfl⟩
 have HX:=Aa hX;have HLX:Ab (X<Ao 33):=⟨by rw[<-hX];exact Nat.lt_trans (Nat.mod_lt _ (by have:=h.lims.1;omega)) h.lims.2.1⟩
 rw[hX];obtain⟨rp,rq,pg,ng,cg,ph,nh,ch,g1,g2,_⟩:=h.ex;have HL:Ab (b<w.heap.size/\rp<w.heap.size):=⟨hbl,g2.at_.lt⟩
 have HG:=Aa ((hbx.bel.block b hbl).trans g1);have HR:=Aa (g2.below hbx.bel);have HA:=Aa ((Fit.of h1 h2).below hbx.bel);have HE:=Aa ((Fit.of k1 k2).below hbx.bel);have HB0:Ab (w.heap.size<=w.heap.size+1+1):=⟨by omega⟩
 have HNE:Ab (∀x∈[((w.heap.size,.cells #[.slice pa na ca] 36 (0,0)):Nat×Obj),(w.heap.size+1,.cells #[.slice pb nb cb] 36 (0,0))],x.1≠w.heap.size+1+1):=⟨List.forall_mem_cons.2 ⟨by simp only;omega,List.forall_mem_cons.2 ⟨by simp only;omega,fun x hx=>by cases hx⟩⟩⟩
 have HBX:=Aa hbx;clear hX g1 g2 h1 h2 k1 k2 hbx hbl h hv hu;go_enter Tryz.func89,Tryz.ntmps89;go_wp2;refine Am (by kernel_rfl) (by kernel_rfl)
  [some (.pointer (some ⟨b,0,none⟩)),none,some (.pointer (some ⟨b,0,none⟩)),some (.pointer (some ⟨b,0,none⟩)),some (.pointer (some ⟨rp,0,none⟩)),some (.agg #[.slice pa na ca]),some (.agg #[.slice pb nb cb]),none,none]
  [false,true,false,false,false,false,false,true,true] rfl
  (fun w1 w2=>Ap (w.heap.size) w1 w2)
  (fun D sp w'=>RG (w.heap.size) wa [(w.heap.size,.cells #[.slice pa na ca] 36 (0,0)),(w.heap.size+1,.cells #[.slice pb nb cb] 36 (0,0))] w'/\Xx (D 8) (w.heap.size+1+1) (X) w')
  (fun i v w'=>match i with
   | 1=>v=.pointer (some ⟨b,0,none⟩)
   | 7=>Fit 33 (X) v w'
   | _=>True)
  ?_ ⟨RG.start HBX.out.bel.size (List.forall_mem_cons.2 ⟨HBX.out.b0,List.forall_mem_cons.2 ⟨HBX.out.b1,fun x hx=>by cases hx⟩⟩),Xx.fresh HBX.out.b2⟩ ?_ ?_
 .intro i v w1 w2 hf hb;split at hf
  .exact hf
  .exact hf.keep hb
  .trivial
 .simp only[Bw,Nat.reduceAdd];refine⟨?_,?_,?_,?_,?_,?_,?_,?_,?_,trivial⟩
  all_goals intro D sp w' hD hW hdp hg
  case refine_2=>
   (with_reducible refine Ac (w1:=w') (f := 87) (args:=#[.pointer (some ⟨b,0,none⟩)]) ?_ ?_ ?_)
   .simp[Region.wanted,yielded,Act.put,go_sem]
   .simp[Act.eval,Act.put,go_sem]
   .refine(Ge w' b).mono ?_;rintro en w9 ⟨rfl,rfl⟩;exact⟨_,rfl,Ap.same _ _,rfl,hg.1,by simpa [upd]using hg.2⟩
  case refine_3=>
   have k1:(sp 1)=.pointer (some ⟨b,0,none⟩):=(hdp 1 (mq (by kernel_rfl))).2
   with_reducible refine Ad ?_ ?_
   all_goals simp[Region.wanted,yielded,execOp,Act.eval,Act.put,go_sem,k1]
  case refine_5=>
   have c0:=(Fn ((hg.1.keep.bel.block b HL.out.1).trans HG.out)).1
   with_reducible refine Ad ?_ ?_
   all_goals simp[Region.wanted,yielded,execOp,Act.eval,Act.put,go_sem,c0]
  case refine_6=>
   have c0:w'.cell? ⟨w.heap.size,0,none⟩=some (.slice pa na ca):=Af.cell (hg.1.of List.mem_cons_self)
   with_reducible refine Ad ?_ ?_
   all_goals simp[Region.wanted,yielded,execOp,Act.eval,Act.put,go_sem,c0]
  case refine_7=>
   have c0:w'.cell? ⟨w.heap.size+1,0,none⟩=some (.slice pb nb cb):=Af.cell (hg.1.of (List.mem_cons_of_mem _ List.mem_cons_self))
   with_reducible refine Ad ?_ ?_
   all_goals simp[Region.wanted,yielded,execOp,Act.eval,Act.put,go_sem,c0]
  case refine_8=>
   (with_reducible refine Ac (w1:=w') (f := 48) (args:=#[.pointer (some ⟨rp,0,none⟩),.agg #[.slice pa na ca],.agg #[.slice pb nb cb]]) ?_ ?_ ?_)
   .simp[Region.wanted,yielded,Act.put,go_sem]
   .simp[Act.eval,Act.put,go_sem]
   .refine(Ds (HR.out.keep HL.out.2 hg.1.keep) (HA.out.keep hg.1.keep) (HE.out.keep hg.1.keep) (by omega) (by omega)).mono ?_;rintro en w9 ⟨u,rfl,hu,hb⟩;rw[HX.out]at hu
    exact⟨u,rfl,Ap.of hb hg.1.base,hu,hg.1.later hb,by simpa [upd]using hg.2.later hb⟩
  case refine_9=>
   have hx:∃p n c,sp 7=.agg #[.slice p n c]/\Ai w' p n c (X)/\X<Ao (33):=(hdp 7 (mq (by kernel_rfl))).2
   (with_reducible refine Bp hx fun p hx1=>Bp hx1 fun n hx2=>Bp hx2 fun c hx3=>?_)
   have h1:=hx3.1;have hp:=hg.2.put (hx3.2.1)
   (with_reducible refine Bp hp fun q hy1=>Bp hy1 fun m hy2=>Bp hy2 fun k hy3=>?_)
   have h6:=hy3.1.cell;have h7:=hy3.1.free
   (with_reducible refine Ar (w1:=w'.setCell ⟨w.heap.size+1+1,0,none⟩ (.slice p n c)) ?_ ?_ ?_)
   .simp[Region.wanted,yielded,Act.put,go_sem]
   .simp[execOp,Act.eval,Act.put,go_sem,h1,h6,h7]
   .refine⟨Ap.store hy3.1 HB0.out _,trivial,hg.1.store hy3.1 HB0.out HNE.out _,?_⟩;have h8:=hy3.2;simpa [upd]using h8
  all_goals ((with_reducible refine Ad ?_ ?_);all_goals first|(simp only[Region.wanted];done)|simp[Region.wanted,yielded,execOp,Act.eval,Act.put,go_sem])
 .intro sp w7 hsp hg;obtain⟨hg1,pz,nz,cz,hz1,hz2⟩:=hg;have kz:=hz1.cell;have HZ:=Aa (hz2 rfl);have HB7:=Aa (HBX.out.bel.trans hg1.keep.bel);clear hsp hg1 hz1 hz2;simp only[An,Nat.reduceAdd];generalize sp 1=y1,sp 7=y7,sp 8=y8 at *
  go_simp
  go_wp2;exact bodyPost_ret (v:=.agg #[.slice pz nz cz]) (by simp[results,Tryz.results89,go_sem,kz]) rfl ⟨_,rfl,Fit.of HZ.out HLX.out,HB7.out⟩
theorem lC {w:World}{b P Q G H e1 e2 A E:Nat}{v u:Value}(h:Cp w b P Q G H)(hv:Fit e1 A v w)(hu:Fit e2 E u w)(he1:e1<=30000)(he2:e2<=30000) :
  Calls Tryz.prog 42 #[.pointer (some ⟨b,0,none⟩),v,u] w fun e w'=>∃x,e=.returned x/\Fit 33 (A^E%P) x w'/\Below w.heap.size w w':=by
 obtain⟨pa,na,ca,rfl,h1,h2⟩:=Au hv;obtain⟨pb,nb,cb,rfl,k1,k2⟩:=Au hu;have hbx:=aZ.mk3 w (.slice pa na ca) (.slice pb nb cb) (.slice none 0 0);have hbl:=h.lt;obtain⟨wa,hwa⟩:∃wa,((w.alloc (.cells #[.slice pa na ca] 36)).alloc (.cells #[.slice pb nb cb] 36)).alloc (.cells #[.slice none 0 0] 36)=wa:=⟨_,rfl⟩
 rw[hwa]at hbx
 obtain⟨X,hX⟩:∃X,A^E%P=X:=⟨_,rfl⟩
 have HX:=Aa hX;have HLX:Ab (X<Ao 33):=⟨by rw[<-hX];exact Nat.lt_trans (Nat.mod_lt _ (by have:=h.lims.1;omega)) h.lims.2.1⟩
 rw[hX];obtain⟨rp,rq,pg,ng,cg,ph,nh,ch,g1,g2,_⟩:=h.ex;have HL:Ab (b<w.heap.size/\rp<w.heap.size):=⟨hbl,g2.at_.lt⟩
 have HG:=Aa ((hbx.bel.block b hbl).trans g1);have HR:=Aa (g2.below hbx.bel);have HA:=Aa ((Fit.of h1 h2).below hbx.bel);have HE:=Aa ((Fit.of k1 k2).below hbx.bel);have HB0:Ab (w.heap.size<=w.heap.size+1+1):=⟨by omega⟩
 have HNE:Ab (∀x∈[((w.heap.size,.cells #[.slice pa na ca] 36 (0,0)):Nat×Obj),(w.heap.size+1,.cells #[.slice pb nb cb] 36 (0,0))],x.1≠w.heap.size+1+1):=⟨List.forall_mem_cons.2 ⟨by simp only;omega,List.forall_mem_cons.2 ⟨by simp only;omega,fun x hx=>by cases hx⟩⟩⟩
 have HBX:=Aa hbx;clear hX g1 g2 h1 h2 k1 k2 hbx hbl h hv hu;go_enter Tryz.func42,Tryz.ntmps42;go_wp2;refine Am (by kernel_rfl) (by kernel_rfl)
  [some (.pointer (some ⟨b,0,none⟩)),none,some (.pointer (some ⟨b,0,none⟩)),some (.pointer (some ⟨b,0,none⟩)),some (.pointer (some ⟨rp,0,none⟩)),some (.agg #[.slice pa na ca]),some (.agg #[.slice pb nb cb]),none,none]
  [false,true,false,false,false,false,false,true,true] rfl
  (fun w1 w2=>Ap (w.heap.size) w1 w2)
  (fun D sp w'=>RG (w.heap.size) wa [(w.heap.size,.cells #[.slice pa na ca] 36 (0,0)),(w.heap.size+1,.cells #[.slice pb nb cb] 36 (0,0))] w'/\Xx (D 8) (w.heap.size+1+1) (X) w')
  (fun i v w'=>match i with
   | 1=>v=.pointer (some ⟨b,0,none⟩)
   | 7=>Fit 33 (X) v w'
   | _=>True)
  ?_ ⟨RG.start HBX.out.bel.size (List.forall_mem_cons.2 ⟨HBX.out.b0,List.forall_mem_cons.2 ⟨HBX.out.b1,fun x hx=>by cases hx⟩⟩),Xx.fresh HBX.out.b2⟩ ?_ ?_
 .intro i v w1 w2 hf hb;split at hf
  .exact hf
  .exact hf.keep hb
  .trivial
 .simp only[Bw,Nat.reduceAdd];refine⟨?_,?_,?_,?_,?_,?_,?_,?_,?_,trivial⟩
  all_goals intro D sp w' hD hW hdp hg
  case refine_2=>
   (with_reducible refine Ac (w1:=w') (f := 87) (args:=#[.pointer (some ⟨b,0,none⟩)]) ?_ ?_ ?_)
   .simp[Region.wanted,yielded,Act.put,go_sem]
   .simp[Act.eval,Act.put,go_sem]
   .refine(Ge w' b).mono ?_;rintro en w9 ⟨rfl,rfl⟩;exact⟨_,rfl,Ap.same _ _,rfl,hg.1,by simpa [upd]using hg.2⟩
  case refine_3=>
   have k1:(sp 1)=.pointer (some ⟨b,0,none⟩):=(hdp 1 (mq (by kernel_rfl))).2
   with_reducible refine Ad ?_ ?_
   all_goals simp[Region.wanted,yielded,execOp,Act.eval,Act.put,go_sem,k1]
  case refine_5=>
   have c0:=(Fn ((hg.1.keep.bel.block b HL.out.1).trans HG.out)).1
   with_reducible refine Ad ?_ ?_
   all_goals simp[Region.wanted,yielded,execOp,Act.eval,Act.put,go_sem,c0]
  case refine_6=>
   have c0:w'.cell? ⟨w.heap.size,0,none⟩=some (.slice pa na ca):=Af.cell (hg.1.of List.mem_cons_self)
   with_reducible refine Ad ?_ ?_
   all_goals simp[Region.wanted,yielded,execOp,Act.eval,Act.put,go_sem,c0]
  case refine_7=>
   have c0:w'.cell? ⟨w.heap.size+1,0,none⟩=some (.slice pb nb cb):=Af.cell (hg.1.of (List.mem_cons_of_mem _ List.mem_cons_self))
   with_reducible refine Ad ?_ ?_
   all_goals simp[Region.wanted,yielded,execOp,Act.eval,Act.put,go_sem,c0]
  case refine_8=>
   (with_reducible refine Ac (w1:=w') (f := 114) (args:=#[.pointer (some ⟨rp,0,none⟩),.agg #[.slice pa na ca],.agg #[.slice pb nb cb]]) ?_ ?_ ?_)
   .simp[Region.wanted,yielded,Act.put,go_sem]
   .simp[Act.eval,Act.put,go_sem]
   .refine(Jc (HR.out.keep HL.out.2 hg.1.keep) (HA.out.keep hg.1.keep) (HE.out.keep hg.1.keep) (by omega) (by omega)).mono ?_;rintro en w9 ⟨u,rfl,hu,hb⟩;rw[HX.out]at hu
    exact⟨u,rfl,Ap.of hb hg.1.base,hu,hg.1.later hb,by simpa [upd]using hg.2.later hb⟩
  case refine_9=>
   have hx:∃p n c,sp 7=.agg #[.slice p n c]/\Ai w' p n c (X)/\X<Ao (33):=(hdp 7 (mq (by kernel_rfl))).2
   (with_reducible refine Bp hx fun p hx1=>Bp hx1 fun n hx2=>Bp hx2 fun c hx3=>?_)
   have h1:=hx3.1;have hp:=hg.2.put (hx3.2.1)
   (with_reducible refine Bp hp fun q hy1=>Bp hy1 fun m hy2=>Bp hy2 fun k hy3=>?_)
   have h6:=hy3.1.cell;have h7:=hy3.1.free
   (with_reducible refine Ar (w1:=w'.setCell ⟨w.heap.size+1+1,0,none⟩ (.slice p n c)) ?_ ?_ ?_)
   .simp[Region.wanted,yielded,Act.put,go_sem]
   .simp[execOp,Act.eval,Act.put,go_sem,h1,h6,h7]
   .refine⟨Ap.store hy3.1 HB0.out _,trivial,hg.1.store hy3.1 HB0.out HNE.out _,?_⟩;have h8:=hy3.2;simpa [upd]using h8
  all_goals ((with_reducible refine Ad ?_ ?_);all_goals first|(simp only[Region.wanted];done)|simp[Region.wanted,yielded,execOp,Act.eval,Act.put,go_sem])
 .intro sp w7 hsp hg;obtain⟨hg1,pz,nz,cz,hz1,hz2⟩:=hg;have kz:=hz1.cell;have HZ:=Aa (hz2 rfl);have HB7:=Aa (HBX.out.bel.trans hg1.keep.bel);clear hsp hg1 hz1 hz2;simp only[An,Nat.reduceAdd];generalize sp 1=y1,sp 7=y7,sp 8=y8 at *
  go_simp
  go_wp2;exact bodyPost_ret (v:=.agg #[.slice pz nz cz]) (by simp[results,Tryz.results42,go_sem,kz]) rfl ⟨_,rfl,Fit.of HZ.out HLX.out,HB7.out⟩
end Go.Proofs.YtnbmfaihlefgfaaGreatDoor
