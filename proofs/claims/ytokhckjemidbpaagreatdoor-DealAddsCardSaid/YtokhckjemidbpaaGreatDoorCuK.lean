/- A value, from the last coefficient down (curve.valueAt). -/
import Derived.Test.YtokhckjemidbpaaGreatDoorCuI
set_option maxRecDepth 1000000
set_option maxHeartbeats 16000000
set_option linter.all false
namespace Go.Proofs.YtokhckjemidbpaaGreatDoor
open Go Go.RowKit Go.Proofs.YtokhckjemidbpaaGreatDoor.Flow
attribute [local go_sem] Oper.semAt_some
theorem Ta (w:World)(p:Option Addr)(n c:Nat) :
  Calls Tryz.prog 207 #[.slice p n c] w fun e w'=>e=.returned (.func (.func 231) #[] #[.pointer (some ⟨w.heap.size,0,none⟩)]) /\
   w'=w.alloc (.cells #[.slice p n c] 62):=by
 go_enter Tryz.func207,Tryz.ntmps207;go_wp2;go_ret;exact⟨rfl,rfl⟩
theorem Qz (n B l b1 b off len cap:Nat)(p:Option Addr)(us:List (Option Addr×Nat×Nat))(w0 W:World)(hr:Oj w0 p len cap b off us)(hlen:len<=1000000)(Kp:World->World->Prop)(hW:Below w0.heap.size w0 W)(hc1:W.cell? ⟨b1,0,none⟩=some (.slice p len cap))(hkp:∀A C,Kp A C->w0.heap.size<=A.heap.size->Below w0.heap.size A C/\∀u,A.cell? ⟨b1,0,none⟩=some u->C.cell? ⟨b1,0,none⟩=some u) :
  eA Fence.wide n Tryz.prog 231 #[.pointer (some ⟨b1,0,none⟩)] B l len Kp (fun k vs _=>∃x,us[len-1-k]? = some x/\vs=#[.int .i64 ((len-1-k:Nat):Int),.agg #[sv x]]) W:=by
 intro J hJ hY h0;have HJ:Aa (OwnFrom B J):=⟨hJ⟩
 have HY:=Ab hY;have HK:=Ab hkp;have HR:=Ab hr;have HJ0:=Ab h0;have HW:=Ab hW;have HC1:=Ab hc1;clear hJ hY hkp hr h0 hW;refine callsIn_of_wp Tryz.func231 rfl trivial ?_ rfl;simp only[Tryz.ntmps231,List.size_toArray,List.length_cons,List.length_nil,Nat.reduceAdd,Nat.reduceSub,Array.replicate_succ,Array.replicate_zero,List.push_toArray,List.append_toArray,List.nil_append,List.cons_append]
 gi_wp2
 clear hc1
 gi_loopw [3] (fun i wr=>∃(k:Nat) (z:Int),k<=len/\i=.int .i64 z/\z=(len:Int)-1-k/\Aa (J k wr)/\Aa (Below w0.heap.size w0 wr)/\Aa (wr.cell? ⟨b1,0,none⟩=some (.slice p len cap))) (fun i _=>(intOf i+1).toNat)
 case atStart=>exact⟨0,(len:Int)-1,by omega,by go_num,by omega,HJ0,HW,HC1⟩
 case round=>
  obtain⟨k,z,hk,rfl,hz,HJk,HB,HC⟩:=hrel
  by_cases hkn:k<len
  .obtain⟨m,hm⟩:∃m,len-1-k=m:=⟨_,rfl⟩
   obtain rfl:z=(m:Nat):=by omega
   obtain⟨x,hx⟩:∃x,us[m]? = some x:=⟨us[m]'(by rw[HR.out.len];omega),List.getElem?_eq_getElem _⟩
   obtain⟨rfl,hblt⟩:=HR.out.ptr (by omega);obtain⟨q,mm,d⟩:=x;have hc:wr.cell? ⟨b,off+m,none⟩=some (.slice q mm d):=(HB.out.cell (p:=⟨b,off+m,none⟩) hblt).trans (HR.out.cell m _ hx);have hge:(0:Int)<=(m:Nat):=by omega
   have hml:(m:Int)<len:=by omega
   have c1:=HC.out;have HM:=Ab hm;obtain⟨fn,tmps,assign,body,hy,hR⟩:=HY.out k #[.int .i64 (m:Nat),.agg #[.slice q mm d]] wr hkn HJk.out ⟨_,by rw[hm];exact hx,by rw[hm];rfl⟩;have HRn:=Ab hR;clear hx hblt hR hz hm
   gi_wp2_with fail
   refine⟨fun h=>by simp[Fence.wide]at h,HRn.out.mono ?_⟩;rintro e W3 ⟨rfl,hJ3,hk3⟩;have HJ3:=Ab hJ3;have h3:=HK.out _ _ hk3 HB.out.size;have HB3:=Ab (HB.out.trans h3.1);have HC3:=Ab (h3.2 _ HC.out);clear hJ3 hk3 hy hc h3 c1
   gi_wp2
   go_roundw
   case rel=>exact⟨k+1,(m:Int)-1,by omega,by go_num,by have:=HM.out;omega,HJ3,HB3,HC3⟩
   case measure=>simp[intOf]
  .have hkN:k=len:=by omega
   subst hkN;obtain rfl:z = -1:=by omega
   gi_wp2
   go_end0
   exact⟨⟨_,rfl⟩,HJk.out⟩
structure RB (b B:Nat) (wx:World) (l:List (Nat×Obj)) (w:World):Prop where
 keep:Am B wx w
 base:B<=w.heap.size
 blk:∀x∈l,w.heap[x.1]? = some x.2
 but:Ev b wx w
theorem RB.start {b B:Nat}{wx:World}{l:List (Nat×Obj)}(hB:B<=wx.heap.size)(hl:∀x∈l,wx.heap[x.1]? = some x.2):RB b B wx l wx.drew:=⟨Am.drew _ _,hB,hl,(Ev.refl _ _).drew⟩
theorem RB.later {b B:Nat}{wx:World}{l:List (Nat×Obj)}{w w':World}(h:RB b B wx l w)(hb:Below w.heap.size w w'):RB b B wx l w' :=
 ⟨h.keep.trans (Am.of hb h.base),Er h.base hb.size,fun x hx=>by rw[hb.block x.1 (Gs (h.blk x hx)).1];exact h.blk x hx,h.but.trans (Ev.of hb)⟩
theorem RB.store {B:Nat}{wx:World}{l:List (Nat×Obj)}{w:World}{b m d:Nat}{q:Option Addr}(h:RB b B wx l w)(hb:Ae w b (.slice q m d))(hB:B<=b)(hn:∀x∈l,x.1≠b)(v:Value):RB b B wx l (w.setCell ⟨b,0,none⟩ v) :=
 ⟨h.keep.trans (Am.store hb hB v),by simpa using h.base,fun x hx=>by
  have:=hn x hx;simp[World.setCell,Array.getElem?_modify,this.symm];exact h.blk x hx,h.but.trans (Ev.setCell _ _ _)⟩
theorem RB.of {b B:Nat}{wx:World}{l:List (Nat×Obj)}{w:World}(h:RB b B wx l w){c:Nat}{o:Obj}(hm:(c,o)∈l):w.heap[c]? = some o:=h.blk _ hm
theorem Ev.mid {b:Nat}{w w':World}(h:Ev b w w'){p:Nat->Prop}(hp:¬p b):Mid p w w':=⟨h.os,h.tape,h.output,h.size,fun k hk hpk=>h.block k hk (fun e=>hp (e ▸ hpk))⟩
theorem Ev.keepsFrom {b D:Nat}{w w':World}(h:Ev b w w'){cs:Array Value}{t:TypeId}{m:Nat×Nat}(hb:w.heap[b]? = some (.cells cs t m)):KeepsFrom D w w' :=
 ⟨h.size,fun k o _ hk ho=>by rw[h.block k (Gs hk).1 (fun e=>by subst e;rw[hb]at hk;cases hk;cases ho)];exact hk⟩
structure Tc (w:World) (b2 b3 b4 b5 b6 gp gt:Nat) (pp pt ux sl:Value) (N:Nat) (W:World):Prop where
 c0:Ae W w.heap.size ux
 c2:W.heap[b2]? = some (.cells #[.func (.func gp) #[pp] #[]] 254 (0,0))
 c3:W.heap[b3]? = some (.cells #[.func (.func gt) #[pt] #[]] 254 (0,0))
 c4:Ae W b4 (.slice none 0 0)
 c5:Dg W b5 N
 c6:W.heap[b6]? = some (.cells #[sl] 62 (0,0))
 bel:Below w.heap.size w W
theorem Tc.stable {w:World}{b2 b3 b4 b5 b6 gp gt N:Nat}{pp pt ux sl:Value}{W W':World}(h:Tc w b2 b3 b4 b5 b6 gp gt pp pt ux sl N W)(hb:Below W.heap.size W W'):Tc w b2 b3 b4 b5 b6 gp gt pp pt ux sl N W' :=
 ⟨h.c0.below hb h.c0.lt,by rw[hb.block b2 (Gs h.c2).1];exact h.c2,by rw[hb.block b3 (Gs h.c3).1];exact h.c3,h.c4.below hb h.c4.lt,h.c5.below hb,by rw[hb.block b6 (Gs h.c6).1];exact h.c6,Af h.bel hb⟩
theorem Tc.own {w:World}{b2 b3 b4 b5 b6 gp gt:Nat}{N:Nat->Nat}{pp pt ux sl:Value}{D:Nat}(hD:w.heap.size<=D):OwnFrom D (fun k=>Tc w b2 b3 b4 b5 b6 gp gt pp pt ux sl (N k)):=fun k W W' row h hg hr=>by
 have hc:Calm W row:=fun j e=>(hr j e).2
 obtain⟨p,n,c,h1,h2⟩:=h.c5;exact⟨Df hg hc h.c0,Df hg hc h.c2,Df hg hc h.c3,Df hg hc h.c4,⟨p,n,c,Df hg hc h1,h2.kept hg hc⟩,Df hg hc h.c6,h.bel.grown hg h.bel.size (fun j e=>Er hD (hr j e).1)⟩
attribute [local go_sem] Oper.semAt_some
theorem aY {w:World}{b:Nat}{v:Value}{t:TypeId}(h:w.heap[b]? = some (.cells #[v] t (0,0))):w.cell? ⟨b,0,none⟩=some v:=by simp[World.cell?,h]
theorem drop_step {As:List Nat}{n k A:Nat}(_:As.length=n)(hk:k<n)(hA:As[n-1-k]? = some A):As.drop (n-(k+1))=A::As.drop (n-k):=by
 obtain⟨h1,h2⟩:=List.getElem?_eq_some_iff.1 hA;rw[show n-(k+1)=n-1-k by omega,List.drop_eq_getElem_cons h1,h2,show n-1-k+1=n-k by omega]
theorem Yj (w:World){e ex n c O X gp gt:Nat}{pp pt v u:Value}{hp ht:Nat->Nat->Nat}{p:Option Addr}{As:List Nat}(egp:∀args w,(callFunc gp args).run Tryz.prog w=.ok (.enter gp args) w)(egt:∀args w,(callFunc gt args).run Tryz.prog w=.ok (.enter gt args) w)(hP:oX gp pp w hp)(hT:oX gt pt w ht)(hA:Aq w e p n c As)(hX:Fit ex X v w)(hO:Fit 33 O u w)(he:e<=200)(hex:ex<=200)(hn:n<=1000000) :
  CallsIn Fence.wide 10 Tryz.prog 161 #[.slice p n c,v,u,.func (.func gp) #[pp] #[],.func (.func gt) #[pt] #[]] w fun en w'=>∃x,en=.returned x/\Fit 33 (Ih hp ht X O As) x w'/\Below w.heap.size w w':=by
 obtain⟨px,nx,cx,rfl,x1,x2⟩:=Ao hX;obtain⟨po,no,co,rfl,o1,o2⟩:=Ao hO;obtain⟨us,b,off,hu,hr⟩:=Qa hA;have HLA:=Ab hA.len;have HTR:=Ab hu;have HRO:=Ab hr;have HPp:=Ab hP;have HT:=Ab hT;have HFX:=Ab (Fit.of x1 x2);have HFO:=Ab (Fit.of o1 o2);obtain⟨W1,hW1⟩:∃W,w.alloc (.cells #[.slice px nx cx] 37)=W:=⟨_,rfl⟩
 obtain⟨W2,hW2⟩:∃W,W1.alloc (.cells #[.slice po no co] 37)=W:=⟨_,rfl⟩
 obtain⟨W3,hW3⟩:∃W,W2.alloc (.cells #[.func (.func gp) #[pp] #[]] 254)=W:=⟨_,rfl⟩
 obtain⟨W4,hW4⟩:∃W,W3.alloc (.cells #[.func (.func gt) #[pt] #[]] 254)=W:=⟨_,rfl⟩
 obtain⟨W5,hW5⟩:∃W,W4.alloc (.cells #[.slice none 0 0] 37)=W:=⟨_,rfl⟩
 obtain⟨W6,hW6⟩:∃W,W5.alloc (.cells #[.slice po no co] 37)=W:=⟨_,rfl⟩
 clear hA hu hr hP hT hX hO x1 o1;refine callsIn_of_wp_marks Tryz.func161 rfl trivial ?_ rfl;simp only[Tryz.ntmps161,List.size_toArray,List.length_cons,List.length_nil,Nat.reduceAdd,Nat.reduceSub,Array.replicate_succ,Array.replicate_zero,List.push_toArray,List.append_toArray,List.nil_append,List.cons_append];have a1:Below w.heap.size w W1:=by rw[<-hW1];exact(Ba _ _).alloc (Aw _) _
 have a2:Below W1.heap.size W1 W2:=by rw[<-hW2];exact(Ba _ _).alloc (Aw _) _
 have a3:Below W2.heap.size W2 W3:=by rw[<-hW3];exact(Ba _ _).alloc (Aw _) _
 have a4:Below W3.heap.size W3 W4:=by rw[<-hW4];exact(Ba _ _).alloc (Aw _) _
 have a5:Below W4.heap.size W4 W5:=by rw[<-hW5];exact(Ba _ _).alloc (Aw _) _
 have a6:Below W5.heap.size W5 W6:=by rw[<-hW6];exact(Ba _ _).alloc (Aw _) _
 have s1:W1.heap.size=w.heap.size+1:=by rw[<-hW1];simp
 have s2:W2.heap.size=W1.heap.size+1:=by rw[<-hW2];simp
 have s3:W3.heap.size=W2.heap.size+1:=by rw[<-hW3];simp
 have s4:W4.heap.size=W3.heap.size+1:=by rw[<-hW4];simp
 have s5:W5.heap.size=W4.heap.size+1:=by rw[<-hW5];simp
 have s6:W6.heap.size=W5.heap.size+1:=by rw[<-hW6];simp
 have m1:W2.heap[W1.heap.size]? = some (.cells #[.slice po no co] 37 (0,0)):=by rw[<-hW2];exact heap_alloc_new _ _
 have k1:W5.cell? ⟨W1.heap.size,0,none⟩=some (.slice po no co):=by
  rw[(Af a3 (Af a4 a5)).cell (p:=⟨W1.heap.size,0,none⟩) (by simp only;omega)];exact Ae.cell m1
 obtain⟨W7,hW7⟩:∃W,W6.alloc (.cells #[.slice p n c] 62)=W:=⟨_,rfl⟩
 have a7:Below W6.heap.size W6 W7:=by rw[<-hW7];exact(Ba _ _).alloc (Aw _) _
 have s7:W7.heap.size=W6.heap.size+1:=by rw[<-hW7];simp
 have t6:=a7;have t5:=Af a6 t6;have t4:=Af a5 t5;have t3:=Af a4 t4;have t2:=Af a3 t3;have t1:=Af a2 t2;have t0:=Af a1 t1;have m0:Ae W7 w.heap.size (.slice px nx cx):=Ae.below (w:=W1) (by rw[<-hW1];exact Ae.made _ _) t1 (by omega);have m2:W7.heap[W2.heap.size]? = some (.cells #[.func (.func gp) #[pp] #[]] 254 (0,0)):=by rw[t3.block _ (by omega),<-hW3];exact heap_alloc_new _ _
 have m3:W7.heap[W3.heap.size]? = some (.cells #[.func (.func gt) #[pt] #[]] 254 (0,0)):=by rw[t4.block _ (by omega),<-hW4];exact heap_alloc_new _ _
 have m4:Ae W7 W4.heap.size (.slice none 0 0):=Ae.below (w:=W5) (by rw[<-hW5];exact Ae.made _ _) t5 (by omega);have m5:Ae W7 W5.heap.size (.slice po no co):=Ae.below (w:=W6) (by rw[<-hW6];exact Ae.made _ _) t6 (by omega);have m6:W7.heap[W6.heap.size]? = some (.cells #[.slice p n c] 62 (0,0)):=by rw[<-hW7];exact heap_alloc_new _ _
 have HST:Aa (Tc w W2.heap.size W3.heap.size W4.heap.size W5.heap.size W6.heap.size gp gt pp pt (.slice px nx cx) (.slice p n c) (Ih hp ht X O (As.drop (n-0))) W7/\Ih hp ht X O (As.drop (n-0))<An 33):=⟨by
  have e0:As.drop (n-0)=[]:=List.drop_eq_nil_of_le (by rw[<-HLA.out];exact Aw _);rw[e0];exact⟨⟨m0,m2,m3,m4,⟨po,no,co,m5,(Hq HFO.out).below t0⟩,m6,t0⟩,o2⟩⟩
 have HLO:Aa (w.heap.size<W2.heap.size/\W2.heap.size<W3.heap.size/\W3.heap.size<W4.heap.size/\W4.heap.size<W5.heap.size/\W5.heap.size<W6.heap.size/\W7.heap.size=W6.heap.size+1):=⟨⟨by omega,by omega,by omega,by omega,by omega,s7⟩⟩
 have HC6:Aa (W7.cell? ⟨W6.heap.size,0,none⟩=some (.slice p n c)):=⟨by simp[World.cell?,m6]⟩
 clear a1 a2 a3 a4 a5 a6 a7 s1 s2 s3 s4 s5 s6 s7 t1 t2 t3 t4 t5 t6 m0 m1 m2 m3 m4 m5 m6;have HB7:=Ab t0;clear t0
 gi_wp2_with fail
 refine⟨trivial,(callsIn_wide.2 (Ta _ p n c)).mono ?_⟩;rintro en W7' ⟨rfl,rfl⟩
 gi_wp2_with fail
 clear hW1 hW2 hW3 hW4 hW5 hW6 hW7 k1;obtain⟨b1,hb1⟩:∃b,W1.heap.size=b:=⟨_,rfl⟩
 obtain⟨b2,hb2⟩:∃b,W2.heap.size=b:=⟨_,rfl⟩
 obtain⟨b3,hb3⟩:∃b,W3.heap.size=b:=⟨_,rfl⟩
 obtain⟨b4,hb4⟩:∃b,W4.heap.size=b:=⟨_,rfl⟩
 obtain⟨b5,hb5⟩:∃b,W5.heap.size=b:=⟨_,rfl⟩
 obtain⟨b6,hb6⟩:∃b,W6.heap.size=b:=⟨_,rfl⟩
 rw[hb2,hb3,hb4,hb5,hb6]at HST HLO
 rw[hb6]at HC6
 simp only[hb1,hb2,hb3,hb4,hb5,hb6];clear hb1 hb2 hb3 hb4 hb5 hb6;refine Fq rfl (by decide) (gf := 231) (lb:=#[.pointer (some ⟨b6,0,none⟩)]) rfl trivial (enters_of Tryz.func231 (by kernel_rfl) rfl)
  (N:=n) (Kp:=Mid (fun j=>j<w.heap.size ∨ j=b6)) (Gd:=fun k vs _=>∃x,us[n-1-k]? = some x/\vs=#[.int .i64 ((n-1-k:Nat):Int),.agg #[sv x]]) (by rintro k vs W ⟨x,_,rfl⟩;rfl)
  (fun W8 hs8 hb8=>Qz (10-1) (W7.heap.size+2) (W7.heap.size+1) b6 b off n c p us w W8 HRO.out hn _ (HB7.out.trans (hb8.mono HB7.out.size))
   ((hb8.cell (p:=⟨b6,0,none⟩) (by have:=HLO.out;simp only;omega)).trans HC6.out) (fun A C h hA=>⟨h.below hA (fun j hj=>.inl hj),fun u hu=>h.cell (a:=⟨b6,0,none⟩) (.inr rfl) hu⟩))
  (fun h k=>h.trans k) (fun W8 o=>Mid.putObj _ _ _ (by have:=HLO.out;omega))
  (fun k W=>Tc w b2 b3 b4 b5 b6 gp gt pp pt (.slice px nx cx) (.slice p n c) (Ih hp ht X O (As.drop (n-k))) W/\Ih hp ht X O (As.drop (n-k))<An 33) (OwnFrom.and (Tc.own (N:=fun k=>Ih hp ht X O (As.drop (n-k))) (by have:=HLO.out;omega)) (ownFrom_pure _ (fun k=>Ih hp ht X O (As.drop (n-k))<An 33))) HST.out
  (fun k a' W=>∃(bv:Nat) (x:Option Addr×Nat×Nat),us[n-1-k]? = some x/\a'={ defers:=[],tmps:=#[.slice p n c,.agg #[.slice px nx cx],.agg #[.slice po no co],.func (.func gp) #[pp] #[],.func (.func gt) #[pt] #[],undef,.pointer (some ⟨w.heap.size,0,none⟩),.pointer (some ⟨b1,0,none⟩),.pointer (some ⟨b2,0,none⟩),.pointer (some ⟨b3,0,none⟩),.pointer (some ⟨b4,0,none⟩),.pointer (some ⟨b5,0,none⟩),undef,.pointer (some ⟨bv,0,none⟩),.agg #[.slice po no co],.slice p n c,
    .func (.func 231) #[] #[.pointer (some ⟨b6,0,none⟩)],.int .i64 ((n-1-k:Nat):Int),.agg #[.slice x.1 x.2.1 x.2.2],undef,undef,undef,undef,undef,undef,undef,undef] }/\Ae W bv (sv x)/\b6<bv/\Tc w b2 b3 b4 b5 b6 gp gt pp pt (.slice px nx cx) (.slice p n c) (Ih hp ht X O (As.drop (n-k))) W/\Ih hp ht X O (As.drop (n-k))<An 33)
  ?ax ?assign ?body ?done
 case ax=>
  rintro k a' _ X1 Y row ⟨bv,x,hx,e,h1,h1b,h2,h3⟩ hg hr;exact⟨bv,x,hx,e,Df hg (fun j e=>(hr j e).2) h1,h1b,Tc.own (N:=fun k=>Ih hp ht X O (As.drop (n-k))) (D:=W7.heap.size) HB7.out.size k X1 Y row h2 hg hr,h3⟩
 case assign=>
  rintro l2 k v W8 K hk hi ⟨x,hx,rfl⟩ hK;obtain⟨q,m,d⟩:=x;have hbw:Below W8.heap.size W8 (W8.alloc (.cells #[.slice q m d] 37)):=Bt;have HK:=Ab hK;have HI:=Ab hi;have HX:=Ab hx;clear hK hi hx;unfold sv
  gi_wp2
  exact HK.out _ _ ((KeepsOthers.alloc _ _).from _) (Mid.of hbw) ⟨_,(q,m,d),HX.out,rfl,Ae.made W8 _,(Gs HI.out.1.c6).1,HI.out.1.stable hbw,HI.out.2⟩
 case body=>
  rintro l2 k a' Wb hk ⟨bv,x,hx,rfl,hxn,hbv,hst,hlim⟩;obtain⟨A,hA,ha2,ha3⟩:=HTR.out.get hx;obtain⟨pq,nq,cq,hqb,hqn⟩:=hst.c5;obtain⟨NN,hNN⟩:∃N,Ih hp ht X O (As.drop (n-k))=N:=⟨_,rfl⟩
  rw[hNN]at hqn hlim
  obtain⟨Z,hZ⟩:∃Z,hp (ht NN X) A=Z:=⟨_,rfl⟩
  have HZ:=Ab hZ;have HSN:Aa (Ih hp ht X O (As.drop (n-(k+1)))=Z):=⟨by
   rw[drop_step HLA.out.symm hk hA,<-hZ,<-hNN];rfl⟩
  have HST1:=Ab hst;have HFO1:=Ab (Fit.of hqn hlim);have HFX1:=Ab (HFX.out.below hst.bel);have HFA1:=Ab ((Fit.of ha2 ha3).below hst.bel);have HOB:=Ab hqb;have HXN:Aa (Ae Wb bv (.slice x.1 x.2.1 x.2.2)):=⟨hxn⟩
  have HL5:Aa (w.heap.size<=b5):=⟨by have:=HLO.out;omega⟩
  have HNE:Aa (∀y∈([(bv,.cells #[.slice x.1 x.2.1 x.2.2] 37 (0,0)),(w.heap.size,.cells #[.slice px nx cx] 37 (0,0)),(b2,.cells #[.func (.func gp) #[pp] #[]] 254 (0,0)),(b3,.cells #[.func (.func gt) #[pt] #[]] 254 (0,0)),(b4,.cells #[.slice none 0 0] 37 (0,0)),(b6,.cells #[.slice p n c] 62 (0,0))]:List (Nat×Obj)),y.1≠b5):=⟨by
   have h1:=HLO.out;intro y hy;simp only[List.mem_cons,List.not_mem_nil,or_false]at hy;rcases hy with rfl|rfl|rfl|rfl|rfl|rfl<;>simp only<;>omega⟩
  have HLL:Aa (∀y∈([(bv,.cells #[.slice x.1 x.2.1 x.2.2] 37 (0,0)),(w.heap.size,.cells #[.slice px nx cx] 37 (0,0)),(b2,.cells #[.func (.func gp) #[pp] #[]] 254 (0,0)),(b3,.cells #[.func (.func gt) #[pt] #[]] 254 (0,0)),(b4,.cells #[.slice none 0 0] 37 (0,0)),(b6,.cells #[.slice p n c] 62 (0,0))]:List (Nat×Obj)),Wb.heap[y.1]? = some y.2):=⟨by
   intro y hy;simp only[List.mem_cons,List.not_mem_nil,or_false]at hy;rcases hy with rfl|rfl|rfl|rfl|rfl|rfl
   .exact HXN.out
   .exact HST1.out.c0
   .exact HST1.out.c2
   .exact HST1.out.c3
   .exact HST1.out.c4
   .exact HST1.out.c6⟩
  clear hx hxn hst hlim hA ha2 hqb hqn hNN hZ
  gi_wp2_with fail
  refine Mc (Fe:=Fence.wide.inRound l2) (by kernel_rfl) (by kernel_rfl) (by kernel_rfl) (fun _=>trivial) rfl
   [some (.func (.func gp) #[pp] #[]),some (.func (.func gt) #[pt] #[]),some (.agg #[.slice pq nq cq]),some (.agg #[.slice px nx cx]),none,some (.agg #[.slice x.1 x.2.1 x.2.2]),none,none]
   [false,false,false,false,true,false,true,true] rfl
   (fun wA wB=>Am (w.heap.size) wA wB)
   (fun D sp w'=>RB (b5) (w.heap.size) Wb [(bv,.cells #[.slice x.1 x.2.1 x.2.2] 37 (0,0)),(w.heap.size,.cells #[.slice px nx cx] 37 (0,0)),(b2,.cells #[.func (.func gp) #[pp] #[]] 254 (0,0)),(b3,.cells #[.func (.func gt) #[pt] #[]] 254 (0,0)),(b4,.cells #[.slice none 0 0] 37 (0,0)),(b6,.cells #[.slice p n c] 62 (0,0))] w'/\jC (D 7) (b5) pq nq cq (Z) w')
   (fun i v w'=>match i with
    | 4=>Fit 33 (ht NN X) v w'
    | 6=>Fit 33 Z v w'
    | _=>True)
   ?_ ⟨RB.start HST1.out.bel.size HLL.out,⟨fun _=>HOB.out,fun e=>by cases e⟩⟩ ?_ ?_
  .intro i v wA wB hf hb;split at hf
   .exact hf.keep hb
   .exact hf.keep hb
   .trivial
  .simp only[Gf,Nat.reduceAdd];refine⟨?_,?_,?_,?_,?_,?_,?_,?_,trivial⟩
   all_goals intro D sp w' hD hW hdp hg
   case refine_1=>
    (with_reducible refine Bz ?_)
    have c0:w'.cell? ⟨b2,0,none⟩=some (.func (.func gp) #[pp] #[]):=aY (hg.1.of (List.mem_cons_of_mem _ (List.mem_cons_of_mem _ List.mem_cons_self)))
    with_reducible refine Ad ?_ ?_
    all_goals simp[Region.wanted,yielded,execOp,Act.eval,Act.put,go_sem,c0]
   case refine_2=>
    (with_reducible refine Bz ?_)
    have c0:w'.cell? ⟨b3,0,none⟩=some (.func (.func gt) #[pt] #[]):=aY (hg.1.of (List.mem_cons_of_mem _ (List.mem_cons_of_mem _ (List.mem_cons_of_mem _ List.mem_cons_self))))
    with_reducible refine Ad ?_ ?_
    all_goals simp[Region.wanted,yielded,execOp,Act.eval,Act.put,go_sem,c0]
   case refine_3=>
    (with_reducible refine Bz ?_)
    have c0:=(hg.2.z (hW 7 (mq (by kernel_rfl)))).cell
    with_reducible refine Ad ?_ ?_
    all_goals simp[Region.wanted,yielded,execOp,Act.eval,Act.put,go_sem,c0]
   case refine_4=>
    (with_reducible refine Bz ?_)
    have c0:w'.cell? ⟨w.heap.size,0,none⟩=some (.slice px nx cx):=Ae.cell (hg.1.of (List.mem_cons_of_mem _ List.mem_cons_self))
    with_reducible refine Ad ?_ ?_
    all_goals simp[Region.wanted,yielded,execOp,Act.eval,Act.put,go_sem,c0]
   case refine_5=>
    (with_reducible refine Bz ?_)
    (with_reducible refine Ac (w1:=w') (f:=gt) (args:=#[pt,.agg #[.slice pq nq cq],.agg #[.slice px nx cx]]) ?_ ?_ ?_)
    .simp[Region.wanted,yielded,Act.put,go_sem]
    .simp[Act.eval,Act.put,go_sem,egt]
    .refine(HT.out.out w' 33 ex _ _ _ _ (HST1.out.bel.trans hg.1.keep.bel) (by decide) hex (HFO1.out.keep hg.1.keep) (HFX1.out.keep hg.1.keep)).mono ?_;rintro en w9 ⟨u,rfl,hu,hb⟩;exact⟨u,rfl,Am.of hb hg.1.base,hu,hg.1.later hb,by simpa [upd]using hg.2.later hb⟩
   case refine_6=>
    (with_reducible refine Bz ?_)
    have c0:w'.cell? ⟨bv,0,none⟩=some (.slice x.1 x.2.1 x.2.2):=Ae.cell (hg.1.of List.mem_cons_self)
    with_reducible refine Ad ?_ ?_
    all_goals simp[Region.wanted,yielded,execOp,Act.eval,Act.put,go_sem,c0]
   case refine_7=>
    (with_reducible refine Bz ?_)
    have k4:Fit 33 (ht NN X) (sp 4) w':=(hdp 4 (mq (by kernel_rfl))).2
    (with_reducible refine Ac (w1:=w') (f:=gp) (args:=#[pp,sp 4,.agg #[.slice x.1 x.2.1 x.2.2]]) ?_ ?_ ?_)
    .simp[Region.wanted,yielded,Act.put,go_sem]
    .simp[Act.eval,Act.put,go_sem,egp]
    .refine(HPp.out.out w' 33 e _ _ _ _ (HST1.out.bel.trans hg.1.keep.bel) (by decide) he k4 (HFA1.out.keep hg.1.keep)).mono ?_;rintro en w9 ⟨u,rfl,hu,hb⟩;rw[HZ.out]at hu
     exact⟨u,rfl,Am.of hb hg.1.base,hu,hg.1.later hb,by simpa [upd]using hg.2.later hb⟩
   case refine_8=>
    (with_reducible refine Bz ?_)
    have hx:∃p n c,sp 6=.agg #[.slice p n c]/\Ag w' p n c (Z)/\Z<An (33):=(hdp 6 (mq (by kernel_rfl))).2
    (with_reducible refine Av hx fun p hx1=>Av hx1 fun n hx2=>Av hx2 fun c hx3=>?_)
    have h1:=hx3.1;rw[hD]at hg
    have hp:=hg.2.put (hx3.2.1)
    (with_reducible refine Av hp fun q hy1=>Av hy1 fun m hy2=>Av hy2 fun k hy3=>?_)
    have h6:=hy3.1.cell;have h7:=hy3.1.free
    (with_reducible refine Ap (w1:=w'.setCell ⟨b5,0,none⟩ (.slice p n c)) ?_ ?_ ?_)
    .simp[Region.wanted,yielded,Act.put,go_sem]
    .simp[execOp,Act.eval,Act.put,go_sem,h1,h6,h7]
    .refine⟨Am.store hy3.1 HL5.out _,trivial,hg.1.store hy3.1 HL5.out HNE.out _,?_⟩;have h8:=hy3.2;simpa [upd]using h8
  .intro sp w7 hsp hg;obtain⟨hg1,hg2⟩:=hg;obtain⟨pz,nz,cz,hz1,hz2⟩:=hg2.o rfl;have hl6:Fit 33 Z (sp 6) w7:=hsp 6 rfl;have f0:=hg1.of (List.mem_cons_of_mem _ List.mem_cons_self);have f2:=hg1.of (List.mem_cons_of_mem _ (List.mem_cons_of_mem _ List.mem_cons_self));have f3:=hg1.of (List.mem_cons_of_mem _ (List.mem_cons_of_mem _ (List.mem_cons_of_mem _ List.mem_cons_self)));have f4:=hg1.of (List.mem_cons_of_mem _ (List.mem_cons_of_mem _ (List.mem_cons_of_mem _ (List.mem_cons_of_mem _ List.mem_cons_self))));have f6:=hg1.of (List.mem_cons_of_mem _ (List.mem_cons_of_mem _ (List.mem_cons_of_mem _ (List.mem_cons_of_mem _ (List.mem_cons_of_mem _ List.mem_cons_self)))));have HPo:Aa (Tc w b2 b3 b4 b5 b6 gp gt pp pt (.slice px nx cx) (.slice p n c) (Ih hp ht X O (As.drop (n-(k+1)))) w7/\Ih hp ht X O (As.drop (n-(k+1)))<An 33):=⟨by
    rw[HSN.out];exact⟨⟨f0,f2,f3,f4,⟨pz,nz,cz,hz1,hz2⟩,f6,HST1.out.bel.trans hg1.keep.bel⟩,hl6.lim⟩⟩
   have HKF:Aa (KeepsFrom W7.heap.size Wb w7):=⟨hg1.but.keepsFrom HOB.out⟩
   have HMD:Aa (Mid (fun j=>j<w.heap.size ∨ j=b6) Wb w7):=⟨hg1.but.mid (by have:=HLO.out;show ¬(b5<w.heap.size ∨ b5=b6);omega)⟩
   clear hsp hg1 hg2 hz1 hz2 hl6 f0 f2 f3 f4 f6;simp only[Al];generalize sp 4=y4,sp 6=y6,sp 7=y7 at *
   go_simp
   gi_wp2
   exact⟨HKF.out,HMD.out,HPo.out⟩
 case done=>
  rintro D W8 hD hi hK;obtain⟨pz,nz,cz,hz1,hz2⟩:=hi.1.c5;have c5:=hz1.cell;have h4:=hi.1.c4;have c4:=h4.cell;have f4:=h4.free;have hval:As.drop (n-n)=As:=by rw[Nat.sub_self];rfl
  rw[hval]at hz2
  have hlm:=hi.2;rw[hval]at hlm
  have HF:Aa (Fit 33 (Ih hp ht X O As) (.agg #[.slice pz nz cz]) (W8.setCell ⟨b4,0,none⟩ (.slice pz nz cz))):=⟨Fit.of (hz2.store h4 _) hlm⟩
  have hDb:D≠b4:=by have:=HLO.out;have:=(Gs hK).1;omega
  have HK9:Aa ((W8.setCell ⟨b4,0,none⟩ (.slice pz nz cz)).heap[D]? = some (.deferred (some []))):=⟨by rw[heap_setCell_other W8 ⟨b4,0,none⟩ D _ hDb];exact hK⟩
  have HB9:Aa (Below w.heap.size w (W8.setCell ⟨b4,0,none⟩ (.slice pz nz cz))):=⟨hi.1.bel.setCell (by have:=HLO.out;show w.heap.size<=b4;omega) _⟩
  have hcz:(W8.setCell ⟨b4,0,none⟩ (.slice pz nz cz)).cell? ⟨b4,0,none⟩=some (.slice pz nz cz):=(h4.set _).cell;have HWD:Aa (w.heap.size<=D):=⟨by have:=HB7.out.size;omega⟩
  have HCZ:=Ab hcz;clear hz1 hz2 h4 hi hK hval hlm hDb hcz
  gi_wp2
  refine⟨by simp,.inl ⟨_,_,rfl,run_takeDeferred HK9.out,?_⟩⟩;have hgr:=grownBy_putObj' (W8.setCell ⟨b4,0,none⟩ (.slice pz nz cz)) D (.deferred none);have hcal:Calm (W8.setCell ⟨b4,0,none⟩ (.slice pz nz cz)) (some D):=fun j e=>by cases e;exact⟨_,HK9.out,rfl⟩
  have hc9:=cell_kept HCZ.out hgr hcal;refine⟨.agg #[.slice pz nz cz],?_,_,rfl,HF.out.kept hgr hcal,HB9.out.grown hgr HB9.out.size (fun j e=>by cases e;exact HWD.out)⟩;simp[results,Tryz.f161,go_sem,hc9]
end Go.Proofs.YtokhckjemidbpaaGreatDoor
