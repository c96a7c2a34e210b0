/- So many bytes of a key, by the program. -/
import Derived.Test.YtokhckjemidbpaaGreatDoorMacB
import Derived.Laws.Rows
import Derived.Laws.BitsAllLaws
import Derived.BigRegion
set_option maxRecDepth 1000000
set_option maxHeartbeats 16000000
set_option linter.all false
namespace Go.Proofs.YtokhckjemidbpaaGreatDoor
open Go Go.RowKit Go.Proofs.YtokhckjemidbpaaGreatDoor.Flow
def Ij (b:List Nat)(x k:Nat):List Nat:=(masked b x).take k++b.drop k
theorem Wx (b:List Nat)(x:Nat):Ij b x 0=b:=by simp[Ij]
theorem Rb {b:List Nat}(x:Nat)(h:b.length=64):Ij b x 64=masked b x:=by
 unfold Ij;rw[List.take_of_length_le (by rw[Ey];omega),List.drop_of_length_le (by omega),List.append_nil]
theorem Zj {b:List Nat}(x:Nat){k:Nat}(h:b.length=64)(hk:k<64):(Ij b x k)[k]? = some (b.getD k 0):=by
 unfold Ij;have hl:((masked b x).take k).length=k:=by simp[Ey];omega
 rw[List.getElem?_append_right (by omega),hl,Nat.sub_self,List.getElem?_drop,Nat.add_zero,Dv];simp[show k<b.length by omega]
theorem Zi {b:List Nat}(x:Nat){k:Nat}(h:b.length=64)(hk:k<64):(Ij b x k).set k (b.getD k 0 ^^^ x)=Ij b x (k+1):=by
 unfold Ij;have hl:((masked b x).take k).length=k:=by simp[Ey];omega
 have e1:(masked b x)[k]? = some (b.getD k 0 ^^^ x):=by
  unfold masked;rw[List.getElem?_map,Dv,List.getElem?_eq_getElem (by omega)];rfl
 rw[List.set_append_right _ _ (by omega),hl,Nat.sub_self,List.take_add_one,e1,List.drop_eq_getElem_cons (show k<b.length by omega),List.set_cons_zero];simp
theorem Ln (w:World)(b:List Nat)(x:Nat)(hT:Tabs w)(hb:b.length=64)(h8:Au b)(hx:x<256) :
  Calls Tryz.prog 222 #[.agg (b.map fun(x:Nat)=>Value.int .u8 (x:Int)).toArray,.int .u8 x] w (Mx (masked b x) w):=by
 have HBl:Aa (b.length=64):=⟨hb⟩
 have HB8:Aa (Au b):=⟨h8⟩
 have hi64:Aa ((Tryz.prog.info? 273).map (·.size)=some (b.map fun(x:Nat)=>Value.int .u8 x).toArray.size):=⟨Oe b hb⟩
 have hsl:=Iv;have HT:Aa (Tabs w):=⟨hT⟩
 have H0:Aa (Bi (w.alloc (.cells (b.map fun(x:Nat)=>Value.int .u8 x).toArray 273)) w.heap.size 273 .u8 (Ij b x 0)):=⟨by rw[Wx];exact heap_alloc_new w _⟩
 clear hb h8 hT;go_enter Tryz.func222,Tryz.ntmps222;go_wp2
 go_loopw [7] (fun i wr=>∃k:Nat,k<=64/\i=.int .i64 k/\w.heap.size<wr.heap.size/\Below w.heap.size w wr/\Bi wr w.heap.size 273 .u8 (Ij b x k)) (fun i _=>64-(intOf i).toNat)
 case atStart=>exact⟨0,by omega,rfl,by simp,(Bd _ _).alloc (Av _) _,H0.out⟩
 case round=>
  obtain⟨k,hk,rfl,hsz,hbel,hblk⟩:=hrel
  by_cases hk64:k<64
  .have e0:=hblk.cell (Zj x HBl.out hk64);have e1:=hblk.free k;have hset:=Ac (Zi x HBl.out hk64);have hbk:=HB8.out.get k;have hxor:=u8_xor_nat (b.getD k 0) x hbk hx;generalize b.getD k 0=y at *;go_wp2;go_roundw
   case rel=>
    refine⟨k+1,by omega,by go_num,by simpa using hsz,hbel.setCell (by simp) _,?_⟩;rw[<-hset.out];exact hblk.set k _
   case measure=>simp[intOf];omega
  .obtain rfl:k=64:=by omega
   have hl64:(Ij b x 64).length=64:=by rw[Rb x HBl.out,Ey];exact HBl.out
   have h8b:Au (masked b x):=Sf HB8.out hx;rw[Rb x HBl.out]at hblk hl64
   have HBk:Aa (Bi wr w.heap.size 273 .u8 (masked b x)):=⟨hblk⟩
   have hTr:=HT.out.below hbel HT.out.size;have hz:=hbel.size;clear hblk
   go_wp2_with fail
   refine(Lj wr hTr).mono ?_;rintro e w1 ⟨g,rfl,hg,hb1,hh1⟩;have hz1:=hb1.size;have hb01:=hbel.trans (hb1.mono hz);have hT1:=hTr.below hb1 hTr.size;have hblk1:=HBk.out.below hb1 hsz;have hrow:Bb w1 .u8 (some ⟨w.heap.size,0,none⟩) 64 64 (masked b x):=⟨hl64.symm,Av _,by omega,fun _=>hblk1.row hl64.symm (Av _) (by omega)⟩
   have hg2:(max (0 : Nat) 2 + 1)<=g:=by have:=HT.out.size;omega
   clear hblk1
   go_wp2_with fail
   refine(Eg w1 g [] _ _ _ _ hT1 hh1 hg2 hrow h8b (fun _ q hq=>by cases hq;show w.heap.size≠g;omega)).mono ?_;rintro e w2 ⟨rfl,hb2,hh2⟩;rw[List.nil_append]at hh2
   go_wp2;go_ret;exact⟨g,rfl,by omega,hb01.trans (hb2.below (by omega) (by omega)),hh2⟩
inductive Cf (lo:Nat) (m:List Nat):Value->World->Prop where
 | of (g:Nat) (w:World) (h:Bl w g m) (hg:lo<=g):Cf lo m (.pointer (some ⟨g,0,none⟩)) w
theorem Cf.elim {lo:Nat}{m:List Nat}{v:Value}{w:World}(h:Cf lo m v w){C:Prop}(k:∀g,v=.pointer (some ⟨g,0,none⟩)->Bl w g m->lo<=g->C):C:=by
 cases h with
 | of g _ h hg=>exact k g rfl h hg
theorem Cf.but {lo:Nat}{m:List Nat}{v:Value}{w w':World}(h:Cf lo m v w){b:Nat}(hb:Ee b w w')(hl:b<lo):Cf lo m v w':=by
 cases h with
 | of g _ h hg=>exact .of g w' (h.but hb (by omega)) hg
inductive Ie (lo:Nat) (m1 m2:List Nat):Value->World->Prop where
 | of (g1 g2:Nat) (w:World) (h1:Bl w g1 m1) (h2:Bl w g2 m2) (hg1:lo<=g1) (hg2:lo<=g2):Ie lo m1 m2 (.agg #[.pointer (some ⟨g1,0,none⟩),.pointer (some ⟨g2,0,none⟩)]) w
theorem Ie.elim {lo:Nat}{m1 m2:List Nat}{v:Value}{w:World}(h:Ie lo m1 m2 v w){C:Prop}(k:∀g1 g2,v=.agg #[.pointer (some ⟨g1,0,none⟩),.pointer (some ⟨g2,0,none⟩)]->Bl w g1 m1->Bl w g2 m2->lo<=g1->lo<=g2->C):C:=by
 cases h with
 | of g1 g2 _ h1 h2 hg1 hg2=>exact k g1 g2 rfl h1 h2 hg1 hg2
theorem Ie.but {lo:Nat}{m1 m2:List Nat}{v:Value}{w w':World}(h:Ie lo m1 m2 v w){b:Nat}(hb:Ee b w w')(hl:b<lo):Ie lo m1 m2 v w':=by
 cases h with
 | of g1 g2 _ h1 h2 hg1 hg2=>exact .of g1 g2 w' (h1.but hb (by omega)) (h2.but hb (by omega)) hg1 hg2
def aU (key:List Nat)(w:World)(e:Ending)(w':World):Prop :=
 ∃g1 g2,e=.returned (.agg #[.pointer (some ⟨g1,0,none⟩),.pointer (some ⟨g2,0,none⟩)])/\w.heap.size<=g1/\w.heap.size<=g2/\Below w.heap.size w w'/\Bl w' g1 (Xe key)/\Bl w' g2 (Wu key)
def fN (b lo:Nat)(m1 m2:List Nat)(w:World):Prop :=
 ∃g1 g2,w.heap[b]? = some (.cells #[.pointer (some ⟨g1,0,none⟩),.pointer (some ⟨g2,0,none⟩)] 236 (0,0))/\Bl w g1 m1/\Bl w g2 m2/\lo<=g1/\lo<=g2
structure UG (w2:World) (b lo:Nat) (m1 m2:List Nat) (d4 d5:Bool) (w':World):Prop where
 but:Ee b w2 w'
 ord:d5=true->d4=true
 old:d5=false->w'.heap[b]? = some (.cells #[.pointer none,.pointer none] 236 (0,0))
 new:d5=true->fN b lo m1 m2 w'
theorem UG.open {w2 w':World}{b lo:Nat}{m1 m2:List Nat}{d5:Bool}(h:UG w2 b lo m1 m2 false d5 w'):d5=false:=by
 cases d5 with
 | false=>rfl
 | true=>exact absurd (h.ord rfl) (by simp)
theorem UG.step {w2 w' w5:World}{b lo:Nat}{m1 m2:List Nat}{d4 d5:Bool}(h:UG w2 b lo m1 m2 d4 d5 w')(hd:d5=false)(hb:Below w'.heap.size w' w5)(d4':Bool):UG w2 b lo m1 m2 d4' false w5 :=
 ⟨h.but.trans (Ee.of hb),fun e=>(by cases e),fun _=>(by
  have h1:=h.old hd;rw[hb.block b (Ik h1).1];exact h1),fun e=>(by cases e)⟩
theorem Wd {w:World}{b:Nat}{v1 v2:Value}(h:w.heap[b]? = some (.cells #[.pointer none,.pointer none] 236 (0,0)))(h1:v1.oneCell'=true)(h2:v2.oneCell'=true) :
  (storeVar 236 ⟨b,0,none⟩ (.agg #[v1,v2])).run Tryz.prog w=.ok () (w.setRow b #[v1,v2]) :=
 run_storeVar_row w b 236 236 #[.pointer none,.pointer none] #[v1,v2] h (by kernel_rfl) rfl (by simp[h1,h2])
theorem cL {w:World}{g:Nat}{b:List Nat}(hb:b.length=64)(h:Bi w g 273 .u8 b) :
  (loadVar 273 ⟨g,0,none⟩).run Tryz.prog w=.ok (.agg (b.map fun(x:Nat)=>Value.int .u8 (x:Int)).toArray) w :=
 run_loadVar_row w g 273 273 _ (0,0) _ h Tryz.underlying273 rfl (Oe b hb)
theorem Nb (w:World)(p:Option Addr)(n c:Nat)(key:List Nat)(hT:Tabs w)(hr:Bb w .u8 p n c key)(h8:Au key) :
  Calls Tryz.prog 185 #[.slice p n c] w (aU key w):=by
 have HO:Aa ((w.alloc (.cells #[.pointer none,.pointer none] 236)).heap[w.heap.size]? = some (.cells #[.pointer none,.pointer none] 236 (0,0))):=⟨heap_alloc_new w _⟩
 have HB0:Aa (Below w.heap.size w (w.alloc (.cells #[.pointer none,.pointer none] 236))):=⟨(Bd _ _).alloc (Av _) _⟩
 have HZ0:Aa ((w.alloc (.cells #[.pointer none,.pointer none] 236)).heap.size=w.heap.size+1):=⟨by simp⟩
 go_enter Tryz.func185,Tryz.ntmps185
 go_wp2_with fail
 generalize w.alloc (.cells #[.pointer none,.pointer none] 236)=w0 at *;refine(Vn w0 p n c key (hT.below HB0.out hT.size) (hr.below HB0.out) h8).mono ?_;rintro e w1 ⟨rfl,hb1⟩;have hkl:=Gv key;have hk8:=Sl h8;have HI:Aa (masked (Du key) 54=Xe key/\masked (Du key) 92=Wu key):=⟨rfl,rfl⟩
 generalize Du key=B at *;have hi64:Aa ((Tryz.prog.info? 273).map (·.size)=some (B.map fun(x:Nat)=>Value.int .u8 x).toArray.size):=⟨Oe B hkl⟩
 have hnew:=Ac (Bi.zeros w1 273 .u8 64);have H1:=Ac (Lp .u8 B);have HS:Aa (((List.replicate 64 0).map fun(x:Nat)=>Value.int .u8 x).toArray.size=(B.map fun(x:Nat)=>Value.int .u8 x).toArray.size):=⟨by simp[hkl]⟩
 go_wp2_with (refine wpList_store_row rfl 273 _ _ rfl w1.heap.size (B.map fun(x:Nat)=>Value.int .u8 x).toArray rfl rfl 273 ((List.replicate 64 0).map fun(x:Nat)=>Value.int .u8 x).toArray hnew.out hi64.out HS.out H1.out ?_)
 generalize hw2:World.setRow _ _ _=w2;have hz1:=hb1.size;have hz0:=HZ0.out;have hb2:Below w0.heap.size w0 w2:=by
  rw[<-hw2];exact below_setRow (hb1.alloc hz1 _) hz1 _
 have hblk:Bi w2 w1.heap.size 273 .u8 B:=by
  rw[<-hw2];exact setRow_heap _ w1.heap.size _ _ 273 (0,0) hnew.out
 have hold:w2.heap[w.heap.size]? = some (.cells #[.pointer none,.pointer none] 236 (0,0)):=(hb2.block w.heap.size (by omega)).trans HO.out;have hbw:Below w.heap.size w w2:=HB0.out.trans (hb2.mono (by omega));have hT2:=hT.below hbw hT.size;have hlt2:=hblk.lt;have hw2z:(max (0 : Nat) 2 + 1)<=w.heap.size:=hT.size;have HBk:Aa (∀w',Ee w.heap.size w2 w'->Bi w' w1.heap.size 273 .u8 B):=⟨fun w' h=>(h.block w1.heap.size hlt2 (by omega)).trans hblk⟩
 obtain⟨m1,hm1⟩:∃m,Xe key=m:=⟨_,rfl⟩
 obtain⟨m2,hm2⟩:∃m,Wu key=m:=⟨_,rfl⟩
 have HM1:Aa (masked B 54=m1):=⟨HI.out.1.trans hm1⟩
 have HM2:Aa (masked B 92=m2):=⟨HI.out.2.trans hm2⟩
 have HM:Aa (Xe key=m1/\Wu key=m2):=⟨hm1,hm2⟩
 have HT2:Aa (Tabs w2):=⟨hT2⟩
 have HK8:Aa (Au B):=⟨hk8⟩
 have HKL:Aa (B.length=64):=⟨hkl⟩
 clear hw2 hnew H1 HS hi64 hblk HI hm1 hm2 hT2 hk8 hkl hb2 hb1 HO HB0 HZ0;refine Aj (by kernel_rfl) (by kernel_rfl)
  [some (.agg (B.map fun(x:Nat)=>Value.int .u8 (x:Int)).toArray),none,some (.agg (B.map fun(x:Nat)=>Value.int .u8 (x:Int)).toArray),none,none,none]
  [false,true,false,true,true,true] rfl
  (fun w1 w2=>Ee w.heap.size w1 w2) (fun D w'=>UG w2 w.heap.size w2.heap.size m1 m2 (D 4) (D 5) w')
  (fun i v w'=>match i with
   | 1=>Cf w2.heap.size m1 v w'
   | 3=>Cf w2.heap.size m2 v w'
   | 4=>Ie w2.heap.size m1 m2 v w'
   | _=>True)
  ?_ ⟨Ee.drew (Ee.refl _ _),(fun e=>by cases e),fun _=>hold,fun e=>by cases e⟩ ?_ ?_
 .intro i v w1 w2 hf hb;split at hf
  .exact hf.but hb (by omega)
  .exact hf.but hb (by omega)
  .exact hf.but hb (by omega)
  .trivial
 .simp only[Bh,Nat.reduceAdd];refine⟨?_,?_,?_,?_,?_,?_,trivial⟩
  case refine_2=>
   intro D sp w' hD hW hdp hG;have h4:D 4=false:=hW 4 (mq (by kernel_rfl));rw[h4]at hG
   have h5:=hG.open
   (with_reducible refine Ad (w1:=w') (f := 222) (args:=#[.agg (B.map fun(x:Nat)=>Value.int .u8 (x:Int)).toArray,.int .u8 54]) ?_ ?_ ?_)
   .simp[Region.wanted,go_sem]
   .simp[Act.eval,Act.put,go_sem]
   .refine(Ln w' B 54 (HT2.out.but hG.but hw2z) HKL.out HK8.out (by omega)).mono ?_;rintro e w5 ⟨g,rfl,hg,hb,hh⟩;rw[HM1.out]at hh
    refine⟨_,rfl,Ee.of hb,Cf.of g w5 hh (Eo hG.but.size hg),?_⟩;have:=hG.step h5 hb false;simpa [h4,h5]using this
  case refine_4=>
   intro D sp w' hD hW hdp hG;have h4:D 4=false:=hW 4 (mq (by kernel_rfl));rw[h4]at hG
   have h5:=hG.open
   (with_reducible refine Ad (w1:=w') (f := 222) (args:=#[.agg (B.map fun(x:Nat)=>Value.int .u8 (x:Int)).toArray,.int .u8 92]) ?_ ?_ ?_)
   .simp[Region.wanted,go_sem]
   .simp[Act.eval,Act.put,go_sem]
   .refine(Ln w' B 92 (HT2.out.but hG.but hw2z) HKL.out HK8.out (by omega)).mono ?_;rintro e w5 ⟨g,rfl,hg,hb,hh⟩;rw[HM2.out]at hh
    refine⟨_,rfl,Ee.of hb,Cf.of g w5 hh (Eo hG.but.size hg),?_⟩;have:=hG.step h5 hb false;simpa [h4,h5]using this
  case refine_5=>
   intro D sp w' hD hW hdp hG;have h5:D 5=false:=hW 5 (mq (by kernel_rfl));have f1:Cf w2.heap.size m1 (sp 1) w':=(hdp 1 (mq (by kernel_rfl))).2;have f3:Cf w2.heap.size m2 (sp 3) w':=(hdp 3 (mq (by kernel_rfl))).2
   (with_reducible refine f1.elim (fun g1 hv1 hh1 hg1=>?_))
   (with_reducible refine f3.elim (fun g2 hv2 hh2 hg2=>?_))
   clear f1 f3
   (with_reducible refine Ai (v:=.agg #[.pointer (some ⟨g1,0,none⟩),.pointer (some ⟨g2,0,none⟩)]) (w1:=w') ?_ ?_ ?_)
   .simp[Region.wanted,go_sem]
   .simp[execOp,Act.eval,Act.put,go_sem,hv1,hv2]
   .refine⟨Ee.refl _ _,Ie.of g1 g2 w' hh1 hh2 hg1 hg2,?_⟩;have:=hG.step h5 (Bd _ _) true;simpa [h5]using this
  case refine_6=>
   intro D sp w' hD hW hdp hG;have h4:D 4=true:=(hdp 4 (mq (by kernel_rfl))).1;have f4:Ie w2.heap.size m1 m2 (sp 4) w':=(hdp 4 (mq (by kernel_rfl))).2
   (with_reducible refine f4.elim (fun g1 g2 hv hh1 hh2 hg1 hg2=>?_))
   clear f4;have ho:=hG.old hD;have hst:=Wd (v1:=.pointer (some ⟨g1,0,none⟩)) (v2:=.pointer (some ⟨g2,0,none⟩)) ho rfl rfl;have hb5:Ee w.heap.size w' (w'.setRow w.heap.size #[.pointer (some ⟨g1,0,none⟩),.pointer (some ⟨g2,0,none⟩)]):=Ee.setRow _ _
   (with_reducible refine Aq (w1:=w'.setRow w.heap.size #[.pointer (some ⟨g1,0,none⟩),.pointer (some ⟨g2,0,none⟩)]) ?_ ?_ ?_)
   .simp[Region.wanted,go_sem]
   .simp[execOp,Act.eval,Act.put,hv,Instr.storeAt,Instr.sureAddr,Result.andThen_ok,hst]
   .refine⟨hb5,trivial,hG.but.trans hb5,fun _=>by simp[h4],fun e=>by simp at e,fun _=>⟨g1,g2,setRow_heap _ _ _ _ _ _ ho,hh1.but hb5 (by omega),hh2.but hb5 (by omega),hg1,hg2⟩⟩
  all_goals
   intro D sp w' hD hW hdp hG;have hk:=cL HKL.out (HBk.out w' hG.but)
   (with_reducible refine Ai (v:=.agg (B.map fun(x:Nat)=>Value.int .u8 (x:Int)).toArray) (w1:=w') ?_ ?_ ⟨rfl,rfl⟩)
   .simp[Region.wanted,go_sem]
   .simp[execOp,Act.eval,Act.put,Instr.loadAt,Instr.sureAddr,Result.andThen_ok,hk]
 .intro sp w5 hsp hG;obtain⟨g1,g2,hbx,hh1,hh2,hg1,hg2⟩:=hG.new rfl;have hbut:=hG.but;clear hsp hG;simp only[Ak,Nat.reduceAdd];generalize sp 1=u1;generalize sp 3=u3;generalize sp 4=u4;generalize sp 5=u5
  go_simp
  go_wp2;refine bodyPost_ret (v:=.agg #[.pointer (some ⟨g1,0,none⟩),.pointer (some ⟨g2,0,none⟩)]) (results_cell_row Tryz.results185 _ _ w.heap.size 236 _ (0,0) _ rfl hbx Tryz.underlying236 rfl (by kernel_rfl)) rfl ⟨g1,g2,rfl,by have:=hbw.size;omega,by have:=hbw.size;omega,hbw.trans (hbut.below (Av _) hbw.size),?_,?_⟩
  .rw[HM.out.1];exact hh1
  .rw[HM.out.2];exact hh2
structure TG (w0:World) (D:Nat->Bool) (sp:Nat->Value) (w':World):Prop where
 bel:Below w0.heap.size w0 w'
 ne:D 5=true->sp 5≠sp 2
 e6:D 6=true->sp 6=sp 2
 e7:D 7=true->sp 7=sp 5
theorem Cf.below {lo:Nat}{m:List Nat}{v:Value}{w w':World}(h:Cf lo m v w)(hb:Below w.heap.size w w'):Cf lo m v w':=by
 cases h with
 | of g _ h hg=>exact .of g w' (h.below hb h.lt) hg
theorem Qw (w:World)(g1 g2:Nat)(m1 m2:List Nat)(p:Option Addr)(n c:Nat)(L:List Part)(hT:Tabs w)(h1:Bl w g1 m1)(h2:Bl w g2 m2)(hL:Ei w p n c L) :
  Calls Tryz.prog 186 #[.agg #[.pointer (some ⟨g1,0,none⟩),.pointer (some ⟨g2,0,none⟩)],.slice p n c] w (Jr (m2++Vu (m1++whole L)) w):=by
 have HL:Aa (Ei w p n c L):=⟨hL⟩
 have hlen:Aa (n=L.length):=⟨hL.len⟩
 have hcap:=hL.cap;have hmax:=hL.max;clear hL;have H0:Aa ((w.alloc (.cells #[.pointer (some ⟨g1,0,none⟩),.pointer (some ⟨g2,0,none⟩)] 236)).heap[w.heap.size]? = some (.cells #[.pointer (some ⟨g1,0,none⟩),.pointer (some ⟨g2,0,none⟩)] 236 (0,0))):=⟨heap_alloc_new w _⟩
 have hB0:Below w.heap.size w (w.alloc (.cells #[.pointer (some ⟨g1,0,none⟩),.pointer (some ⟨g2,0,none⟩)] 236)):=By;go_enter Tryz.func186,Tryz.ntmps186;go_wp2;generalize w.alloc (.cells #[.pointer (some ⟨g1,0,none⟩),.pointer (some ⟨g2,0,none⟩)] 236)=w0 at *;have hT0:=hT.below hB0 hT.size;have hh1:=h1.below hB0 h1.lt;have hh2:=h2.below hB0 h2.lt;clear h1 h2;have hb:w.heap.size<w0.heap.size:=(Ik H0.out).1;have HC:Aa (∀w',Below w0.heap.size w0 w'->w'.cell? ⟨w.heap.size,0,none⟩=some (.pointer (some ⟨g1,0,none⟩))/\w'.cell? ⟨w.heap.size,1,none⟩=some (.pointer (some ⟨g2,0,none⟩))):=⟨fun w' h=>by
  rw[h.cell (p:=⟨w.heap.size,0,none⟩) hb,h.cell (p:=⟨w.heap.size,1,none⟩) hb];unfold World.cell?
  dsimp only
  rw[H0.out];exact⟨rfl,rfl⟩⟩
 have hw2:(max (0 : Nat) 2 + 1)<=w.heap.size:=hT.size;have hl1:=hh1.lt;have hl2:=hh2.lt;refine Am (by kernel_rfl) (by kernel_rfl)
  [some (.pointer (some ⟨w.heap.size,0,none⟩)),some (.pointer (some ⟨g1,0,none⟩)),none,some (.pointer (some ⟨w.heap.size,1,none⟩)),some (.pointer (some ⟨g2,0,none⟩)),none,none,none]
  [false,false,true,false,false,true,true,true] rfl
  (fun w1 w2=>Below w1.heap.size w1 w2) (TG w0)
  (fun i v w'=>match i with
   | 2=>Cf w0.heap.size m1 v w'
   | 5=>Cf w0.heap.size m2 v w'
   | 6=>Cf w0.heap.size m1 v w'
   | 7=>Cf w0.heap.size m2 v w'
   | _=>True)
  ?_ ⟨(Bd _ _).drew,(fun e=>by cases e),(fun e=>by cases e),fun e=>by cases e⟩ ?_ ?_
 .intro i v w1 w2 hf hb;split at hf
  .exact hf.below hb
  .exact hf.below hb
  .exact hf.below hb
  .exact hf.below hb
  .trivial
 .simp only[Bg,Nat.reduceAdd];refine⟨?_,?_,?_,?_,?_,?_,?_,?_,trivial⟩
  case refine_3=>
   intro D sp w' hD hW hdp hG;have d5:D 5=false:=hW 5 (mq (by kernel_rfl));have d6:D 6=false:=hW 6 (mq (by kernel_rfl))
   (with_reducible refine Ad (w1:=w') (f := 223) (args:=#[.pointer (some ⟨g1,0,none⟩)]) ?_ ?_ ?_)
   .simp[Region.wanted,go_sem]
   .simp[Act.eval,Act.put,go_sem]
   .refine(Kx w' g1 m1 (hh1.below hG.bel hl1)).mono ?_;rintro e w5 ⟨g,rfl,hg,hb,hh⟩;exact⟨_,rfl,hb,Cf.of g w5 hh (Eo hG.bel.size hg),Fi hG.bel hb,fun e=>by simp[d5]at e,fun e=>by simp[d6]at e,fun e=>by simpa [upd]using hG.e7 (by simpa using e)⟩
  case refine_6=>
   intro D sp w' hD hW hdp hG;have d7:D 7=false:=hW 7 (mq (by kernel_rfl));have f2:Cf w0.heap.size m1 (sp 2) w':=(hdp 2 (mq (by kernel_rfl))).2
   (with_reducible refine f2.elim (fun g3 hv3 hh3 hg3=>?_))
   clear f2;have hl3:=hh3.lt
   (with_reducible refine Ad (w1:=w') (f := 223) (args:=#[.pointer (some ⟨g2,0,none⟩)]) ?_ ?_ ?_)
   .simp[Region.wanted,go_sem]
   .simp[Act.eval,Act.put,go_sem]
   .refine(Kx w' g2 m2 (hh2.below hG.bel hl2)).mono ?_;rintro e w5 ⟨g,rfl,hg,hb,hh⟩;refine⟨_,rfl,hb,Cf.of g w5 hh (Eo hG.bel.size hg),Fi hG.bel hb,fun _=>?_,fun e=>by simpa [upd]using hG.e6 (by simpa using e),fun e=>by simp[d7]at e⟩;have e5:upd sp 5 (.pointer (some ⟨g,0,none⟩)) 5=.pointer (some ⟨g,0,none⟩):=by simp[upd]
    have e2:upd sp 5 (.pointer (some ⟨g,0,none⟩)) 2=sp 2:=by simp[upd]
    rw[e5,e2,hv3];intro e;cases e;omega
  case refine_7=>
   intro D sp w' hD hW hdp hG;have f2:Cf w0.heap.size m1 (sp 2) w':=(hdp 2 (mq (by kernel_rfl))).2
   (with_reducible refine Ai (v:=sp 2) (w1:=w') ?_ ?_ ?_)
   .simp[Region.wanted,go_sem]
   .simp[execOp,Act.eval,Act.put,go_sem]
   .exact⟨Bd _ _,f2,hG.bel,fun e=>by simpa [upd]using hG.ne (by simpa using e),fun _=>by simp[upd],fun e=>by simpa [upd]using hG.e7 (by simpa using e)⟩
  case refine_8=>
   intro D sp w' hD hW hdp hG;have f5:Cf w0.heap.size m2 (sp 5) w':=(hdp 5 (mq (by kernel_rfl))).2
   (with_reducible refine Ai (v:=sp 5) (w1:=w') ?_ ?_ ?_)
   .simp[Region.wanted,go_sem]
   .simp[execOp,Act.eval,Act.put,go_sem]
   .exact⟨Bd _ _,f5,hG.bel,fun e=>by simpa [upd]using hG.ne (by simpa using e),fun e=>by simpa [upd]using hG.e6 (by simpa using e),fun _=>by simp[upd]⟩
  all_goals
   intro D sp w' hD hW hdp hG;have hc1:=(HC.out w' hG.bel).1;have hc2:=(HC.out w' hG.bel).2;simp[asked,Region.wanted,Oper.gives,execOp,Act.eval,Act.put,go_sem,hc1,hc2]
 .intro sp w3 hsp hG;have f6:Cf w0.heap.size m1 (sp 6) w3:=hsp 6 rfl;have f7:Cf w0.heap.size m2 (sp 7) w3:=hsp 7 rfl;have hne:=hG.ne rfl;rw[<-hG.e6 rfl,<-hG.e7 rfl]at hne
  have hb3:=hG.bel;clear hsp hG;simp only[Ak,Nat.reduceAdd];generalize sp 2=u2;generalize sp 5=u5;generalize sp 6=u6,sp 7=u7 at *;obtain⟨g3,_,hh3,hg3⟩:=f6;obtain⟨g4,_,hh4,hg4⟩:=f7;have hg34:g4≠g3:=fun e=>hne (by rw[e])
  have hbw:Below w.heap.size w w3:=hB0.trans (hb3.mono (Nat.le_of_lt hb));have hz3:=hb3.size;clear hne hh1 hh2 HC H0 hT0 hB0 hb3
  go_simp
  go_wp2
  go_loopw [17] (fun i wr=>∃k:Nat,k<=n/\i=.int .i64 k/\Below w.heap.size w wr/\Bl wr g3 (m1++whole (L.take k))/\Bl wr g4 m2) (fun i _=>n-(intOf i).toNat)
  case atStart=>exact⟨0,by omega,rfl,hbw,by rw[List.take_zero];simpa [whole]using hh3,hh4⟩
  case round=>
   obtain⟨k,hk,rfl,hbel,hash,hash4⟩:=hrel;have hTr:=hT.below hbel hT.size;have hsz:=hT.size
   by_cases hkn:k<n
   .obtain⟨b,off,rfl,hb,hc⟩:=HL.out.cells (by omega);obtain⟨P,hP⟩:∃P,L[k]? = some P:=⟨_,List.getElem?_eq_getElem (by have:=hlen.out;omega)⟩
    have hok:=(HL.out.ok k P hP).below hbel;have hblt:0<P.n->∀q,P.p=some q->q.block≠g3:=fun h0 q hq=>by
     obtain⟨b',off',e,h2,_⟩:=((HL.out.ok k P hP).row.row h0).pos h0;rw[hq]at e;cases e
     show b'≠g3;omega
    have hck:wr.cell? ⟨b,off+k,none⟩=some (.slice P.p P.n P.c):=by
     rw[(Cd hbel).1 _ _ hb];exact hc k P hP
    have htk:Aa (m1++whole (L.take (k+1))=(m1++whole (L.take k))++P.bs):=⟨by rw[List.take_add_one,hP,List.append_assoc];congr 1;exact Ol _ _⟩
    have HOK:Aa (Bu wr P):=⟨hok⟩
    have HNE:Aa (0<P.n->∀q,P.p=some q->q.block≠g3):=⟨hblt⟩
    clear hc hP hok hblt;obtain⟨pp,pn,pc,pb⟩:=P
    dsimp only at *
    go_wp2_with fail
    refine(Eg wr g3 _ pp pn pc pb hTr hash (by omega) HOK.out.row HOK.out.bytes HNE.out).mono ?_;rintro e w2 ⟨rfl,hb2,hh2⟩;rw[<-htk.out]at hh2
    have hz:w.heap.size<=wr.heap.size:=hbel.size;have hbel2:=hbel.trans (hb2.below (by omega) hz);have hash42:=hash4.but hb2 hg34;go_wp2;go_roundw
    case rel=>exact⟨k+1,by omega,by go_num,hbel2,hh2,hash42⟩
    case measure=>simp[intOf];omega
   .obtain rfl:k=n:=by omega
    rw[List.take_of_length_le (by have:=hlen.out;omega)]at hash
    have hz:w.heap.size<=wr.heap.size:=hbel.size;have hl3:=hash.lt;have hl4:=hash4.lt
    go_wp2_with fail
    refine(Kt wr g3 _ hTr hash).mono ?_;rintro e w5 ⟨q,rfl,hq,hb5,hk5⟩;have hT5:=hTr.below hb5 hTr.size;have h45:=hash4.below hb5 hl4;have hrow:Bb w5 .u8 (some ⟨q,0,none⟩) 32 32 (Vu (m1++whole L)):=⟨(Di _).symm,Av _,by omega,fun _=>hk5.row (Di _).symm (Av _) (by omega)⟩
    have hbel5:=Fi hbel hb5;have hz5:=hbel5.size;have hzr:=hb5.size;clear hk5
    go_wp2_with fail
    refine(Eg w5 g4 m2 _ _ _ _ hT5 h45 (by omega) hrow (Mi _) (fun _ a ha=>by cases ha;show q≠g4;omega)).mono ?_;rintro e w6 ⟨rfl,hb6,hh6⟩;have hbel6:=hbel5.trans (hb6.below (by omega) hz5);have hT6:=hT.below hbel6 hT.size;have hz6:=hbel6.size
    go_wp2_with fail
    refine(Kt w6 g4 _ hT6 hh6).mono ?_;rintro e w7 ⟨q7,rfl,hq7,hb7,hk7⟩;go_wp2;go_ret;exact⟨q7,rfl,by omega,Fi hbel6 hb7,hk7⟩
theorem Sh (w:World)(pk:Option Addr)(nk ck:Nat)(key:List Nat)(p:Option Addr)(n c:Nat)(L:List Part)(hT:Tabs w)(hr:Bb w .u8 pk nk ck key)(h8:Au key)(hL:Ei w p n c L) :
  Calls Tryz.prog 252 #[.slice pk nk ck,.slice p n c] w (Jr (Vz key (whole L)) w):=by
 have HL:Aa (Ei w p n c L):=⟨hL⟩
 clear hL;go_enter Tryz.func252,Tryz.ntmps252
 go_wp2_with fail
 refine(Nb w pk nk ck key hT hr h8).mono ?_;rintro e w1 ⟨g1,g2,rfl,hg1,hg2,hb1,hh1,hh2⟩
 go_wp2_with fail
 refine(Qw w1 g1 g2 _ _ p n c L (hT.below hb1 hT.size) hh1 hh2 (HL.out.below hb1)).mono ?_;rintro e w2 ⟨q,rfl,hq,hb2,hk2⟩;have hz:=hb1.size;go_wp2;go_ret;exact⟨q,rfl,by omega,Fi hb1 hb2,hk2⟩
def Pz (key info:List Nat):Nat->List Nat
 | 0=>[]
 | i+1=>Jc key (Pz key info i++(info++[(i+1)%256]))
def Gi (key info:List Nat):Nat->List Nat
 | 0=>[]
 | i+1=>Gi key info i++Pz key info (i+1)
theorem Fv (key info:List Nat)(i:Nat):(Pz key info (i+1)).length=32:=Jb _ _
theorem Qv (key info:List Nat):∀i,Au (Pz key info i)
 | 0=>fun x hx=>by cases hx
 | _+1=>Pd _ _
theorem Gp (key info:List Nat):∀i,(Gi key info i).length=32*i
 | 0=>rfl
 | i+1=>by rw[Gi,List.length_append,Gp key info i,Fv];omega
theorem Pi (key info:List Nat):∀i,Au (Gi key info i)
 | 0=>fun x hx=>by cases hx
 | i+1=>fun x hx=>by
  rcases List.mem_append.1 hx with h|h
  .exact Pi key info i x h
  .exact Qv key info (i+1) x h
theorem cJ {i:Int}(n:Nat)(hi:i=(n:Nat))(h:n<=4294967296)(w:World):(Instr.makeSlice 23 (.int .i64 0) (.int .i64 i)).run Tryz.prog w =
  .ok (.slice (some ⟨w.heap.size,0,none⟩) 0 n) (w.alloc (.cells (zeros .u8 n) 5)):=by
 subst hi;obtain⟨i,hi,hz,hs,hb⟩:=info_parts Tryz.info_u8;have:=run_make (P:=Tryz.prog) w 23 5 i (.int .u8 0) Tryz.underlying23 hi hz .i64 .i64 0 n (by omega) (by omega) (by rw[hb];omega) (by omega);simp only[Int.toNat_natCast,hs,Nat.mul_one]at this;rw[this,<-Lc];rfl
theorem Own.made (w:World)(n:Nat)(hn:n<=9223372036854775807):Own (w.alloc (.cells (zeros .u8 n) 5)) w.heap.size (.slice (some ⟨w.heap.size,0,none⟩) 0 n) [] :=
 ⟨rfl,.inr ⟨w.heap.size,n,zeros .u8 n,rfl,Av _,heap_alloc_new w _,Nat.zero_le _,by simpa [maxLen]using hn,by simp[zeros],by simp⟩⟩
theorem Bb.grown {w w':World}{k:IntKind}{p:Option Addr}{n c:Nat}{xs:List Nat}(h:Bb w k p n c xs){g:Option Nat}(hg:w.grownBy w' g)(hp:∀q,p=some q->some q.block≠g):Bb w' k p n c xs:=by
 refine⟨h.len,h.cap,h.max,fun h0=>?_⟩;obtain⟨h1,h2,h3,h4⟩:=h.row h0;refine⟨h1,h2,h3,?_⟩;rcases h4 with h5|⟨b,off,h5,h6,h7⟩
 .exact .inl h5
 .refine .inr ⟨b,off,h5,Dk h6 hg.size,fun i x hx=>?_⟩;rw[World.cell?_of_block (w:=w) (a:=⟨b,off+i,none⟩) (hg.block b h6 (hp _ h5))];exact h7 i x hx
def Vt (n:Nat)(bs:List Nat)(w:World)(e:Ending)(w':World):Prop :=
 ∃p,e=.returned (.tuple #[.slice p n n,.int .i64 0])/\Bb w' .u8 p n n bs/\El w.heap.size p/\Below w.heap.size w w'/\(p=none->n=0)
theorem Sm (w:World)(pk:Option Addr)(nk ck:Nat)(key:List Nat)(pi:Option Addr)(ni ci:Nat)(info:List Nat)(n:Nat)(hT:Tabs w)(hr:Bb w .u8 pk nk ck key)(h8:Au key)(hI:Bu w ⟨pi,ni,ci,info⟩)(hn:n<=8160) :
  Calls Tryz.prog 131 #[.slice pk nk ck,.slice pi ni ci,.int .i64 n] w (Vt n ((Gi key info ((n+31)/32)).take n) w):=by
 have HI:Aa (Bu w ⟨pi,ni,ci,info⟩):=⟨hI⟩
 obtain⟨K,hK⟩:∃K,(n+31)/32=K:=⟨_,rfl⟩
 have hKn:n<=32*K:=by omega
 have hK255:K<=255:=by omega
 have q1:((n:Int)+32-1)/32=(K:Int):=by omega
 have q2:((n:Int)+31)/32=(K:Int):=by omega
 have q3:((n:Int)+32-1).tdiv 32=(K:Int):=by rw[Int.tdiv_eq_ediv_of_nonneg (by omega)];omega
 have q4:((n:Int)+31).tdiv 32=(K:Int):=by rw[Int.tdiv_eq_ediv_of_nonneg (by omega)];omega
 have hmk:=fun wx=>cJ (i:=(K:Int)*32) (K*32) (by omega) (by omega) wx
 rw[hK];clear hK hI;go_enter Tryz.func131,Tryz.ntmps131
 go_wp2_with fail
 refine(Nb w pk nk ck key hT hr h8).mono ?_;rintro e w1 ⟨g1,g2,rfl,hg1,hg2,hb1,hh1,hh2⟩;obtain⟨B,hB⟩:∃B,w1.heap.size=B:=⟨_,rfl⟩
 have hBx:Aa ((w1.alloc (.cells #[.pointer (some ⟨g1,0,none⟩),.pointer (some ⟨g2,0,none⟩)] 236)).heap[w1.heap.size]? = some (.cells #[.pointer (some ⟨g1,0,none⟩),.pointer (some ⟨g2,0,none⟩)] 236 (0,0))):=⟨heap_alloc_new w1 _⟩
 have hBz:Aa ((w1.alloc (.cells #[.pointer (some ⟨g1,0,none⟩),.pointer (some ⟨g2,0,none⟩)] 236)).heap.size=w1.heap.size+1):=⟨by simp⟩
 have hBb:Aa (Below w1.heap.size w1 (w1.alloc (.cells #[.pointer (some ⟨g1,0,none⟩),.pointer (some ⟨g2,0,none⟩)] 236))):=⟨(Bd _ _).alloc (Av _) _⟩
 go_wp2;generalize w1.alloc (.cells #[.pointer (some ⟨g1,0,none⟩),.pointer (some ⟨g2,0,none⟩)] 236)=w2 at *;rw[hB]at hBx hBz
 try simp only[hB]
 have hl1:g1<B:=by rw[<-hB];exact hh1.lt
 have hl2:g2<B:=by rw[<-hB];exact hh2.lt
 have hbw:Below w.heap.size w w2:=Fi hb1 hBb.out;have hH1:Aa (Bl w2 g1 (Xe key)):=⟨hh1.below hBb.out hh1.lt⟩
 have hH2:Aa (Bl w2 g2 (Wu key)):=⟨hh2.below hBb.out hh2.lt⟩
 have hT2:Aa (Tabs w2):=⟨hT.below hbw hT.size⟩
 have hwB:w.heap.size<=B:=by rw[<-hB];exact hb1.size
 have hz2:=hBz.out;have HOw:Aa (Own (w2.alloc (.cells (zeros .u8 (K*32)) 5)) (B+1) (.slice (some ⟨w2.heap.size,0,none⟩) 0 (K*32)) (Gi key info 0)):=⟨(Own.made w2 (K*32) (by omega)).mono (by omega)⟩
 have HB2:Aa (Below (B+1) w2 (w2.alloc (.cells (zeros .u8 (K*32)) 5))):=⟨(Bd _ _).alloc (by omega) _⟩
 have HLs:Aa (Db (B+1) (Pz key info 0) (.slice none 0 0) (w2.alloc (.cells (zeros .u8 (K*32)) 5))):=⟨.of none 0 _ ⟨rfl,Av _,by omega,fun h=>absurd h (by simp[Pz])⟩ (El.none _) (fun _=>rfl) (fun q hq=>by cases hq)⟩
 have HW2:Aa (Below w.heap.size w w2):=⟨hbw⟩
 rw[hz2]at HOw
 try simp only[hz2]
 clear hbw hh1 hh2 hb1 hBb hT hB hr
 go_loopw [27,11,10] (fun i x y wr=>∃(k:Nat) (u v:Value),k<=K/\i=.int .i64 k/\u=x/\v=y/\Aa (Db (B+1) (Pz key info k) u wr)/\Aa (Own wr (B+1) v (Gi key info k))/\Aa (Below (B+1) w2 wr)) (fun i _ _ _=>K-(intOf i).toNat)
 case atStart=>exact⟨0,_,_,by omega,rfl,rfl,rfl,HLs,HOw,HB2⟩
 case round=>
  obtain⟨k,u,v,hk,rfl,rfl,rfl,HU,HV,HB⟩:=hrel;have hsz:B+1<=wr.heap.size:=by have:=HB.out.size;omega
  by_cases hkK:k<K
  .obtain⟨p,c,rfl,ru,nu,zu,_⟩:∃p c,u=.slice p (Pz key info k).length c/\Bb wr .u8 p (Pz key info k).length c (Pz key info k)/\El (B+1) p/\(p=none->c=0)/\True:=by
    have h:=HU.out
    cases h with
    | of p c _ h hn hz hp=>exact⟨p,c,rfl,h,hn,hz,trivial⟩
   have hb:B<w2.heap.size:=by omega
   have hbx:wr.heap[B]? = some (.cells #[.pointer (some ⟨g1,0,none⟩),.pointer (some ⟨g2,0,none⟩)] 236 (0,0)):=(HB.out.block B (by omega)).trans hBx.out;have k0:wr.cell? ⟨B,0,none⟩=some (.pointer (some ⟨g1,0,none⟩)):=by unfold World.cell?;dsimp only;rw[hbx];rfl
   have k1:wr.cell? ⟨B,1,none⟩=some (.pointer (some ⟨g2,0,none⟩)):=by unfold World.cell?;dsimp only;rw[hbx];rfl
   have hlt:(Pz key info k).length<=32:=by
    cases k with
    | zero=>simp[Pz]
    | succ k=>rw[Fv];exact Av _
   obtain⟨T,hT⟩:∃T,Pz key info k=T:=⟨_,rfl⟩
   have HT:Aa (Pz key info k=T):=⟨hT⟩
   have HT8:Aa (Au T):=⟨by rw[<-hT];exact Qv key info k⟩
   rw[hT]at ru hlt ⊢
   have hcc:=ru.cap;have hcm:=ru.max;have HRu:Aa (Bb wr .u8 p T.length c T):=⟨ru⟩
   have hba:Below wr.heap.size wr (wr.alloc (.cells #[.int .u8 ((k+1:Nat):Int)] 5)):=By;have HWr:Aa (Below w.heap.size w wr):=⟨HW2.out.trans (HB.out.mono (by omega))⟩
   have HWa:Aa (Below w.heap.size w (wr.alloc (.cells #[.int .u8 ((k+1:Nat):Int)] 5))):=⟨Fi HWr.out hba⟩
   have hP:=fZ (wr.alloc (.cells #[.int .u8 ((k+1:Nat):Int)] 5)) ⟨p,T.length,c,T⟩ ⟨pi,ni,ci,info⟩ ⟨some ⟨wr.heap.size,0,none⟩,1,1,[k+1]⟩ ⟨ru.below hba,HT8.out⟩ (HI.out.below HWa.out) ⟨Yi wr [k+1] (show 1<=9223372036854775807 by decide),fun x hx=>by obtain rfl:=List.mem_singleton.1 hx;omega⟩;rw[show (wr.alloc (.cells #[.int .u8 ((k+1:Nat):Int)] 5)).heap.size=wr.heap.size+1 by simp]at hP
   have HP:=Ac hP;have hbp:Below (wr.alloc (.cells #[.int .u8 ((k+1:Nat):Int)] 5)).heap.size (wr.alloc (.cells #[.int .u8 ((k+1:Nat):Int)] 5)) ((wr.alloc (.cells #[.int .u8 ((k+1:Nat):Int)] 5)).alloc (.cells #[.slice p T.length c,.slice pi ni ci,.slice (some ⟨wr.heap.size,0,none⟩) 1 1] 23)):=By;have HBp:Aa (Below wr.heap.size wr ((wr.alloc (.cells #[.int .u8 ((k+1:Nat):Int)] 5)).alloc (.cells #[.slice p T.length c,.slice pi ni ci,.slice (some ⟨wr.heap.size,0,none⟩) 1 1] 23))):=⟨Fi hba hbp⟩
   have HBq:Aa (Below (B+1) w2 ((wr.alloc (.cells #[.int .u8 ((k+1:Nat):Int)] 5)).alloc (.cells #[.slice p T.length c,.slice pi ni ci,.slice (some ⟨wr.heap.size,0,none⟩) 1 1] 23))):=⟨HB.out.trans (HBp.out.mono hsz)⟩
   have HWh:Aa (whole [(⟨p,T.length,c,T⟩:Part),⟨pi,ni,ci,info⟩,⟨some ⟨wr.heap.size,0,none⟩,1,1,[k+1]⟩]=T++(info++[k+1])):=⟨by simp[whole]⟩
   clear hP hba hbp ru hT
   go_wp2_with fail
   refine Vl (w1:=(wr.alloc (.cells #[.int .u8 ((k+1:Nat):Int)] 5)).alloc (.cells #[.slice p T.length c,.slice pi ni ci,.slice (some ⟨wr.heap.size,0,none⟩) 1 1] 23)) (by kernel_rfl) ?_;refine(Qw _ g1 g2 _ _ (some ⟨wr.heap.size+1,0,none⟩) 3 3 _ (hT2.out.below HBq.out (by have:=hT2.out.size;omega)) (hH1.out.below HBq.out (by omega)) (hH2.out.below HBq.out (by omega)) HP.out).mono ?_;rintro e w5 ⟨q,rfl,hq,hb5,hk5⟩;have HK5:Aa (Row w5 .u8 (some ⟨q,0,none⟩) 32 32 (Pz key info (k+1))):=⟨by
    have h:=hk5.row (Di _).symm (Av _) (show 32<=9223372036854775807 by omega);rw[HWh.out]at h
    have e:Vu (Wu key++Vu (Xe key++(T++(info++[k+1]))))=Pz key info (k+1):=by
     rw[Pz,HT.out,Nat.mod_eq_of_lt (show k+1<256 by omega)];rfl
    rw[e]at h
    exact h⟩
   have hz5:=HBp.out.size;have HB5:Aa (Below wr.heap.size wr w5):=⟨Fi HBp.out hb5⟩
   have HBw5:Aa (Below (B+1) w2 w5):=⟨HB.out.trans (HB5.out.mono hsz)⟩
   have HV5:Aa (Own w5 (B+1) v (Gi key info k)):=⟨HV.out.belowS HB5.out⟩
   have hqn:∀g,v.ownBlock=some g->g≠q:=fun g hg=>by have:=HV.out.lt g hg;omega
   have HQN:=Ac hqn;have hr5:Bb w5 .u8 (some ⟨q,0,none⟩) 32 32 (Pz key info (k+1)):=⟨(Fv _ _ _).symm,Av _,by omega,fun _=>HK5.out⟩
   have HR5:=Ac hr5;have hmx:Aa ((Gi key info k).length+32<=140737488355328):=⟨by rw[Gp];omega⟩
   have hs5:B+1<=w5.heap.size:=by have:=HB5.out.size;omega
   have hwq:B+1<=q:=by omega
   clear hk5 hb5 hqn hr5 HP HBp HBq HRu HWh
   go_wp2_with (at_builtin;refine Ok rfl _ _ rfl rfl HV5.out rfl HR5.out (fun h=>by cases h) hmx.out hs5 ?_;intro v6 w6 ho6 hg6;refine Pv.out ?_)
   refine⟨?_⟩;have hr6:Bb w6 .u8 (some ⟨q,0,none⟩) 32 32 (Pz key info (k+1)):=HR5.out.grown hg6 (fun a ha e=>by cases ha;exact HQN.out q e.symm rfl);have hlt6:q<w6.heap.size:=by
    obtain⟨b',off',e,h2,_⟩:=(hr6.row (by omega)).pos (by omega);cases e;exact h2
   have HU6:Aa (Db (B+1) (Pz key info (k+1)) (.slice (some ⟨q,0,none⟩) 32 32) w6):=⟨by
    have h:=Db.of (lo:=B+1) (bs:=Pz key info (k+1)) (some ⟨q,0,none⟩) 32 w6 (by rw[Fv];exact hr6) (fun a ha=>by cases ha;exact hwq) (fun h=>by cases h) (fun a ha=>by cases ha;exact hlt6);rw[Fv]at h
    exact h⟩
   have HV6:Aa (Own w6 (B+1) v6 (Gi key info (k+1))):=⟨ho6⟩
   have HB6:Aa (Below (B+1) w2 w6):=⟨HBw5.out.trans (grown_below hg6 hs5 HV5.out.ge)⟩
   clear hr6 hlt6 ho6 hg6;go_wp2;go_roundw
   case rel=>exact⟨k+1,_,_,by omega,by go_num,rfl,rfl,HU6,HV6,HB6⟩
   case measure=>simp[intOf];omega
  .obtain rfl:k=K:=by omega
   obtain⟨p,c,rfl,rv,nv,zv,pv⟩:=HV.out.elim;have hlv:(Gi key info k).length=32*k:=Gp key info k;rw[hlv]at rv ⊢
   have hcc:=rv.cap;have hcm:=rv.max;have HRv:Aa (Bb wr .u8 p n n ((Gi key info k).take n)):=⟨by
    have h:=rv.take n hKn;exact⟨h.len,Av _,by omega,fun h0=>by
     have h1:=h.row h0;exact⟨h1.len,Av _,by omega,by
      rcases h1.at_ with ⟨a,b,d⟩|h2
      .omega
      .exact .inr h2⟩⟩⟩
   have HNv:Aa (El w.heap.size p/\(p=none->n=0)):=⟨nv.mono (by omega),fun h=>by have:=zv h;omega⟩
   have HWr:Aa (Below w.heap.size w wr):=⟨HW2.out.trans (HB.out.mono (by omega))⟩
   clear rv nv zv pv hlv HV HU;go_wp2;exact bodyPost_ret (v:=.tuple #[.slice p n n,.int .i64 0]) (by simp[results,Tryz.results131,go_sem]) rfl ⟨p,rfl,HRv.out,HNv.out.1,HWr.out,HNv.out.2⟩
end Go.Proofs.YtokhckjemidbpaaGreatDoor
