/- The two sums under a key. -/
import Derived.Test.YthgoeiegdhphjaaGreatDoorMacB
import Derived.Laws.Rows
set_option maxRecDepth 1000000
set_option maxHeartbeats 16000000
set_option linter.all false
namespace Go.Proofs.YthgoeiegdhphjaaGreatDoor
open Go Go.RowKit Go.Proofs.YthgoeiegdhphjaaGreatDoor.Flow
def Hr (b:List Nat)(x k:Nat):List Nat:=(masked b x).take k++b.drop k
theorem Wa (b:List Nat)(x:Nat):Hr b x 0=b:=by simp[Hr]
theorem Qq {b:List Nat}(x:Nat)(h:b.length=64):Hr b x 64=masked b x:=by
 unfold Hr;rw[List.take_of_length_le (by rw[Ew];omega),List.drop_of_length_le (by omega),List.append_nil]
theorem Yy {b:List Nat}(x:Nat){k:Nat}(h:b.length=64)(hk:k<64):(Hr b x k)[k]? = some (b.getD k 0):=by
 unfold Hr;have hl:((masked b x).take k).length=k:=by simp[Ew];omega
 rw[List.getElem?_append_right (by omega),hl,Nat.sub_self,List.getElem?_drop,Nat.add_zero,Ec];simp[show k<b.length by omega]
theorem Yx {b:List Nat}(x:Nat){k:Nat}(h:b.length=64)(hk:k<64):(Hr b x k).set k (b.getD k 0 ^^^ x)=Hr b x (k+1):=by
 unfold Hr;have hl:((masked b x).take k).length=k:=by simp[Ew];omega
 have e1:(masked b x)[k]? = some (b.getD k 0 ^^^ x):=by
  unfold masked;rw[List.getElem?_map,Ec,List.getElem?_eq_getElem (by omega)];rfl
 rw[List.set_append_right _ _ (by omega),hl,Nat.sub_self,List.take_add_one,e1,List.drop_eq_getElem_cons (show k<b.length by omega),List.set_cons_zero];simp
theorem Ku (w:World)(b:List Nat)(x:Nat)(hT:Tabs w)(hb:b.length=64)(h8:Az b)(hx:x<256) :
  Calls Tryz.prog 214 #[.agg (b.map fun(x:Nat)=>Value.int .u8 (x:Int)).toArray,.int .u8 x] w (Mj (masked b x) w):=by
 have HBl:Ad (b.length=64):=⟨hb⟩
 have HB8:Ad (Az b):=⟨h8⟩
 have hi64:Ad ((Tryz.prog.info? 249).map (·.size)=some (b.map fun(x:Nat)=>Value.int .u8 x).toArray.size):=⟨Nr b hb⟩
 have hsl:=Hu;have HT:Ad (Tabs w):=⟨hT⟩
 have H0:Ad (Bd (w.alloc (.cells (b.map fun(x:Nat)=>Value.int .u8 x).toArray 249)) w.heap.size 249 .u8 (Hr b x 0)):=⟨by rw[Wa];exact heap_alloc_new w _⟩
 clear hb h8 hT;go_enter Tryz.func214,Tryz.ntmps214;go_wp2
 go_loopw [7] (fun i wr=>∃k:Nat,k<=64/\i=.int .i64 k/\w.heap.size<wr.heap.size/\Below w.heap.size w wr/\Bd wr w.heap.size 249 .u8 (Hr b x k)) (fun i _=>64-(intOf i).toNat)
 case atStart=>exact⟨0,by omega,rfl,by simp,(Bc _ _).alloc (Av _) _,H0.out⟩
 case round=>
  obtain⟨k,hk,rfl,hsz,hbel,hblk⟩:=hrel
  by_cases hk64:k<64
  .have e0:=hblk.cell (Yy x HBl.out hk64);have e1:=hblk.free k;have hset:=Aa (Yx x HBl.out hk64);have hbk:=HB8.out.get k;have hxor:=u8_xor_nat (b.getD k 0) x hbk hx;generalize b.getD k 0=y at *;go_wp2;go_roundw
   case rel=>
    refine⟨k+1,by omega,by go_num,by simpa using hsz,hbel.setCell (by simp) _,?_⟩;rw[<-hset.out];exact hblk.set k _
   case measure=>simp[intOf];omega
  .obtain rfl:k=64:=by omega
   have hl64:(Hr b x 64).length=64:=by rw[Qq x HBl.out,Ew];exact HBl.out
   have h8b:Az (masked b x):=Rx HB8.out hx;rw[Qq x HBl.out]at hblk hl64
   have HBk:Ad (Bd wr w.heap.size 249 .u8 (masked b x)):=⟨hblk⟩
   have hTr:=HT.out.below hbel HT.out.size;have hz:=hbel.size;clear hblk
   go_wp2_with fail
   refine(Hc wr hTr).mono ?_;rintro e w1 ⟨g,rfl,hg,hb1,hh1⟩;have hz1:=hb1.size;have hb01:=hbel.trans (hb1.mono hz);have hT1:=hTr.below hb1 hTr.size;have hblk1:=HBk.out.below hb1 hsz;have hrow:Bk w1 .u8 (some ⟨w.heap.size,0,none⟩) 64 64 (masked b x):=⟨hl64.symm,Av _,by omega,fun _=>hblk1.row hl64.symm (Av _) (by omega)⟩
   have hg2:(max (1 : Nat) 2 + 1)<=g:=by have:=HT.out.size;omega
   clear hblk1
   go_wp2_with fail
   refine(Cs w1 g [] _ _ _ _ hT1 hh1 hg2 hrow h8b (fun _ q hq=>by cases hq;show w.heap.size≠g;omega)).mono ?_;rintro e w2 ⟨rfl,hb2,hh2⟩;rw[List.nil_append]at hh2
   go_wp2;go_ret;exact⟨g,rfl,by omega,hb01.trans (hb2.below (by omega) (by omega)),hh2⟩
inductive Ca (lo:Nat) (m:List Nat):Value->World->Prop where
 | of (g:Nat) (w:World) (h:Bg w g m) (hg:lo<=g):Ca lo m (.pointer (some ⟨g,0,none⟩)) w
theorem Ca.elim {lo:Nat}{m:List Nat}{v:Value}{w:World}(h:Ca lo m v w){C:Prop}(k:∀g,v=.pointer (some ⟨g,0,none⟩)->Bg w g m->lo<=g->C):C:=by
 cases h with
 | of g _ h hg=>exact k g rfl h hg
theorem Ca.but {lo:Nat}{m:List Nat}{v:Value}{w w':World}(h:Ca lo m v w){b:Nat}(hb:Cp b w w')(hl:b<lo):Ca lo m v w':=by
 cases h with
 | of g _ h hg=>exact .of g w' (h.but hb (by omega)) hg
inductive Hk (lo:Nat) (m1 m2:List Nat):Value->World->Prop where
 | of (g1 g2:Nat) (w:World) (h1:Bg w g1 m1) (h2:Bg w g2 m2) (hg1:lo<=g1) (hg2:lo<=g2):Hk lo m1 m2 (.agg #[.pointer (some ⟨g1,0,none⟩),.pointer (some ⟨g2,0,none⟩)]) w
theorem Hk.elim {lo:Nat}{m1 m2:List Nat}{v:Value}{w:World}(h:Hk lo m1 m2 v w){C:Prop}(k:∀g1 g2,v=.agg #[.pointer (some ⟨g1,0,none⟩),.pointer (some ⟨g2,0,none⟩)]->Bg w g1 m1->Bg w g2 m2->lo<=g1->lo<=g2->C):C:=by
 cases h with
 | of g1 g2 _ h1 h2 hg1 hg2=>exact k g1 g2 rfl h1 h2 hg1 hg2
theorem Hk.but {lo:Nat}{m1 m2:List Nat}{v:Value}{w w':World}(h:Hk lo m1 m2 v w){b:Nat}(hb:Cp b w w')(hl:b<lo):Hk lo m1 m2 v w':=by
 cases h with
 | of g1 g2 _ h1 h2 hg1 hg2=>exact .of g1 g2 w' (h1.but hb (by omega)) (h2.but hb (by omega)) hg1 hg2
def aH (key:List Nat)(w:World)(e:Ending)(w':World):Prop :=
 ∃g1 g2,e=.returned (.agg #[.pointer (some ⟨g1,0,none⟩),.pointer (some ⟨g2,0,none⟩)])/\w.heap.size<=g1/\w.heap.size<=g2/\Below w.heap.size w w'/\Bg w' g1 (Wi key)/\Bg w' g2 (Vy key)
def fK (b lo:Nat)(m1 m2:List Nat)(w:World):Prop :=
 ∃g1 g2,w.heap[b]? = some (.cells #[.pointer (some ⟨g1,0,none⟩),.pointer (some ⟨g2,0,none⟩)] 225 (0,0))/\Bg w g1 m1/\Bg w g2 m2/\lo<=g1/\lo<=g2
structure UG (w2:World) (b lo:Nat) (m1 m2:List Nat) (d4 d5:Bool) (w':World):Prop where
 but:Cp b w2 w'
 ord:d5=true->d4=true
 old:d5=false->w'.heap[b]? = some (.cells #[.pointer none,.pointer none] 225 (0,0))
 new:d5=true->fK b lo m1 m2 w'
theorem UG.open {w2 w':World}{b lo:Nat}{m1 m2:List Nat}{d5:Bool}(h:UG w2 b lo m1 m2 false d5 w'):d5=false:=by
 cases d5 with
 | false=>rfl
 | true=>exact absurd (h.ord rfl) (by simp)
theorem UG.step {w2 w' w5:World}{b lo:Nat}{m1 m2:List Nat}{d4 d5:Bool}(h:UG w2 b lo m1 m2 d4 d5 w')(hd:d5=false)(hb:Below w'.heap.size w' w5)(d4':Bool):UG w2 b lo m1 m2 d4' false w5 :=
 ⟨h.but.trans (Cp.of hb),fun e=>(by cases e),fun _=>(by
  have h1:=h.old hd;rw[hb.block b (Ll h1).1];exact h1),fun e=>(by cases e)⟩
theorem Vh {w:World}{b:Nat}{v1 v2:Value}(h:w.heap[b]? = some (.cells #[.pointer none,.pointer none] 225 (0,0)))(h1:v1.oneCell'=true)(h2:v2.oneCell'=true) :
  (storeVar 225 ⟨b,0,none⟩ (.agg #[v1,v2])).run Tryz.prog w=.ok () (w.setRow b #[v1,v2]) :=
 run_storeVar_row w b 225 225 #[.pointer none,.pointer none] #[v1,v2] h (by kernel_rfl) rfl (by simp[h1,h2])
theorem bR {w:World}{g:Nat}{b:List Nat}(hb:b.length=64)(h:Bd w g 249 .u8 b) :
  (loadVar 249 ⟨g,0,none⟩).run Tryz.prog w=.ok (.agg (b.map fun(x:Nat)=>Value.int .u8 (x:Int)).toArray) w :=
 run_loadVar_row w g 249 249 _ (0,0) _ h Tryz.underlying249 rfl (Nr b hb)
theorem Mp (w:World)(p:Option Addr)(n c:Nat)(key:List Nat)(hT:Tabs w)(hr:Bk w .u8 p n c key)(h8:Az key) :
  Calls Tryz.prog 187 #[.slice p n c] w (aH key w):=by
 have HO:Ad ((w.alloc (.cells #[.pointer none,.pointer none] 225)).heap[w.heap.size]? = some (.cells #[.pointer none,.pointer none] 225 (0,0))):=⟨heap_alloc_new w _⟩
 have HB0:Ad (Below w.heap.size w (w.alloc (.cells #[.pointer none,.pointer none] 225))):=⟨(Bc _ _).alloc (Av _) _⟩
 have HZ0:Ad ((w.alloc (.cells #[.pointer none,.pointer none] 225)).heap.size=w.heap.size+1):=⟨by simp⟩
 go_enter Tryz.func187,Tryz.ntmps187
 go_wp2_with fail
 generalize w.alloc (.cells #[.pointer none,.pointer none] 225)=w0 at *;refine(Uv w0 p n c key (hT.below HB0.out hT.size) (hr.below HB0.out) h8).mono ?_;rintro e w1 ⟨rfl,hb1⟩;have hkl:=Gf key;have hk8:=Sd h8;have HI:Ad (masked (Du key) 54=Wi key/\masked (Du key) 92=Vy key):=⟨rfl,rfl⟩
 generalize Du key=B at *;have hi64:Ad ((Tryz.prog.info? 249).map (·.size)=some (B.map fun(x:Nat)=>Value.int .u8 x).toArray.size):=⟨Nr B hkl⟩
 have hnew:=Aa (Bd.zeros w1 249 .u8 64);have H1:=Aa (Kw .u8 B);have HS:Ad (((List.replicate 64 0).map fun(x:Nat)=>Value.int .u8 x).toArray.size=(B.map fun(x:Nat)=>Value.int .u8 x).toArray.size):=⟨by simp[hkl]⟩
 go_wp2_with (refine wpList_store_row rfl 249 _ _ rfl w1.heap.size (B.map fun(x:Nat)=>Value.int .u8 x).toArray rfl rfl 249 ((List.replicate 64 0).map fun(x:Nat)=>Value.int .u8 x).toArray hnew.out hi64.out HS.out H1.out ?_)
 generalize hw2:World.setRow _ _ _=w2;have hz1:=hb1.size;have hz0:=HZ0.out;have hb2:Below w0.heap.size w0 w2:=by
  rw[<-hw2];exact below_setRow (hb1.alloc hz1 _) hz1 _
 have hblk:Bd w2 w1.heap.size 249 .u8 B:=by
  rw[<-hw2];exact setRow_heap _ w1.heap.size _ _ 249 (0,0) hnew.out
 have hold:w2.heap[w.heap.size]? = some (.cells #[.pointer none,.pointer none] 225 (0,0)):=(hb2.block w.heap.size (by omega)).trans HO.out;have hbw:Below w.heap.size w w2:=HB0.out.trans (hb2.mono (by omega));have hT2:=hT.below hbw hT.size;have hlt2:=hblk.lt;have hw2z:(max (1 : Nat) 2 + 1)<=w.heap.size:=hT.size;have HBk:Ad (∀w',Cp w.heap.size w2 w'->Bd w' w1.heap.size 249 .u8 B):=⟨fun w' h=>(h.block w1.heap.size hlt2 (by omega)).trans hblk⟩
 obtain⟨m1,hm1⟩:∃m,Wi key=m:=⟨_,rfl⟩
 obtain⟨m2,hm2⟩:∃m,Vy key=m:=⟨_,rfl⟩
 have HM1:Ad (masked B 54=m1):=⟨HI.out.1.trans hm1⟩
 have HM2:Ad (masked B 92=m2):=⟨HI.out.2.trans hm2⟩
 have HM:Ad (Wi key=m1/\Vy key=m2):=⟨hm1,hm2⟩
 have HT2:Ad (Tabs w2):=⟨hT2⟩
 have HK8:Ad (Az B):=⟨hk8⟩
 have HKL:Ad (B.length=64):=⟨hkl⟩
 clear hw2 hnew H1 HS hi64 hblk HI hm1 hm2 hT2 hk8 hkl hb2 hb1 HO HB0 HZ0;refine Ak (by kernel_rfl) (by kernel_rfl)
  [some (.agg (B.map fun(x:Nat)=>Value.int .u8 (x:Int)).toArray),none,some (.agg (B.map fun(x:Nat)=>Value.int .u8 (x:Int)).toArray),none,none,none]
  [false,true,false,true,true,true] rfl
  (fun w1 w2=>Cp w.heap.size w1 w2) (fun D w'=>UG w2 w.heap.size w2.heap.size m1 m2 (D 4) (D 5) w')
  (fun i v w'=>match i with
   | 1=>Ca w2.heap.size m1 v w'
   | 3=>Ca w2.heap.size m2 v w'
   | 4=>Hk w2.heap.size m1 m2 v w'
   | _=>True)
  ?_ ⟨Cp.drew (Cp.refl _ _),(fun e=>by cases e),fun _=>hold,fun e=>by cases e⟩ ?_ ?_
 .intro i v w1 w2 hf hb;split at hf
  .exact hf.but hb (by omega)
  .exact hf.but hb (by omega)
  .exact hf.but hb (by omega)
  .trivial
 .simp only[Bb,Nat.reduceAdd];refine⟨?_,?_,?_,?_,?_,?_,trivial⟩
  case refine_2=>
   intro D sp w' hD hW hdp hG;have h4:D 4=false:=hW 4 (mq (by kernel_rfl));rw[h4]at hG
   have h5:=hG.open
   (with_reducible refine Ab (w1:=w') (f := 214) (args:=#[.agg (B.map fun(x:Nat)=>Value.int .u8 (x:Int)).toArray,.int .u8 54]) ?_ ?_ ?_)
   .simp[Region.wanted,go_sem]
   .simp[Act.eval,Act.put,go_sem]
   .refine(Ku w' B 54 (HT2.out.but hG.but hw2z) HKL.out HK8.out (by omega)).mono ?_;rintro e w5 ⟨g,rfl,hg,hb,hh⟩;rw[HM1.out]at hh
    refine⟨_,rfl,Cp.of hb,Ca.of g w5 hh (Ep hG.but.size hg),?_⟩;have:=hG.step h5 hb false;simpa [h4,h5]using this
  case refine_4=>
   intro D sp w' hD hW hdp hG;have h4:D 4=false:=hW 4 (mq (by kernel_rfl));rw[h4]at hG
   have h5:=hG.open
   (with_reducible refine Ab (w1:=w') (f := 214) (args:=#[.agg (B.map fun(x:Nat)=>Value.int .u8 (x:Int)).toArray,.int .u8 92]) ?_ ?_ ?_)
   .simp[Region.wanted,go_sem]
   .simp[Act.eval,Act.put,go_sem]
   .refine(Ku w' B 92 (HT2.out.but hG.but hw2z) HKL.out HK8.out (by omega)).mono ?_;rintro e w5 ⟨g,rfl,hg,hb,hh⟩;rw[HM2.out]at hh
    refine⟨_,rfl,Cp.of hb,Ca.of g w5 hh (Ep hG.but.size hg),?_⟩;have:=hG.step h5 hb false;simpa [h4,h5]using this
  case refine_5=>
   intro D sp w' hD hW hdp hG;have h5:D 5=false:=hW 5 (mq (by kernel_rfl));have f1:Ca w2.heap.size m1 (sp 1) w':=(hdp 1 (mq (by kernel_rfl))).2;have f3:Ca w2.heap.size m2 (sp 3) w':=(hdp 3 (mq (by kernel_rfl))).2
   (with_reducible refine f1.elim (fun g1 hv1 hh1 hg1=>?_))
   (with_reducible refine f3.elim (fun g2 hv2 hh2 hg2=>?_))
   clear f1 f3
   (with_reducible refine Ai (v:=.agg #[.pointer (some ⟨g1,0,none⟩),.pointer (some ⟨g2,0,none⟩)]) (w1:=w') ?_ ?_ ?_)
   .simp[Region.wanted,go_sem]
   .simp[execOp,Act.eval,Act.put,go_sem,hv1,hv2]
   .refine⟨Cp.refl _ _,Hk.of g1 g2 w' hh1 hh2 hg1 hg2,?_⟩;have:=hG.step h5 (Bc _ _) true;simpa [h5]using this
  case refine_6=>
   intro D sp w' hD hW hdp hG;have h4:D 4=true:=(hdp 4 (mq (by kernel_rfl))).1;have f4:Hk w2.heap.size m1 m2 (sp 4) w':=(hdp 4 (mq (by kernel_rfl))).2
   (with_reducible refine f4.elim (fun g1 g2 hv hh1 hh2 hg1 hg2=>?_))
   clear f4;have ho:=hG.old hD;have hst:=Vh (v1:=.pointer (some ⟨g1,0,none⟩)) (v2:=.pointer (some ⟨g2,0,none⟩)) ho rfl rfl;have hb5:Cp w.heap.size w' (w'.setRow w.heap.size #[.pointer (some ⟨g1,0,none⟩),.pointer (some ⟨g2,0,none⟩)]):=Cp.setRow _ _
   (with_reducible refine An (w1:=w'.setRow w.heap.size #[.pointer (some ⟨g1,0,none⟩),.pointer (some ⟨g2,0,none⟩)]) ?_ ?_ ?_)
   .simp[Region.wanted,go_sem]
   .simp[execOp,Act.eval,Act.put,hv,Instr.storeAt,Instr.sureAddr,Result.andThen_ok,hst]
   .refine⟨hb5,trivial,hG.but.trans hb5,fun _=>by simp[h4],fun e=>by simp at e,fun _=>⟨g1,g2,setRow_heap _ _ _ _ _ _ ho,hh1.but hb5 (by omega),hh2.but hb5 (by omega),hg1,hg2⟩⟩
  all_goals
   intro D sp w' hD hW hdp hG;have hk:=bR HKL.out (HBk.out w' hG.but)
   (with_reducible refine Ai (v:=.agg (B.map fun(x:Nat)=>Value.int .u8 (x:Int)).toArray) (w1:=w') ?_ ?_ ⟨rfl,rfl⟩)
   .simp[Region.wanted,go_sem]
   .simp[execOp,Act.eval,Act.put,Instr.loadAt,Instr.sureAddr,Result.andThen_ok,hk]
 .intro sp w5 hsp hG;obtain⟨g1,g2,hbx,hh1,hh2,hg1,hg2⟩:=hG.new rfl;have hbut:=hG.but;clear hsp hG;simp only[Am,Nat.reduceAdd];generalize sp 1=u1;generalize sp 3=u3;generalize sp 4=u4;generalize sp 5=u5
  go_simp
  go_wp2;refine bodyPost_ret (v:=.agg #[.pointer (some ⟨g1,0,none⟩),.pointer (some ⟨g2,0,none⟩)]) (results_cell_row Tryz.results187 _ _ w.heap.size 225 _ (0,0) _ rfl hbx Tryz.underlying225 rfl (by kernel_rfl)) rfl ⟨g1,g2,rfl,by have:=hbw.size;omega,by have:=hbw.size;omega,hbw.trans (hbut.below (Av _) hbw.size),?_,?_⟩
  .rw[HM.out.1];exact hh1
  .rw[HM.out.2];exact hh2
end Go.Proofs.YthgoeiegdhphjaaGreatDoor
