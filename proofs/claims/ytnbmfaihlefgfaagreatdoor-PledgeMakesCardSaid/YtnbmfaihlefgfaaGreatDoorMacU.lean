/- The two sums under a key. -/
import Derived.Test.YtnbmfaihlefgfaaGreatDoorMacB
import Derived.Laws.Rows
set_option maxRecDepth 1000000
set_option maxHeartbeats 16000000
set_option linter.all false
namespace Go.Proofs.YtnbmfaihlefgfaaGreatDoor
open Go Go.RowKit Go.Proofs.YtnbmfaihlefgfaaGreatDoor.Flow
def Iw (b:List Nat)(x k:Nat):List Nat:=(masked b x).take k++b.drop k
theorem Ze (b:List Nat)(x:Nat):Iw b x 0=b:=by simp[Iw]
theorem Ss {b:List Nat}(x:Nat)(h:b.length=64):Iw b x 64=masked b x:=by
 unfold Iw;rw[List.take_of_length_le (by rw[Fj];omega),List.drop_of_length_le (by omega),List.append_nil]
theorem cC {b:List Nat}(x:Nat){k:Nat}(h:b.length=64)(hk:k<64):(Iw b x k)[k]? = some (b.getD k 0):=by
 unfold Iw;have hl:((masked b x).take k).length=k:=by simp[Fj];omega
 rw[List.getElem?_append_right (by omega),hl,Nat.sub_self,List.getElem?_drop,Nat.add_zero,De];simp[show k<b.length by omega]
theorem cB {b:List Nat}(x:Nat){k:Nat}(h:b.length=64)(hk:k<64):(Iw b x k).set k (b.getD k 0 ^^^ x)=Iw b x (k+1):=by
 unfold Iw;have hl:((masked b x).take k).length=k:=by simp[Fj];omega
 have e1:(masked b x)[k]? = some (b.getD k 0 ^^^ x):=by
  unfold masked;rw[List.getElem?_map,De,List.getElem?_eq_getElem (by omega)];rfl
 rw[List.set_append_right _ _ (by omega),hl,Nat.sub_self,List.take_add_one,e1,List.drop_eq_getElem_cons (show k<b.length by omega),List.set_cons_zero];simp
theorem Mj (w:World)(b:List Nat)(x:Nat)(hT:Tabs w)(hb:b.length=64)(h8:Bb b)(hx:x<256) :
  Calls Tryz.prog 232 #[.agg (b.map fun(x:Nat)=>Value.int .u8 (x:Int)).toArray,.int .u8 x] w (Ny (masked b x) w):=by
 have HBl:Ab (b.length=64):=⟨hb⟩
 have HB8:Ab (Bb b):=⟨h8⟩
 have hi64:Ab ((Tryz.prog.info? 261).map (·.size)=some (b.map fun(x:Nat)=>Value.int .u8 x).toArray.size):=⟨Pl b hb⟩
 have hsl:=Jd;have HT:Ab (Tabs w):=⟨hT⟩
 have H0:Ab (Bl (w.alloc (.cells (b.map fun(x:Nat)=>Value.int .u8 x).toArray 261)) w.heap.size 261 .u8 (Iw b x 0)):=⟨by rw[Ze];exact heap_alloc_new w _⟩
 clear hb h8 hT;go_enter Tryz.func232,Tryz.ntmps232;go_wp2
 go_loopw [7] (fun i wr=>∃k:Nat,k<=64/\i=.int .i64 k/\w.heap.size<wr.heap.size/\Below w.heap.size w wr/\Bl wr w.heap.size 261 .u8 (Iw b x k)) (fun i _=>64-(intOf i).toNat)
 case atStart=>exact⟨0,by omega,rfl,by simp,(Be _ _).alloc (Av _) _,H0.out⟩
 case round=>
  obtain⟨k,hk,rfl,hsz,hbel,hblk⟩:=hrel
  by_cases hk64:k<64
  .have e0:=hblk.cell (cC x HBl.out hk64);have e1:=hblk.free k;have hset:=Ac (cB x HBl.out hk64);have hbk:=HB8.out.get k;have hxor:=u8_xor_nat (b.getD k 0) x hbk hx;generalize b.getD k 0=y at *;go_wp2;go_roundw
   case rel=>
    refine⟨k+1,by omega,by go_num,by simpa using hsz,hbel.setCell (by simp) _,?_⟩;rw[<-hset.out];exact hblk.set k _
   case measure=>simp[intOf];omega
  .obtain rfl:k=64:=by omega
   have hl64:(Iw b x 64).length=64:=by rw[Ss x HBl.out,Fj];exact HBl.out
   have h8b:Bb (masked b x):=Ug HB8.out hx;rw[Ss x HBl.out]at hblk hl64
   have HBk:Ab (Bl wr w.heap.size 261 .u8 (masked b x)):=⟨hblk⟩
   have hTr:=HT.out.below hbel HT.out.size;have hz:=hbel.size;clear hblk
   go_wp2_with fail
   refine(Me wr hTr).mono ?_;rintro e w1 ⟨g,rfl,hg,hb1,hh1⟩;have hz1:=hb1.size;have hb01:=hbel.trans (hb1.mono hz);have hT1:=hTr.below hb1 hTr.size;have hblk1:=HBk.out.below hb1 hsz;have hrow:Bq w1 .u8 (some ⟨w.heap.size,0,none⟩) 64 64 (masked b x):=⟨hl64.symm,Av _,by omega,fun _=>hblk1.row hl64.symm (Av _) (by omega)⟩
   have hg2:(max (1 : Nat) 2 + 1)<=g:=by have:=HT.out.size;omega
   clear hblk1
   go_wp2_with fail
   refine(Eo w1 g [] _ _ _ _ hT1 hh1 hg2 hrow h8b (fun _ q hq=>by cases hq;show w.heap.size≠g;omega)).mono ?_;rintro e w2 ⟨rfl,hb2,hh2⟩;rw[List.nil_append]at hh2
   go_wp2;go_ret;exact⟨g,rfl,by omega,hb01.trans (hb2.below (by omega) (by omega)),hh2⟩
inductive Ce (lo:Nat) (m:List Nat):Value->World->Prop where
 | of (g:Nat) (w:World) (h:Bj w g m) (hg:lo<=g):Ce lo m (.pointer (some ⟨g,0,none⟩)) w
theorem Ce.elim {lo:Nat}{m:List Nat}{v:Value}{w:World}(h:Ce lo m v w){C:Prop}(k:∀g,v=.pointer (some ⟨g,0,none⟩)->Bj w g m->lo<=g->C):C:=by
 cases h with
 | of g _ h hg=>exact k g rfl h hg
theorem Ce.but {lo:Nat}{m:List Nat}{v:Value}{w w':World}(h:Ce lo m v w){b:Nat}(hb:Ft b w w')(hl:b<lo):Ce lo m v w':=by
 cases h with
 | of g _ h hg=>exact .of g w' (h.but hb (by omega)) hg
inductive Iq (lo:Nat) (m1 m2:List Nat):Value->World->Prop where
 | of (g1 g2:Nat) (w:World) (h1:Bj w g1 m1) (h2:Bj w g2 m2) (hg1:lo<=g1) (hg2:lo<=g2):Iq lo m1 m2 (.agg #[.pointer (some ⟨g1,0,none⟩),.pointer (some ⟨g2,0,none⟩)]) w
theorem Iq.elim {lo:Nat}{m1 m2:List Nat}{v:Value}{w:World}(h:Iq lo m1 m2 v w){C:Prop}(k:∀g1 g2,v=.agg #[.pointer (some ⟨g1,0,none⟩),.pointer (some ⟨g2,0,none⟩)]->Bj w g1 m1->Bj w g2 m2->lo<=g1->lo<=g2->C):C:=by
 cases h with
 | of g1 g2 _ h1 h2 hg1 hg2=>exact k g1 g2 rfl h1 h2 hg1 hg2
theorem Iq.but {lo:Nat}{m1 m2:List Nat}{v:Value}{w w':World}(h:Iq lo m1 m2 v w){b:Nat}(hb:Ft b w w')(hl:b<lo):Iq lo m1 m2 v w':=by
 cases h with
 | of g1 g2 _ h1 h2 hg1 hg2=>exact .of g1 g2 w' (h1.but hb (by omega)) (h2.but hb (by omega)) hg1 hg2
def dW (key:List Nat)(w:World)(e:Ending)(w':World):Prop :=
 ∃g1 g2,e=.returned (.agg #[.pointer (some ⟨g1,0,none⟩),.pointer (some ⟨g2,0,none⟩)])/\w.heap.size<=g1/\w.heap.size<=g2/\Below w.heap.size w w'/\Bj w' g1 (Zk key)/\Bj w' g2 (Zc key)
def jP (b lo:Nat)(m1 m2:List Nat)(w:World):Prop :=
 ∃g1 g2,w.heap[b]? = some (.cells #[.pointer (some ⟨g1,0,none⟩),.pointer (some ⟨g2,0,none⟩)] 242 (0,0))/\Bj w g1 m1/\Bj w g2 m2/\lo<=g1/\lo<=g2
structure UG (w2:World) (b lo:Nat) (m1 m2:List Nat) (d4 d5:Bool) (w':World):Prop where
 but:Ft b w2 w'
 ord:d5=true->d4=true
 old:d5=false->w'.heap[b]? = some (.cells #[.pointer none,.pointer none] 242 (0,0))
 new:d5=true->jP b lo m1 m2 w'
theorem UG.open {w2 w':World}{b lo:Nat}{m1 m2:List Nat}{d5:Bool}(h:UG w2 b lo m1 m2 false d5 w'):d5=false:=by
 cases d5 with
 | false=>rfl
 | true=>exact absurd (h.ord rfl) (by simp)
theorem UG.step {w2 w' w5:World}{b lo:Nat}{m1 m2:List Nat}{d4 d5:Bool}(h:UG w2 b lo m1 m2 d4 d5 w')(hd:d5=false)(hb:Below w'.heap.size w' w5)(d4':Bool):UG w2 b lo m1 m2 d4' false w5 :=
 ⟨h.but.trans (Ft.of hb),fun e=>(by cases e),fun _=>(by
  have h1:=h.old hd;rw[hb.block b (Mv h1).1];exact h1),fun e=>(by cases e)⟩
theorem Yk {w:World}{b:Nat}{v1 v2:Value}(h:w.heap[b]? = some (.cells #[.pointer none,.pointer none] 242 (0,0)))(h1:v1.oneCell'=true)(h2:v2.oneCell'=true) :
  (storeVar 242 ⟨b,0,none⟩ (.agg #[v1,v2])).run Tryz.prog w=.ok () (w.setRow b #[v1,v2]) :=
 run_storeVar_row w b 242 242 #[.pointer none,.pointer none] #[v1,v2] h (by kernel_rfl) rfl (by simp[h1,h2])
theorem fK {w:World}{g:Nat}{b:List Nat}(hb:b.length=64)(h:Bl w g 261 .u8 b) :
  (loadVar 261 ⟨g,0,none⟩).run Tryz.prog w=.ok (.agg (b.map fun(x:Nat)=>Value.int .u8 (x:Int)).toArray) w :=
 run_loadVar_row w g 261 261 _ (0,0) _ h Tryz.underlying261 rfl (Pl b hb)
theorem Og (w:World)(p:Option Addr)(n c:Nat)(key:List Nat)(hT:Tabs w)(hr:Bq w .u8 p n c key)(h8:Bb key) :
  Calls Tryz.prog 209 #[.slice p n c] w (dW key w):=by
 have HO:Ab ((w.alloc (.cells #[.pointer none,.pointer none] 242)).heap[w.heap.size]? = some (.cells #[.pointer none,.pointer none] 242 (0,0))):=⟨heap_alloc_new w _⟩
 have HB0:Ab (Below w.heap.size w (w.alloc (.cells #[.pointer none,.pointer none] 242))):=⟨(Be _ _).alloc (Av _) _⟩
 have HZ0:Ab ((w.alloc (.cells #[.pointer none,.pointer none] 242)).heap.size=w.heap.size+1):=⟨by simp⟩
 go_enter Tryz.func209,Tryz.ntmps209
 go_wp2_with fail
 generalize w.alloc (.cells #[.pointer none,.pointer none] 242)=w0 at *;refine(Xq w0 p n c key (hT.below HB0.out hT.size) (hr.below HB0.out) h8).mono ?_;rintro e w1 ⟨rfl,hb1⟩;have hkl:=Hk key;have hk8:=Um h8;have HI:Ab (masked (Ee key) 54=Zk key/\masked (Ee key) 92=Zc key):=⟨rfl,rfl⟩
 generalize Ee key=B at *;have hi64:Ab ((Tryz.prog.info? 261).map (·.size)=some (B.map fun(x:Nat)=>Value.int .u8 x).toArray.size):=⟨Pl B hkl⟩
 have hnew:=Ac (Bl.zeros w1 261 .u8 64);have H1:=Ac (Ml .u8 B);have HS:Ab (((List.replicate 64 0).map fun(x:Nat)=>Value.int .u8 x).toArray.size=(B.map fun(x:Nat)=>Value.int .u8 x).toArray.size):=⟨by simp[hkl]⟩
 go_wp2_with (refine wpList_store_row rfl 261 _ _ rfl w1.heap.size (B.map fun(x:Nat)=>Value.int .u8 x).toArray rfl rfl 261 ((List.replicate 64 0).map fun(x:Nat)=>Value.int .u8 x).toArray hnew.out hi64.out HS.out H1.out ?_)
 generalize hw2:World.setRow _ _ _=w2;have hz1:=hb1.size;have hz0:=HZ0.out;have hb2:Below w0.heap.size w0 w2:=by
  rw[<-hw2];exact below_setRow (hb1.alloc hz1 _) hz1 _
 have hblk:Bl w2 w1.heap.size 261 .u8 B:=by
  rw[<-hw2];exact setRow_heap _ w1.heap.size _ _ 261 (0,0) hnew.out
 have hold:w2.heap[w.heap.size]? = some (.cells #[.pointer none,.pointer none] 242 (0,0)):=(hb2.block w.heap.size (by omega)).trans HO.out;have hbw:Below w.heap.size w w2:=HB0.out.trans (hb2.mono (by omega));have hT2:=hT.below hbw hT.size;have hlt2:=hblk.lt;have hw2z:(max (1 : Nat) 2 + 1)<=w.heap.size:=hT.size;have HBk:Ab (∀w',Ft w.heap.size w2 w'->Bl w' w1.heap.size 261 .u8 B):=⟨fun w' h=>(h.block w1.heap.size hlt2 (by omega)).trans hblk⟩
 obtain⟨m1,hm1⟩:∃m,Zk key=m:=⟨_,rfl⟩
 obtain⟨m2,hm2⟩:∃m,Zc key=m:=⟨_,rfl⟩
 have HM1:Ab (masked B 54=m1):=⟨HI.out.1.trans hm1⟩
 have HM2:Ab (masked B 92=m2):=⟨HI.out.2.trans hm2⟩
 have HM:Ab (Zk key=m1/\Zc key=m2):=⟨hm1,hm2⟩
 have HT2:Ab (Tabs w2):=⟨hT2⟩
 have HK8:Ab (Bb B):=⟨hk8⟩
 have HKL:Ab (B.length=64):=⟨hkl⟩
 clear hw2 hnew H1 HS hi64 hblk HI hm1 hm2 hT2 hk8 hkl hb2 hb1 HO HB0 HZ0;refine Ak (by kernel_rfl) (by kernel_rfl)
  [some (.agg (B.map fun(x:Nat)=>Value.int .u8 (x:Int)).toArray),none,some (.agg (B.map fun(x:Nat)=>Value.int .u8 (x:Int)).toArray),none,none,none]
  [false,true,false,true,true,true] rfl
  (fun w1 w2=>Ft w.heap.size w1 w2) (fun D w'=>UG w2 w.heap.size w2.heap.size m1 m2 (D 4) (D 5) w')
  (fun i v w'=>match i with
   | 1=>Ce w2.heap.size m1 v w'
   | 3=>Ce w2.heap.size m2 v w'
   | 4=>Iq w2.heap.size m1 m2 v w'
   | _=>True)
  ?_ ⟨Ft.drew (Ft.refl _ _),(fun e=>by cases e),fun _=>hold,fun e=>by cases e⟩ ?_ ?_
 .intro i v w1 w2 hf hb;split at hf
  .exact hf.but hb (by omega)
  .exact hf.but hb (by omega)
  .exact hf.but hb (by omega)
  .trivial
 .simp only[Bh,Nat.reduceAdd];refine⟨?_,?_,?_,?_,?_,?_,trivial⟩
  case refine_2=>
   intro D sp w' hD hW hdp hG;have h4:D 4=false:=hW 4 (mq (by kernel_rfl));rw[h4]at hG
   have h5:=hG.open
   (with_reducible refine Aa (w1:=w') (f := 232) (args:=#[.agg (B.map fun(x:Nat)=>Value.int .u8 (x:Int)).toArray,.int .u8 54]) ?_ ?_ ?_)
   .simp[Region.wanted,go_sem]
   .simp[Act.eval,Act.put,go_sem]
   .refine(Mj w' B 54 (HT2.out.but hG.but hw2z) HKL.out HK8.out (by omega)).mono ?_;rintro e w5 ⟨g,rfl,hg,hb,hh⟩;rw[HM1.out]at hh
    refine⟨_,rfl,Ft.of hb,Ce.of g w5 hh (Fo hG.but.size hg),?_⟩;have:=hG.step h5 hb false;simpa [h4,h5]using this
  case refine_4=>
   intro D sp w' hD hW hdp hG;have h4:D 4=false:=hW 4 (mq (by kernel_rfl));rw[h4]at hG
   have h5:=hG.open
   (with_reducible refine Aa (w1:=w') (f := 232) (args:=#[.agg (B.map fun(x:Nat)=>Value.int .u8 (x:Int)).toArray,.int .u8 92]) ?_ ?_ ?_)
   .simp[Region.wanted,go_sem]
   .simp[Act.eval,Act.put,go_sem]
   .refine(Mj w' B 92 (HT2.out.but hG.but hw2z) HKL.out HK8.out (by omega)).mono ?_;rintro e w5 ⟨g,rfl,hg,hb,hh⟩;rw[HM2.out]at hh
    refine⟨_,rfl,Ft.of hb,Ce.of g w5 hh (Fo hG.but.size hg),?_⟩;have:=hG.step h5 hb false;simpa [h4,h5]using this
  case refine_5=>
   intro D sp w' hD hW hdp hG;have h5:D 5=false:=hW 5 (mq (by kernel_rfl));have f1:Ce w2.heap.size m1 (sp 1) w':=(hdp 1 (mq (by kernel_rfl))).2;have f3:Ce w2.heap.size m2 (sp 3) w':=(hdp 3 (mq (by kernel_rfl))).2
   (with_reducible refine f1.elim (fun g1 hv1 hh1 hg1=>?_))
   (with_reducible refine f3.elim (fun g2 hv2 hh2 hg2=>?_))
   clear f1 f3
   (with_reducible refine Ai (v:=.agg #[.pointer (some ⟨g1,0,none⟩),.pointer (some ⟨g2,0,none⟩)]) (w1:=w') ?_ ?_ ?_)
   .simp[Region.wanted,go_sem]
   .simp[execOp,Act.eval,Act.put,go_sem,hv1,hv2]
   .refine⟨Ft.refl _ _,Iq.of g1 g2 w' hh1 hh2 hg1 hg2,?_⟩;have:=hG.step h5 (Be _ _) true;simpa [h5]using this
  case refine_6=>
   intro D sp w' hD hW hdp hG;have h4:D 4=true:=(hdp 4 (mq (by kernel_rfl))).1;have f4:Iq w2.heap.size m1 m2 (sp 4) w':=(hdp 4 (mq (by kernel_rfl))).2
   (with_reducible refine f4.elim (fun g1 g2 hv hh1 hh2 hg1 hg2=>?_))
   clear f4;have ho:=hG.old hD;have hst:=Yk (v1:=.pointer (some ⟨g1,0,none⟩)) (v2:=.pointer (some ⟨g2,0,none⟩)) ho rfl rfl;have hb5:Ft w.heap.size w' (w'.setRow w.heap.size #[.pointer (some ⟨g1,0,none⟩),.pointer (some ⟨g2,0,none⟩)]):=Ft.setRow _ _
   (with_reducible refine Ar (w1:=w'.setRow w.heap.size #[.pointer (some ⟨g1,0,none⟩),.pointer (some ⟨g2,0,none⟩)]) ?_ ?_ ?_)
   .simp[Region.wanted,go_sem]
   .simp[execOp,Act.eval,Act.put,hv,Instr.storeAt,Instr.sureAddr,Result.andThen_ok,hst]
   .refine⟨hb5,trivial,hG.but.trans hb5,fun _=>by simp[h4],fun e=>by simp at e,fun _=>⟨g1,g2,setRow_heap _ _ _ _ _ _ ho,hh1.but hb5 (by omega),hh2.but hb5 (by omega),hg1,hg2⟩⟩
  all_goals
   intro D sp w' hD hW hdp hG;have hk:=fK HKL.out (HBk.out w' hG.but)
   (with_reducible refine Ai (v:=.agg (B.map fun(x:Nat)=>Value.int .u8 (x:Int)).toArray) (w1:=w') ?_ ?_ ⟨rfl,rfl⟩)
   .simp[Region.wanted,go_sem]
   .simp[execOp,Act.eval,Act.put,Instr.loadAt,Instr.sureAddr,Result.andThen_ok,hk]
 .intro sp w5 hsp hG;obtain⟨g1,g2,hbx,hh1,hh2,hg1,hg2⟩:=hG.new rfl;have hbut:=hG.but;clear hsp hG;simp only[An,Nat.reduceAdd];generalize sp 1=u1;generalize sp 3=u3;generalize sp 4=u4;generalize sp 5=u5
  go_simp
  go_wp2;refine bodyPost_ret (v:=.agg #[.pointer (some ⟨g1,0,none⟩),.pointer (some ⟨g2,0,none⟩)]) (results_cell_row Tryz.results209 _ _ w.heap.size 242 _ (0,0) _ rfl hbx Tryz.underlying242 rfl (by kernel_rfl)) rfl ⟨g1,g2,rfl,by have:=hbw.size;omega,by have:=hbw.size;omega,hbw.trans (hbut.below (Av _) hbw.size),?_,?_⟩
  .rw[HM.out.1];exact hh1
  .rw[HM.out.2];exact hh2
end Go.Proofs.YtnbmfaihlefgfaaGreatDoor
