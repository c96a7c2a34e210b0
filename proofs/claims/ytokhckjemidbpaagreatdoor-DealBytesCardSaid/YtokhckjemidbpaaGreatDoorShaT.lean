/- A block more. -/
import Derived.Laws.CopyOwn
import Derived.WalkSmall
import Derived.Test.YtokhckjemidbpaaGreatDoorShaW
import Derived.Test.YtokhckjemidbpaaGreatDoorFlow
set_option maxRecDepth 1000000
set_option maxHeartbeats 16000000
set_option linter.all false
namespace Go.Proofs.YtokhckjemidbpaaGreatDoor
open Go Go.RowKit
structure Aa (p:Prop):Prop where
 out:p
theorem Ac {p:Prop}(h:p):Aa p:=⟨h⟩
structure Pv (p:Prop):Prop where
 out:p
structure Ee (g:Nat) (w w':World):Prop where
 os:w'.os=w.os
 tape:w'.tape=w.tape
 output:w'.output=w.output
 size:w.heap.size<=w'.heap.size
 block:∀k,k<w.heap.size->k≠g->w'.heap[k]? = w.heap[k]?
theorem Ee.refl (g:Nat)(w:World):Ee g w w:=⟨rfl,rfl,rfl,Av _,fun _ _ _=>rfl⟩
theorem Ee.trans {g:Nat}{a b c:World}(h:Ee g a b)(k:Ee g b c):Ee g a c :=
 ⟨k.os.trans h.os,k.tape.trans h.tape,k.output.trans h.output,Eo h.size k.size,fun i hi hn=>(k.block i (Dk hi h.size) hn).trans (h.block i hi hn)⟩
theorem Ee.of {g:Nat}{w w':World}(h:Below w.heap.size w w'):Ee g w w':=⟨h.os,h.tape,h.output,h.size,fun k hk _=>h.block k hk⟩
theorem Ee.below {g:Nat}{w w':World}(h:Ee g w w'){B:Nat}(hg:B<=g)(hB:B<=w.heap.size):Below B w w' :=
 ⟨h.os,h.tape,h.output,h.size,fun k hk=>h.block k (by omega) (by omega)⟩
theorem Ee.setRow {g:Nat}(w:World)(cs:Array Value):Ee g w (w.setRow g cs):=⟨rfl,rfl,rfl,by simp[World.setRow],fun k _ hn=>setRow_other w g k cs hn⟩
theorem Ee.setCell {g:Nat}(w:World)(o:Nat)(u:Value):Ee g w (w.setCell ⟨g,o,none⟩ u):=⟨rfl,rfl,rfl,by simp[World.setCell],fun k _ hn=>Below.heap_setCell _ _ _ _ hn⟩
theorem Ee.drew {g:Nat}{w w':World}(h:Ee g w w'):Ee g w w'.drew:=⟨h.os,h.tape,h.output,h.size,h.block⟩
theorem Ee.cell {g:Nat}{w w':World}(h:Ee g w w'){p:Addr}(hp:p.block<w.heap.size)(hn:p.block≠g):w'.cell? p=w.cell? p:=World.cell?_of_block (w:=w) (h.block p.block hp hn)
theorem Vl {P:Program}{f:FuncId}{args:Array Value}{w w1:World}{Q:Ending->World->Prop}(h:w=w1)(k:Calls P f args w1 Q):Calls P f args w Q:=h ▸ k
theorem Fi {a b c:World}(h:Below a.heap.size a b)(k:Below b.heap.size b c):Below a.heap.size a c:=h.trans (k.mono h.size)
def Bm (st pend:List Nat)(len:Nat):List Value:=(st.map fun(x:Nat)=>Value.int .u32 x)++((pend.map fun(x:Nat)=>Value.int .u8 x)++[.int .u64 (len:Nat)])
theorem Kk {st pend:List Nat}{len:Nat}(hs:st.length=8)(hp:pend.length=64):(Bm st pend len).length=73:=by simp[Bm,hs,hp]
theorem Fo {st pend:List Nat}{len i:Nat}(hs:st.length=8)(hi:i<8):(Bm st pend len)[i]? = some (.int .u32 (st.getD i 0:Nat)):=by
 unfold Bm;rw[List.getElem?_append_left (by simp;omega),List.getElem?_map,Dv];simp[show i<st.length by omega]
theorem Nl {st pend:List Nat}{len i:Nat}(hs:st.length=8)(hp:pend.length=64)(hi:i<64):(Bm st pend len)[8+i]? = some (.int .u8 (pend.getD i 0:Nat)):=by
 unfold Bm;rw[List.getElem?_append_right (by simp;omega),List.length_map,hs,Nat.add_sub_cancel_left,List.getElem?_append_left (by simp;omega),List.getElem?_map,Dv];simp[show i<pend.length by omega]
theorem Hs {st pend:List Nat}{len:Nat}(hs:st.length=8)(hp:pend.length=64):(Bm st pend len)[72]? = some (.int .u64 (len:Nat)):=by
 unfold Bm;rw[List.getElem?_append_right (by simp;omega),List.length_map,hs,List.getElem?_append_right (by simp;omega)];simp[hp]
theorem Mo {st pend:List Nat}{len i x:Nat}(hs:st.length=8)(hi:i<8):(Bm st pend len).set i (.int .u32 x)=Bm (st.set i x) pend len:=by
 unfold Bm;rw[List.set_append_left _ _ (by simp;omega),List.map_set]
theorem Jd {st pend:List Nat}{len x:Nat}(hs:st.length=8)(hp:pend.length=64):(Bm st pend len).set 72 (.int .u64 x)=Bm st pend x:=by
 unfold Bm;rw[List.set_append_right _ _ (by simp;omega),List.length_map,hs,List.set_append_right _ _ (by simp;omega)];simp[hp]
def Dn (w:World)(g:Nat)(st pend:List Nat)(len:Nat):Prop:=w.heap[g]? = some (.cells (Bm st pend len).toArray 278 (0,0))
theorem Dn.lt {w:World}{g:Nat}{st pend:List Nat}{len:Nat}(h:Dn w g st pend len):g<w.heap.size:=(Ik h).1
theorem Dn.cell {w:World}{g:Nat}{st pend:List Nat}{len:Nat}(h:Dn w g st pend len){i:Nat}{v:Value}(hv:(Bm st pend len)[i]? = some v):w.cell? ⟨g,i,none⟩=some v:=by
 unfold Dn at h;simp[World.cell?,h,hv]
theorem Dn.free {w:World}{g:Nat}{st pend:List Nat}{len:Nat}(h:Dn w g st pend len)(i:Nat):w.frozen? ⟨g,i,none⟩=false:=by
 unfold Dn at h;simp[World.frozen?,h]
theorem Dn.below {w w':World}{g:Nat}{st pend:List Nat}{len:Nat}(h:Dn w g st pend len){B:Nat}(hb:Below B w w')(hg:g<B):Dn w' g st pend len:=by
 unfold Dn at *;rw[hb.block g hg];exact h
theorem Dn.but {w w':World}{g k:Nat}{st pend:List Nat}{len:Nat}(h:Dn w g st pend len)(hb:Ee k w w')(hk:g≠k):Dn w' g st pend len:=by
 unfold Dn at *;rw[hb.block g (by exact(Ik h).1) hk];exact h
theorem Dn.set {w:World}{g:Nat}{st pend:List Nat}{len:Nat}(h:Dn w g st pend len)(i:Nat)(v:Value){st' pend':List Nat}{len':Nat}(he:(Bm st pend len).set i v=Bm st' pend' len') :
  Dn (w.setCell ⟨g,i,none⟩ v) g st' pend' len':=by
 unfold Dn at *;simp only[World.setCell,Array.getElem?_modify,if_true,h,Option.map_some];rw[<-he];simp
structure Tabs (w:World):Prop where
 first:∃t fr,w.heap[(0 : Nat)]? = some (.cells ((Hg.map fun(x:Nat)=>Value.int .u32 x).toArray) t fr)
 size:(max (0 : Nat) 2 + 1)<=w.heap.size
 kay:∀i,i<64->w.cell? ⟨2,i,none⟩=some (.int .u32 (Lo.getD i 0:Nat))
theorem Tabs.below {w w':World}(h:Tabs w){B:Nat}(hb:Below B w w')(hB:(max (0 : Nat) 2 + 1)<=B):Tabs w' :=
 ⟨by rw[hb.block _ (by omega)];exact h.first,Eo h.size hb.size,fun i hi=>by rw[hb.cell (p:=⟨2,i,none⟩) (by show (2 : Nat)<B;omega)];exact h.kay i hi⟩
theorem Tabs.but {w w':World}(h:Tabs w){g:Nat}(hb:Ee g w w')(hg:(max (0 : Nat) 2 + 1)<=g):Tabs w':=h.below (hb.below hg h.size) (Av _)
structure Bl (w:World) (g:Nat) (m:List Nat):Prop where
 ex:∃pend,pend.length=64/\Au pend/\Dn w g (blocks m (m.length/64)) pend (m.length%18446744073709551616)/\pend.take (m.length%64)=m.drop (64*(m.length/64))
theorem Bl.below {w w':World}{g:Nat}{m:List Nat}(h:Bl w g m){B:Nat}(hb:Below B w w')(hg:g<B):Bl w' g m :=
 let ⟨p,h1,h2,h3,h4⟩:=h.ex
 ⟨p,h1,h2,h3.below hb hg,h4⟩
theorem Bl.but {w w':World}{g k:Nat}{m:List Nat}(h:Bl w g m)(hb:Ee k w w')(hg:g≠k):Bl w' g m :=
 let ⟨p,h1,h2,h3,h4⟩:=h.ex
 ⟨p,h1,h2,h3.but hb hg,h4⟩
theorem Bl.lt {w:World}{g:Nat}{m:List Nat}(h:Bl w g m):g<w.heap.size:=let ⟨_,_,_,h3,_⟩:=h.ex;h3.lt
open Go Go.RowKit Go.Proofs.YtokhckjemidbpaaGreatDoor.Flow
theorem iC {e:Nat}(he:e<4294967296):bits BinOp.xor IntKind.u32 (if IntKind.u32.signed=true then -1 else IntKind.u32.max) (e:Int)=((4294967295-e:Nat):Int):=by
 have h1:(if IntKind.u32.signed=true then (-1:Int) else IntKind.u32.max)=((4294967295:Nat):Int):=by decide
 rw[h1,u32_xor_nat _ _ (by omega) he]
 congr 1
 have h2:BitVec.allOnes 32 ^^^ BitVec.ofNat 32 e = ~~~(BitVec.ofNat 32 e):=by rw[BitVec.allOnes_xor]
 have h3:=congrArg BitVec.toNat h2;rw[BitVec.toNat_xor,BitVec.toNat_not,BitVec.toNat_ofNat,BitVec.toNat_allOnes,Nat.mod_eq_of_lt (by omega)]at h3
 exact h3
def mixed (st sm:List Nat)(k:Nat):List Nat:=(List.zipWith Ch st sm).take k++st.drop k
theorem Wy (st sm:List Nat):mixed st sm 0=st:=by simp[mixed]
theorem Zn {st sm:List Nat}(h:st.length=8)(hm:sm.length=8):mixed st sm 8=bP st sm:=by
 unfold mixed bP;rw[List.take_of_length_le (by simp;omega),List.drop_of_length_le (by omega),List.append_nil]
theorem Se {st sm:List Nat}{k:Nat}(h:st.length=8)(hm:sm.length=8)(hk:k<=8):(mixed st sm k).length=8:=by simp[mixed,h,hm];omega
theorem Zm {st sm:List Nat}{k:Nat}(h:st.length=8)(hk:k<8)(hm:sm.length=8:=by rfl):(mixed st sm k).getD k 0=st.getD k 0:=by
 unfold mixed;have hl:((List.zipWith Ch st sm).take k).length=k:=by simp[h,hm];omega
 rw[Dv,List.getElem?_append_right (by omega),hl,Nat.sub_self,List.getElem?_drop,Nat.add_zero,Dv]
theorem Zl {st sm:List Nat}{k:Nat}(h:st.length=8)(hm:sm.length=8)(hk:k<8):(mixed st sm k).set k (Ch (st.getD k 0) (sm.getD k 0))=mixed st sm (k+1):=by
 unfold mixed;have hl:((List.zipWith Ch st sm).take k).length=k:=by simp[h,hm];omega
 have e1:(List.zipWith Ch st sm)[k]? = some (Ch (st.getD k 0) (sm.getD k 0)):=by
  rw[List.getElem?_zipWith,Dv,Dv,List.getElem?_eq_getElem (by omega),List.getElem?_eq_getElem (by omega)];rfl
 rw[List.set_append_right _ _ (by omega),hl,Nat.sub_self,List.take_add_one,e1,List.drop_eq_getElem_cons (show k<st.length by omega),List.set_cons_zero];simp
theorem iP (a b c d e f g h k:Nat)(hk:k<8)(w:World) :
  (Instr.index 276 (.agg #[Value.int .u32 (a:Nat),Value.int .u32 (b:Nat),Value.int .u32 (c:Nat),Value.int .u32 (d:Nat),Value.int .u32 (e:Nat),Value.int .u32 (f:Nat),Value.int .u32 (g:Nat),Value.int .u32 (h:Nat)]) (.int .i64 (k:Nat))).run Tryz.prog w =
   .ok (.int .u32 ([a,b,c,d,e,f,g,h].getD k 0:Nat)) w:=by
 rcases(by omega:k=0 ∨ k=1 ∨ k=2 ∨ k=3 ∨ k=4 ∨ k=5 ∨ k=6 ∨ k=7) with rfl|rfl|rfl|rfl|rfl|rfl|rfl|rfl<;>kernel_rfl
theorem gE (W:List Nat)(h:W.length=64):(Tryz.prog.info? 249).map (·.size)=some (W.map fun(x:Nat)=>Value.int .u32 x).toArray.size:=by
 rw[show (W.map fun(x:Nat)=>Value.int .u32 x).toArray.size=64 by simp[h]];kernel_rfl
theorem fU (W V:List Nat)(h:W.length=64)(hv:V.length=64):(V.map fun(x:Nat)=>Value.int .u32 x).toArray.size=(W.map fun(x:Nat)=>Value.int .u32 x).toArray.size:=by simp[h,hv]
theorem Vy (w:World)(g:Nat)(st pend:List Nat)(len:Nat)(hT:Tabs w)(hs:st.length=8)(hst:Words st)(hp:pend.length=64)(h8:Au pend)(hH:Dn w g st pend len)(_hg:(max (0 : Nat) 2 + 1)<=g) :
  Calls Tryz.prog 224 #[.pointer (some ⟨g,0,none⟩),.pointer (some ⟨g,8,none⟩)] w fun e w'=>e=.returned (.tuple #[])/\Ee g w w'/\Dn w' g (Su st pend) pend len:=by
 have hgl:=hH.lt;go_enter Tryz.func224,Tryz.ntmps224
 go_wp2_with fail
 refine(Tl w g 8 pend hp h8 hgl (fun i x hx=>?_)).mono ?_
 .have hi:i<64:=by have:=(List.getElem?_eq_some_iff.1 hx).1;omega
  refine hH.cell ?_;rw[Nl hs hp hi,Dv,hx];rfl
 rintro e w1 ⟨rfl,hb1⟩;have hWl:=Bt pend 64;have hWw:=Mz h8 64;obtain⟨W,hW⟩:∃W,Bx pend 64=W:=⟨_,rfl⟩
 have HW:Aa (Bx pend 64=W):=⟨hW⟩
 rw[hW]at hWl hWw
 simp only[hW];clear hW;have hi64:=Af (gE W hWl);have h1:=Af (Lp .u32 W);have hsz:=Af (fU W (List.replicate 64 0) hWl (by simp));have hnew:=Af (Bi.zeros w1 249 .u32 64)
 go_wp2_with (refine wpList_store_row rfl 249 _ _ rfl w1.heap.size (W.map fun(x:Nat)=>Value.int .u32 x).toArray rfl rfl 249 ((List.replicate 64 0).map fun(x:Nat)=>Value.int .u32 x).toArray hnew.out hi64.out hsz.out h1.out ?_)
 generalize hw2:World.setRow _ _ _=w2;have hb2:Below w.heap.size w w2:=by
  rw[<-hw2];exact below_setRow (hb1.alloc hb1.size _) hb1.size _
 have hblk:Bi w2 w1.heap.size 249 .u32 W:=by
  rw[<-hw2];exact setRow_heap _ w1.heap.size _ _ 249 (0,0) hnew.out
 have hs2:w1.heap.size<w2.heap.size:=hblk.lt;have hs1:=hb1.size;clear hw2 hnew hi64 h1 hsz hb1;have hH2:=hH.below hb2 hgl;have hT2:=hT.below hb2 hT.size;obtain⟨s0,hs0⟩:∃s:St,St.of st=s:=⟨_,rfl⟩
 have hok0:s0.ok:=by rw[<-hs0];exact St.of_ok hst
 have hcl:=fun(i:Nat) (hi:i<8)=>hH2.cell (Fo hs hi)
 have k0:w2.cell? ⟨g,0,none⟩=some (.int .u32 (s0.a:Nat)):=by rw[<-hs0];exact hcl 0 (by omega)
 have k1:w2.cell? ⟨g,1,none⟩=some (.int .u32 (s0.b:Nat)):=by rw[<-hs0];exact hcl 1 (by omega)
 have k2:w2.cell? ⟨g,2,none⟩=some (.int .u32 (s0.c:Nat)):=by rw[<-hs0];exact hcl 2 (by omega)
 have k3:w2.cell? ⟨g,3,none⟩=some (.int .u32 (s0.d:Nat)):=by rw[<-hs0];exact hcl 3 (by omega)
 have k4:w2.cell? ⟨g,4,none⟩=some (.int .u32 (s0.e:Nat)):=by rw[<-hs0];exact hcl 4 (by omega)
 have k5:w2.cell? ⟨g,5,none⟩=some (.int .u32 (s0.f:Nat)):=by rw[<-hs0];exact hcl 5 (by omega)
 have k6:w2.cell? ⟨g,6,none⟩=some (.int .u32 (s0.g:Nat)):=by rw[<-hs0];exact hcl 6 (by omega)
 have k7:w2.cell? ⟨g,7,none⟩=some (.int .u32 (s0.h:Nat)):=by rw[<-hs0];exact hcl 7 (by omega)
 have HS0:Aa (St.of st=s0):=⟨hs0⟩
 clear hcl hs0
 go_quiet (fail)
 have hb3:Below w.heap.size w (w2.drewN nq):=below_drewN hb2 _;have hblk3:Bi (w2.drewN nq) w1.heap.size 249 .u32 W:=hblk;have hs3:w1.heap.size<(w2.drewN nq).heap.size:=hs2;have hH3:Dn (w2.drewN nq) g st pend len:=hH2;have hT3:Tabs (w2.drewN nq):=⟨hT2.first,hT2.size,hT2.kay⟩
 clear k0 k1 k2 k3 k4 k5 k6 k7 hb2 hblk hs2 hH2 hT2;generalize w2.drewN nq=w3 at *;have HH3:Aa (Dn w3 g st pend len):=⟨hH3⟩
 have HT3:Aa (Tabs w3):=⟨hT3⟩
 have HB3:Aa (Bi w3 w1.heap.size 249 .u32 W):=⟨hblk3⟩
 clear hH3 hT3 hblk3;go_wp2
 go_loopw [53,5,6,7,8,9,10,11,12] (fun i va vb vc vd ve vf vg vh wr=>∃(t:Nat) (s:St),t<=64/\i=.int .i64 t/\s=Wl Lo W s0 t/\va=.int .u32 s.a/\vb=.int .u32 s.b/\vc=.int .u32 s.c/\vd=.int .u32 s.d/\ve=.int .u32 s.e/\vf=.int .u32 s.f/\vg=.int .u32 s.g/\vh=.int .u32 s.h /\
  Below w3.heap.size w3 wr) (fun i _ _ _ _ _ _ _ _ _=>64-(intOf i).toNat)
 case atStart=>exact⟨0,s0,by omega,rfl,rfl,rfl,rfl,rfl,rfl,rfl,rfl,rfl,rfl,Bd _ _⟩
 case round=>
  obtain⟨t,s,ht,rfl,hs,rfl,rfl,rfl,rfl,rfl,rfl,rfl,rfl,hbw⟩:=hrel;have hsok:s.ok:=by rw[hs];exact Yf hok0 t
  have HS:Aa (s=Wl Lo W s0 t):=⟨hs⟩
  clear hs
  by_cases ht64:t<64
  .have kk:wr.cell? ⟨2,t,none⟩=some (.int .u32 (Lo.getD t 0:Nat)):=(HT3.out.below hbw HT3.out.size).kay t ht64;have kw:wr.cell? ⟨w1.heap.size,t,none⟩=some (.int .u32 (W.getD t 0:Nat)):=by
    rw[(Cd hbw).1 _ _ hs3];exact HB3.out.cell (by rw[Dv,List.getElem?_eq_getElem (by omega)];rfl)
   have HBW:Aa (Below w3.heap.size w3 wr):=⟨hbw⟩
   clear hbw;have bk:=Xc.get t;have bw:=hWw.get t;obtain⟨z,hz⟩:∃z,Lo.getD t 0=z:=⟨_,rfl⟩
   obtain⟨y,hy⟩:∃y,W.getD t 0=y:=⟨_,rfl⟩
   rw[hz]at kk bk
   rw[hy]at kw bw
   have HZ:Aa (Lo.getD t 0=z):=⟨hz⟩
   have HY:Aa (W.getD t 0=y):=⟨hy⟩
   clear hz hy;obtain⟨a,b,c,d,e,f,h,x⟩:=s;obtain⟨oa,ob,oc,od,oe,of,og,oh⟩:=hsok
   dsimp only at *
   go_wp2;obtain⟨e6,h6⟩:∃v,rr e 6=v:=⟨_,rfl⟩
   obtain⟨e11,h11⟩:∃v,rr e 11=v:=⟨_,rfl⟩
   obtain⟨e25,h25⟩:∃v,rr e 25=v:=⟨_,rfl⟩
   have R6:∀wx,Calls Tryz.prog 244 #[.int .u32 e,.int .i64 6] wx fun e w'=>e=.returned (.int .u32 e6)/\w'=wx:=fun wx=>by rw[<-h6];exact Cs wx e 6 oe (by omega) (by omega)
   have R11:∀wx,Calls Tryz.prog 244 #[.int .u32 e,.int .i64 11] wx fun e w'=>e=.returned (.int .u32 e11)/\w'=wx:=fun wx=>by rw[<-h11];exact Cs wx e 11 oe (by omega) (by omega)
   have R25:∀wx,Calls Tryz.prog 244 #[.int .u32 e,.int .i64 25] wx fun e w'=>e=.returned (.int .u32 e25)/\w'=wx:=fun wx=>by rw[<-h25];exact Cs wx e 25 oe (by omega) (by omega)
   have b6:e6<4294967296:=by rw[<-h6];exact En oe
   have b11:e11<4294967296:=by rw[<-h11];exact En oe
   have b25:e25<4294967296:=by rw[<-h25];exact En oe
   obtain⟨v1,hv1⟩:∃v,e6 ^^^ e11=v:=⟨_,rfl⟩
   have F1:bits BinOp.xor IntKind.u32 (e6:Int) (e11:Int)=(v1:Int):=by rw[<-hv1];exact u32_xor_nat _ _ b6 b11
   have c1:v1<4294967296:=by rw[<-hv1];exact Ct b6 b11
   obtain⟨v2,hv2⟩:∃v,v1 ^^^ e25=v:=⟨_,rfl⟩
   have F2:bits BinOp.xor IntKind.u32 (v1:Int) (e25:Int)=(v2:Int):=by rw[<-hv2];exact u32_xor_nat _ _ c1 b25
   have c2:v2<4294967296:=by rw[<-hv2];exact Ct c1 b25
   obtain⟨v3,hv3⟩:∃v,Ch x v2=v:=⟨_,rfl⟩
   have F3:IntKind.u32.wrap ((x:Int)+v2)=(v3:Int):=by rw[<-hv3];rfl
   have c3:v3<4294967296:=by rw[<-hv3];exact Gf _ _
   obtain⟨v4,hv4⟩:∃v,e &&& f=v:=⟨_,rfl⟩
   have F4:bits BinOp.and IntKind.u32 (e:Int) (f:Int)=(v4:Int):=by rw[<-hv4];exact u32_and_nat _ _ oe of
   have c4:v4<4294967296:=by rw[<-hv4];exact Jn of
   obtain⟨v5,hv5⟩:∃v,4294967295-e=v:=⟨_,rfl⟩
   have F5:bits BinOp.xor IntKind.u32 (if IntKind.u32.signed=true then -1 else IntKind.u32.max) (e:Int)=(v5:Int):=by rw[<-hv5];exact iC oe
   have c5:v5<4294967296:=by omega
   obtain⟨v6,hv6⟩:∃v,v5 &&& h=v:=⟨_,rfl⟩
   have F6:bits BinOp.and IntKind.u32 (v5:Int) (h:Int)=(v6:Int):=by rw[<-hv6];exact u32_and_nat _ _ c5 og
   have c6:v6<4294967296:=by rw[<-hv6];exact Jn og
   obtain⟨v7,hv7⟩:∃v,v4 ^^^ v6=v:=⟨_,rfl⟩
   have F7:bits BinOp.xor IntKind.u32 (v4:Int) (v6:Int)=(v7:Int):=by rw[<-hv7];exact u32_xor_nat _ _ c4 c6
   have c7:v7<4294967296:=by rw[<-hv7];exact Ct c4 c6
   obtain⟨v8,hv8⟩:∃v,Ch v3 v7=v:=⟨_,rfl⟩
   have F8:IntKind.u32.wrap ((v3:Int)+v7)=(v8:Int):=by rw[<-hv8];rfl
   obtain⟨v9,hv9⟩:∃v,Ch v8 z=v:=⟨_,rfl⟩
   have F9:IntKind.u32.wrap ((v8:Int)+z)=(v9:Int):=by rw[<-hv9];rfl
   obtain⟨v10,hv10⟩:∃v,Ch v9 y=v:=⟨_,rfl⟩
   have F10:IntKind.u32.wrap ((v9:Int)+y)=(v10:Int):=by rw[<-hv10];rfl
   have c10:v10<4294967296:=by rw[<-hv10];exact Gf _ _
   have HTone:Aa (v10=eL ⟨a,b,c,d,e,f,h,x⟩ z y):=⟨by
    unfold eL iT ch
    dsimp only
    rw[h6,h11,h25,hv1,hv2,hv3,hv4,hv5,hv6,hv7,hv8,hv9,hv10]⟩
   have tt:(t:Int)<64:=by omega
   clear h6 h11 h25 hv1 hv2 hv3 hv4 hv5 hv6 hv7 hv8 hv9 hv10;refine Aj (by kernel_rfl) (by kernel_rfl)
    [some (.int .u32 (x:Nat)),some (.int .u32 (e:Nat)),some (.int .u32 (e6:Nat)),some (.int .u32 (e:Nat)),some (.int .u32 (e11:Nat)),some (.int .u32 (v1:Nat)),some (.int .u32 (e:Nat)),some (.int .u32 (e25:Nat)),some (.int .u32 (v2:Nat)),some (.int .u32 (v3:Nat)),some (.int .u32 (e:Nat)),some (.int .u32 (f:Nat)),some (.int .u32 (v4:Nat)),some (.int .u32 (e:Nat)),some (.int .u32 (v5:Nat)),some (.int .u32 (h:Nat)),some (.int .u32 (v6:Nat)),some (.int .u32 (v7:Nat)),some (.int .u32 (v8:Nat)),some (.int .i64 (t:Nat)),some (.pointer (some ⟨2,t,none⟩)),some (.int .u32 (z:Nat)),some (.int .u32 (v9:Nat)),some (.int .i64 (t:Nat)),some (.pointer (some ⟨w1.heap.size,t,none⟩)),some (.int .u32 (y:Nat)),some (.int .u32 (v10:Nat)),some (.int .u32 (v10:Nat))]
    [false,false,false,false,false,false,false,false,false,false,false,false,false,false,false,false,false,false,false,false,false,false,false,false,false,false,false,false] rfl
    (fun _ _=>True) (fun _ w'=>w'=wr.drew) (fun _ _ _=>True) (fun _ _ _ _ h _=>h) rfl ?_ ?_
   .simp only[Bh,Nat.reduceAdd];refine⟨?_,?_,?_,?_,?_,?_,?_,?_,?_,?_,?_,?_,?_,?_,?_,?_,?_,?_,?_,?_,?_,?_,?_,?_,?_,?_,?_,?_,trivial⟩
    case refine_3=>
     intro D sp w' hD hW hdp hG
     (with_reducible refine Ad (w1:=w') (f := 244) (args:=#[.int .u32 e,.int .i64 6]) ?_ ?_ ?_)
     .simp[Region.wanted,go_sem]
     .simp[Act.eval,Act.put,go_sem]
     .refine(R6 w').mono ?_;rintro e w5 ⟨rfl,rfl⟩;exact⟨_,rfl,rfl,rfl⟩
    case refine_5=>
     intro D sp w' hD hW hdp hG
     (with_reducible refine Ad (w1:=w') (f := 244) (args:=#[.int .u32 e,.int .i64 11]) ?_ ?_ ?_)
     .simp[Region.wanted,go_sem]
     .simp[Act.eval,Act.put,go_sem]
     .refine(R11 w').mono ?_;rintro e w5 ⟨rfl,rfl⟩;exact⟨_,rfl,rfl,rfl⟩
    case refine_8=>
     intro D sp w' hD hW hdp hG
     (with_reducible refine Ad (w1:=w') (f := 244) (args:=#[.int .u32 e,.int .i64 25]) ?_ ?_ ?_)
     .simp[Region.wanted,go_sem]
     .simp[Act.eval,Act.put,go_sem]
     .refine(R25 w').mono ?_;rintro e w5 ⟨rfl,rfl⟩;exact⟨_,rfl,rfl,rfl⟩
    all_goals
     intro D sp w' hD hW hdp hG;subst hG;simp[asked,Region.wanted,Oper.gives,execOp,Act.eval,Act.put,go_sem,F1,F2,F3,F4,F5,F6,F7,F8,F9,F10,kk,kw,tt]
   .intro sp w' hsp hG;subst hG;have HBW5:Aa (Below w3.heap.size w3 wr.drew):=⟨HBW.out.drew⟩
    clear HBW kk kw R6 R11 R25 F1 F2 F3 F4 F5 F6 F7 F8 F9 F10 hsp c1 c2 c3 c4 c5 c6 c7 b6 b11 b25;generalize wr.drew=w5 at *;obtain⟨p2,h2⟩:∃v,rr a 2=v:=⟨_,rfl⟩
    obtain⟨p13,h13⟩:∃v,rr a 13=v:=⟨_,rfl⟩
    obtain⟨p22,h22⟩:∃v,rr a 22=v:=⟨_,rfl⟩
    have R2:∀wx,Calls Tryz.prog 244 #[.int .u32 a,.int .i64 2] wx fun e w'=>e=.returned (.int .u32 p2)/\w'=wx:=fun wx=>by rw[<-h2];exact Cs wx a 2 oa (by omega) (by omega)
    have R13:∀wx,Calls Tryz.prog 244 #[.int .u32 a,.int .i64 13] wx fun e w'=>e=.returned (.int .u32 p13)/\w'=wx:=fun wx=>by rw[<-h13];exact Cs wx a 13 oa (by omega) (by omega)
    have R22:∀wx,Calls Tryz.prog 244 #[.int .u32 a,.int .i64 22] wx fun e w'=>e=.returned (.int .u32 p22)/\w'=wx:=fun wx=>by rw[<-h22];exact Cs wx a 22 oa (by omega) (by omega)
    have b2:p2<4294967296:=by rw[<-h2];exact En oa
    have b13:p13<4294967296:=by rw[<-h13];exact En oa
    have b22:p22<4294967296:=by rw[<-h22];exact En oa
    obtain⟨y1,hy1⟩:∃v,p2 ^^^ p13=v:=⟨_,rfl⟩
    have G1:bits BinOp.xor IntKind.u32 (p2:Int) (p13:Int)=(y1:Int):=by rw[<-hy1];exact u32_xor_nat _ _ b2 b13
    have c1:y1<4294967296:=by rw[<-hy1];exact Ct b2 b13
    obtain⟨y2,hy2⟩:∃v,y1 ^^^ p22=v:=⟨_,rfl⟩
    have G2:bits BinOp.xor IntKind.u32 (y1:Int) (p22:Int)=(y2:Int):=by rw[<-hy2];exact u32_xor_nat _ _ c1 b22
    have c2:y2<4294967296:=by rw[<-hy2];exact Ct c1 b22
    obtain⟨m1,hm1⟩:∃v,a &&& b=v:=⟨_,rfl⟩
    have G3:bits BinOp.and IntKind.u32 (a:Int) (b:Int)=(m1:Int):=by rw[<-hm1];exact u32_and_nat _ _ oa ob
    have d1:m1<4294967296:=by rw[<-hm1];exact Jn ob
    obtain⟨m2,hm2⟩:∃v,a &&& c=v:=⟨_,rfl⟩
    have G4:bits BinOp.and IntKind.u32 (a:Int) (c:Int)=(m2:Int):=by rw[<-hm2];exact u32_and_nat _ _ oa oc
    have d2:m2<4294967296:=by rw[<-hm2];exact Jn oc
    obtain⟨m3,hm3⟩:∃v,m1 ^^^ m2=v:=⟨_,rfl⟩
    have G5:bits BinOp.xor IntKind.u32 (m1:Int) (m2:Int)=(m3:Int):=by rw[<-hm3];exact u32_xor_nat _ _ d1 d2
    have d3:m3<4294967296:=by rw[<-hm3];exact Ct d1 d2
    obtain⟨m4,hm4⟩:∃v,b &&& c=v:=⟨_,rfl⟩
    have G6:bits BinOp.and IntKind.u32 (b:Int) (c:Int)=(m4:Int):=by rw[<-hm4];exact u32_and_nat _ _ ob oc
    have d4:m4<4294967296:=by rw[<-hm4];exact Jn oc
    obtain⟨m5,hm5⟩:∃v,m3 ^^^ m4=v:=⟨_,rfl⟩
    have G7:bits BinOp.xor IntKind.u32 (m3:Int) (m4:Int)=(m5:Int):=by rw[<-hm5];exact u32_xor_nat _ _ d3 d4
    obtain⟨y3,hy3⟩:∃v,Ch y2 m5=v:=⟨_,rfl⟩
    have G8:((y2:Int)+m5)%4294967296=(y3:Int):=by rw[<-hy3];rfl
    have G8':IntKind.u32.wrap ((y2:Int)+m5)=(y3:Int):=by rw[<-hy3];rfl
    have HTwo:Aa (y3=fT ⟨a,b,c,d,e,f,h,x⟩):=⟨by
     unfold fT iU iS
     dsimp only
     rw[h2,h13,h22,hy1,hy2,hm1,hm2,hm3,hm4,hm5,hy3]⟩
    have d5:m5<4294967296:=by rw[<-hm5];exact Ct d3 d4
    have c3:y3<4294967296:=by rw[<-hy3];exact Gf _ _
    obtain⟨n1,hn1⟩:∃v,Ch v10 y3=v:=⟨_,rfl⟩
    have K1:((v10:Int)+y3)%4294967296=(n1:Int):=by rw[<-hn1];rfl
    have K1':IntKind.u32.wrap ((v10:Int)+y3)=(n1:Int):=by rw[<-hn1];rfl
    obtain⟨n2,hn2⟩:∃v,Ch d v10=v:=⟨_,rfl⟩
    have K2:((d:Int)+v10)%4294967296=(n2:Int):=by rw[<-hn2];rfl
    have K2':IntKind.u32.wrap ((d:Int)+v10)=(n2:Int):=by rw[<-hn2];rfl
    have HR:Aa (⟨n1,a,b,c,n2,e,f,h⟩=Wl Lo W s0 (t+1)):=⟨by
     rw[Wl,<-HS.out,HZ.out,HY.out,iN,<-HTone.out,<-HTwo.out,hn1,hn2]⟩
    clear h2 h13 h22 hy1 hy2 hm1 hm2 hm3 hm4 hm5 hy3 hn1 hn2 HTone HTwo HS HZ HY;simp only[Ak]
    go_wp2_with fail
    refine(R2 _).mono ?_;rintro e9 w9 ⟨rfl,rfl⟩
    go_wp2_with fail
    refine(R13 _).mono ?_;rintro e9 w9 ⟨rfl,rfl⟩
    go_wp2_with fail
    refine(R22 _).mono ?_;rintro e9 w9 ⟨rfl,rfl⟩;go_wp2;go_roundw
    case rel=>exact⟨t+1,⟨n1,a,b,c,n2,e,f,h⟩,by omega,by go_num,HR.out,rfl,rfl,rfl,rfl,rfl,rfl,rfl,rfl,HBW5.out⟩
    case measure=>simp[intOf];omega
  .obtain rfl:t=64:=by omega
   have hbw2:Below w.heap.size w wr:=hb3.trans (hbw.mono hb3.size);have hH5:=hH.below hbw2 hgl;have hsz5:=hbw2.size;go_wp2
   go_loopw [126] (fun i w6=>∃k:Nat,k<=8/\i=.int .i64 k/\Ee g w w6/\Dn w6 g (mixed st s.list k) pend len) (fun i _=>8-(intOf i).toNat)
   case atStart=>exact⟨0,by omega,rfl,Ee.of (hbw2.alloc hsz5 _),by rw[Wy];exact hH5.below ((Bd _ _).alloc (Av _) _) hH5.lt⟩
   case round=>
    obtain⟨k,hk,rfl,hbut,hbox⟩:=hrel;have hml:=Se hs (show s.list.length=8 from rfl) hk
    by_cases hk8:k<8
    .obtain⟨u,hu⟩:∃u,s.list.getD k 0=u:=⟨_,rfl⟩
     obtain⟨v,hv⟩:∃v,st.getD k 0=v:=⟨_,rfl⟩
     have hik:∀wx:World,(Instr.index 276 (.agg #[Value.int .u32 (s.a:Nat),Value.int .u32 (s.b:Nat),Value.int .u32 (s.c:Nat),Value.int .u32 (s.d:Nat),Value.int .u32 (s.e:Nat),Value.int .u32 (s.f:Nat),Value.int .u32 (s.g:Nat),Value.int .u32 (s.h:Nat)]) (.int .i64 (k:Nat))).run Tryz.prog wx=.ok (.int .u32 (u:Nat)) wx:=fun wx=>by
      rw[<-hu];exact iP _ _ _ _ _ _ _ _ k hk8 wx
     have hub:u<4294967296:=by rw[<-hu];exact(St.list_words hsok).get k
     have hvb:v<4294967296:=by rw[<-hv];exact hst.get k
     have ck:=hbox.cell (Fo hml hk8);rw[Zm hs hk8,hv]at ck
     have fk:=hbox.free k;have hm:=Zl hs (show s.list.length=8 from rfl) hk8;rw[hu,hv]at hm
     have HM:Aa ((mixed st s.list k).set k (Ch v u)=mixed st s.list (k+1)):=⟨hm⟩
     have HSet:Aa ((Bm (mixed st s.list k) pend len).set k (.int .u32 (Ch v u:Nat))=Bm ((mixed st s.list k).set k (Ch v u)) pend len):=⟨Mo hml hk8⟩
     have HBox1:Aa (Dn wr g (mixed st s.list k) pend len):=⟨hbox⟩
     have HBut1:Aa (Ee g w wr):=⟨hbut⟩
     have kk8:(k:Int)<8:=by omega
     clear hm hu hv hbox hbut hml hH hT hst hbw2 hbw hH5;go_wp2
     go_region
     have hsum:((v:Int)+u)%4294967296=((Ch v u:Nat):Int):=rfl;have hsum':IntKind.u32.wrap ((v:Int)+u)=((Ch v u:Nat):Int):=rfl
     try rw[hsum]
     try rw[hsum']
     go_wp2;go_roundw
     case rel=>
      refine⟨k+1,by omega,by go_num,(HBut1.out.trans (Ee.setCell _ _ _)).drew,?_⟩;exact HBox1.out.set k _ (by rw[HSet.out,HM.out])
     case measure=>simp[intOf];omega
    .obtain rfl:k=8:=by omega
     have hfin:Dn wr g (Su st pend) pend len:=by
      have h:=hbox;rw[Zn hs (show s.list.length=8 from rfl),HS.out,<-HS0.out,<-HW.out]at h
      exact h
     go_wp2
     go_end0
     exact⟨rfl,hbut,hfin⟩
end Go.Proofs.YtokhckjemidbpaaGreatDoor
