/- The document's block: its words. -/
import Derived.Test.YtokhckjemidbpaaGreatDoorShaT
import Derived.Laws.Rows
import Derived.BigRegion
set_option maxRecDepth 1000000
set_option maxHeartbeats 16000000
set_option linter.all false
namespace Go.Proofs.YtokhckjemidbpaaGreatDoor
open Go Go.RowKit
def Et (l:List Nat):Array Value:=(l.map fun(x:Nat)=>Value.int .u32 (x:Int)).toArray
theorem Nc (l:List Nat):(Et l).all (·.oneCell')=true:=Mi .u32 l
theorem Kg (l:List Nat):(Et l).size=l.length:=by simp[Et]
theorem Tu {l:List Nat}(h:l.length=64):(Tryz.prog.info? 249).map (·.size)=some (Et l).size:=by rw[Kg,h];kernel_rfl
theorem Nl {l:List Nat}(h:l.length=8):(Tryz.prog.info? 250).map (·.size)=some (Et l).size:=by rw[Kg,h];kernel_rfl
theorem Ox {P:Program}{w:World}{ops:Array Oper}{rest:List Oper}{o:Oper}{a:Act}{Q:Exit->Act->World->Prop}(hgd:o.guard=none)(t:TypeId)(parts:Array (Nat×Operand))(ho:o.op=.build t parts)(C:Array Value)(hf:P.built t (parts.map fun(i,x)=>(i,a.eval x)).toList=some C)(h:wpList P ops Q rest (a.put o.dst (.agg C)) w):wpList P ops Q (o::rest) a w :=
 wpList_build hgd t parts ho (by rw[hf];rfl) (by rw[hf];exact h)
theorem jY {P:Program}{fn:Func}{p1 p2:Tmp}{t1 t2:TypeId}(h:fn.results=#[.cell p1 t1,.cell p2 t2])(tmps:Array Value)(w:World)(g1 g2:Nat)(e1 e2:TypeId)(c1 c2:Array Value)(f1 f2:Nat×Nat)(d1 d2:TypeDesc)(hp1:tmps.getD p1 undef=.pointer (some ⟨g1,0,none⟩))(hp2:tmps.getD p2 undef=.pointer (some ⟨g2,0,none⟩))(hg1:w.heap[g1]? = some (.cells c1 e1 f1))(hg2:w.heap[g2]? = some (.cells c2 e2 f2))(hu1:P.underlying t1=some d1)(hd1:(match d1 with | .struct _ | .array _ _=>true|_=>false)=true)(hi1:(P.info? t1).map (·.size)=some c1.size)(hu2:P.underlying t2=some d2)(hd2:(match d2 with | .struct _ | .array _ _=>true|_=>false)=true)(hi2:(P.info? t2).map (·.size)=some c2.size) :
  (results fn tmps).run P w=.ok (.tuple #[.agg c1,.agg c2]) w:=by
 have h1:tmps[p1]?.getD undef=.pointer (some ⟨g1,0,none⟩):=by simpa using hp1
 have h2:tmps[p2]?.getD undef=.pointer (some ⟨g2,0,none⟩):=by simpa using hp2
 simp[results,h,h1,h2,asAddr,run_loadVar_row w g1 e1 t1 c1 f1 d1 hg1 hu1 hd1 hi1,run_loadVar_row w g2 e2 t2 c2 f2 d2 hg2 hu2 hd2 hi2]
theorem Yv (w:World):Calls Tryz.prog 205 #[] w fun e w'=>e=.returned (.tuple #[.agg (Et Dt),.agg (Et Ea)])/\Below w.heap.size w w':=by
 have hI64:=Ab (Tu Ff);have hI8:=Ab (Nl Pj);have hW:Aa (Below w.heap.size w ((w.alloc (.cells (zeros .u32 64) 249)).alloc (.cells (zeros .u32 8) 250))):=⟨((Bb _ _).alloc (As _) _).alloc (by simp) _⟩
 have hG0:Aa (((w.alloc (.cells (zeros .u32 64) 249)).alloc (.cells (zeros .u32 8) 250)).heap[w.heap.size]? = some (.cells (zeros .u32 64) 249 (0,0))):=⟨heap_alloc2_old w _ _⟩
 have hG1:Aa (((w.alloc (.cells (zeros .u32 64) 249)).alloc (.cells (zeros .u32 8) 250)).heap[w.heap.size+1]? = some (.cells (zeros .u32 8) 250 (0,0))):=⟨by
  have:=heap_alloc_new (w.alloc (.cells (zeros .u32 64) 249)) (.cells (zeros .u32 8) 250);rw[show (w.alloc (.cells (zeros .u32 64) 249)).heap.size=w.heap.size+1 by simp]at this
  exact this⟩
 go_enter Tryz.func205,Tryz.ntmps205
 go_wp2_with (first
  | (refine Ox rfl 249 _ rfl (Et Dt) (by kernel_rfl) ?_)
  | (refine Ox rfl 250 _ rfl (Et Ea) (by kernel_rfl) ?_)
  | (refine wpList_store_row rfl 249 _ _ rfl w.heap.size (Et Dt) rfl rfl 249 (zeros .u32 64) hG0.out hI64.out rfl (Nc Dt) ?_)
  | (refine wpList_store_row rfl 250 _ _ rfl (w.heap.size+1) (Et Ea) rfl rfl 250 (zeros .u32 8) ((setRow_other _ w.heap.size (w.heap.size+1) _ (by omega)).trans hG1.out) hI8.out rfl (Nc Ea) ?_))
 have g0:=setRow_heap _ w.heap.size (zeros .u32 64) (Et Dt) 249 (0,0) hG0.out;have o1:=(setRow_other _ w.heap.size (w.heap.size+1) (Et Dt) (by omega)).trans hG1.out;have g1:=setRow_heap _ (w.heap.size+1) (zeros .u32 8) (Et Ea) 250 (0,0) o1;have g2:=(setRow_other _ (w.heap.size+1) w.heap.size (Et Ea) (by omega)).trans g0;exact bodyPost_ret (v:=.tuple #[.agg (Et Dt),.agg (Et Ea)]) (jY Tryz.results205 _ _ w.heap.size (w.heap.size+1) 249 250 _ _ (0,0) (0,0) _ _ rfl rfl g2 g1 Tryz.underlying249 rfl hI64.out Tryz.underlying250 rfl hI8.out) rfl
  ⟨rfl,below_setRow (below_setRow hW.out (As _) _) (by omega) _⟩
open Go Go.RowKit Go.Proofs.YtokhckjemidbpaaGreatDoor.Flow
theorem Tryz.info_u32r:(Tryz.prog.info? 129).map (fun i=>(i.zero,i.size,i.bytes))=some (some (.int .u32 0),1,4):=by kernel_rfl
theorem gI (n:Nat)(h:n<=4294967296)(w:World):(Instr.makeSlice 35 (.int .i64 n) (.int .i64 n)).run Tryz.prog w =
  .ok (.slice (some ⟨w.heap.size,0,none⟩) n n) (w.alloc (.cells (zeros .u32 n) 129)):=by
 obtain⟨i,hi,hz,hs,hb⟩:=info_parts Tryz.info_u32r;have:=run_make (P:=Tryz.prog) w 35 129 i (.int .u32 0) Tryz.underlying35 hi hz .i64 .i64 n n (by omega) (Int.le_refl _) (by rw[hb];omega) (by omega);simp only[Int.toNat_natCast,hs,Nat.mul_one]at this;rw[this,<-Lx];rfl
theorem cT {i:Int}(n:Nat)(hi:i=(n:Nat))(h:n<=4294967296)(w:World):(Instr.makeSlice 35 (.int .i64 i) (.int .i64 i)).run Tryz.prog w =
  .ok (.slice (some ⟨w.heap.size,0,none⟩) n n) (w.alloc (.cells (zeros .u32 n) 129)):=by subst hi;exact gI n h w
def Mb (w:World)(H:List Nat):World:=(((w.alloc (.cells (Et H) 250)).alloc (.cells (Et Dt) 249)).alloc (.cells (zeros .u32 8) 250)).alloc (.cells (zeros .u32 64) 129)
structure Kf (w w0:World) (H:List Nat):Prop where
 bel:Below w.heap.size w w0
 h:w0.heap[w.heap.size]? = some (.cells (Et H) 250 (0,0))
 k:w0.heap[w.heap.size+1]? = some (.cells (Et Dt) 249 (0,0))
 r:w0.heap[w.heap.size+1+1]? = some (.cells (zeros .u32 8) 250 (0,0))
theorem Kf.but {w w0 w1:World}{H:List Nat}(h:Kf w w0 H)(hb:Dg (w.heap.size+1+1+1) w0 w1):Kf w w1 H:=by
 have l1:=(Kv h.h).1;have l2:=(Kv h.k).1;have l3:=(Kv h.r).1;exact⟨h.bel.trans (hb.below (by omega) (by omega)),(hb.block _ l1 (by omega)).trans h.h,(hb.block _ l2 (by omega)).trans h.k,(hb.block _ l3 (by omega)).trans h.r⟩
theorem Te (w:World)(H:List Nat):Kf w (Mb w H) H/\Bm (Mb w H) (w.heap.size+1+1+1) 129 .u32 (Bk [] 0++List.replicate (64-0) 0):=by
 have s1:(w.alloc (.cells (Et H) 250)).heap.size=w.heap.size+1:=by simp
 have s2:((w.alloc (.cells (Et H) 250)).alloc (.cells (Et Dt) 249)).heap.size=w.heap.size+1+1:=by simp
 have s3:(((w.alloc (.cells (Et H) 250)).alloc (.cells (Et Dt) 249)).alloc (.cells (zeros .u32 8) 250)).heap.size=w.heap.size+1+1+1:=by simp
 refine⟨⟨(((Bb _ _).alloc (As _) _).alloc (by rw[s1];omega) _).alloc (by rw[s2];omega) _ |>.alloc (by rw[s3];omega) _,?_,?_,?_⟩,?_⟩
 .unfold Mb;rw[heap_alloc_old _ _ (r:=w.heap.size) (by rw[s3];omega),heap_alloc_old _ _ (r:=w.heap.size) (by rw[s2];omega)];exact heap_alloc2_old w _ _
 .unfold Mb;rw[heap_alloc_old _ _ (r:=w.heap.size+1) (by rw[s3];omega),heap_alloc_old _ _ (r:=w.heap.size+1) (by rw[s2];omega)];exact heap_alloc2_new w _ _
 .unfold Mb;rw[heap_alloc_old _ _ (r:=w.heap.size+1+1) (by rw[s3];omega),<-s2];exact heap_alloc_new _ _
 .have:=Bm.zeros (((w.alloc (.cells (Et H) 250)).alloc (.cells (Et Dt) 249)).alloc (.cells (zeros .u32 8) 250)) 129 .u32 64;rw[s3]at this
  exact this
theorem Tb (w:World)(H m:List Nat)(b off c:Nat)(hH:H.length=8)(hHw:Words H)(hm:m.length=64)(h8:Au m)(hb:b<w.heap.size)(_hcap:64<=c)(_hcm:c<=9223372036854775807)(hc:∀(i x:Nat),m[i]? = some x->w.cell? ⟨b,off+i,none⟩=some (.int .u8 (x:Int))) :
  Calls Tryz.prog 206 #[.agg (Et H),.slice (some ⟨b,off,none⟩) 64 c,.agg (Et Dt)] w fun e w'=>e=.returned (.agg (Et (Qo H m)))/\Below w.heap.size w w':=by
 have HC:Aa (∀(i x:Nat),m[i]? = some x->w.cell? ⟨b,off+i,none⟩=some (.int .u8 (x:Int))):=⟨hc⟩
 have HB0:Aa (Kf w (Mb w H) H):=⟨(Te w H).1⟩
 have HK0:Aa (Bm (Mb w H) (w.heap.size+1+1+1) 129 .u32 (Bk m 0++List.replicate (64-0) 0)):=⟨(Te w H).2⟩
 have HHl:Aa (H.length=8/\Words H):=⟨hH,hHw⟩
 have HM:Aa (m.length=64/\Au m):=⟨hm,h8⟩
 have hmk:=fun wx=>cT (i:=64) 64 rfl (by omega) wx
 obtain⟨A,hA⟩:∃A,Et H=A:=⟨_,rfl⟩
 obtain⟨K,hK⟩:∃K,Et Dt=K:=⟨_,rfl⟩
 have HA:Aa (Et H=A):=⟨hA⟩
 have HK:Aa (Et Dt=K):=⟨hK⟩
 have HAc:Aa (A.size=8/\K.size=64):=⟨by rw[<-hA,<-hK,Kg,Kg,Ff];exact⟨hH,rfl⟩⟩
 have e0:Mb w H=(((w.alloc (.cells A 250)).alloc (.cells K 249)).alloc (.cells #[.int .u32 0,.int .u32 0,.int .u32 0,.int .u32 0,.int .u32 0,.int .u32 0,.int .u32 0,.int .u32 0] 250)).alloc (.cells (zeros .u32 64) 129):=by rw[<-hA,<-hK];rfl
 rw[e0]at HB0 HK0
 rw[hA,hK];clear hc hH hHw hm h8 hA hK e0;go_enter Tryz.func206,Tryz.ntmps206;go_wp2;obtain⟨G,hG⟩:∃G,w.heap.size+1+1+1=G:=⟨_,rfl⟩
 rw[show w.heap.size+1+1+1=G from hG]at HK0
 have HG:Aa (w.heap.size+1+1+1=G):=⟨hG⟩
 have hGb:b<G:=by omega
 go_wp2;simp only[hG];generalize hw0:World.alloc _ _=w0 at *;clear hw0 hG;have hcb:Aa (∀wr,Dg G w0 wr->∀j,j<64->wr.cell? ⟨b,off+j,none⟩=some (.int .u8 ((m.getD j 0:Nat):Int))):=⟨fun wr hbut j hj=>by
  have h1:b<w0.heap.size:=Ej hb HB0.out.bel.size;rw[hbut.cell (p:=⟨b,off+j,none⟩) h1 (by show b≠G;omega),(Ca HB0.out.bel).1 _ _ hb];exact HC.out j _ (by rw[Du,List.getElem?_eq_getElem (by have:=HM.out.1;omega)];rfl)⟩
 go_loopw [8] (fun i wr=>∃k:Nat,k<=16/\i=.int .i64 k/\Aa (Dg G w0 wr)/\Bm wr G 129 .u32 (Bk m k++List.replicate (64-k) 0)) (fun i _=>16-(intOf i).toNat)
 case atStart=>exact⟨0,by omega,rfl,⟨Dg.refl _ _⟩,HK0.out⟩
 case round=>
  obtain⟨k,hk,rfl,hbut,hblk⟩:=hrel
  by_cases hk16:k<16
  .have d0:=hcb.out wr hbut.out (4*k) (by omega);have d1:=hcb.out wr hbut.out (4*k+1) (by omega);have d2:=hcb.out wr hbut.out (4*k+2) (by omega);have d3:=hcb.out wr hbut.out (4*k+3) (by omega);have hy:Aa (Jv m k=m.getD (4*k) 0*16777216 ||| m.getD (4*k+1) 0*65536 ||| m.getD (4*k+2) 0*256 ||| m.getD (4*k+3) 0):=⟨rfl⟩
   have g0:=HM.out.2.get (4*k);have g1:=HM.out.2.get (4*k+1);have g2:=HM.out.2.get (4*k+2);have g3:=HM.out.2.get (4*k+3);generalize m.getD (4*k) 0=x0 at *;generalize m.getD (4*k+1) 0=x1 at *;generalize m.getD (4*k+2) 0=x2 at *;generalize m.getD (4*k+3) 0=x3 at *;have e0:=hblk.cell (i:=k) (x:=0) (by rw[List.getElem?_append_right (by rw[Bl];exact As _),Bl];simp[List.getElem?_replicate];omega);have e1:=hblk.free k;have HBk:Aa (Bm wr G 129 .u32 (Bk m k++List.replicate (64-k) 0)):=⟨hblk⟩
   have a1:(4*(k:Int)+1).toNat=4*k+1:=by omega
   have a2:(4*(k:Int)+2).toNat=4*k+2:=by omega
   have a3:(4*(k:Int)+3).toNat=4*k+3:=by omega
   have a0:(4*(k:Int)).toNat=4*k:=by omega
   have i0:4*(k:Int)<64:=by omega
   have i1:4*(k:Int)+1<64:=by omega
   have i2:4*(k:Int)+2<64:=by omega
   have i3:4*(k:Int)+3<64:=by omega
   have i4:(k:Int)<64:=by omega
   clear hblk;have hset:Aa ((Bk m k++List.replicate (64-k) 0).set k (Jv m k)=Bk m (k+1)++List.replicate (64-(k+1)) 0):=⟨Ow m k (by omega) _ (by rw[if_pos hk16])⟩
   go_wp2;have hv:bits BinOp.or IntKind.u32 (bits BinOp.or IntKind.u32 (bits BinOp.or IntKind.u32 ((x0:Int)*16777216) ((x1:Int)*65536)) ((x2:Int)*256)) (x3:Int)=((Jv m k:Nat):Int):=by
    rw[hy.out];rw[show ((x0:Int)*16777216)=((x0*16777216:Nat):Int) by omega,show ((x1:Int)*65536)=((x1*65536:Nat):Int) by omega,show ((x2:Int)*256)=((x2*256:Nat):Int) by omega];rw[u32_or_nat _ _ (by omega) (by omega),u32_or_nat _ _ (Gc (by omega) (by omega)) (by omega),u32_or_nat _ _ (Gc (Gc (by omega) (by omega)) (by omega)) (by omega)]
   go_region
   go_wp2;go_roundw
   case rel=>
    refine⟨k+1,by omega,by go_num,⟨(hbut.out.trans (Dg.setCell _ _ _)).drew⟩,?_⟩;have h:=HBk.out.set k (Jv m k);rw[hset.out]at h
    exact h
   case measure=>simp[intOf];omega
  .obtain rfl:k=16:=by omega
   go_wp2
   go_loopw [9] (fun i w2=>∃t:Nat,16<=t/\t<=64/\i=.int .i64 t/\Aa (Dg G w0 w2)/\Bm w2 G 129 .u32 (Bk m t++List.replicate (64-t) 0)) (fun i _=>64-(intOf i).toNat)
   case atStart=>exact⟨16,by omega,by omega,rfl,hbut,hblk⟩
   case round=>
    obtain⟨t,ht1,ht2,rfl,hbut2,hblk2⟩:=hrel
    by_cases ht:t<64
    .have HS:Aa ((Bk m t++List.replicate (64-t) 0).set t (Oz (Bk m t) t)=Bk m (t+1)++List.replicate (64-(t+1)) 0):=⟨Ow m t ht _ (by rw[if_neg (by omega)])⟩
     have hw:=Jm HM.out.2 t;have hgc:∀j,j<t->wr.cell? ⟨G,j,none⟩=some (.int .u32 (((Bk m t).getD j 0:Nat):Int)):=fun j hj=>hblk2.cell (by
      rw[List.getElem?_append_left (by rw[Bl];exact hj),Du,List.getElem?_eq_getElem (by rw[Bl];exact hj)];rfl)
     have e0:=hblk2.cell (i:=t) (x:=0) (by rw[List.getElem?_append_right (by rw[Bl];exact As _),Bl];simp[List.getElem?_replicate];omega);have e1:=hblk2.free t;obtain⟨p,hp16⟩:∃p,t=p+16:=⟨t-16,by omega⟩
     have hy0:Oz (Bk m t) t=Br (Br (Br (pE ((Bk m t).getD (p+14) 0)) ((Bk m t).getD (p+9) 0)) (pF ((Bk m t).getD (p+1) 0))) ((Bk m t).getD p 0):=by
      unfold Oz;rw[show t-2=p+14 by omega,show t-7=p+9 by omega,show t-15=p+1 by omega,show t-16=p by omega]
     obtain⟨N,hN⟩:∃N,Oz (Bk m t) t=N:=⟨_,rfl⟩
     rw[hN]at HS hy0
     have hp1:p+16<=t:=by omega
     have hp2:t<=p+16:=by omega
     clear hp16;have c15:=hgc (p+1) (by omega);have c2:=hgc (p+14) (by omega);have c7:=hgc (p+9) (by omega);have c16:=hgc p (by omega);have b15:=hw.get (p+1);have b2:=hw.get (p+14);have b7:=hw.get (p+9);have b16:=hw.get p;clear hgc hw;generalize (Bk m t).getD (p+1) 0=x15 at *;generalize (Bk m t).getD (p+14) 0=x2 at *;generalize (Bk m t).getD (p+9) 0=x7 at *;generalize (Bk m t).getD p 0=x16 at *;have hy:=Ab hy0;have HBl2:Aa (Bm wr G 129 .u32 (Bk m t++List.replicate (64-t) 0)):=⟨hblk2⟩
     clear hblk2 hy0 hN;go_wp2;have t15:IntKind.i64.wrap ((t:Int)-15)=((p+1:Nat):Int):=by rw[IntWalk.i64_in _ (by omega)];omega
     have t2:IntKind.i64.wrap ((t:Int)-2)=((p+14:Nat):Int):=by rw[IntWalk.i64_in _ (by omega)];omega
     have t7:IntKind.i64.wrap ((t:Int)-7)=((p+9:Nat):Int):=by rw[IntWalk.i64_in _ (by omega)];omega
     have t16:IntKind.i64.wrap ((t:Int)-16)=(p:Int):=by rw[IntWalk.i64_in _ (by omega)];omega
     have q15:0<=(p:Int)+1/\(p:Int)+1<64:=by omega
     have q2:0<=(p:Int)+14/\(p:Int)+14<64:=by omega
     have q7:((p+9:Nat):Int)<64:=by omega
     have q16:(p:Int)<64:=by omega
     obtain⟨e7,h7⟩:∃v,rr x15 7=v:=⟨_,rfl⟩
     have R7:∀wx,Calls Tryz.prog 230 #[.int .u32 x15,.int .u64 7] wx fun e w'=>e=.returned (.int .u32 e7)/\w'=wx:=fun wx=>by rw[<-h7];exact Dx wx x15 7 b15 (by omega) (by omega)
     have l7:e7<4294967296:=by rw[<-h7];exact Dz b15
     obtain⟨e18,h18⟩:∃v,rr x15 18=v:=⟨_,rfl⟩
     have R18:∀wx,Calls Tryz.prog 230 #[.int .u32 x15,.int .u64 18] wx fun e w'=>e=.returned (.int .u32 e18)/\w'=wx:=fun wx=>by rw[<-h18];exact Dx wx x15 18 b15 (by omega) (by omega)
     have l18:e18<4294967296:=by rw[<-h18];exact Dz b15
     obtain⟨v1,hv1⟩:∃v,e7 ^^^ e18=v:=⟨_,rfl⟩
     have F1:bits BinOp.xor IntKind.u32 (e7:Int) (e18:Int)=(v1:Int):=by rw[<-hv1];exact u32_xor_nat _ _ l7 l18
     have c1:v1<4294967296:=by rw[<-hv1];exact Cf l7 l18
     obtain⟨ys,hys⟩:∃v,x15/8=v:=⟨_,rfl⟩
     have F2:(x15:Int)/8=(ys:Int):=by rw[<-hys];omega
     have lys:ys<4294967296:=by omega
     obtain⟨z,hz⟩:∃v,v1 ^^^ ys=v:=⟨_,rfl⟩
     have F3:bits BinOp.xor IntKind.u32 (v1:Int) (ys:Int)=(z:Int):=by rw[<-hz];exact u32_xor_nat _ _ c1 lys
     have HZsm0:Aa (z=pF x15/\z<4294967296):=⟨by unfold pF;rw[h7,h18,hv1,hys,hz],by rw[<-hz];exact Cf c1 lys⟩
     clear h7 h18 hv1 hys hz;refine Ah (by kernel_rfl) (by kernel_rfl)
      [some (.slice (some ⟨G,0,none⟩) 64 64),some (.int .i64 t),some (.int .i64 ((p+1:Nat):Int)),some (.pointer (some ⟨G,p+1,none⟩)),some (.int .u32 (x15:Nat)),some (.int .u32 (e7:Nat)),some (.slice (some ⟨G,0,none⟩) 64 64),some (.int .i64 t),some (.int .i64 ((p+1:Nat):Int)),some (.pointer (some ⟨G,p+1,none⟩)),some (.int .u32 (x15:Nat)),some (.int .u32 (e18:Nat)),some (.int .u32 (v1:Nat)),some (.slice (some ⟨G,0,none⟩) 64 64),some (.int .i64 t),some (.int .i64 ((p+1:Nat):Int)),some (.pointer (some ⟨G,p+1,none⟩)),some (.int .u32 (x15:Nat)),some (.int .u32 (ys:Nat)),some (.int .u32 (z:Nat)),some (.int .u32 (z:Nat))]
      [false,false,false,false,false,false,false,false,false,false,false,false,false,false,false,false,false,false,false,false,false] rfl
      (fun _ _=>True) (fun _ w'=>w'=wr.drew) (fun _ _ _=>True) (fun _ _ _ _ h _=>h) rfl ?_ ?_
     .simp only[Ba,Nat.reduceAdd];refine⟨?_,?_,?_,?_,?_,?_,?_,?_,?_,?_,?_,?_,?_,?_,?_,?_,?_,?_,?_,?_,?_,trivial⟩
      case refine_6=>
       intro D sp w' hD hW hdp hG
       (with_reducible refine Ac (w1:=w') (f := 230) (args:=#[.int .u32 x15,.int .u64 7]) ?_ ?_ ?_)
       .simp[Region.wanted,go_sem]
       .simp[Act.eval,Act.put,go_sem]
       .refine(R7 w').mono ?_;rintro e w5 ⟨rfl,rfl⟩;exact⟨_,rfl,rfl,rfl⟩
      case refine_12=>
       intro D sp w' hD hW hdp hG
       (with_reducible refine Ac (w1:=w') (f := 230) (args:=#[.int .u32 x15,.int .u64 18]) ?_ ?_ ?_)
       .simp[Region.wanted,go_sem]
       .simp[Act.eval,Act.put,go_sem]
       .refine(R18 w').mono ?_;rintro e w5 ⟨rfl,rfl⟩;exact⟨_,rfl,rfl,rfl⟩
      all_goals
       intro D sp w' hD hW hdp hG;subst hG;simp[asked,Region.wanted,Oper.gives,execOp,Act.eval,Act.put,go_sem,t15,q15,c15,F1,F2,F3]
     .intro sp w' hsp hG;subst hG;clear hsp;simp only[An];clear F1 F2 F3 R7 R18 l7 l18 c1 lys;have c2':wr.drew.cell? ⟨G,p+14,none⟩=some (.int .u32 x2):=c2;have c7':wr.drew.cell? ⟨G,p+9,none⟩=some (.int .u32 x7):=c7;have c16':wr.drew.cell? ⟨G,p,none⟩=some (.int .u32 x16):=c16;have e0':wr.drew.cell? ⟨G,t,none⟩=some (.int .u32 (0:Nat)):=e0;have e1':wr.drew.frozen? ⟨G,t,none⟩=false:=e1;have hblk':Aa (Bm wr.drew G 129 .u32 (Bk m t++List.replicate (64-t) 0)):=⟨HBl2.out⟩
      have hbut':Aa (Dg G w0 wr.drew):=⟨hbut2.out.drew⟩
      clear c2 c7 c16 e0 e1 HBl2 hbut2 c15 t15 q15 b15;generalize wr.drew=w5 at *;go_wp2;obtain⟨e17,h17⟩:∃v,rr x2 17=v:=⟨_,rfl⟩
      have R17:∀wx,Calls Tryz.prog 230 #[.int .u32 x2,.int .u64 17] wx fun e w'=>e=.returned (.int .u32 e17)/\w'=wx:=fun wx=>by rw[<-h17];exact Dx wx x2 17 b2 (by omega) (by omega)
      have l17:e17<4294967296:=by rw[<-h17];exact Dz b2
      obtain⟨e19,h19⟩:∃v,rr x2 19=v:=⟨_,rfl⟩
      have R19:∀wx,Calls Tryz.prog 230 #[.int .u32 x2,.int .u64 19] wx fun e w'=>e=.returned (.int .u32 e19)/\w'=wx:=fun wx=>by rw[<-h19];exact Dx wx x2 19 b2 (by omega) (by omega)
      have l19:e19<4294967296:=by rw[<-h19];exact Dz b2
      obtain⟨v1,hv1⟩:∃v,e17 ^^^ e19=v:=⟨_,rfl⟩
      have F1:bits BinOp.xor IntKind.u32 (e17:Int) (e19:Int)=(v1:Int):=by rw[<-hv1];exact u32_xor_nat _ _ l17 l19
      have c1:v1<4294967296:=by rw[<-hv1];exact Cf l17 l19
      obtain⟨ys,hys⟩:∃v,x2/1024=v:=⟨_,rfl⟩
      have F2:(x2:Int)/1024=(ys:Int):=by rw[<-hys];omega
      have lys:ys<4294967296:=by omega
      obtain⟨y,hz⟩:∃v,v1 ^^^ ys=v:=⟨_,rfl⟩
      have F3:bits BinOp.xor IntKind.u32 (v1:Int) (ys:Int)=(y:Int):=by rw[<-hz];exact u32_xor_nat _ _ c1 lys
      have HZsm1:Aa (y=pE x2/\y<4294967296):=⟨by unfold pE;rw[h17,h19,hv1,hys,hz],by rw[<-hz];exact Cf c1 lys⟩
      clear h17 h19 hv1 hys hz;refine Ah (by kernel_rfl) (by kernel_rfl)
       [some (.slice (some ⟨G,0,none⟩) 64 64),some (.int .i64 t),some (.int .i64 ((p+14:Nat):Int)),some (.pointer (some ⟨G,p+14,none⟩)),some (.int .u32 (x2:Nat)),some (.int .u32 (e17:Nat)),some (.slice (some ⟨G,0,none⟩) 64 64),some (.int .i64 t),some (.int .i64 ((p+14:Nat):Int)),some (.pointer (some ⟨G,p+14,none⟩)),some (.int .u32 (x2:Nat)),some (.int .u32 (e19:Nat)),some (.int .u32 (v1:Nat)),some (.slice (some ⟨G,0,none⟩) 64 64),some (.int .i64 t),some (.int .i64 ((p+14:Nat):Int)),some (.pointer (some ⟨G,p+14,none⟩)),some (.int .u32 (x2:Nat)),some (.int .u32 (ys:Nat)),some (.int .u32 (y:Nat)),some (.int .u32 (y:Nat))]
       [false,false,false,false,false,false,false,false,false,false,false,false,false,false,false,false,false,false,false,false,false] rfl
       (fun _ _=>True) (fun _ w'=>w'=w5.drew) (fun _ _ _=>True) (fun _ _ _ _ h _=>h) rfl ?_ ?_
      .simp only[Ba,Nat.reduceAdd];refine⟨?_,?_,?_,?_,?_,?_,?_,?_,?_,?_,?_,?_,?_,?_,?_,?_,?_,?_,?_,?_,?_,trivial⟩
       case refine_6=>
        intro D sp w' hD hW hdp hG
        (with_reducible refine Ac (w1:=w') (f := 230) (args:=#[.int .u32 x2,.int .u64 17]) ?_ ?_ ?_)
        .simp[Region.wanted,go_sem]
        .simp[Act.eval,Act.put,go_sem]
        .refine(R17 w').mono ?_;rintro e w5 ⟨rfl,rfl⟩;exact⟨_,rfl,rfl,rfl⟩
       case refine_12=>
        intro D sp w' hD hW hdp hG
        (with_reducible refine Ac (w1:=w') (f := 230) (args:=#[.int .u32 x2,.int .u64 19]) ?_ ?_ ?_)
        .simp[Region.wanted,go_sem]
        .simp[Act.eval,Act.put,go_sem]
        .refine(R19 w').mono ?_;rintro e w5 ⟨rfl,rfl⟩;exact⟨_,rfl,rfl,rfl⟩
       all_goals
        intro D sp w' hD hW hdp hG;subst hG;simp[asked,Region.wanted,Oper.gives,execOp,Act.eval,Act.put,go_sem,t2,q2,c2',F1,F2,F3]
      .intro sp w' hsp hG;subst hG;clear hsp;simp only[An];clear F1 F2 F3 R17 R19 l17 l19 c1 lys;have d7:w5.drew.cell? ⟨G,p+9,none⟩=some (.int .u32 x7):=c7';have d16:w5.drew.cell? ⟨G,p,none⟩=some (.int .u32 x16):=c16';have f0:w5.drew.cell? ⟨G,t,none⟩=some (.int .u32 (0:Nat)):=e0';have f1:w5.drew.frozen? ⟨G,t,none⟩=false:=e1';have hblk5:Aa (Bm w5.drew G 129 .u32 (Bk m t++List.replicate (64-t) 0)):=⟨hblk'.out⟩
       have hbut5:Aa (Dg G w0 w5.drew):=⟨hbut'.out.drew⟩
       have by1:=HZsm1.out.2;have bz1:=HZsm0.out.2;clear c2' c7' c16' e0' e1' hblk' hbut' t2 q2 b2;generalize w5.drew=w6 at *
       go_simp
       go_wp2
       go_region
       have hv:((y:Int)+x7+z+x16)%4294967296=((N:Nat):Int):=by
        rw[hy.out,<-HZsm1.out.1,<-HZsm0.out.1];unfold Br;omega
       rw[hv];go_wp2;go_roundw
       case rel=>
        (repeat apply Exists.intro)
        refine⟨?_,rfl⟩;refine⟨t+1,by omega,by omega,by go_num,⟨(hbut5.out.trans (Dg.setCell _ _ _)).drew⟩,?_⟩;have:=hblk5.out.set t N;rw[HS.out]at this
        exact this
       case measure=>simp[intOf];omega
    .obtain rfl:t=64:=by omega
     have hB3:=HB0.out.but (by rw[HG.out];exact hbut2.out);rw[Nat.sub_self,List.replicate_zero,List.append_nil]at hblk2
     obtain⟨W,hW⟩:∃W,Bk m 64=W:=⟨_,rfl⟩
     have hWl:W.length=64:=by rw[<-hW];exact Bl m 64
     have hWw:Words W:=by rw[<-hW];exact Jm HM.out.2 64
     rw[hW]at hblk2
     have HW:Aa (Bk m 64=W):=⟨hW⟩
     obtain⟨s0,hs0⟩:∃s:St,St.of H=s:=⟨_,rfl⟩
     have hok0:s0.ok:=by rw[<-hs0];exact St.of_ok HHl.out.2
     have hcl:∀wx,Kf w wx H->∀i,i<8->wx.cell? ⟨w.heap.size,i,none⟩=some (.int .u32 (H.getD i 0:Nat)):=fun wx hb i hi=>by
      unfold World.cell?
      dsimp only
      rw[hb.h];have hl:=HHl.out.1;simp[Et,Du,show i<H.length by omega]
     have k0:wr.cell? ⟨w.heap.size,0,none⟩=some (.int .u32 (s0.a:Nat)):=by rw[<-hs0];exact hcl wr hB3 0 (by omega)
     have k1:wr.cell? ⟨w.heap.size,1,none⟩=some (.int .u32 (s0.b:Nat)):=by rw[<-hs0];exact hcl wr hB3 1 (by omega)
     have k2:wr.cell? ⟨w.heap.size,2,none⟩=some (.int .u32 (s0.c:Nat)):=by rw[<-hs0];exact hcl wr hB3 2 (by omega)
     have k3:wr.cell? ⟨w.heap.size,3,none⟩=some (.int .u32 (s0.d:Nat)):=by rw[<-hs0];exact hcl wr hB3 3 (by omega)
     have k4:wr.cell? ⟨w.heap.size,4,none⟩=some (.int .u32 (s0.e:Nat)):=by rw[<-hs0];exact hcl wr hB3 4 (by omega)
     have k5:wr.cell? ⟨w.heap.size,5,none⟩=some (.int .u32 (s0.f:Nat)):=by rw[<-hs0];exact hcl wr hB3 5 (by omega)
     have k6:wr.cell? ⟨w.heap.size,6,none⟩=some (.int .u32 (s0.g:Nat)):=by rw[<-hs0];exact hcl wr hB3 6 (by omega)
     have k7:wr.cell? ⟨w.heap.size,7,none⟩=some (.int .u32 (s0.h:Nat)):=by rw[<-hs0];exact hcl wr hB3 7 (by omega)
     have HCL:=Ab hcl;have HS0:Aa (St.of H=s0):=⟨hs0⟩
     have HB3:Aa (Kf w wr H):=⟨hB3⟩
     have HBk:Aa (Bm wr G 129 .u32 W):=⟨hblk2⟩
     have HWW:Aa (Words W/\W.length=64):=⟨hWw,hWl⟩
     clear hB3 hW hWl hWw hs0 hcl hbut2 hblk2;go_wp2;refine Ah (by kernel_rfl) (by kernel_rfl)
      [some (.pointer (some ⟨w.heap.size,0,none⟩)),some (.int .u32 (s0.a:Nat)),some (.pointer (some ⟨w.heap.size,1,none⟩)),some (.int .u32 (s0.b:Nat)),some (.pointer (some ⟨w.heap.size,2,none⟩)),some (.int .u32 (s0.c:Nat)),some (.pointer (some ⟨w.heap.size,3,none⟩)),some (.int .u32 (s0.d:Nat)),some (.pointer (some ⟨w.heap.size,4,none⟩)),some (.int .u32 (s0.e:Nat)),some (.pointer (some ⟨w.heap.size,5,none⟩)),some (.int .u32 (s0.f:Nat)),some (.pointer (some ⟨w.heap.size,6,none⟩)),some (.int .u32 (s0.g:Nat)),some (.pointer (some ⟨w.heap.size,7,none⟩)),some (.int .u32 (s0.h:Nat)),some (.int .u32 (s0.a:Nat)),some (.int .u32 (s0.b:Nat)),some (.int .u32 (s0.c:Nat)),some (.int .u32 (s0.d:Nat)),some (.int .u32 (s0.e:Nat)),some (.int .u32 (s0.f:Nat)),some (.int .u32 (s0.g:Nat)),some (.int .u32 (s0.h:Nat))]
      [false,false,false,false,false,false,false,false,false,false,false,false,false,false,false,false,false,false,false,false,false,false,false,false] rfl
      (fun _ _=>True) (fun _ w'=>w'=wr.drew) (fun _ _ _=>True) (fun _ _ _ _ h _=>h) rfl ?_ ?_
     .simp only[Ba,Nat.reduceAdd];refine⟨?_,?_,?_,?_,?_,?_,?_,?_,?_,?_,?_,?_,?_,?_,?_,?_,?_,?_,?_,?_,?_,?_,?_,?_,trivial⟩
      all_goals
       intro D sp w' hD hW hdp hG;subst hG;simp[asked,Region.wanted,Oper.gives,execOp,Act.eval,Act.put,go_sem,k0,k1,k2,k3,k4,k5,k6,k7]
     .intro sp w' hsp hG;subst hG;clear hsp;simp only[An];have HB4:Aa (Kf w wr.drew H):=⟨⟨HB3.out.bel.drew,HB3.out.h,HB3.out.k,HB3.out.r⟩⟩
      have HBk4:Aa (Bm wr.drew G 129 .u32 W):=⟨HBk.out⟩
      clear HB3 HBk k0 k1 k2 k3 k4 k5 k6 k7;generalize wr.drew=w3 at *
      go_simp
      go_wp2
      go_loopw [20,12,13,14,15,16,17,18,19] (fun i va vb vc vd ve vf vg vh wr=>∃(t:Nat) (s:St),t<=64/\i=.int .i64 t/\Aa (s=Uw Dt W s0 t)/\va=.int .u32 s.a/\vb=.int .u32 s.b/\vc=.int .u32 s.c/\vd=.int .u32 s.d/\ve=.int .u32 s.e/\vf=.int .u32 s.f/\vg=.int .u32 s.g/\vh=.int .u32 s.h /\
        Aa (Below w3.heap.size w3 wr)) (fun i _ _ _ _ _ _ _ _ _=>64-(intOf i).toNat)
      case atStart=>exact⟨0,s0,by omega,rfl,⟨rfl⟩,rfl,rfl,rfl,rfl,rfl,rfl,rfl,rfl,⟨Bb _ _⟩⟩
      case round=>
       obtain⟨t,s,ht,rfl,HS,rfl,rfl,rfl,rfl,rfl,rfl,rfl,rfl,HBW⟩:=hrel;have hsok:s.ok:=by rw[HS.out];exact Xf hok0 t
       by_cases ht64:t<64
       .have kk:wr.cell? ⟨w.heap.size+1,t,none⟩=some (.int .u32 (Dt.getD t 0:Nat)):=by
         have h1:=HB4.out.k;have h2:w.heap.size+1<w3.heap.size:=(Kv h1).1;rw[(Ca HBW.out).1 _ _ h2];unfold World.cell?
         dsimp only
         rw[h1];have hl:=Ff;simp[Et,Du,show t<Dt.length by omega]
        have kw:wr.cell? ⟨G,t,none⟩=some (.int .u32 (W.getD t 0:Nat)):=by
         rw[(Ca HBW.out).1 _ _ HBk4.out.lt];exact HBk4.out.cell (by rw[Du,List.getElem?_eq_getElem (by have:=HWW.out.2;omega)];rfl)
        have bk:=Ts.get t;have bw:=HWW.out.1.get t;obtain⟨z,hz⟩:∃z,Dt.getD t 0=z:=⟨_,rfl⟩
        obtain⟨y,hy⟩:∃y,W.getD t 0=y:=⟨_,rfl⟩
        rw[hz]at kk bk
        rw[hy]at kw bw
        have HZ:Aa (Dt.getD t 0=z):=⟨hz⟩
        have HY:Aa (W.getD t 0=y):=⟨hy⟩
        clear hz hy;obtain⟨a,b,c,d,e,f,h,x⟩:=s;obtain⟨oa,ob,oc,od,oe,of,og,oh⟩:=hsok
        dsimp only at *
        go_wp2;obtain⟨e6,h6⟩:∃v,rr e 6=v:=⟨_,rfl⟩
        obtain⟨e11,h11⟩:∃v,rr e 11=v:=⟨_,rfl⟩
        obtain⟨e25,h25⟩:∃v,rr e 25=v:=⟨_,rfl⟩
        have R6:∀wx,Calls Tryz.prog 230 #[.int .u32 e,.int .u64 6] wx fun e w'=>e=.returned (.int .u32 e6)/\w'=wx:=fun wx=>by rw[<-h6];exact Dx wx e 6 oe (by omega) (by omega)
        have R11:∀wx,Calls Tryz.prog 230 #[.int .u32 e,.int .u64 11] wx fun e w'=>e=.returned (.int .u32 e11)/\w'=wx:=fun wx=>by rw[<-h11];exact Dx wx e 11 oe (by omega) (by omega)
        have R25:∀wx,Calls Tryz.prog 230 #[.int .u32 e,.int .u64 25] wx fun e w'=>e=.returned (.int .u32 e25)/\w'=wx:=fun wx=>by rw[<-h25];exact Dx wx e 25 oe (by omega) (by omega)
        have b6:e6<4294967296:=by rw[<-h6];exact Dz oe
        have b11:e11<4294967296:=by rw[<-h11];exact Dz oe
        have b25:e25<4294967296:=by rw[<-h25];exact Dz oe
        obtain⟨v1,hv1⟩:∃v,e6 ^^^ e11=v:=⟨_,rfl⟩
        have F1:bits BinOp.xor IntKind.u32 (e6:Int) (e11:Int)=(v1:Int):=by rw[<-hv1];exact u32_xor_nat _ _ b6 b11
        have c1:v1<4294967296:=by rw[<-hv1];exact Cf b6 b11
        obtain⟨v2,hv2⟩:∃v,v1 ^^^ e25=v:=⟨_,rfl⟩
        have F2:bits BinOp.xor IntKind.u32 (v1:Int) (e25:Int)=(v2:Int):=by rw[<-hv2];exact u32_xor_nat _ _ c1 b25
        have c2:v2<4294967296:=by rw[<-hv2];exact Cf c1 b25
        obtain⟨v3,hv3⟩:∃v,Br x v2=v:=⟨_,rfl⟩
        have F3:IntKind.u32.wrap ((x:Int)+v2)=(v3:Int):=by rw[<-hv3];rfl
        have c3:v3<4294967296:=by rw[<-hv3];exact Fz _ _
        obtain⟨v4,hv4⟩:∃v,e &&& f=v:=⟨_,rfl⟩
        have F4:bits BinOp.and IntKind.u32 (e:Int) (f:Int)=(v4:Int):=by rw[<-hv4];exact u32_and_nat _ _ oe of
        have c4:v4<4294967296:=by rw[<-hv4];exact Fy of
        obtain⟨v5,hv5⟩:∃v,4294967295-e=v:=⟨_,rfl⟩
        have F5:bits BinOp.xor IntKind.u32 (if IntKind.u32.signed=true then -1 else IntKind.u32.max) (e:Int)=(v5:Int):=by rw[<-hv5];exact pJ oe
        have c5:v5<4294967296:=by omega
        obtain⟨v6,hv6⟩:∃v,v5 &&& h=v:=⟨_,rfl⟩
        have F6:bits BinOp.and IntKind.u32 (v5:Int) (h:Int)=(v6:Int):=by rw[<-hv6];exact u32_and_nat _ _ c5 og
        have c6:v6<4294967296:=by rw[<-hv6];exact Fy og
        obtain⟨v7,hv7⟩:∃v,v4 ||| v6=v:=⟨_,rfl⟩
        have F7:bits BinOp.or IntKind.u32 (v4:Int) (v6:Int)=(v7:Int):=by rw[<-hv7];exact u32_or_nat _ _ c4 c6
        have c7:v7<4294967296:=by rw[<-hv7];exact Gc c4 c6
        obtain⟨v8,hv8⟩:∃v,Br v3 v7=v:=⟨_,rfl⟩
        have F8:IntKind.u32.wrap ((v3:Int)+v7)=(v8:Int):=by rw[<-hv8];rfl
        obtain⟨v9,hv9⟩:∃v,Br v8 z=v:=⟨_,rfl⟩
        have F9:IntKind.u32.wrap ((v8:Int)+z)=(v9:Int):=by rw[<-hv9];rfl
        obtain⟨v10,hv10⟩:∃v,Br v9 y=v:=⟨_,rfl⟩
        have F10:IntKind.u32.wrap ((v9:Int)+y)=(v10:Int):=by rw[<-hv10];rfl
        have c10:v10<4294967296:=by rw[<-hv10];exact Fz _ _
        have HTone:Aa (v10=fD ⟨a,b,c,d,e,f,h,x⟩ z y):=⟨by
         unfold fD rH
         dsimp only
         rw[<-qV oe,h6,h11,h25,hv1,hv2,hv3,hv4,hv5,hv6,hv7,hv8,hv9,hv10]⟩
        have tt:(t:Int)<64:=by omega
        clear h6 h11 h25 hv1 hv2 hv3 hv4 hv5 hv6 hv7 hv8 hv9 hv10;refine Ah (by kernel_rfl) (by kernel_rfl)
         [some (.int .u32 (x:Nat)),some (.int .u32 (e:Nat)),some (.int .u32 (e6:Nat)),some (.int .u32 (e:Nat)),some (.int .u32 (e11:Nat)),some (.int .u32 (v1:Nat)),some (.int .u32 (e:Nat)),some (.int .u32 (e25:Nat)),some (.int .u32 (v2:Nat)),some (.int .u32 (v3:Nat)),some (.int .u32 (e:Nat)),some (.int .u32 (f:Nat)),some (.int .u32 (v4:Nat)),some (.int .u32 (e:Nat)),some (.int .u32 (v5:Nat)),some (.int .u32 (h:Nat)),some (.int .u32 (v6:Nat)),some (.int .u32 (v7:Nat)),some (.int .u32 (v8:Nat)),some (.int .i64 t),some (.pointer (some ⟨w.heap.size+1,t,none⟩)),some (.int .u32 (z:Nat)),some (.int .u32 (v9:Nat)),some (.slice (some ⟨G,0,none⟩) 64 64),some (.int .i64 t),some (.pointer (some ⟨G,t,none⟩)),some (.int .u32 (y:Nat)),some (.int .u32 (v10:Nat)),some (.int .u32 (v10:Nat))]
         [false,false,false,false,false,false,false,false,false,false,false,false,false,false,false,false,false,false,false,false,false,false,false,false,false,false,false,false,false] rfl
         (fun _ _=>True) (fun _ w'=>w'=wr.drew) (fun _ _ _=>True) (fun _ _ _ _ h _=>h) rfl ?_ ?_
        .simp only[Ba,Nat.reduceAdd];refine⟨?_,?_,?_,?_,?_,?_,?_,?_,?_,?_,?_,?_,?_,?_,?_,?_,?_,?_,?_,?_,?_,?_,?_,?_,?_,?_,?_,?_,?_,trivial⟩
         case refine_3=>
          intro D sp w' hD hW hdp hG
          (with_reducible refine Ac (w1:=w') (f := 230) (args:=#[.int .u32 e,.int .u64 6]) ?_ ?_ ?_)
          .simp[Region.wanted,go_sem]
          .simp[Act.eval,Act.put,go_sem]
          .refine(R6 w').mono ?_;rintro e w5 ⟨rfl,rfl⟩;exact⟨_,rfl,rfl,rfl⟩
         case refine_5=>
          intro D sp w' hD hW hdp hG
          (with_reducible refine Ac (w1:=w') (f := 230) (args:=#[.int .u32 e,.int .u64 11]) ?_ ?_ ?_)
          .simp[Region.wanted,go_sem]
          .simp[Act.eval,Act.put,go_sem]
          .refine(R11 w').mono ?_;rintro e w5 ⟨rfl,rfl⟩;exact⟨_,rfl,rfl,rfl⟩
         case refine_8=>
          intro D sp w' hD hW hdp hG
          (with_reducible refine Ac (w1:=w') (f := 230) (args:=#[.int .u32 e,.int .u64 25]) ?_ ?_ ?_)
          .simp[Region.wanted,go_sem]
          .simp[Act.eval,Act.put,go_sem]
          .refine(R25 w').mono ?_;rintro e w5 ⟨rfl,rfl⟩;exact⟨_,rfl,rfl,rfl⟩
         all_goals
          intro D sp w' hD hW hdp hG;subst hG;simp[asked,Region.wanted,Oper.gives,execOp,Act.eval,Act.put,go_sem,F1,F2,F3,F4,F5,F6,F7,F8,F9,F10,kk,kw,tt]
        .intro sp w' hsp hG;subst hG;have HBW5:Aa (Below w3.heap.size w3 wr.drew):=⟨HBW.out.drew⟩
         clear HBW kk kw R6 R11 R25 F1 F2 F3 F4 F5 F6 F7 F8 F9 F10 hsp c1 c2 c3 c4 c5 c6 c7 b6 b11 b25;generalize wr.drew=w5 at *;obtain⟨p2,h2⟩:∃v,rr a 2=v:=⟨_,rfl⟩
         obtain⟨p13,h13⟩:∃v,rr a 13=v:=⟨_,rfl⟩
         obtain⟨p22,h22⟩:∃v,rr a 22=v:=⟨_,rfl⟩
         have R2:∀wx,Calls Tryz.prog 230 #[.int .u32 a,.int .u64 2] wx fun e w'=>e=.returned (.int .u32 p2)/\w'=wx:=fun wx=>by rw[<-h2];exact Dx wx a 2 oa (by omega) (by omega)
         have R13:∀wx,Calls Tryz.prog 230 #[.int .u32 a,.int .u64 13] wx fun e w'=>e=.returned (.int .u32 p13)/\w'=wx:=fun wx=>by rw[<-h13];exact Dx wx a 13 oa (by omega) (by omega)
         have R22:∀wx,Calls Tryz.prog 230 #[.int .u32 a,.int .u64 22] wx fun e w'=>e=.returned (.int .u32 p22)/\w'=wx:=fun wx=>by rw[<-h22];exact Dx wx a 22 oa (by omega) (by omega)
         have b2:p2<4294967296:=by rw[<-h2];exact Dz oa
         have b13:p13<4294967296:=by rw[<-h13];exact Dz oa
         have b22:p22<4294967296:=by rw[<-h22];exact Dz oa
         obtain⟨y1,hy1⟩:∃v,p2 ^^^ p13=v:=⟨_,rfl⟩
         have G1:bits BinOp.xor IntKind.u32 (p2:Int) (p13:Int)=(y1:Int):=by rw[<-hy1];exact u32_xor_nat _ _ b2 b13
         have c1:y1<4294967296:=by rw[<-hy1];exact Cf b2 b13
         obtain⟨y2,hy2⟩:∃v,y1 ^^^ p22=v:=⟨_,rfl⟩
         have G2:bits BinOp.xor IntKind.u32 (y1:Int) (p22:Int)=(y2:Int):=by rw[<-hy2];exact u32_xor_nat _ _ c1 b22
         have c2:y2<4294967296:=by rw[<-hy2];exact Cf c1 b22
         obtain⟨m1,hm1⟩:∃v,a &&& b=v:=⟨_,rfl⟩
         have G3:bits BinOp.and IntKind.u32 (a:Int) (b:Int)=(m1:Int):=by rw[<-hm1];exact u32_and_nat _ _ oa ob
         have d1:m1<4294967296:=by rw[<-hm1];exact Fy ob
         obtain⟨m2,hm2⟩:∃v,a &&& c=v:=⟨_,rfl⟩
         have G4:bits BinOp.and IntKind.u32 (a:Int) (c:Int)=(m2:Int):=by rw[<-hm2];exact u32_and_nat _ _ oa oc
         have d2:m2<4294967296:=by rw[<-hm2];exact Fy oc
         obtain⟨m3,hm3⟩:∃v,m1 ||| m2=v:=⟨_,rfl⟩
         have G5:bits BinOp.or IntKind.u32 (m1:Int) (m2:Int)=(m3:Int):=by rw[<-hm3];exact u32_or_nat _ _ d1 d2
         have d3:m3<4294967296:=by rw[<-hm3];exact Gc d1 d2
         obtain⟨m4,hm4⟩:∃v,b &&& c=v:=⟨_,rfl⟩
         have G6:bits BinOp.and IntKind.u32 (b:Int) (c:Int)=(m4:Int):=by rw[<-hm4];exact u32_and_nat _ _ ob oc
         have d4:m4<4294967296:=by rw[<-hm4];exact Fy oc
         obtain⟨m5,hm5⟩:∃v,m3 ||| m4=v:=⟨_,rfl⟩
         have G7:bits BinOp.or IntKind.u32 (m3:Int) (m4:Int)=(m5:Int):=by rw[<-hm5];exact u32_or_nat _ _ d3 d4
         obtain⟨y3,hy3⟩:∃v,Br y2 m5=v:=⟨_,rfl⟩
         have G8:((y2:Int)+m5)%4294967296=(y3:Int):=by rw[<-hy3];rfl
         have G8':IntKind.u32.wrap ((y2:Int)+m5)=(y3:Int):=by rw[<-hy3];rfl
         have HTwo:Aa (y3=jK ⟨a,b,c,d,e,f,h,x⟩):=⟨by
          unfold jK rI
          dsimp only
          rw[<-pX,h2,h13,h22,hy1,hy2,hm1,hm2,hm3,hm4,hm5,hy3]⟩
         have d5:m5<4294967296:=by rw[<-hm5];exact Gc d3 d4
         have c3:y3<4294967296:=by rw[<-hy3];exact Fz _ _
         obtain⟨n1,hn1⟩:∃v,Br v10 y3=v:=⟨_,rfl⟩
         have K1:((v10:Int)+y3)%4294967296=(n1:Int):=by rw[<-hn1];rfl
         have K1':IntKind.u32.wrap ((v10:Int)+y3)=(n1:Int):=by rw[<-hn1];rfl
         obtain⟨n2,hn2⟩:∃v,Br d v10=v:=⟨_,rfl⟩
         have K2:((d:Int)+v10)%4294967296=(n2:Int):=by rw[<-hn2];rfl
         have K2':IntKind.u32.wrap ((d:Int)+v10)=(n2:Int):=by rw[<-hn2];rfl
         have HR:Aa (⟨n1,a,b,c,n2,e,f,h⟩=Uw Dt W s0 (t+1)):=⟨by
          rw[Uw,<-HS.out,HZ.out,HY.out,rC,<-HTone.out,<-HTwo.out,hn1,hn2]⟩
         clear h2 h13 h22 hy1 hy2 hm1 hm2 hm3 hm4 hm5 hy3 hn1 hn2 HTone HTwo HS HZ HY;simp only[An]
         go_wp2_with fail
         refine(R2 _).mono ?_;rintro e9 w9 ⟨rfl,rfl⟩
         go_wp2_with fail
         refine(R13 _).mono ?_;rintro e9 w9 ⟨rfl,rfl⟩
         go_wp2_with fail
         refine(R22 _).mono ?_;rintro e9 w9 ⟨rfl,rfl⟩;go_wp2;go_roundw
         case rel=>exact⟨t+1,⟨n1,a,b,c,n2,e,f,h⟩,by omega,by go_num,HR,rfl,rfl,rfl,rfl,rfl,rfl,rfl,rfl,HBW5⟩
         case measure=>simp[intOf];omega
       .obtain rfl:t=64:=by omega
        have hB5:Kf w wr H:=HB4.out.but (Dg.of HBW.out);have k0:wr.cell? ⟨w.heap.size,0,none⟩=some (.int .u32 (s0.a:Nat)):=by rw[<-HS0.out];exact HCL.out wr hB5 0 (by omega)
        have k1:wr.cell? ⟨w.heap.size,1,none⟩=some (.int .u32 (s0.b:Nat)):=by rw[<-HS0.out];exact HCL.out wr hB5 1 (by omega)
        have k2:wr.cell? ⟨w.heap.size,2,none⟩=some (.int .u32 (s0.c:Nat)):=by rw[<-HS0.out];exact HCL.out wr hB5 2 (by omega)
        have k3:wr.cell? ⟨w.heap.size,3,none⟩=some (.int .u32 (s0.d:Nat)):=by rw[<-HS0.out];exact HCL.out wr hB5 3 (by omega)
        have k4:wr.cell? ⟨w.heap.size,4,none⟩=some (.int .u32 (s0.e:Nat)):=by rw[<-HS0.out];exact HCL.out wr hB5 4 (by omega)
        have k5:wr.cell? ⟨w.heap.size,5,none⟩=some (.int .u32 (s0.f:Nat)):=by rw[<-HS0.out];exact HCL.out wr hB5 5 (by omega)
        have k6:wr.cell? ⟨w.heap.size,6,none⟩=some (.int .u32 (s0.g:Nat)):=by rw[<-HS0.out];exact HCL.out wr hB5 6 (by omega)
        have k7:wr.cell? ⟨w.heap.size,7,none⟩=some (.int .u32 (s0.h:Nat)):=by rw[<-HS0.out];exact HCL.out wr hB5 7 (by omega)
        obtain⟨r0,hr0⟩:∃v,Br s0.a s.a=v:=⟨_,rfl⟩
        have E0:((s0.a:Int)+s.a)%4294967296=(r0:Int):=by rw[<-hr0];rfl
        have D0:IntKind.u32.wrap ((s0.a:Int)+s.a)=(r0:Int):=by rw[<-hr0];rfl
        obtain⟨r1,hr1⟩:∃v,Br s0.b s.b=v:=⟨_,rfl⟩
        have E1:((s0.b:Int)+s.b)%4294967296=(r1:Int):=by rw[<-hr1];rfl
        have D1:IntKind.u32.wrap ((s0.b:Int)+s.b)=(r1:Int):=by rw[<-hr1];rfl
        obtain⟨r2,hr2⟩:∃v,Br s0.c s.c=v:=⟨_,rfl⟩
        have E2:((s0.c:Int)+s.c)%4294967296=(r2:Int):=by rw[<-hr2];rfl
        have D2:IntKind.u32.wrap ((s0.c:Int)+s.c)=(r2:Int):=by rw[<-hr2];rfl
        obtain⟨r3,hr3⟩:∃v,Br s0.d s.d=v:=⟨_,rfl⟩
        have E3:((s0.d:Int)+s.d)%4294967296=(r3:Int):=by rw[<-hr3];rfl
        have D3:IntKind.u32.wrap ((s0.d:Int)+s.d)=(r3:Int):=by rw[<-hr3];rfl
        obtain⟨r4,hr4⟩:∃v,Br s0.e s.e=v:=⟨_,rfl⟩
        have E4:((s0.e:Int)+s.e)%4294967296=(r4:Int):=by rw[<-hr4];rfl
        have D4:IntKind.u32.wrap ((s0.e:Int)+s.e)=(r4:Int):=by rw[<-hr4];rfl
        obtain⟨r5,hr5⟩:∃v,Br s0.f s.f=v:=⟨_,rfl⟩
        have E5:((s0.f:Int)+s.f)%4294967296=(r5:Int):=by rw[<-hr5];rfl
        have D5:IntKind.u32.wrap ((s0.f:Int)+s.f)=(r5:Int):=by rw[<-hr5];rfl
        obtain⟨r6,hr6⟩:∃v,Br s0.g s.g=v:=⟨_,rfl⟩
        have E6:((s0.g:Int)+s.g)%4294967296=(r6:Int):=by rw[<-hr6];rfl
        have D6:IntKind.u32.wrap ((s0.g:Int)+s.g)=(r6:Int):=by rw[<-hr6];rfl
        obtain⟨r7,hr7⟩:∃v,Br s0.h s.h=v:=⟨_,rfl⟩
        have E7:((s0.h:Int)+s.h)%4294967296=(r7:Int):=by rw[<-hr7];rfl
        have D7:IntKind.u32.wrap ((s0.h:Int)+s.h)=(r7:Int):=by rw[<-hr7];rfl
        have HR:Aa (Qo H m=[r0,r1,r2,r3,r4,r5,r6,r7]):=⟨by
         unfold Qo fL;rw[HW.out,HS0.out,<-HS.out];have e1:H=s0.list:=by rw[<-HS0.out];exact(St.list_of HHl.out.1).symm
         rw[e1,<-hr0,<-hr1,<-hr2,<-hr3,<-hr4,<-hr5,<-hr6,<-hr7];rfl⟩
        have HB5:Aa (Kf w wr H):=⟨hB5⟩
        have HI:=Ab (Nl (l:=[r0,r1,r2,r3,r4,r5,r6,r7]) rfl);have H1:=Ab (Nc [r0,r1,r2,r3,r4,r5,r6,r7]);clear hr0 hr1 hr2 hr3 hr4 hr5 hr6 hr7 hB5
        go_wp2_with (refine wpList_store_row rfl 250 _ _ rfl (w.heap.size+1+1) (Et [r0,r1,r2,r3,r4,r5,r6,r7]) rfl rfl 250 (zeros .u32 8) HB5.out.r HI.out rfl H1.out ?_)
        have hend:=setRow_heap wr (w.heap.size+1+1) (zeros .u32 8) (Et [r0,r1,r2,r3,r4,r5,r6,r7]) 250 (0,0) HB5.out.r;refine bodyPost_ret (v:=.agg (Et [r0,r1,r2,r3,r4,r5,r6,r7])) (results_cell_row Tryz.results206 _ _ (w.heap.size+1+1) 250 _ (0,0) _ rfl hend Tryz.underlying250 rfl HI.out) rfl ⟨by rw[HR.out],below_setRow HB5.out.bel (by omega) _⟩
end Go.Proofs.YtokhckjemidbpaaGreatDoor
