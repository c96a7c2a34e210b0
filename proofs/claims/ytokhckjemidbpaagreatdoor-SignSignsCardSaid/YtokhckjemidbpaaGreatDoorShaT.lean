/- A block more. -/
import Derived.Test.YtokhckjemidbpaaGreatDoorPock
import Derived.Laws.BitsAllLaws
import Derived.Deep.QuietTactic
import Derived.BigQuiet
import Derived.BigRegion
import Derived.Laws.CopyOwn
import Derived.WalkSmall
import Derived.Test.YtokhckjemidbpaaGreatDoorFlow
set_option maxRecDepth 1000000
set_option maxHeartbeats 16000000
set_option linter.all false
namespace Go.Proofs.YtokhckjemidbpaaGreatDoor
open Go
def rr (x n:Nat):Nat:=x*2^(32-n)%4294967296 ||| x/2^n
def Br (x y:Nat):Nat:=(x+y)%4294967296
def pF (x:Nat):Nat:=rr x 7 ^^^ rr x 18 ^^^ x/8
def pE (x:Nat):Nat:=rr x 17 ^^^ rr x 19 ^^^ x/1024
def rI (x:Nat):Nat:=rr x 2 ^^^ rr x 13 ^^^ rr x 22
def rH (x:Nat):Nat:=rr x 6 ^^^ rr x 11 ^^^ rr x 25
def ch (e f g:Nat):Nat:=e &&& f ^^^ (4294967295-e) &&& g
def rD (a b c:Nat):Nat:=a &&& b ^^^ a &&& c ^^^ b &&& c
theorem Dz {x n:Nat}(hx:x<4294967296):rr x n<4294967296:=by
 unfold rr;exact Nat.or_lt_two_pow (n:=32) (Nat.mod_lt _ (by omega)) (Nat.lt_of_le_of_lt (Nat.div_le_self _ _) hx)
theorem Fz (x y:Nat):Br x y<4294967296:=Nat.mod_lt _ (by omega)
theorem Cf {x y:Nat}(hx:x<4294967296)(hy:y<4294967296):x ^^^ y<4294967296:=Nat.xor_lt_two_pow (n:=32) hx hy
theorem Fy {x y:Nat}(hy:y<4294967296):x &&& y<4294967296:=Nat.and_lt_two_pow (n:=32) _ hy
theorem Gc {x y:Nat}(hx:x<4294967296)(hy:y<4294967296):x ||| y<4294967296:=Nat.or_lt_two_pow (n:=32) hx hy
def Oz (ws:List Nat)(t:Nat):Nat:=Br (Br (Br (pE (ws.getD (t-2) 0)) (ws.getD (t-7) 0)) (pF (ws.getD (t-15) 0))) (ws.getD (t-16) 0)
def Jv (m:List Nat)(t:Nat):Nat:=m.getD (4*t) 0*16777216 ||| m.getD (4*t+1) 0*65536 ||| m.getD (4*t+2) 0*256 ||| m.getD (4*t+3) 0
def Bk (m:List Nat):Nat->List Nat
 | 0=>[]
 | t+1=>Bk m t++[if t<16 then Jv m t else Oz (Bk m t) t]
theorem Bl (m:List Nat)(t:Nat):(Bk m t).length=t:=by
 induction t with
 | zero=>rfl
 | succ t ih=>simp[Bk,ih]
theorem fB {m:List Nat}(hm:Au m)(t:Nat):Jv m t<4294967296:=by
 have h0:=hm.get (4*t);have h1:=hm.get (4*t+1);have h2:=hm.get (4*t+2);have h3:=hm.get (4*t+3);unfold Jv;exact Gc (Gc (Gc (by omega) (by omega)) (by omega)) (by omega)
theorem Jm {m:List Nat}(hm:Au m)(t:Nat):Words (Bk m t):=by
 induction t with
 | zero=>exact Words.nil
 | succ t ih=>
  refine ih.snoc ?_;split
  .exact fB hm t
  .exact Fz _ _
structure St where
 a:Nat
 b:Nat
 c:Nat
 d:Nat
 e:Nat
 f:Nat
 g:Nat
 h:Nat
def St.ok (s:St):Prop:=s.a<4294967296/\s.b<4294967296/\s.c<4294967296/\s.d<4294967296/\s.e<4294967296/\s.f<4294967296/\s.g<4294967296/\s.h<4294967296
def St.list (s:St):List Nat:=[s.a,s.b,s.c,s.d,s.e,s.f,s.g,s.h]
def St.of (l:List Nat):St:=⟨l.getD 0 0,l.getD 1 0,l.getD 2 0,l.getD 3 0,l.getD 4 0,l.getD 5 0,l.getD 6 0,l.getD 7 0⟩
def fD (s:St)(k w:Nat):Nat:=Br (Br (Br (Br s.h (rH s.e)) (ch s.e s.f s.g)) k) w
def jK (s:St):Nat:=Br (rI s.a) (rD s.a s.b s.c)
def rC (s:St)(k w:Nat):St:=⟨Br (fD s k w) (jK s),s.a,s.b,s.c,Br s.d (fD s k w),s.e,s.f,s.g⟩
def Uw (K W:List Nat)(s:St):Nat->St
 | 0=>s
 | t+1=>rC (Uw K W s t) (K.getD t 0) (W.getD t 0)
theorem pU {s:St}(h:s.ok)(k w:Nat):(rC s k w).ok:=by
 obtain⟨h1,h2,h3,h4,h5,h6,h7,h8⟩:=h;exact⟨Fz _ _,h1,h2,h3,Fz _ _,h5,h6,h7⟩
theorem Xf {K W:List Nat}{s:St}(h:s.ok):∀t,(Uw K W s t).ok
 | 0=>h
 | t+1=>pU (Xf h t) _ _
theorem St.of_ok {l:List Nat}(h:Words l):(St.of l).ok:=⟨h.get _,h.get _,h.get _,h.get _,h.get _,h.get _,h.get _,h.get _⟩
theorem St.list_of {l:List Nat}(h:l.length=8):(St.of l).list=l:=by
 match l,h with
 | [a,b,c,d,e,f,g,x],_=>rfl
theorem St.list_words {s:St}(h:s.ok):Words s.list:=by
 obtain⟨h1,h2,h3,h4,h5,h6,h7,h8⟩:=h;intro x hx;simp only[St.list,List.mem_cons,List.not_mem_nil,or_false]at hx;rcases hx with rfl|rfl|rfl|rfl|rfl|rfl|rfl|rfl<;>assumption
def fL (H G:List Nat):List Nat:=List.zipWith Br H G
def Dt:List Nat:=[1116352408,1899447441,3049323471,3921009573,961987163,1508970993,2453635748,2870763221,3624381080,310598401,607225278,1426881987,1925078388,2162078206,2614888103,3248222580,3835390401,4022224774,264347078,604807628,770255983,1249150122,1555081692,1996064986,2554220882,2821834349,2952996808,3210313671,3336571891,3584528711,113926993,338241895,666307205,773529912,1294757372,1396182291,1695183700,1986661051,2177026350,2456956037,2730485921,2820302411,3259730800,3345764771,3516065817,3600352804,4094571909,275423344,430227734,506948616,659060556,883997877,958139571,1322822218,1537002063,1747873779,1955562222,2024104815,2227730452,2361852424,2428436474,2756734187,3204031479,3329325298]
def Ea:List Nat:=[1779033703,3144134277,1013904242,2773480762,1359893119,2600822924,528734635,1541459225]
theorem Ff:Dt.length=64:=by kernel_rfl
theorem Pj:Ea.length=8:=rfl
theorem Zx:Words Ea:=by
 have:Ea.all (fun x=>decide (x<4294967296))=true:=by kernel_rfl
 intro x hx;exact of_decide_eq_true (List.all_eq_true.1 this x hx)
theorem Ts:Words Dt:=by
 have:Dt.all (fun x=>decide (x<4294967296))=true:=by kernel_rfl
 intro x hx;exact of_decide_eq_true (List.all_eq_true.1 this x hx)
def Qo (H m:List Nat):List Nat:=fL H (Uw Dt (Bk m 64) (St.of H) 64).list
theorem aW {H m:List Nat}(h:H.length=8):(Qo H m).length=8:=by simp[Qo,fL,St.list,h]
theorem dL (H m:List Nat):Words (Qo H m):=by
 intro x hx;unfold Qo fL at hx;rw[List.mem_iff_getElem]at hx
 obtain⟨i,hi,rfl⟩:=hx;rw[List.getElem_zipWith];exact Fz _ _
def blocks (m:List Nat):Nat->List Nat
 | 0=>Ea
 | n+1=>Qo (blocks m n) ((m.drop (64*n)).take 64)
theorem Cy (m:List Nat):∀n,(blocks m n).length=8
 | 0=>rfl
 | n+1=>aW (Cy m n)
theorem Ip (m:List Nat):∀n,Words (blocks m n)
 | 0=>Zx
 | _+1=>dL _ _
theorem Kc {m b:List Nat}:∀ {n:Nat},64*n<=m.length->blocks (m++b) n=blocks m n
 | 0,_=>rfl
 | n+1,h=>by
  rw[blocks,blocks,Kc (by omega),List.drop_append_of_le_length (by omega),List.take_append_of_le_length (by simp;omega)]
def Yp (N:Nat):List Nat:=(List.range 8).map fun i=>N/2^(8*(7-i))%256
def Bj (n:Nat):Nat:=(119-n%64)%64
def behind (n:Nat):List Nat:=128::(List.replicate (Bj n) 0++Yp (n*8%18446744073709551616))
def Ft (x:Nat):List Nat:=[x/16777216%256,x/65536%256,x/256%256,x%256]
def Ie (m:List Nat):List Nat:=(blocks (m++behind m.length) ((m.length+(behind m.length).length)/64)).flatMap Ft
theorem Jj (N:Nat):(Yp N).length=8:=by simp[Yp]
theorem Hu (n:Nat):(behind n).length=Bj n+9:=by simp[behind,Jj]
theorem dV (n:Nat):(n+(behind n).length)%64=0:=by rw[Hu];unfold Bj;omega
theorem iS (N:Nat):Au (Yp N):=by
 intro x hx;simp only[Yp,List.mem_map]at hx;obtain⟨i,_,rfl⟩:=hx;exact Nat.mod_lt _ (by omega)
theorem Pt (n:Nat):Au (behind n):=by
 intro x hx;simp only[behind,List.mem_cons,List.mem_append,List.mem_replicate]at hx;rcases hx with rfl|⟨_,rfl⟩|hx
 .omega
 .omega
 .exact iS _ x hx
theorem Cd (m:List Nat):(Ie m).length=32:=by
 have h:=Cy (m++behind m.length) ((m.length+(behind m.length).length)/64);unfold Ie;generalize blocks (m++behind m.length) ((m.length+(behind m.length).length)/64)=l at h
 match l,h with
 | [a,b,c,d,e,f,g,x],_=>rfl
theorem Ev (m:List Nat):Au (Ie m):=by
 intro x hx;unfold Ie at hx;rw[List.mem_flatMap]at hx
 obtain⟨y,_,hy⟩:=hx;simp only[Ft,List.mem_cons,List.not_mem_nil,or_false]at hy;omega
open Go Go.RowKit
theorem bZ (w:World)(x n:Nat)(hx:x<4294967296)(h1:1<=n)(h2:n<=31) :
  Calls Tryz.prog 253 #[.int .u32 x,.int .i64 (-(n:Int))] w fun e w'=>e=.returned (.int .u32 (rr x n))/\w'=w:=by
 have ha:bits BinOp.and IntKind.u64 (IntKind.u64.wrap (-(n:Int))) 31=((32-n:Nat):Int):=by
  have:∀n:Fin 32,1<=n.1->bits BinOp.and IntKind.u64 (IntKind.u64.wrap (-((n.1:Nat):Int))) 31=((32-n.1:Nat):Int):=by decide
  exact this ⟨n,by omega⟩ h1
 go_enter Tryz.func253,Tryz.ntmps253;go_wp2;go_ret;refine⟨?_,rfl⟩;have e1:(x:Int)*2^(32-n)%4294967296=((x*2^(32-n)%4294967296:Nat):Int):=by rw[Int.natCast_emod,Int.natCast_mul,Int.natCast_pow];rfl
 have e2:(x:Int)/2^(32-(32-n))=((x/2^n:Nat):Int):=by rw[show 32-(32-n)=n by omega,Int.natCast_ediv,Int.natCast_pow];rfl
 have e3:=u32_or_nat (x*2^(32-n)%4294967296) (x/2^n) (Nat.mod_lt _ (by omega)) (Nat.lt_of_le_of_lt (Nat.div_le_self _ _) hx);show Ending.returned (.int .u32 (bits BinOp.or IntKind.u32 ((x:Int)*2^(32-n)%4294967296) ((x:Int)/2^(32-(32-n)))))=_;rw[e1,e2,e3];rfl
theorem Dy (w:World)(x n:Nat)(hx:x<4294967296)(h1:1<=n)(h2:n<=31) :
  Calls Tryz.prog 244 #[.int .u32 x,.int .i64 n] w fun e w'=>e=.returned (.int .u32 (rr x n))/\w'=w:=by
 go_enter Tryz.func244,Tryz.ntmps244
 go_wp2_with fail
 refine(bZ _ x n hx h1 h2).mono ?_;rintro e w1 ⟨rfl,rfl⟩;go_wp2;go_ret;exact⟨rfl,rfl⟩
theorem oE {e:Nat}(he:e<4294967296)(i:Nat):(4294967295-e).testBit i=(decide (i<32) && !e.testBit i):=by
 have h:=Nat.testBit_two_pow_sub_succ (n:=32) (x:=e) (by omega) i;rw[<-h]
 congr 1
 omega
theorem qV {e f g:Nat}(he:e<4294967296):e &&& f ||| (4294967295-e) &&& g=ch e f g:=by
 unfold ch;refine Nat.eq_of_testBit_eq fun i=>?_
 simp only[Nat.testBit_or,Nat.testBit_xor,Nat.testBit_and,oE he];cases e.testBit i<;>cases f.testBit i<;>cases g.testBit i<;>simp
theorem pX (a b c:Nat):a &&& b ||| a &&& c ||| b &&& c=rD a b c:=by
 unfold rD;refine Nat.eq_of_testBit_eq fun i=>?_
 simp only[Nat.testBit_or,Nat.testBit_xor,Nat.testBit_and];cases a.testBit i<;>cases b.testBit i<;>cases c.testBit i<;>rfl
theorem Dx (w:World)(x n:Nat)(hx:x<4294967296)(h1:1<=n)(h2:n<=31) :
  Calls Tryz.prog 230 #[.int .u32 x,.int .u64 n] w fun e w'=>e=.returned (.int .u32 (rr x n))/\w'=w:=by
 go_enter Tryz.func230,Tryz.ntmps230;go_wp2;go_ret;refine⟨?_,rfl⟩;have e1:(x:Int)*2^(32-n)%4294967296=((x*2^(32-n)%4294967296:Nat):Int):=by rw[Int.natCast_emod,Int.natCast_mul,Int.natCast_pow];rfl
 have e2:(x:Int)/2^n=((x/2^n:Nat):Int):=by rw[Int.natCast_ediv,Int.natCast_pow];rfl
 have e3:=u32_or_nat (x/2^n) (x*2^(32-n)%4294967296) (Nat.lt_of_le_of_lt (Nat.div_le_self _ _) hx) (Nat.mod_lt _ (by omega));show Ending.returned (.int .u32 (bits BinOp.or IntKind.u32 ((x:Int)/2^n) ((x:Int)*2^(32-n)%4294967296)))=_;rw[e1,e2,e3,Nat.or_comm];rfl
theorem Ow (m:List Nat)(t:Nat)(ht:t<64)(x:Nat)(hx:x=if t<16 then Jv m t else Oz (Bk m t) t) :
  (Bk m t++List.replicate (64-t) 0).set t x=Bk m (t+1)++List.replicate (64-(t+1)) 0:=by
 rw[List.set_append_right _ _ (by rw[Bl];exact As _),Bl,Nat.sub_self,Bk,<-hx];rw[show 64-t=(64-(t+1))+1 by omega,List.replicate_succ,List.set_cons_zero];simp
theorem Vo (w:World)(b off l:Nat)(k:IntKind)(i:Int)(hi:i=(l:Nat))(hl:l<64) :
  (Instr.sliceAt 272 (.pointer (some ⟨b,off,none⟩)) (some (.int k i)) none none).run Tryz.prog w=.ok (.slice (some ⟨b,off+l,none⟩) (64-l) (64-l)) w:=by
 subst hi;have hlen:Tryz.prog.arrayLen 272 = 64:=by kernel_rfl
 have h:=run_sliceAt_array_l w 272 ⟨b,off,none⟩ Tryz.underlying272 k (l:Int) (by omega) (by rw[hlen];omega);rw[h,hlen];have hs:(sizeOf (Tryz.prog.elem 272)).run Tryz.prog w=.ok 1 w:=by
  have:Tryz.prog.elem 272 = 5 := by kernel_rfl
  rw[this];simp[go_sem]
 rw[hs];simp[slicedAt,Addr.add,show (64:Nat)≠l by omega]
theorem Yr (w:World)(b off:Nat)(bs:List Nat)(hl:bs.length=64)(h8:Au bs)(hb:b<w.heap.size)(hc:∀(i x:Nat),bs[i]? = some x->w.cell? ⟨b,off+i,none⟩=some (.int .u8 (x:Int))) :
  Calls Tryz.prog 243 #[.pointer (some ⟨b,off,none⟩)] w fun e w'=>e=.returned (.agg ((Bk bs 64).map fun(x:Nat)=>Value.int .u32 (x:Int)).toArray)/\Below w.heap.size w w':=by
 have HC:=Ag hc;clear hc;go_enter Tryz.func243,Tryz.ntmps243;go_wp2
 go_loopw [9] (fun i wr=>∃k:Nat,k<=16/\i=.int .i64 k/\w.heap.size+1<wr.heap.size/\Below w.heap.size w wr/\Bm wr w.heap.size 249 .u32 (List.replicate 64 0)/\Bm wr (w.heap.size+1) 249 .u32 (Bk bs k++List.replicate (64-k) 0)) (fun i _=>16-(intOf i).toNat)
 case atStart=>
  refine⟨0,by omega,rfl,by simp,((Bb _ _).alloc (As _) _).alloc (by simp) _,?_,?_⟩
  .exact(Bm.zeros w 249 .u32 64).alloc _
  .have:=Bm.zeros (w.alloc (.cells (zeros .u32 64) 249)) 249 .u32 64;rw[show (w.alloc (.cells (zeros .u32 64) 249)).heap.size=w.heap.size+1 by simp]at this
   exact this
 case round=>
  obtain⟨k,hk,rfl,hsz,hbel,hres,hblk⟩:=hrel
  by_cases hk16:k<16
  .have hsl:=fun wx=>Vo wx b off (k*4) .i64 ((k:Int)*4) (by omega) (by omega)
   have hcb:∀j,j<64->wr.cell? ⟨b,off+j,none⟩=some (.int .u8 ((bs.getD j 0:Nat):Int)):=fun j hj=>by
    rw[(Ca hbel).1 _ _ hb];exact HC.out j _ (by rw[Du];simp[show j<bs.length by omega])
   have d0:=hcb (k*4) (by omega);have d1:=hcb (k*4+1) (by omega);have d2:=hcb (k*4+2) (by omega);have d3:=hcb (k*4+3) (by omega);have hy:Hid (Jv bs k=bs.getD (k*4) 0*16777216 ||| bs.getD (k*4+1) 0*65536 ||| bs.getD (k*4+2) 0*256 ||| bs.getD (k*4+3) 0):=by
    rw[Nat.mul_comm k 4];rfl
   have g0:=h8.get (k*4);have g1:=h8.get (k*4+1);have g2:=h8.get (k*4+2);have g3:=h8.get (k*4+3);generalize bs.getD (k*4) 0=x0 at *;generalize bs.getD (k*4+1) 0=x1 at *;generalize bs.getD (k*4+2) 0=x2 at *;generalize bs.getD (k*4+3) 0=x3 at *;rw[<-Nat.add_assoc]at d1 d2 d3
   have e0:=hblk.cell (i:=k) (x:=0) (by rw[List.getElem?_append_right (by rw[Bl];exact As _),Bl];simp[List.getElem?_replicate];omega);have e1:=hblk.free k;have hne:b≠w.heap.size+1:=by omega
   clear hcb;go_wp2;have hv:bits BinOp.or IntKind.u32 (bits BinOp.or IntKind.u32 (bits BinOp.or IntKind.u32 ((x0:Int)*16777216) ((x1:Int)*65536)) ((x2:Int)*256)) (x3:Int)=((Jv bs k:Nat):Int):=by
    rw[hy.out];rw[show ((x0:Int)*16777216)=((x0*16777216:Nat):Int) by omega,show ((x1:Int)*65536)=((x1*65536:Nat):Int) by omega,show ((x2:Int)*256)=((x2*256:Nat):Int) by omega];rw[u32_or_nat _ _ (by omega) (by omega),u32_or_nat _ _ (Gc (by omega) (by omega)) (by omega),u32_or_nat _ _ (Gc (Gc (by omega) (by omega)) (by omega)) (by omega)]
   go_region
   go_wp2;go_roundw
   case rel=>
    refine⟨k+1,by omega,by go_num,by simpa using hsz,?_,?_,?_⟩
    .exact(hbel.setCell (by simp) _).drew
    .exact hres.other (by simp) _
    .rw[<-Ow bs k (by omega) _ rfl,if_pos hk16];exact hblk.set k _
   case measure=>simp[intOf];omega
  .obtain rfl:k=16:=by omega
   go_wp2
   go_loopw [6] (fun i w2=>∃t:Nat,16<=t/\t<=64/\i=.int .i64 t/\w.heap.size+1<w2.heap.size/\Below w.heap.size w w2/\Bm w2 w.heap.size 249 .u32 (List.replicate 64 0)/\Bm w2 (w.heap.size+1) 249 .u32 (Bk bs t++List.replicate (64-t) 0)) (fun i _=>64-(intOf i).toNat)
   case atStart=>exact⟨16,by omega,by omega,rfl,hsz,hbel,hres,hblk⟩
   case round=>
    obtain⟨t,ht1,ht2,rfl,hsz2,hbel2,hres2,hblk2⟩:=hrel
    by_cases ht:t<64
    .have HS:=Ag (Ow bs t ht _ rfl);rw[if_neg (by omega)]at HS
     have hw:=Jm h8 t;have hgc:∀j,j<t->wr.cell? ⟨w.heap.size+1,j,none⟩=some (.int .u32 (((Bk bs t).getD j 0:Nat):Int)):=fun j hj=>hblk2.cell (by
      rw[List.getElem?_append_left (by rw[Bl];exact hj),Du,List.getElem?_eq_getElem (by rw[Bl];exact hj)];rfl)
     have hy:Hid (Oz (Bk bs t) t=Br (Br (Br (pE ((Bk bs t).getD (t-2) 0)) ((Bk bs t).getD (t-7) 0)) (pF ((Bk bs t).getD (t-15) 0))) ((Bk bs t).getD (t-16) 0)):=rfl;have e0:=hblk2.cell (i:=t) (x:=0) (by rw[List.getElem?_append_right (by rw[Bl];exact As _),Bl];simp[List.getElem?_replicate];omega);have e1:=hblk2.free t;obtain⟨p,hp16⟩:∃p,t=p+16:=⟨t-16,by omega⟩
     rw[show t-2=p+14 by omega,show t-7=p+9 by omega,show t-15=p+1 by omega,show t-16=p by omega]at hy
     have hp1:p+16<=t:=by omega
     have hp2:t<=p+16:=by omega
     clear hp16;have c15:=hgc (p+1) (by omega);have c2:=hgc (p+14) (by omega);have c7:=hgc (p+9) (by omega);have c16:=hgc p (by omega);have b15:=hw.get (p+1);have b2:=hw.get (p+14);have b7:=hw.get (p+9);have b16:=hw.get p;clear hgc hw;generalize (Bk bs t).getD (p+1) 0=x15 at *;generalize (Bk bs t).getD (p+14) 0=x2 at *;generalize (Bk bs t).getD (p+9) 0=x7 at *;generalize (Bk bs t).getD p 0=x16 at *;go_wp2;have t15:IntKind.i64.wrap ((t:Int)-15)=((p+1:Nat):Int):=by rw[IntWalk.i64_in _ (by omega)];omega
     have t2:IntKind.i64.wrap ((t:Int)-2)=((p+14:Nat):Int):=by rw[IntWalk.i64_in _ (by omega)];omega
     have t7:IntKind.i64.wrap ((t:Int)-7)=((p+9:Nat):Int):=by rw[IntWalk.i64_in _ (by omega)];omega
     have t16:IntKind.i64.wrap ((t:Int)-16)=(p:Int):=by rw[IntWalk.i64_in _ (by omega)];omega
     have q15:((p+1:Nat):Int)<64:=by omega
     have q2:((p+14:Nat):Int)<64:=by omega
     have q7:((p+9:Nat):Int)<64:=by omega
     have q16:(p:Int)<64:=by omega
     go_quiet ((go_at_call 244;first|exact Calls.quiet_of_same (Dy _ x15 7 b15 (by omega) (by omega))|exact Calls.quiet_of_same (Dy _ x15 18 b15 (by omega) (by omega))))
     have hs0:bits BinOp.xor IntKind.u32 (bits BinOp.xor IntKind.u32 ((rr x15 7:Nat):Int) ((rr x15 18:Nat):Int)) ((x15:Int)/8)=((pF x15:Nat):Int):=by
      rw[show ((x15:Int)/8)=((x15/8:Nat):Int) by omega,u32_xor_nat _ _ (Dz b15) (Dz b15),u32_xor_nat _ _ (Cf (Dz b15) (Dz b15)) (by omega)];rfl
     rw[hs0];have HS0:pF x15<4294967296:=Cf (Cf (Dz b15) (Dz b15)) (by omega);generalize pF x15=z0 at *;have c2':(wr.drewN nq).cell? ⟨w.heap.size+1,p+14,none⟩=some (.int .u32 x2):=c2;have c7':(wr.drewN nq).cell? ⟨w.heap.size+1,p+9,none⟩=some (.int .u32 x7):=c7;have c16':(wr.drewN nq).cell? ⟨w.heap.size+1,p,none⟩=some (.int .u32 x16):=c16;have e0':(wr.drewN nq).cell? ⟨w.heap.size+1,t,none⟩=some (.int .u32 (0:Nat)):=e0;have e1':(wr.drewN nq).frozen? ⟨w.heap.size+1,t,none⟩=false:=e1;have hblk':Bm (wr.drewN nq) (w.heap.size+1) 249 .u32 (Bk bs t++List.replicate (64-t) 0):=hblk2;have hres':Bm (wr.drewN nq) w.heap.size 249 .u32 (List.replicate 64 0):=hres2;have hbel':Below w.heap.size w (wr.drewN nq):=below_drewN hbel2 _;have hsz':w.heap.size+1<(wr.drewN nq).heap.size:=hsz2;clear c2 c7 c16 e0 e1 hblk2 hres2 hbel2 hsz2 c15;go_wp2;generalize wr.drewN nq=w5 at *
     go_quiet ((go_at_call 244;first|exact Calls.quiet_of_same (Dy _ x2 17 b2 (by omega) (by omega))|exact Calls.quiet_of_same (Dy _ x2 19 b2 (by omega) (by omega))))
     have hs1:bits BinOp.xor IntKind.u32 (bits BinOp.xor IntKind.u32 ((rr x2 17:Nat):Int) ((rr x2 19:Nat):Int)) ((x2:Int)/1024)=((pE x2:Nat):Int):=by
      rw[show ((x2:Int)/1024)=((x2/1024:Nat):Int) by omega,u32_xor_nat _ _ (Dz b2) (Dz b2),u32_xor_nat _ _ (Cf (Dz b2) (Dz b2)) (by omega)];rfl
     rw[hs1];have HS1:pE x2<4294967296:=Cf (Cf (Dz b2) (Dz b2)) (by omega);generalize pE x2=z1 at *;have d7:(w5.drewN nq).cell? ⟨w.heap.size+1,p+9,none⟩=some (.int .u32 x7):=c7';have d16:(w5.drewN nq).cell? ⟨w.heap.size+1,p,none⟩=some (.int .u32 x16):=c16';have f0:(w5.drewN nq).cell? ⟨w.heap.size+1,t,none⟩=some (.int .u32 (0:Nat)):=e0';have f1:(w5.drewN nq).frozen? ⟨w.heap.size+1,t,none⟩=false:=e1';have hblk5:Bm (w5.drewN nq) (w.heap.size+1) 249 .u32 (Bk bs t++List.replicate (64-t) 0):=hblk';have hres5:Bm (w5.drewN nq) w.heap.size 249 .u32 (List.replicate 64 0):=hres';have hbel5:Below w.heap.size w (w5.drewN nq):=below_drewN hbel' _;have hsz5:w.heap.size+1<(w5.drewN nq).heap.size:=hsz';clear c2' c7' c16' e0' e1' hblk' hres' hbel' hsz' hs0 hs1 t15 t2 q15 q2 b15 b2;go_wp2;generalize w5.drewN nq=w6 at *
     go_region
     have hv:((z1:Int)+x7+z0+x16)%4294967296=((Oz (Bk bs t) t:Nat):Int):=by
      rw[hy.out];unfold Br;omega
     rw[hv];go_wp2;go_roundw
     case rel=>
      refine⟨t+1,by omega,by omega,by go_num,by simpa using hsz5,?_,?_,?_⟩
      .exact(hbel5.setCell (by simp) _).drew
      .exact hres5.other (by simp) _
      .have:=hblk5.set t (Oz (Bk bs t) t);rw[HS.out]at this
       exact this
     case measure=>simp[intOf];omega
    .obtain rfl:t=64:=by omega
     have hi64:(Tryz.prog.info? 249).map (·.size)=some ((Bk bs 64).map fun(x:Nat)=>Value.int .u32 x).toArray.size:=by
      rw[show ((Bk bs 64).map fun(x:Nat)=>Value.int .u32 x).toArray.size=64 by simp[Bl]];kernel_rfl
     have hi64:=Ag hi64;have h1:=Ag (Mi .u32 (Bk bs 64));have hsz1:Hid (((List.replicate 64 0).map fun(x:Nat)=>Value.int .u32 x).toArray.size=((Bk bs 64).map fun(x:Nat)=>Value.int .u32 x).toArray.size):=Ag (by simp[Bl]);rw[Nat.sub_self,List.replicate_zero,List.append_nil]at hblk2
     have HB:=Ag hblk2;have HR:=Ag hres2;clear hblk2 hres2
     go_wp2_with (first|(refine wpList_load_row rfl 249 _ rfl (w.heap.size+1) rfl 249 ((Bk bs 64).map fun(x:Nat)=>Value.int .u32 x).toArray (0,0) _ HB.out Tryz.underlying249 rfl hi64.out ?_)|(refine wpList_store_row rfl 249 _ _ rfl w.heap.size ((Bk bs 64).map fun(x:Nat)=>Value.int .u32 x).toArray rfl rfl 249 ((List.replicate 64 0).map fun(x:Nat)=>Value.int .u32 x).toArray HR.out hi64.out hsz1.out h1.out ?_))
     have hend:=setRow_heap wr w.heap.size ((List.replicate 64 0).map fun(x:Nat)=>Value.int .u32 x).toArray ((Bk bs 64).map fun(x:Nat)=>Value.int .u32 x).toArray 249 (0,0) HR.out;refine bodyPost_ret (v:=.agg ((Bk bs 64).map fun(x:Nat)=>Value.int .u32 x).toArray) (results_cell_row Tryz.results243 _ _ w.heap.size 249 _ (0,0) _ rfl hend Tryz.underlying249 rfl hi64.out) rfl ⟨rfl,below_setRow hbel2 (As _) _⟩
structure Aa (p:Prop):Prop where
 out:p
theorem Ab {p:Prop}(h:p):Aa p:=⟨h⟩
structure De (p:Prop):Prop where
 out:p
theorem fA {P:Program}{ops:Array Oper}{rest:List Oper}{a:Act}{Q:Exit->Act->World->Prop}{w w':World}(h:w=w')(k:wpList P ops Q rest a w'):wpList P ops Q rest a w:=h ▸ k
structure Dg (g:Nat) (w w':World):Prop where
 os:w'.os=w.os
 tape:w'.tape=w.tape
 output:w'.output=w.output
 size:w.heap.size<=w'.heap.size
 block:∀k,k<w.heap.size->k≠g->w'.heap[k]? = w.heap[k]?
theorem Dg.refl (g:Nat)(w:World):Dg g w w:=⟨rfl,rfl,rfl,As _,fun _ _ _=>rfl⟩
theorem Dg.trans {g:Nat}{a b c:World}(h:Dg g a b)(k:Dg g b c):Dg g a c :=
 ⟨k.os.trans h.os,k.tape.trans h.tape,k.output.trans h.output,Dn h.size k.size,fun i hi hn=>(k.block i (Ej hi h.size) hn).trans (h.block i hi hn)⟩
theorem Dg.of {g:Nat}{w w':World}(h:Below w.heap.size w w'):Dg g w w':=⟨h.os,h.tape,h.output,h.size,fun k hk _=>h.block k hk⟩
theorem Dg.below {g:Nat}{w w':World}(h:Dg g w w'){B:Nat}(hg:B<=g)(hB:B<=w.heap.size):Below B w w' :=
 ⟨h.os,h.tape,h.output,h.size,fun k hk=>h.block k (by omega) (by omega)⟩
theorem Dg.setRow {g:Nat}(w:World)(cs:Array Value):Dg g w (w.setRow g cs):=⟨rfl,rfl,rfl,by simp[World.setRow],fun k _ hn=>setRow_other w g k cs hn⟩
theorem Dg.setCell {g:Nat}(w:World)(o:Nat)(u:Value):Dg g w (w.setCell ⟨g,o,none⟩ u):=⟨rfl,rfl,rfl,by simp[World.setCell],fun k _ hn=>Below.heap_setCell _ _ _ _ hn⟩
theorem Dg.drew {g:Nat}{w w':World}(h:Dg g w w'):Dg g w w'.drew:=⟨h.os,h.tape,h.output,h.size,h.block⟩
theorem Dg.cell {g:Nat}{w w':World}(h:Dg g w w'){p:Addr}(hp:p.block<w.heap.size)(hn:p.block≠g):w'.cell? p=w.cell? p:=World.cell?_of_block (w:=w) (h.block p.block hp hn)
theorem Mt {P:Program}{f:FuncId}{args:Array Value}{w w1:World}{Q:Ending->World->Prop}(h:w=w1)(k:Calls P f args w1 Q):Calls P f args w Q:=h ▸ k
theorem Bn {a b c:World}(h:Below a.heap.size a b)(k:Below b.heap.size b c):Below a.heap.size a c:=h.trans (k.mono h.size)
def Bt (st pend:List Nat)(len:Nat):List Value:=(st.map fun(x:Nat)=>Value.int .u32 x)++((pend.map fun(x:Nat)=>Value.int .u8 x)++[.int .u64 (len:Nat)])
theorem Nw {st pend:List Nat}{len:Nat}(hs:st.length=8)(hp:pend.length=64):(Bt st pend len).length=73:=by simp[Bt,hs,hp]
theorem In {st pend:List Nat}{len i:Nat}(hs:st.length=8)(hi:i<8):(Bt st pend len)[i]? = some (.int .u32 (st.getD i 0:Nat)):=by
 unfold Bt;rw[List.getElem?_append_left (by simp;omega),List.getElem?_map,Du];simp[show i<st.length by omega]
theorem Rk {st pend:List Nat}{len i:Nat}(hs:st.length=8)(hp:pend.length=64)(hi:i<64):(Bt st pend len)[8+i]? = some (.int .u8 (pend.getD i 0:Nat)):=by
 unfold Bt;rw[List.getElem?_append_right (by simp;omega),List.length_map,hs,Nat.add_sub_cancel_left,List.getElem?_append_left (by simp;omega),List.getElem?_map,Du];simp[show i<pend.length by omega]
theorem Li {st pend:List Nat}{len:Nat}(hs:st.length=8)(hp:pend.length=64):(Bt st pend len)[72]? = some (.int .u64 (len:Nat)):=by
 unfold Bt;rw[List.getElem?_append_right (by simp;omega),List.length_map,hs,List.getElem?_append_right (by simp;omega)];simp[hp]
theorem Qj {st pend:List Nat}{len i x:Nat}(hs:st.length=8)(hi:i<8):(Bt st pend len).set i (.int .u32 x)=Bt (st.set i x) pend len:=by
 unfold Bt;rw[List.set_append_left _ _ (by simp;omega),List.map_set]
theorem Ml {st pend:List Nat}{len x:Nat}(hs:st.length=8)(hp:pend.length=64):(Bt st pend len).set 72 (.int .u64 x)=Bt st pend x:=by
 unfold Bt;rw[List.set_append_right _ _ (by simp;omega),List.length_map,hs,List.set_append_right _ _ (by simp;omega)];simp[hp]
def Fn (w:World)(g:Nat)(st pend:List Nat)(len:Nat):Prop:=w.heap[g]? = some (.cells (Bt st pend len).toArray 278 (0,0))
theorem Fn.lt {w:World}{g:Nat}{st pend:List Nat}{len:Nat}(h:Fn w g st pend len):g<w.heap.size:=(Kv h).1
theorem Fn.cell {w:World}{g:Nat}{st pend:List Nat}{len:Nat}(h:Fn w g st pend len){i:Nat}{v:Value}(hv:(Bt st pend len)[i]? = some v):w.cell? ⟨g,i,none⟩=some v:=by
 unfold Fn at h;simp[World.cell?,h,hv]
theorem Fn.free {w:World}{g:Nat}{st pend:List Nat}{len:Nat}(h:Fn w g st pend len)(i:Nat):w.frozen? ⟨g,i,none⟩=false:=by
 unfold Fn at h;simp[World.frozen?,h]
theorem Fn.below {w w':World}{g:Nat}{st pend:List Nat}{len:Nat}(h:Fn w g st pend len){B:Nat}(hb:Below B w w')(hg:g<B):Fn w' g st pend len:=by
 unfold Fn at *;rw[hb.block g hg];exact h
theorem Fn.but {w w':World}{g k:Nat}{st pend:List Nat}{len:Nat}(h:Fn w g st pend len)(hb:Dg k w w')(hk:g≠k):Fn w' g st pend len:=by
 unfold Fn at *;rw[hb.block g (by exact(Kv h).1) hk];exact h
theorem Fn.set {w:World}{g:Nat}{st pend:List Nat}{len:Nat}(h:Fn w g st pend len)(i:Nat)(v:Value){st' pend':List Nat}{len':Nat}(he:(Bt st pend len).set i v=Bt st' pend' len') :
  Fn (w.setCell ⟨g,i,none⟩ v) g st' pend' len':=by
 unfold Fn at *;simp only[World.setCell,Array.getElem?_modify,if_true,h,Option.map_some];rw[<-he];simp
structure Tabs (w:World):Prop where
 first:∃t fr,w.heap[(0 : Nat)]? = some (.cells ((Ea.map fun(x:Nat)=>Value.int .u32 x).toArray) t fr)
 size:(max (0 : Nat) 2 + 1)<=w.heap.size
 kay:∀i,i<64->w.cell? ⟨2,i,none⟩=some (.int .u32 (Dt.getD i 0:Nat))
theorem Tabs.below {w w':World}(h:Tabs w){B:Nat}(hb:Below B w w')(hB:(max (0 : Nat) 2 + 1)<=B):Tabs w' :=
 ⟨by rw[hb.block _ (by omega)];exact h.first,Dn h.size hb.size,fun i hi=>by rw[hb.cell (p:=⟨2,i,none⟩) (by show (2 : Nat)<B;omega)];exact h.kay i hi⟩
theorem Tabs.but {w w':World}(h:Tabs w){g:Nat}(hb:Dg g w w')(hg:(max (0 : Nat) 2 + 1)<=g):Tabs w':=h.below (hb.below hg h.size) (As _)
structure Bv (w:World) (g:Nat) (m:List Nat):Prop where
 ex:∃pend,pend.length=64/\Au pend/\Fn w g (blocks m (m.length/64)) pend (m.length%18446744073709551616)/\pend.take (m.length%64)=m.drop (64*(m.length/64))
theorem Bv.below {w w':World}{g:Nat}{m:List Nat}(h:Bv w g m){B:Nat}(hb:Below B w w')(hg:g<B):Bv w' g m :=
 let ⟨p,h1,h2,h3,h4⟩:=h.ex
 ⟨p,h1,h2,h3.below hb hg,h4⟩
theorem Bv.but {w w':World}{g k:Nat}{m:List Nat}(h:Bv w g m)(hb:Dg k w w')(hg:g≠k):Bv w' g m :=
 let ⟨p,h1,h2,h3,h4⟩:=h.ex
 ⟨p,h1,h2,h3.but hb hg,h4⟩
theorem Bv.lt {w:World}{g:Nat}{m:List Nat}(h:Bv w g m):g<w.heap.size:=let ⟨_,_,_,h3,_⟩:=h.ex;h3.lt
open Go Go.RowKit Go.Proofs.YtokhckjemidbpaaGreatDoor.Flow
theorem pJ {e:Nat}(he:e<4294967296):bits BinOp.xor IntKind.u32 (if IntKind.u32.signed=true then -1 else IntKind.u32.max) (e:Int)=((4294967295-e:Nat):Int):=by
 have h1:(if IntKind.u32.signed=true then (-1:Int) else IntKind.u32.max)=((4294967295:Nat):Int):=by decide
 rw[h1,u32_xor_nat _ _ (by omega) he]
 congr 1
 have h2:BitVec.allOnes 32 ^^^ BitVec.ofNat 32 e = ~~~(BitVec.ofNat 32 e):=by rw[BitVec.allOnes_xor]
 have h3:=congrArg BitVec.toNat h2;rw[BitVec.toNat_xor,BitVec.toNat_not,BitVec.toNat_ofNat,BitVec.toNat_allOnes,Nat.mod_eq_of_lt (by omega)]at h3
 exact h3
def mixed (st sm:List Nat)(k:Nat):List Nat:=(List.zipWith Br st sm).take k++st.drop k
theorem cS (st sm:List Nat):mixed st sm 0=st:=by simp[mixed]
theorem gF {st sm:List Nat}(h:st.length=8)(hm:sm.length=8):mixed st sm 8=fL st sm:=by
 unfold mixed fL;rw[List.take_of_length_le (by simp;omega),List.drop_of_length_le (by omega),List.append_nil]
theorem Xp {st sm:List Nat}{k:Nat}(h:st.length=8)(hm:sm.length=8)(hk:k<=8):(mixed st sm k).length=8:=by simp[mixed,h,hm];omega
theorem gE {st sm:List Nat}{k:Nat}(h:st.length=8)(hk:k<8)(hm:sm.length=8:=by rfl):(mixed st sm k).getD k 0=st.getD k 0:=by
 unfold mixed;have hl:((List.zipWith Br st sm).take k).length=k:=by simp[h,hm];omega
 rw[Du,List.getElem?_append_right (by omega),hl,Nat.sub_self,List.getElem?_drop,Nat.add_zero,Du]
theorem gD {st sm:List Nat}{k:Nat}(h:st.length=8)(hm:sm.length=8)(hk:k<8):(mixed st sm k).set k (Br (st.getD k 0) (sm.getD k 0))=mixed st sm (k+1):=by
 unfold mixed;have hl:((List.zipWith Br st sm).take k).length=k:=by simp[h,hm];omega
 have e1:(List.zipWith Br st sm)[k]? = some (Br (st.getD k 0) (sm.getD k 0)):=by
  rw[List.getElem?_zipWith,Du,Du,List.getElem?_eq_getElem (by omega),List.getElem?_eq_getElem (by omega)];rfl
 rw[List.set_append_right _ _ (by omega),hl,Nat.sub_self,List.take_add_one,e1,List.drop_eq_getElem_cons (show k<st.length by omega),List.set_cons_zero];simp
theorem rG (a b c d e f g h k:Nat)(hk:k<8)(w:World) :
  (Instr.index 276 (.agg #[Value.int .u32 (a:Nat),Value.int .u32 (b:Nat),Value.int .u32 (c:Nat),Value.int .u32 (d:Nat),Value.int .u32 (e:Nat),Value.int .u32 (f:Nat),Value.int .u32 (g:Nat),Value.int .u32 (h:Nat)]) (.int .i64 (k:Nat))).run Tryz.prog w =
   .ok (.int .u32 ([a,b,c,d,e,f,g,h].getD k 0:Nat)) w:=by
 rcases(by omega:k=0 ∨ k=1 ∨ k=2 ∨ k=3 ∨ k=4 ∨ k=5 ∨ k=6 ∨ k=7) with rfl|rfl|rfl|rfl|rfl|rfl|rfl|rfl<;>kernel_rfl
theorem pZ (W:List Nat)(h:W.length=64):(Tryz.prog.info? 249).map (·.size)=some (W.map fun(x:Nat)=>Value.int .u32 x).toArray.size:=by
 rw[show (W.map fun(x:Nat)=>Value.int .u32 x).toArray.size=64 by simp[h]];kernel_rfl
theorem pO (W V:List Nat)(h:W.length=64)(hv:V.length=64):(V.map fun(x:Nat)=>Value.int .u32 x).toArray.size=(W.map fun(x:Nat)=>Value.int .u32 x).toArray.size:=by simp[h,hv]
theorem bP (w:World)(g:Nat)(st pend:List Nat)(len:Nat)(hT:Tabs w)(hs:st.length=8)(hst:Words st)(hp:pend.length=64)(h8:Au pend)(hH:Fn w g st pend len)(_hg:(max (0 : Nat) 2 + 1)<=g) :
  Calls Tryz.prog 224 #[.pointer (some ⟨g,0,none⟩),.pointer (some ⟨g,8,none⟩)] w fun e w'=>e=.returned (.tuple #[])/\Dg g w w'/\Fn w' g (Qo st pend) pend len:=by
 have hgl:=hH.lt;go_enter Tryz.func224,Tryz.ntmps224
 go_wp2_with fail
 refine(Yr w g 8 pend hp h8 hgl (fun i x hx=>?_)).mono ?_
 .have hi:i<64:=by have:=(List.getElem?_eq_some_iff.1 hx).1;omega
  refine hH.cell ?_;rw[Rk hs hp hi,Du,hx];rfl
 rintro e w1 ⟨rfl,hb1⟩;have hWl:=Bl pend 64;have hWw:=Jm h8 64;obtain⟨W,hW⟩:∃W,Bk pend 64=W:=⟨_,rfl⟩
 have HW:Aa (Bk pend 64=W):=⟨hW⟩
 rw[hW]at hWl hWw
 simp only[hW];clear hW;have hi64:=Ag (pZ W hWl);have h1:=Ag (Mi .u32 W);have hsz:=Ag (pO W (List.replicate 64 0) hWl (by simp));have hnew:=Ag (Bm.zeros w1 249 .u32 64)
 go_wp2_with (refine wpList_store_row rfl 249 _ _ rfl w1.heap.size (W.map fun(x:Nat)=>Value.int .u32 x).toArray rfl rfl 249 ((List.replicate 64 0).map fun(x:Nat)=>Value.int .u32 x).toArray hnew.out hi64.out hsz.out h1.out ?_)
 generalize hw2:World.setRow _ _ _=w2;have hb2:Below w.heap.size w w2:=by
  rw[<-hw2];exact below_setRow (hb1.alloc hb1.size _) hb1.size _
 have hblk:Bm w2 w1.heap.size 249 .u32 W:=by
  rw[<-hw2];exact setRow_heap _ w1.heap.size _ _ 249 (0,0) hnew.out
 have hs2:w1.heap.size<w2.heap.size:=hblk.lt;have hs1:=hb1.size;clear hw2 hnew hi64 h1 hsz hb1;have hH2:=hH.below hb2 hgl;have hT2:=hT.below hb2 hT.size;obtain⟨s0,hs0⟩:∃s:St,St.of st=s:=⟨_,rfl⟩
 have hok0:s0.ok:=by rw[<-hs0];exact St.of_ok hst
 have hcl:=fun(i:Nat) (hi:i<8)=>hH2.cell (In hs hi)
 have k0:w2.cell? ⟨g,0,none⟩=some (.int .u32 (s0.a:Nat)):=by rw[<-hs0];exact hcl 0 (by omega)
 have k1:w2.cell? ⟨g,1,none⟩=some (.int .u32 (s0.b:Nat)):=by rw[<-hs0];exact hcl 1 (by omega)
 have k2:w2.cell? ⟨g,2,none⟩=some (.int .u32 (s0.c:Nat)):=by rw[<-hs0];exact hcl 2 (by omega)
 have k3:w2.cell? ⟨g,3,none⟩=some (.int .u32 (s0.d:Nat)):=by rw[<-hs0];exact hcl 3 (by omega)
 have k4:w2.cell? ⟨g,4,none⟩=some (.int .u32 (s0.e:Nat)):=by rw[<-hs0];exact hcl 4 (by omega)
 have k5:w2.cell? ⟨g,5,none⟩=some (.int .u32 (s0.f:Nat)):=by rw[<-hs0];exact hcl 5 (by omega)
 have k6:w2.cell? ⟨g,6,none⟩=some (.int .u32 (s0.g:Nat)):=by rw[<-hs0];exact hcl 6 (by omega)
 have k7:w2.cell? ⟨g,7,none⟩=some (.int .u32 (s0.h:Nat)):=by rw[<-hs0];exact hcl 7 (by omega)
 have HS0:Aa (St.of st=s0):=⟨hs0⟩
 clear hcl hs0
 go_quiet (fail)
 have hb3:Below w.heap.size w (w2.drewN nq):=below_drewN hb2 _;have hblk3:Bm (w2.drewN nq) w1.heap.size 249 .u32 W:=hblk;have hs3:w1.heap.size<(w2.drewN nq).heap.size:=hs2;have hH3:Fn (w2.drewN nq) g st pend len:=hH2;have hT3:Tabs (w2.drewN nq):=⟨hT2.first,hT2.size,hT2.kay⟩
 clear k0 k1 k2 k3 k4 k5 k6 k7 hb2 hblk hs2 hH2 hT2;generalize w2.drewN nq=w3 at *;have HH3:Aa (Fn w3 g st pend len):=⟨hH3⟩
 have HT3:Aa (Tabs w3):=⟨hT3⟩
 have HB3:Aa (Bm w3 w1.heap.size 249 .u32 W):=⟨hblk3⟩
 clear hH3 hT3 hblk3;go_wp2
 go_loopw [53,5,6,7,8,9,10,11,12] (fun i va vb vc vd ve vf vg vh wr=>∃(t:Nat) (s:St),t<=64/\i=.int .i64 t/\s=Uw Dt W s0 t/\va=.int .u32 s.a/\vb=.int .u32 s.b/\vc=.int .u32 s.c/\vd=.int .u32 s.d/\ve=.int .u32 s.e/\vf=.int .u32 s.f/\vg=.int .u32 s.g/\vh=.int .u32 s.h /\
  Below w3.heap.size w3 wr) (fun i _ _ _ _ _ _ _ _ _=>64-(intOf i).toNat)
 case atStart=>exact⟨0,s0,by omega,rfl,rfl,rfl,rfl,rfl,rfl,rfl,rfl,rfl,rfl,Bb _ _⟩
 case round=>
  obtain⟨t,s,ht,rfl,hs,rfl,rfl,rfl,rfl,rfl,rfl,rfl,rfl,hbw⟩:=hrel;have hsok:s.ok:=by rw[hs];exact Xf hok0 t
  have HS:Aa (s=Uw Dt W s0 t):=⟨hs⟩
  clear hs
  by_cases ht64:t<64
  .have kk:wr.cell? ⟨2,t,none⟩=some (.int .u32 (Dt.getD t 0:Nat)):=(HT3.out.below hbw HT3.out.size).kay t ht64;have kw:wr.cell? ⟨w1.heap.size,t,none⟩=some (.int .u32 (W.getD t 0:Nat)):=by
    rw[(Ca hbw).1 _ _ hs3];exact HB3.out.cell (by rw[Du,List.getElem?_eq_getElem (by omega)];rfl)
   have HBW:Aa (Below w3.heap.size w3 wr):=⟨hbw⟩
   clear hbw;have bk:=Ts.get t;have bw:=hWw.get t;obtain⟨z,hz⟩:∃z,Dt.getD t 0=z:=⟨_,rfl⟩
   obtain⟨y,hy⟩:∃y,W.getD t 0=y:=⟨_,rfl⟩
   rw[hz]at kk bk
   rw[hy]at kw bw
   have HZ:Aa (Dt.getD t 0=z):=⟨hz⟩
   have HY:Aa (W.getD t 0=y):=⟨hy⟩
   clear hz hy;obtain⟨a,b,c,d,e,f,h,x⟩:=s;obtain⟨oa,ob,oc,od,oe,of,og,oh⟩:=hsok
   dsimp only at *
   go_wp2;obtain⟨e6,h6⟩:∃v,rr e 6=v:=⟨_,rfl⟩
   obtain⟨e11,h11⟩:∃v,rr e 11=v:=⟨_,rfl⟩
   obtain⟨e25,h25⟩:∃v,rr e 25=v:=⟨_,rfl⟩
   have R6:∀wx,Calls Tryz.prog 244 #[.int .u32 e,.int .i64 6] wx fun e w'=>e=.returned (.int .u32 e6)/\w'=wx:=fun wx=>by rw[<-h6];exact Dy wx e 6 oe (by omega) (by omega)
   have R11:∀wx,Calls Tryz.prog 244 #[.int .u32 e,.int .i64 11] wx fun e w'=>e=.returned (.int .u32 e11)/\w'=wx:=fun wx=>by rw[<-h11];exact Dy wx e 11 oe (by omega) (by omega)
   have R25:∀wx,Calls Tryz.prog 244 #[.int .u32 e,.int .i64 25] wx fun e w'=>e=.returned (.int .u32 e25)/\w'=wx:=fun wx=>by rw[<-h25];exact Dy wx e 25 oe (by omega) (by omega)
   have b6:e6<4294967296:=by rw[<-h6];exact Dz oe
   have b11:e11<4294967296:=by rw[<-h11];exact Dz oe
   have b25:e25<4294967296:=by rw[<-h25];exact Dz oe
   obtain⟨v1,hv1⟩:∃v,e6 ^^^ e11=v:=⟨_,rfl⟩
   have F1:bits BinOp.xor IntKind.u32 (e6:Int) (e11:Int)=(v1:Int):=by rw[<-hv1];exact u32_xor_nat _ _ b6 b11
   have c1:v1<4294967296:=by rw[<-hv1];exact Cf b6 b11
   obtain⟨v2,hv2⟩:∃v,v1 ^^^ e25=v:=⟨_,rfl⟩
   have F2:bits BinOp.xor IntKind.u32 (v1:Int) (e25:Int)=(v2:Int):=by rw[<-hv2];exact u32_xor_nat _ _ c1 b25
   have c2:v2<4294967296:=by rw[<-hv2];exact Cf c1 b25
   obtain⟨v3,hv3⟩:∃v,Br x v2=v:=⟨_,rfl⟩
   have F3:IntKind.u32.wrap ((x:Int)+v2)=(v3:Int):=by rw[<-hv3];rfl
   have c3:v3<4294967296:=by rw[<-hv3];exact Fz _ _
   obtain⟨v4,hv4⟩:∃v,e &&& f=v:=⟨_,rfl⟩
   have F4:bits BinOp.and IntKind.u32 (e:Int) (f:Int)=(v4:Int):=by rw[<-hv4];exact u32_and_nat _ _ oe of
   have c4:v4<4294967296:=by rw[<-hv4];exact Fy of
   obtain⟨v5,hv5⟩:∃v,4294967295-e=v:=⟨_,rfl⟩
   have F5:bits BinOp.xor IntKind.u32 (if IntKind.u32.signed=true then -1 else IntKind.u32.max) (e:Int)=(v5:Int):=by rw[<-hv5];exact pJ oe
   have c5:v5<4294967296:=by omega
   obtain⟨v6,hv6⟩:∃v,v5 &&& h=v:=⟨_,rfl⟩
   have F6:bits BinOp.and IntKind.u32 (v5:Int) (h:Int)=(v6:Int):=by rw[<-hv6];exact u32_and_nat _ _ c5 og
   have c6:v6<4294967296:=by rw[<-hv6];exact Fy og
   obtain⟨v7,hv7⟩:∃v,v4 ^^^ v6=v:=⟨_,rfl⟩
   have F7:bits BinOp.xor IntKind.u32 (v4:Int) (v6:Int)=(v7:Int):=by rw[<-hv7];exact u32_xor_nat _ _ c4 c6
   have c7:v7<4294967296:=by rw[<-hv7];exact Cf c4 c6
   obtain⟨v8,hv8⟩:∃v,Br v3 v7=v:=⟨_,rfl⟩
   have F8:IntKind.u32.wrap ((v3:Int)+v7)=(v8:Int):=by rw[<-hv8];rfl
   obtain⟨v9,hv9⟩:∃v,Br v8 z=v:=⟨_,rfl⟩
   have F9:IntKind.u32.wrap ((v8:Int)+z)=(v9:Int):=by rw[<-hv9];rfl
   obtain⟨v10,hv10⟩:∃v,Br v9 y=v:=⟨_,rfl⟩
   have F10:IntKind.u32.wrap ((v9:Int)+y)=(v10:Int):=by rw[<-hv10];rfl
   have c10:v10<4294967296:=by rw[<-hv10];exact Fz _ _
   have HTone:Aa (v10=fD ⟨a,b,c,d,e,f,h,x⟩ z y):=⟨by
    unfold fD rH ch
    dsimp only
    rw[h6,h11,h25,hv1,hv2,hv3,hv4,hv5,hv6,hv7,hv8,hv9,hv10]⟩
   have tt:(t:Int)<64:=by omega
   clear h6 h11 h25 hv1 hv2 hv3 hv4 hv5 hv6 hv7 hv8 hv9 hv10;refine Ah (by kernel_rfl) (by kernel_rfl)
    [some (.int .u32 (x:Nat)),some (.int .u32 (e:Nat)),some (.int .u32 (e6:Nat)),some (.int .u32 (e:Nat)),some (.int .u32 (e11:Nat)),some (.int .u32 (v1:Nat)),some (.int .u32 (e:Nat)),some (.int .u32 (e25:Nat)),some (.int .u32 (v2:Nat)),some (.int .u32 (v3:Nat)),some (.int .u32 (e:Nat)),some (.int .u32 (f:Nat)),some (.int .u32 (v4:Nat)),some (.int .u32 (e:Nat)),some (.int .u32 (v5:Nat)),some (.int .u32 (h:Nat)),some (.int .u32 (v6:Nat)),some (.int .u32 (v7:Nat)),some (.int .u32 (v8:Nat)),some (.int .i64 (t:Nat)),some (.pointer (some ⟨2,t,none⟩)),some (.int .u32 (z:Nat)),some (.int .u32 (v9:Nat)),some (.int .i64 (t:Nat)),some (.pointer (some ⟨w1.heap.size,t,none⟩)),some (.int .u32 (y:Nat)),some (.int .u32 (v10:Nat)),some (.int .u32 (v10:Nat))]
    [false,false,false,false,false,false,false,false,false,false,false,false,false,false,false,false,false,false,false,false,false,false,false,false,false,false,false,false] rfl
    (fun _ _=>True) (fun _ w'=>w'=wr.drew) (fun _ _ _=>True) (fun _ _ _ _ h _=>h) rfl ?_ ?_
   .simp only[Ba,Nat.reduceAdd];refine⟨?_,?_,?_,?_,?_,?_,?_,?_,?_,?_,?_,?_,?_,?_,?_,?_,?_,?_,?_,?_,?_,?_,?_,?_,?_,?_,?_,?_,trivial⟩
    case refine_3=>
     intro D sp w' hD hW hdp hG
     (with_reducible refine Ac (w1:=w') (f := 244) (args:=#[.int .u32 e,.int .i64 6]) ?_ ?_ ?_)
     .simp[Region.wanted,go_sem]
     .simp[Act.eval,Act.put,go_sem]
     .refine(R6 w').mono ?_;rintro e w5 ⟨rfl,rfl⟩;exact⟨_,rfl,rfl,rfl⟩
    case refine_5=>
     intro D sp w' hD hW hdp hG
     (with_reducible refine Ac (w1:=w') (f := 244) (args:=#[.int .u32 e,.int .i64 11]) ?_ ?_ ?_)
     .simp[Region.wanted,go_sem]
     .simp[Act.eval,Act.put,go_sem]
     .refine(R11 w').mono ?_;rintro e w5 ⟨rfl,rfl⟩;exact⟨_,rfl,rfl,rfl⟩
    case refine_8=>
     intro D sp w' hD hW hdp hG
     (with_reducible refine Ac (w1:=w') (f := 244) (args:=#[.int .u32 e,.int .i64 25]) ?_ ?_ ?_)
     .simp[Region.wanted,go_sem]
     .simp[Act.eval,Act.put,go_sem]
     .refine(R25 w').mono ?_;rintro e w5 ⟨rfl,rfl⟩;exact⟨_,rfl,rfl,rfl⟩
    all_goals
     intro D sp w' hD hW hdp hG;subst hG;simp[asked,Region.wanted,Oper.gives,execOp,Act.eval,Act.put,go_sem,F1,F2,F3,F4,F5,F6,F7,F8,F9,F10,kk,kw,tt]
   .intro sp w' hsp hG;subst hG;have HBW5:Aa (Below w3.heap.size w3 wr.drew):=⟨HBW.out.drew⟩
    clear HBW kk kw R6 R11 R25 F1 F2 F3 F4 F5 F6 F7 F8 F9 F10 hsp c1 c2 c3 c4 c5 c6 c7 b6 b11 b25;generalize wr.drew=w5 at *;obtain⟨p2,h2⟩:∃v,rr a 2=v:=⟨_,rfl⟩
    obtain⟨p13,h13⟩:∃v,rr a 13=v:=⟨_,rfl⟩
    obtain⟨p22,h22⟩:∃v,rr a 22=v:=⟨_,rfl⟩
    have R2:∀wx,Calls Tryz.prog 244 #[.int .u32 a,.int .i64 2] wx fun e w'=>e=.returned (.int .u32 p2)/\w'=wx:=fun wx=>by rw[<-h2];exact Dy wx a 2 oa (by omega) (by omega)
    have R13:∀wx,Calls Tryz.prog 244 #[.int .u32 a,.int .i64 13] wx fun e w'=>e=.returned (.int .u32 p13)/\w'=wx:=fun wx=>by rw[<-h13];exact Dy wx a 13 oa (by omega) (by omega)
    have R22:∀wx,Calls Tryz.prog 244 #[.int .u32 a,.int .i64 22] wx fun e w'=>e=.returned (.int .u32 p22)/\w'=wx:=fun wx=>by rw[<-h22];exact Dy wx a 22 oa (by omega) (by omega)
    have b2:p2<4294967296:=by rw[<-h2];exact Dz oa
    have b13:p13<4294967296:=by rw[<-h13];exact Dz oa
    have b22:p22<4294967296:=by rw[<-h22];exact Dz oa
    obtain⟨y1,hy1⟩:∃v,p2 ^^^ p13=v:=⟨_,rfl⟩
    have G1:bits BinOp.xor IntKind.u32 (p2:Int) (p13:Int)=(y1:Int):=by rw[<-hy1];exact u32_xor_nat _ _ b2 b13
    have c1:y1<4294967296:=by rw[<-hy1];exact Cf b2 b13
    obtain⟨y2,hy2⟩:∃v,y1 ^^^ p22=v:=⟨_,rfl⟩
    have G2:bits BinOp.xor IntKind.u32 (y1:Int) (p22:Int)=(y2:Int):=by rw[<-hy2];exact u32_xor_nat _ _ c1 b22
    have c2:y2<4294967296:=by rw[<-hy2];exact Cf c1 b22
    obtain⟨m1,hm1⟩:∃v,a &&& b=v:=⟨_,rfl⟩
    have G3:bits BinOp.and IntKind.u32 (a:Int) (b:Int)=(m1:Int):=by rw[<-hm1];exact u32_and_nat _ _ oa ob
    have d1:m1<4294967296:=by rw[<-hm1];exact Fy ob
    obtain⟨m2,hm2⟩:∃v,a &&& c=v:=⟨_,rfl⟩
    have G4:bits BinOp.and IntKind.u32 (a:Int) (c:Int)=(m2:Int):=by rw[<-hm2];exact u32_and_nat _ _ oa oc
    have d2:m2<4294967296:=by rw[<-hm2];exact Fy oc
    obtain⟨m3,hm3⟩:∃v,m1 ^^^ m2=v:=⟨_,rfl⟩
    have G5:bits BinOp.xor IntKind.u32 (m1:Int) (m2:Int)=(m3:Int):=by rw[<-hm3];exact u32_xor_nat _ _ d1 d2
    have d3:m3<4294967296:=by rw[<-hm3];exact Cf d1 d2
    obtain⟨m4,hm4⟩:∃v,b &&& c=v:=⟨_,rfl⟩
    have G6:bits BinOp.and IntKind.u32 (b:Int) (c:Int)=(m4:Int):=by rw[<-hm4];exact u32_and_nat _ _ ob oc
    have d4:m4<4294967296:=by rw[<-hm4];exact Fy oc
    obtain⟨m5,hm5⟩:∃v,m3 ^^^ m4=v:=⟨_,rfl⟩
    have G7:bits BinOp.xor IntKind.u32 (m3:Int) (m4:Int)=(m5:Int):=by rw[<-hm5];exact u32_xor_nat _ _ d3 d4
    obtain⟨y3,hy3⟩:∃v,Br y2 m5=v:=⟨_,rfl⟩
    have G8:((y2:Int)+m5)%4294967296=(y3:Int):=by rw[<-hy3];rfl
    have G8':IntKind.u32.wrap ((y2:Int)+m5)=(y3:Int):=by rw[<-hy3];rfl
    have HTwo:Aa (y3=jK ⟨a,b,c,d,e,f,h,x⟩):=⟨by
     unfold jK rI rD
     dsimp only
     rw[h2,h13,h22,hy1,hy2,hm1,hm2,hm3,hm4,hm5,hy3]⟩
    have d5:m5<4294967296:=by rw[<-hm5];exact Cf d3 d4
    have c3:y3<4294967296:=by rw[<-hy3];exact Fz _ _
    obtain⟨n1,hn1⟩:∃v,Br v10 y3=v:=⟨_,rfl⟩
    have K1:((v10:Int)+y3)%4294967296=(n1:Int):=by rw[<-hn1];rfl
    have K1':IntKind.u32.wrap ((v10:Int)+y3)=(n1:Int):=by rw[<-hn1];rfl
    obtain⟨n2,hn2⟩:∃v,Br d v10=v:=⟨_,rfl⟩
    have K2:((d:Int)+v10)%4294967296=(n2:Int):=by rw[<-hn2];rfl
    have K2':IntKind.u32.wrap ((d:Int)+v10)=(n2:Int):=by rw[<-hn2];rfl
    have HR:Aa (⟨n1,a,b,c,n2,e,f,h⟩=Uw Dt W s0 (t+1)):=⟨by
     rw[Uw,<-HS.out,HZ.out,HY.out,rC,<-HTone.out,<-HTwo.out,hn1,hn2]⟩
    clear h2 h13 h22 hy1 hy2 hm1 hm2 hm3 hm4 hm5 hy3 hn1 hn2 HTone HTwo HS HZ HY;simp only[An]
    go_wp2_with fail
    refine(R2 _).mono ?_;rintro e9 w9 ⟨rfl,rfl⟩
    go_wp2_with fail
    refine(R13 _).mono ?_;rintro e9 w9 ⟨rfl,rfl⟩
    go_wp2_with fail
    refine(R22 _).mono ?_;rintro e9 w9 ⟨rfl,rfl⟩;go_wp2;go_roundw
    case rel=>exact⟨t+1,⟨n1,a,b,c,n2,e,f,h⟩,by omega,by go_num,HR.out,rfl,rfl,rfl,rfl,rfl,rfl,rfl,rfl,HBW5.out⟩
    case measure=>simp[intOf];omega
  .obtain rfl:t=64:=by omega
   have hbw2:Below w.heap.size w wr:=hb3.trans (hbw.mono hb3.size);have hH5:=hH.below hbw2 hgl;have hsz5:=hbw2.size;go_wp2
   go_loopw [126] (fun i w6=>∃k:Nat,k<=8/\i=.int .i64 k/\Dg g w w6/\Fn w6 g (mixed st s.list k) pend len) (fun i _=>8-(intOf i).toNat)
   case atStart=>exact⟨0,by omega,rfl,Dg.of (hbw2.alloc hsz5 _),by rw[cS];exact hH5.below ((Bb _ _).alloc (As _) _) hH5.lt⟩
   case round=>
    obtain⟨k,hk,rfl,hbut,hbox⟩:=hrel;have hml:=Xp hs (show s.list.length=8 from rfl) hk
    by_cases hk8:k<8
    .obtain⟨u,hu⟩:∃u,s.list.getD k 0=u:=⟨_,rfl⟩
     obtain⟨v,hv⟩:∃v,st.getD k 0=v:=⟨_,rfl⟩
     have hik:∀wx:World,(Instr.index 276 (.agg #[Value.int .u32 (s.a:Nat),Value.int .u32 (s.b:Nat),Value.int .u32 (s.c:Nat),Value.int .u32 (s.d:Nat),Value.int .u32 (s.e:Nat),Value.int .u32 (s.f:Nat),Value.int .u32 (s.g:Nat),Value.int .u32 (s.h:Nat)]) (.int .i64 (k:Nat))).run Tryz.prog wx=.ok (.int .u32 (u:Nat)) wx:=fun wx=>by
      rw[<-hu];exact rG _ _ _ _ _ _ _ _ k hk8 wx
     have hub:u<4294967296:=by rw[<-hu];exact(St.list_words hsok).get k
     have hvb:v<4294967296:=by rw[<-hv];exact hst.get k
     have ck:=hbox.cell (In hml hk8);rw[gE hs hk8,hv]at ck
     have fk:=hbox.free k;have hm:=gD hs (show s.list.length=8 from rfl) hk8;rw[hu,hv]at hm
     have HM:Aa ((mixed st s.list k).set k (Br v u)=mixed st s.list (k+1)):=⟨hm⟩
     have HSet:Aa ((Bt (mixed st s.list k) pend len).set k (.int .u32 (Br v u:Nat))=Bt ((mixed st s.list k).set k (Br v u)) pend len):=⟨Qj hml hk8⟩
     have HBox1:Aa (Fn wr g (mixed st s.list k) pend len):=⟨hbox⟩
     have HBut1:Aa (Dg g w wr):=⟨hbut⟩
     have kk8:(k:Int)<8:=by omega
     clear hm hu hv hbox hbut hml hH hT hst hbw2 hbw hH5;go_wp2
     go_region
     have hsum:((v:Int)+u)%4294967296=((Br v u:Nat):Int):=rfl;have hsum':IntKind.u32.wrap ((v:Int)+u)=((Br v u:Nat):Int):=rfl
     try rw[hsum]
     try rw[hsum']
     go_wp2;go_roundw
     case rel=>
      refine⟨k+1,by omega,by go_num,(HBut1.out.trans (Dg.setCell _ _ _)).drew,?_⟩;exact HBox1.out.set k _ (by rw[HSet.out,HM.out])
     case measure=>simp[intOf];omega
    .obtain rfl:k=8:=by omega
     have hfin:Fn wr g (Qo st pend) pend len:=by
      have h:=hbox;rw[gF hs (show s.list.length=8 from rfl),HS.out,<-HS0.out,<-HW.out]at h
      exact h
     go_wp2
     go_end0
     exact⟨rfl,hbut,hfin⟩
end Go.Proofs.YtokhckjemidbpaaGreatDoor
