/- A block's words. -/
import Derived.Test.YtokhckjemidbpaaGreatDoorPock
import Derived.Laws.BitsAllLaws
import Derived.Deep.QuietTactic
import Derived.BigQuiet
import Derived.BigRegion
import Derived.Laws.CopyOwn
set_option maxRecDepth 1000000
set_option maxHeartbeats 16000000
set_option linter.all false
namespace Go.Proofs.YtokhckjemidbpaaGreatDoor
open Go
def rr (x n:Nat):Nat:=x*2^(32-n)%4294967296 ||| x/2^n
def Ch (x y:Nat):Nat:=(x+y)%4294967296
def gZ (x:Nat):Nat:=rr x 7 ^^^ rr x 18 ^^^ x/8
def gY (x:Nat):Nat:=rr x 17 ^^^ rr x 19 ^^^ x/1024
def iU (x:Nat):Nat:=rr x 2 ^^^ rr x 13 ^^^ rr x 22
def iT (x:Nat):Nat:=rr x 6 ^^^ rr x 11 ^^^ rr x 25
def ch (e f g:Nat):Nat:=e &&& f ^^^ (4294967295-e) &&& g
def iS (a b c:Nat):Nat:=a &&& b ^^^ a &&& c ^^^ b &&& c
theorem En {x n:Nat}(hx:x<4294967296):rr x n<4294967296:=by
 unfold rr;exact Nat.or_lt_two_pow (n:=32) (Nat.mod_lt _ (by omega)) (Nat.lt_of_le_of_lt (Nat.div_le_self _ _) hx)
theorem Gf (x y:Nat):Ch x y<4294967296:=Nat.mod_lt _ (by omega)
theorem Ct {x y:Nat}(hx:x<4294967296)(hy:y<4294967296):x ^^^ y<4294967296:=Nat.xor_lt_two_pow (n:=32) hx hy
theorem Jn {x y:Nat}(hy:y<4294967296):x &&& y<4294967296:=Nat.and_lt_two_pow (n:=32) _ hy
theorem Jw {x y:Nat}(hx:x<4294967296)(hy:y<4294967296):x ||| y<4294967296:=Nat.or_lt_two_pow (n:=32) hx hy
def Tm (ws:List Nat)(t:Nat):Nat:=Ch (Ch (Ch (gY (ws.getD (t-2) 0)) (ws.getD (t-7) 0)) (gZ (ws.getD (t-15) 0))) (ws.getD (t-16) 0)
def Mf (m:List Nat)(t:Nat):Nat:=m.getD (4*t) 0*16777216 ||| m.getD (4*t+1) 0*65536 ||| m.getD (4*t+2) 0*256 ||| m.getD (4*t+3) 0
def Bx (m:List Nat):Nat->List Nat
 | 0=>[]
 | t+1=>Bx m t++[if t<16 then Mf m t else Tm (Bx m t) t]
theorem Bt (m:List Nat)(t:Nat):(Bx m t).length=t:=by
 induction t with
 | zero=>rfl
 | succ t ih=>simp[Bx,ih]
theorem Yr {m:List Nat}(hm:Au m)(t:Nat):Mf m t<4294967296:=by
 have h0:=hm.get (4*t);have h1:=hm.get (4*t+1);have h2:=hm.get (4*t+2);have h3:=hm.get (4*t+3);unfold Mf;exact Jw (Jw (Jw (by omega) (by omega)) (by omega)) (by omega)
theorem Mz {m:List Nat}(hm:Au m)(t:Nat):Words (Bx m t):=by
 induction t with
 | zero=>exact Words.nil
 | succ t ih=>
  refine ih.snoc ?_;split
  .exact Yr hm t
  .exact Gf _ _
structure St where
 a:Nat
 b:Nat
 c:Nat
 d:Nat
 e:Nat
 f:Nat
 g:Nat
 h:Nat
def St.ok (s:St):Prop:=s.a<4294967296/\s.b<4294967296/\s.c<4294967296/\s.d<4294967296/\s.e<4294967296/\s.f<4294967296/\s.g<4294967296/\s.h<4294967296
def St.list (s:St):List Nat:=[s.a,s.b,s.c,s.d,s.e,s.f,s.g,s.h]
def St.of (l:List Nat):St:=⟨l.getD 0 0,l.getD 1 0,l.getD 2 0,l.getD 3 0,l.getD 4 0,l.getD 5 0,l.getD 6 0,l.getD 7 0⟩
def eL (s:St)(k w:Nat):Nat:=Ch (Ch (Ch (Ch s.h (iT s.e)) (ch s.e s.f s.g)) k) w
def fT (s:St):Nat:=Ch (iU s.a) (iS s.a s.b s.c)
def iN (s:St)(k w:Nat):St:=⟨Ch (eL s k w) (fT s),s.a,s.b,s.c,Ch s.d (eL s k w),s.e,s.f,s.g⟩
def Wl (K W:List Nat)(s:St):Nat->St
 | 0=>s
 | t+1=>iN (Wl K W s t) (K.getD t 0) (W.getD t 0)
theorem fW {s:St}(h:s.ok)(k w:Nat):(iN s k w).ok:=by
 obtain⟨h1,h2,h3,h4,h5,h6,h7,h8⟩:=h;exact⟨Gf _ _,h1,h2,h3,Gf _ _,h5,h6,h7⟩
theorem Yf {K W:List Nat}{s:St}(h:s.ok):∀t,(Wl K W s t).ok
 | 0=>h
 | t+1=>fW (Yf h t) _ _
theorem St.of_ok {l:List Nat}(h:Words l):(St.of l).ok:=⟨h.get _,h.get _,h.get _,h.get _,h.get _,h.get _,h.get _,h.get _⟩
theorem St.list_words {s:St}(h:s.ok):Words s.list:=by
 obtain⟨h1,h2,h3,h4,h5,h6,h7,h8⟩:=h;intro x hx;simp only[St.list,List.mem_cons,List.not_mem_nil,or_false]at hx;rcases hx with rfl|rfl|rfl|rfl|rfl|rfl|rfl|rfl<;>assumption
def bP (H G:List Nat):List Nat:=List.zipWith Ch H G
def Lo:List Nat:=[1116352408,1899447441,3049323471,3921009573,961987163,1508970993,2453635748,2870763221,3624381080,310598401,607225278,1426881987,1925078388,2162078206,2614888103,3248222580,3835390401,4022224774,264347078,604807628,770255983,1249150122,1555081692,1996064986,2554220882,2821834349,2952996808,3210313671,3336571891,3584528711,113926993,338241895,666307205,773529912,1294757372,1396182291,1695183700,1986661051,2177026350,2456956037,2730485921,2820302411,3259730800,3345764771,3516065817,3600352804,4094571909,275423344,430227734,506948616,659060556,883997877,958139571,1322822218,1537002063,1747873779,1955562222,2024104815,2227730452,2361852424,2428436474,2756734187,3204031479,3329325298]
def Hg:List Nat:=[1779033703,3144134277,1013904242,2773480762,1359893119,2600822924,528734635,1541459225]
theorem Nk:Lo.length=64:=by kernel_rfl
theorem Uq:Words Hg:=by
 have:Hg.all (fun x=>decide (x<4294967296))=true:=by kernel_rfl
 intro x hx;exact of_decide_eq_true (List.all_eq_true.1 this x hx)
theorem Xc:Words Lo:=by
 have:Lo.all (fun x=>decide (x<4294967296))=true:=by kernel_rfl
 intro x hx;exact of_decide_eq_true (List.all_eq_true.1 this x hx)
def Su (H m:List Nat):List Nat:=bP H (Wl Lo (Bx m 64) (St.of H) 64).list
theorem Vj {H m:List Nat}(h:H.length=8):(Su H m).length=8:=by simp[Su,bP,St.list,h]
theorem Xo (H m:List Nat):Words (Su H m):=by
 intro x hx;unfold Su bP at hx;rw[List.mem_iff_getElem]at hx
 obtain⟨i,hi,rfl⟩:=hx;rw[List.getElem_zipWith];exact Gf _ _
def blocks (m:List Nat):Nat->List Nat
 | 0=>Hg
 | n+1=>Su (blocks m n) ((m.drop (64*n)).take 64)
theorem Dd (m:List Nat):∀n,(blocks m n).length=8
 | 0=>rfl
 | n+1=>Vj (Dd m n)
theorem Lx (m:List Nat):∀n,Words (blocks m n)
 | 0=>Uq
 | _+1=>Xo _ _
theorem Gy {m b:List Nat}:∀ {n:Nat},64*n<=m.length->blocks (m++b) n=blocks m n
 | 0,_=>rfl
 | n+1,h=>by
  rw[blocks,blocks,Gy (by omega),List.drop_append_of_le_length (by omega),List.take_append_of_le_length (by simp;omega)]
def fP (N:Nat):List Nat:=(List.range 8).map fun i=>N/2^(8*(7-i))%256
def Cy (n:Nat):Nat:=(119-n%64)%64
def behind (n:Nat):List Nat:=128::(List.replicate (Cy n) 0++fP (n*8%18446744073709551616))
def Gt (x:Nat):List Nat:=[x/16777216%256,x/65536%256,x/256%256,x%256]
def Vu (m:List Nat):List Nat:=(blocks (m++behind m.length) ((m.length+(behind m.length).length)/64)).flatMap Gt
theorem Kz (N:Nat):(fP N).length=8:=by simp[fP]
theorem Qm (n:Nat):(behind n).length=Cy n+9:=by simp[behind,Kz]
theorem aQ (N:Nat):Au (fP N):=by
 intro x hx;simp only[fP,List.mem_map]at hx;obtain⟨i,_,rfl⟩:=hx;exact Nat.mod_lt _ (by omega)
theorem Td (n:Nat):Au (behind n):=by
 intro x hx;simp only[behind,List.mem_cons,List.mem_append,List.mem_replicate]at hx;rcases hx with rfl|⟨_,rfl⟩|hx
 .omega
 .omega
 .exact aQ _ x hx
theorem Di (m:List Nat):(Vu m).length=32:=by
 have h:=Dd (m++behind m.length) ((m.length+(behind m.length).length)/64);unfold Vu;generalize blocks (m++behind m.length) ((m.length+(behind m.length).length)/64)=l at h
 match l,h with
 | [a,b,c,d,e,f,g,x],_=>rfl
theorem Mi (m:List Nat):Au (Vu m):=by
 intro x hx;unfold Vu at hx;rw[List.mem_flatMap]at hx
 obtain⟨y,_,hy⟩:=hx;simp only[Gt,List.mem_cons,List.not_mem_nil,or_false]at hy;omega
open Go Go.RowKit
theorem Wj (w:World)(x n:Nat)(hx:x<4294967296)(h1:1<=n)(h2:n<=31) :
  Calls Tryz.prog 253 #[.int .u32 x,.int .i64 (-(n:Int))] w fun e w'=>e=.returned (.int .u32 (rr x n))/\w'=w:=by
 have ha:bits BinOp.and IntKind.u64 (IntKind.u64.wrap (-(n:Int))) 31=((32-n:Nat):Int):=by
  have:∀n:Fin 32,1<=n.1->bits BinOp.and IntKind.u64 (IntKind.u64.wrap (-((n.1:Nat):Int))) 31=((32-n.1:Nat):Int):=by decide
  exact this ⟨n,by omega⟩ h1
 go_enter Tryz.func253,Tryz.ntmps253;go_wp2;go_ret;refine⟨?_,rfl⟩;have e1:(x:Int)*2^(32-n)%4294967296=((x*2^(32-n)%4294967296:Nat):Int):=by rw[Int.natCast_emod,Int.natCast_mul,Int.natCast_pow];rfl
 have e2:(x:Int)/2^(32-(32-n))=((x/2^n:Nat):Int):=by rw[show 32-(32-n)=n by omega,Int.natCast_ediv,Int.natCast_pow];rfl
 have e3:=u32_or_nat (x*2^(32-n)%4294967296) (x/2^n) (Nat.mod_lt _ (by omega)) (Nat.lt_of_le_of_lt (Nat.div_le_self _ _) hx);show Ending.returned (.int .u32 (bits BinOp.or IntKind.u32 ((x:Int)*2^(32-n)%4294967296) ((x:Int)/2^(32-(32-n)))))=_;rw[e1,e2,e3];rfl
theorem Cs (w:World)(x n:Nat)(hx:x<4294967296)(h1:1<=n)(h2:n<=31) :
  Calls Tryz.prog 244 #[.int .u32 x,.int .i64 n] w fun e w'=>e=.returned (.int .u32 (rr x n))/\w'=w:=by
 go_enter Tryz.func244,Tryz.ntmps244
 go_wp2_with fail
 refine(Wj _ x n hx h1 h2).mono ?_;rintro e w1 ⟨rfl,rfl⟩;go_wp2;go_ret;exact⟨rfl,rfl⟩
theorem Tj (m:List Nat)(t:Nat)(ht:t<64)(x:Nat)(hx:x=if t<16 then Mf m t else Tm (Bx m t) t) :
  (Bx m t++List.replicate (64-t) 0).set t x=Bx m (t+1)++List.replicate (64-(t+1)) 0:=by
 rw[List.set_append_right _ _ (by rw[Bt];exact Nat.le_refl _),Bt,Nat.sub_self,Bx,<-hx];rw[show 64-t=(64-(t+1))+1 by omega,List.replicate_succ,List.set_cons_zero];simp
theorem Qy (w:World)(b off l:Nat)(k:IntKind)(i:Int)(hi:i=(l:Nat))(hl:l<64) :
  (Instr.sliceAt 272 (.pointer (some ⟨b,off,none⟩)) (some (.int k i)) none none).run Tryz.prog w=.ok (.slice (some ⟨b,off+l,none⟩) (64-l) (64-l)) w:=by
 subst hi;have hlen:Tryz.prog.arrayLen 272 = 64:=by kernel_rfl
 have h:=run_sliceAt_array_l w 272 ⟨b,off,none⟩ Tryz.underlying272 k (l:Int) (by omega) (by rw[hlen];omega);rw[h,hlen];have hs:(sizeOf (Tryz.prog.elem 272)).run Tryz.prog w=.ok 1 w:=by
  have:Tryz.prog.elem 272 = 5 := by kernel_rfl
  rw[this];simp[go_sem]
 rw[hs];simp[slicedAt,Addr.add,show (64:Nat)≠l by omega]
theorem Tl (w:World)(b off:Nat)(bs:List Nat)(hl:bs.length=64)(h8:Au bs)(hb:b<w.heap.size)(hc:∀(i x:Nat),bs[i]? = some x->w.cell? ⟨b,off+i,none⟩=some (.int .u8 (x:Int))) :
  Calls Tryz.prog 243 #[.pointer (some ⟨b,off,none⟩)] w fun e w'=>e=.returned (.agg ((Bx bs 64).map fun(x:Nat)=>Value.int .u32 (x:Int)).toArray)/\Below w.heap.size w w':=by
 have HC:=Lib.hid hc;clear hc;go_enter Tryz.func243,Tryz.ntmps243;go_wp2
 go_loopw [9] (fun i wr=>∃k:Nat,k<=16/\i=.int .i64 k/\w.heap.size+1<wr.heap.size/\Below w.heap.size w wr/\Bi wr w.heap.size 249 .u32 (List.replicate 64 0)/\Bi wr (w.heap.size+1) 249 .u32 (Bx bs k++List.replicate (64-k) 0)) (fun i _=>16-(intOf i).toNat)
 case atStart=>
  refine⟨0,by omega,rfl,by simp,((Below.refl _ _).alloc (Nat.le_refl _) _).alloc (by simp) _,?_,?_⟩
  .exact(Bi.zeros w 249 .u32 64).alloc _
  .have:=Bi.zeros (w.alloc (.cells (zeros .u32 64) 249)) 249 .u32 64;rw[show (w.alloc (.cells (zeros .u32 64) 249)).heap.size=w.heap.size+1 by simp]at this
   exact this
 case round=>
  obtain⟨k,hk,rfl,hsz,hbel,hres,hblk⟩:=hrel
  by_cases hk16:k<16
  .have hsl:=fun wx=>Qy wx b off (k*4) .i64 ((k:Int)*4) (by omega) (by omega)
   have hcb:∀j,j<64->wr.cell? ⟨b,off+j,none⟩=some (.int .u8 ((bs.getD j 0:Nat):Int)):=fun j hj=>by
    rw[(Cd hbel).1 _ _ hb];exact HC.out j _ (by rw[List.getD_eq_getElem?_getD];simp[show j<bs.length by omega])
   have d0:=hcb (k*4) (by omega);have d1:=hcb (k*4+1) (by omega);have d2:=hcb (k*4+2) (by omega);have d3:=hcb (k*4+3) (by omega);have hy:Hid (Mf bs k=bs.getD (k*4) 0*16777216 ||| bs.getD (k*4+1) 0*65536 ||| bs.getD (k*4+2) 0*256 ||| bs.getD (k*4+3) 0):=by
    rw[Nat.mul_comm k 4];rfl
   have g0:=h8.get (k*4);have g1:=h8.get (k*4+1);have g2:=h8.get (k*4+2);have g3:=h8.get (k*4+3);generalize bs.getD (k*4) 0=x0 at *;generalize bs.getD (k*4+1) 0=x1 at *;generalize bs.getD (k*4+2) 0=x2 at *;generalize bs.getD (k*4+3) 0=x3 at *;rw[<-Nat.add_assoc]at d1 d2 d3
   have e0:=hblk.cell (i:=k) (x:=0) (by rw[List.getElem?_append_right (by rw[Bt];exact Nat.le_refl _),Bt];simp[List.getElem?_replicate];omega);have e1:=hblk.free k;have hne:b≠w.heap.size+1:=by omega
   clear hcb;go_wp2;have hv:bits BinOp.or IntKind.u32 (bits BinOp.or IntKind.u32 (bits BinOp.or IntKind.u32 ((x0:Int)*16777216) ((x1:Int)*65536)) ((x2:Int)*256)) (x3:Int)=((Mf bs k:Nat):Int):=by
    rw[hy.out];rw[show ((x0:Int)*16777216)=((x0*16777216:Nat):Int) by omega,show ((x1:Int)*65536)=((x1*65536:Nat):Int) by omega,show ((x2:Int)*256)=((x2*256:Nat):Int) by omega];rw[u32_or_nat _ _ (by omega) (by omega),u32_or_nat _ _ (Jw (by omega) (by omega)) (by omega),u32_or_nat _ _ (Jw (Jw (by omega) (by omega)) (by omega)) (by omega)]
   go_region
   go_wp2;go_roundw
   case rel=>
    refine⟨k+1,by omega,by go_num,by simpa using hsz,?_,?_,?_⟩
    .exact(hbel.setCell (by simp) _).drew
    .exact hres.other (by simp) _
    .rw[<-Tj bs k (by omega) _ rfl,if_pos hk16];exact hblk.set k _
   case measure=>simp[intOf];omega
  .obtain rfl:k=16:=by omega
   go_wp2
   go_loopw [6] (fun i w2=>∃t:Nat,16<=t/\t<=64/\i=.int .i64 t/\w.heap.size+1<w2.heap.size/\Below w.heap.size w w2/\Bi w2 w.heap.size 249 .u32 (List.replicate 64 0)/\Bi w2 (w.heap.size+1) 249 .u32 (Bx bs t++List.replicate (64-t) 0)) (fun i _=>64-(intOf i).toNat)
   case atStart=>exact⟨16,by omega,by omega,rfl,hsz,hbel,hres,hblk⟩
   case round=>
    obtain⟨t,ht1,ht2,rfl,hsz2,hbel2,hres2,hblk2⟩:=hrel
    by_cases ht:t<64
    .have HS:=Lib.hid (Tj bs t ht _ rfl);rw[if_neg (by omega)]at HS
     have hw:=Mz h8 t;have hgc:∀j,j<t->wr.cell? ⟨w.heap.size+1,j,none⟩=some (.int .u32 (((Bx bs t).getD j 0:Nat):Int)):=fun j hj=>hblk2.cell (by
      rw[List.getElem?_append_left (by rw[Bt];exact hj),List.getD_eq_getElem?_getD,List.getElem?_eq_getElem (by rw[Bt];exact hj)];rfl)
     have hy:Hid (Tm (Bx bs t) t=Ch (Ch (Ch (gY ((Bx bs t).getD (t-2) 0)) ((Bx bs t).getD (t-7) 0)) (gZ ((Bx bs t).getD (t-15) 0))) ((Bx bs t).getD (t-16) 0)):=rfl;have e0:=hblk2.cell (i:=t) (x:=0) (by rw[List.getElem?_append_right (by rw[Bt];exact Nat.le_refl _),Bt];simp[List.getElem?_replicate];omega);have e1:=hblk2.free t;obtain⟨p,hp16⟩:∃p,t=p+16:=⟨t-16,by omega⟩
     rw[show t-2=p+14 by omega,show t-7=p+9 by omega,show t-15=p+1 by omega,show t-16=p by omega]at hy
     have hp1:p+16<=t:=by omega
     have hp2:t<=p+16:=by omega
     clear hp16;have c15:=hgc (p+1) (by omega);have c2:=hgc (p+14) (by omega);have c7:=hgc (p+9) (by omega);have c16:=hgc p (by omega);have b15:=hw.get (p+1);have b2:=hw.get (p+14);have b7:=hw.get (p+9);have b16:=hw.get p;clear hgc hw;generalize (Bx bs t).getD (p+1) 0=x15 at *;generalize (Bx bs t).getD (p+14) 0=x2 at *;generalize (Bx bs t).getD (p+9) 0=x7 at *;generalize (Bx bs t).getD p 0=x16 at *;go_wp2;have t15:IntKind.i64.wrap ((t:Int)-15)=((p+1:Nat):Int):=by rw[IntWalk.i64_in _ (by omega)];omega
     have t2:IntKind.i64.wrap ((t:Int)-2)=((p+14:Nat):Int):=by rw[IntWalk.i64_in _ (by omega)];omega
     have t7:IntKind.i64.wrap ((t:Int)-7)=((p+9:Nat):Int):=by rw[IntWalk.i64_in _ (by omega)];omega
     have t16:IntKind.i64.wrap ((t:Int)-16)=(p:Int):=by rw[IntWalk.i64_in _ (by omega)];omega
     have q15:((p+1:Nat):Int)<64:=by omega
     have q2:((p+14:Nat):Int)<64:=by omega
     have q7:((p+9:Nat):Int)<64:=by omega
     have q16:(p:Int)<64:=by omega
     go_quiet ((go_at_call 244;first|exact Calls.quiet_of_same (Cs _ x15 7 b15 (by omega) (by omega))|exact Calls.quiet_of_same (Cs _ x15 18 b15 (by omega) (by omega))))
     have hs0:bits BinOp.xor IntKind.u32 (bits BinOp.xor IntKind.u32 ((rr x15 7:Nat):Int) ((rr x15 18:Nat):Int)) ((x15:Int)/8)=((gZ x15:Nat):Int):=by
      rw[show ((x15:Int)/8)=((x15/8:Nat):Int) by omega,u32_xor_nat _ _ (En b15) (En b15),u32_xor_nat _ _ (Ct (En b15) (En b15)) (by omega)];rfl
     rw[hs0];have HS0:gZ x15<4294967296:=Ct (Ct (En b15) (En b15)) (by omega);generalize gZ x15=z0 at *;have c2':(wr.drewN nq).cell? ⟨w.heap.size+1,p+14,none⟩=some (.int .u32 x2):=c2;have c7':(wr.drewN nq).cell? ⟨w.heap.size+1,p+9,none⟩=some (.int .u32 x7):=c7;have c16':(wr.drewN nq).cell? ⟨w.heap.size+1,p,none⟩=some (.int .u32 x16):=c16;have e0':(wr.drewN nq).cell? ⟨w.heap.size+1,t,none⟩=some (.int .u32 (0:Nat)):=e0;have e1':(wr.drewN nq).frozen? ⟨w.heap.size+1,t,none⟩=false:=e1;have hblk':Bi (wr.drewN nq) (w.heap.size+1) 249 .u32 (Bx bs t++List.replicate (64-t) 0):=hblk2;have hres':Bi (wr.drewN nq) w.heap.size 249 .u32 (List.replicate 64 0):=hres2;have hbel':Below w.heap.size w (wr.drewN nq):=below_drewN hbel2 _;have hsz':w.heap.size+1<(wr.drewN nq).heap.size:=hsz2;clear c2 c7 c16 e0 e1 hblk2 hres2 hbel2 hsz2 c15;go_wp2;generalize wr.drewN nq=w5 at *
     go_quiet ((go_at_call 244;first|exact Calls.quiet_of_same (Cs _ x2 17 b2 (by omega) (by omega))|exact Calls.quiet_of_same (Cs _ x2 19 b2 (by omega) (by omega))))
     have hs1:bits BinOp.xor IntKind.u32 (bits BinOp.xor IntKind.u32 ((rr x2 17:Nat):Int) ((rr x2 19:Nat):Int)) ((x2:Int)/1024)=((gY x2:Nat):Int):=by
      rw[show ((x2:Int)/1024)=((x2/1024:Nat):Int) by omega,u32_xor_nat _ _ (En b2) (En b2),u32_xor_nat _ _ (Ct (En b2) (En b2)) (by omega)];rfl
     rw[hs1];have HS1:gY x2<4294967296:=Ct (Ct (En b2) (En b2)) (by omega);generalize gY x2=z1 at *;have d7:(w5.drewN nq).cell? ⟨w.heap.size+1,p+9,none⟩=some (.int .u32 x7):=c7';have d16:(w5.drewN nq).cell? ⟨w.heap.size+1,p,none⟩=some (.int .u32 x16):=c16';have f0:(w5.drewN nq).cell? ⟨w.heap.size+1,t,none⟩=some (.int .u32 (0:Nat)):=e0';have f1:(w5.drewN nq).frozen? ⟨w.heap.size+1,t,none⟩=false:=e1';have hblk5:Bi (w5.drewN nq) (w.heap.size+1) 249 .u32 (Bx bs t++List.replicate (64-t) 0):=hblk';have hres5:Bi (w5.drewN nq) w.heap.size 249 .u32 (List.replicate 64 0):=hres';have hbel5:Below w.heap.size w (w5.drewN nq):=below_drewN hbel' _;have hsz5:w.heap.size+1<(w5.drewN nq).heap.size:=hsz';clear c2' c7' c16' e0' e1' hblk' hres' hbel' hsz' hs0 hs1 t15 t2 q15 q2 b15 b2;go_wp2;generalize w5.drewN nq=w6 at *
     go_region
     have hv:((z1:Int)+x7+z0+x16)%4294967296=((Tm (Bx bs t) t:Nat):Int):=by
      rw[hy.out];unfold Ch;omega
     rw[hv];go_wp2;go_roundw
     case rel=>
      refine⟨t+1,by omega,by omega,by go_num,by simpa using hsz5,?_,?_,?_⟩
      .exact(hbel5.setCell (by simp) _).drew
      .exact hres5.other (by simp) _
      .have:=hblk5.set t (Tm (Bx bs t) t);rw[HS.out]at this
       exact this
     case measure=>simp[intOf];omega
    .obtain rfl:t=64:=by omega
     have hi64:(Tryz.prog.info? 249).map (·.size)=some ((Bx bs 64).map fun(x:Nat)=>Value.int .u32 x).toArray.size:=by
      rw[show ((Bx bs 64).map fun(x:Nat)=>Value.int .u32 x).toArray.size=64 by simp[Bt]];kernel_rfl
     have hi64:=Lib.hid hi64;have h1:=Lib.hid (Lp .u32 (Bx bs 64));have hsz1:Hid (((List.replicate 64 0).map fun(x:Nat)=>Value.int .u32 x).toArray.size=((Bx bs 64).map fun(x:Nat)=>Value.int .u32 x).toArray.size):=Lib.hid (by simp[Bt]);rw[Nat.sub_self,List.replicate_zero,List.append_nil]at hblk2
     have HB:=Lib.hid hblk2;have HR:=Lib.hid hres2;clear hblk2 hres2
     go_wp2_with (first|(refine wpList_load_row rfl 249 _ rfl (w.heap.size+1) rfl 249 ((Bx bs 64).map fun(x:Nat)=>Value.int .u32 x).toArray (0,0) _ HB.out Tryz.underlying249 rfl hi64.out ?_)|(refine wpList_store_row rfl 249 _ _ rfl w.heap.size ((Bx bs 64).map fun(x:Nat)=>Value.int .u32 x).toArray rfl rfl 249 ((List.replicate 64 0).map fun(x:Nat)=>Value.int .u32 x).toArray HR.out hi64.out hsz1.out h1.out ?_))
     have hend:=setRow_heap wr w.heap.size ((List.replicate 64 0).map fun(x:Nat)=>Value.int .u32 x).toArray ((Bx bs 64).map fun(x:Nat)=>Value.int .u32 x).toArray 249 (0,0) HR.out;refine bodyPost_ret (v:=.agg ((Bx bs 64).map fun(x:Nat)=>Value.int .u32 x).toArray) (results_cell_row Tryz.results243 _ _ w.heap.size 249 _ (0,0) _ rfl hend Tryz.underlying249 rfl hi64.out) rfl ⟨rfl,below_setRow hbel2 (Nat.le_refl _) _⟩
end Go.Proofs.YtokhckjemidbpaaGreatDoor
