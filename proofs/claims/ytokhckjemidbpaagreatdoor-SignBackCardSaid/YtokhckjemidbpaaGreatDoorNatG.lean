/- The product of two numbers. -/
import Derived.Test.YtokhckjemidbpaaGreatDoorPock
import Derived.Handy
import Derived.Test.YtokhckjemidbpaaGreatDoorFlow
set_option maxRecDepth 1000000
set_option maxHeartbeats 16000000
set_option linter.all false
namespace Go.Proofs.YtokhckjemidbpaaGreatDoor
open Go Go.RowKit
theorem Tryz.info_u32:(Tryz.prog.info? 129).map (fun i=>(i.zero,i.size,i.bytes))=some (some (.int .u32 0),1,4):=by kernel_rfl
theorem Iy (n:Nat)(h:n<=4294967296)(w:World):(Instr.makeSlice 35 (.int .i64 n) (.int .i64 n)).run Tryz.prog w =
  .ok (.slice (some ⟨w.heap.size,0,none⟩) n n) (w.alloc (.cells (zeros .u32 n) 129)):=by
 obtain⟨i,hi,hz,hs,hb⟩:=info_parts Tryz.info_u32;have:=run_make (P:=Tryz.prog) w 35 129 i (.int .u32 0) Tryz.underlying35 hi hz .i64 .i64 n n (by omega) (Int.le_refl _) (by rw[hb];omega) (by omega);simp only[Int.toNat_natCast,hs,Nat.mul_one]at this;rw[this,<-Lx];rfl
theorem Qh {i:Int}(n:Nat)(hi:i=(n:Nat))(h:n<=4294967296)(w:World):(Instr.makeSlice 35 (.int .i64 i) (.int .i64 i)).run Tryz.prog w =
  .ok (.slice (some ⟨w.heap.size,0,none⟩) n n) (w.alloc (.cells (zeros .u32 n) 129)):=by subst hi;exact Iy n h w
structure Aj (w:World) (p:Option Addr) (n c:Nat) (N:Nat):Prop where
 ex:∃ws,Row w .u32 p n c ws/\Words ws/\ws.getLast? ≠ some 0/\val ws=N
theorem Aj.below {w w':World}{p:Option Addr}{n c N:Nat}(h:Aj w p n c N)(hb:Below w.heap.size w w'):Aj w' p n c N :=
 let ⟨ws,h1,h2,h3,h4⟩:=h.ex
 ⟨ws,h1.below hb,h2,h3,h4⟩
theorem Aj.setCell {w:World}{p:Option Addr}{n c N:Nat}(h:Aj w p n c N){a:Addr}(ha:∀q,p=some q->q.block≠a.block)(u:Value):Aj (w.setCell a u) p n c N :=
 let ⟨ws,h1,h2,h3,h4⟩:=h.ex
 ⟨ws,h1.setCell ha u,h2,h3,h4⟩
def Ib (N:Nat)(w:World)(e:Ending)(w':World):Prop:=∃p n c,e=.returned (.agg #[.slice p n c])/\Aj w' p n c N/\Below w.heap.size w w'/\Gd w.heap.size p
theorem Hg (w:World)(p:Option Addr)(n c:Nat)(ws:List Nat)(i y:Nat)(h:Row w .u32 p n c ws)(hi:i<9223372036854775807)(hy:ws.getD i 0=y) :
  Calls Tryz.prog 157 #[.agg #[.slice p n c],.int .i64 i] w fun e w'=>e=.returned (.int .u32 y)/\Below w.heap.size w w':=by
 by_cases hin:i<n
 .obtain⟨b,off,rfl,hb,hc⟩:=h.pos (by omega);have hl:=h.len;have hne:b≠w.heap.size:=by omega
  have hci:w.cell? ⟨b,off+i,none⟩=some (.int .u32 (y:Nat)):=hc i _ (by rw[<-hy,Du];simp[show i<ws.length by omega]);clear hc hl h hy;go_enter Tryz.func157,Tryz.ntmps157;go_wp2;go_ret;exact⟨rfl,(Bb _ _).alloc (As _) _⟩
 .have hl:=h.len;have hg:ws.getD i 0=0:=by rw[Du];simp[List.getElem?_eq_none (show ws.length<=i by omega)]
  obtain rfl:y=0:=by rw[<-hy,hg]
  clear hg hl h hy;go_enter Tryz.func157,Tryz.ntmps157;go_wp2;go_ret;exact⟨rfl,(Bb _ _).alloc (As _) _⟩
theorem Mv (x y c:Nat)(w:World)(hx:x<4294967296)(hy:y<4294967296)(hc:c<=1) :
  Calls Tryz.prog 156 #[.int .u32 x,.int .u32 y,.int .u32 c] w fun e w'=>
   e=.returned (.tuple #[.int .u32 ((x+y+c)%4294967296:Nat),.int .u32 ((x+y+c)/4294967296:Nat)])/\w=w':=by
 go_enter Tryz.func156,Tryz.ntmps156;go_wp2
 go_ret2
 exact⟨by simp,rfl⟩
def Qu (N:Nat)(p0:Option Addr)(w:World)(e:Ending)(w':World):Prop:=∃p n c,e=.returned (.agg #[.slice p n c])/\Aj w' p n c N/\Below w.heap.size w w'/\(p=none ∨ p=p0)
theorem Wu {ws:List Nat}(h:val (ws.take 0)=val ws)(p:Option Addr)(w:World)(o:Obj):Qu (val ws) p w (.returned (.agg #[.slice none 0 0])) (w.alloc o):=by
 refine⟨none,0,0,rfl,⟨[],Row.nil _ _,Words.nil,by simp,?_⟩,(Bb _ _).alloc (As _) _,.inl rfl⟩;rw[<-h];rfl
theorem Wv {w:World}{p:Option Addr}{n c:Nat}{ws:List Nat}(h:Row w .u32 p n c ws)(hw:Words ws){k:Nat}(hk:k<n)(hv:val (ws.take (k+1))=val ws)(hz:ws.getD k 0≠0)(o:Obj):Qu (val ws) p w (.returned (.agg #[.slice p (k+1) c])) (w.alloc o):=by
 have hl:=h.len;have hb:Below w.heap.size w (w.alloc o):=Bx;refine⟨p,k+1,c,rfl,⟨ws.take (k+1),(h.take (k+1) (by omega)).below hb,hw.take _,?_,hv⟩,hb,.inr rfl⟩;rw[Da _ _ (by omega),List.getLast?_append];simp only[List.getLast?_singleton,Option.some_or];intro e;exact hz (Option.some.inj e)
theorem Cw (w:World)(p:Option Addr)(n c:Nat)(ws:List Nat)(h:Row w .u32 p n c ws)(hw:Words ws) :
  Calls Tryz.prog 69 #[.slice p n c] w (Qu (val ws) p w):=by
 have HL:=Ag h.len;have hm:=h.max;have hcp:=h.cap;go_enter Tryz.func69,Tryz.ntmps69;go_wp2
 go_loop [3] (fun m=>∃k:Nat,k<=n/\m=.int .i64 k/\val (ws.take k)=val ws) (fun m=>(intOf m).toNat)
 case atStart=>exact⟨n,As _,rfl,by rw[List.take_of_length_le (by have:=HL.out;omega)]⟩
 case round=>
  obtain⟨k,hk,rfl,hv⟩:=hrel;have HV:=Ag hv;clear hv
  by_cases hk0:k=0
  .subst hk0;go_wp2;refine bodyPost_ret (v:=.agg #[.slice none 0 0]) (by simp[results,Tryz.results69,go_sem]) rfl (Wu HV.out _ _ _)
  .obtain⟨m,rfl⟩:∃m,k=m+1:=⟨k-1,by omega⟩
   obtain⟨b,off,rfl,hb,hc⟩:=h.pos (by omega);have hne:b≠w.heap.size:=by omega
   obtain⟨x,hx⟩:∃x,ws.getD m 0=x:=⟨_,rfl⟩
   have hci:w.cell? ⟨b,off+m,none⟩=some (.int .u32 (x:Nat)):=hc m x (by rw[<-hx,Du];simp[show m<ws.length by have:=HL.out;omega]);have HX:=Ag hx;clear hc hx
   by_cases hz:x=0
   .subst hz;go_wp2;go_round
    case rel=>exact⟨m,by omega,by go_num,by rw[<-HV.out,Be,HX.out];simp⟩
    case measure=>simp[intOf]
   .have hz':((x:Int)==0)=false:=by rw[beq_eq_false_iff_ne];omega
    go_wp2;refine bodyPost_ret (v:=.agg #[.slice (some ⟨b,off,none⟩) (m+1) c]) (by simp[results,Tryz.results69,go_sem]) rfl (Wv h hw (by omega) HV.out (by rw[HX.out];exact hz) _)
structure Js (A B:List Nat) (k:Nat) (S:List Nat) (cy:Nat):Prop where
 len:S.length=k
 words:Words S
 carry:cy<=1
 eq:val S+Ar k*cy=val (A.take k)+val (B.take k)
theorem Js.start (A B:List Nat):Js A B 0 [] 0:=⟨rfl,Words.nil,by omega,by simp[val]⟩
theorem Js.step {A B:List Nat}{k:Nat}{S:List Nat}{cy:Nat}(h:Js A B k S cy)(hA:Words A)(hB:Words B) :
  Js A B (k+1) (S++[(A.getD k 0+B.getD k 0+cy)%4294967296]) ((A.getD k 0+B.getD k 0+cy)/4294967296):=by
 have h1:=hA.get k;have h2:=hB.get k;have h3:=h.carry;refine⟨by simp[h.len],h.words.snoc (Nat.mod_lt _ (by omega)),by omega,?_⟩;rw[Eu,h.len,Be,Be,Bw];have e:=h.eq;generalize A.getD k 0=x at *;generalize B.getD k 0=y at *;have hd:=Nat.div_add_mod (x+y+cy) 4294967296;generalize (x+y+cy)/4294967296=q at *;generalize (x+y+cy)%4294967296=r at *;generalize Ar k=b at *;have e2:b*r+4294967296*b*q=b*(x+y+cy):=by
  rw[<-hd,Nat.mul_add,Nat.mul_comm 4294967296 b,Nat.mul_assoc,Nat.add_comm]
 simp only[Nat.mul_add]at e2;omega
theorem Js.last {A B:List Nat}{k:Nat}{S:List Nat}{cy:Nat}(h:Js A B k S cy)(hA:A.length=k)(hB:B.length<=k):val (S++[cy])=val A+val B:=by
 have e:=h.eq;rw[List.take_of_length_le (by omega),List.take_of_length_le hB]at e
 rw[Eu,h.len];exact e
theorem Nf (S:List Nat)(m x:Nat):(S++List.replicate (m+1) 0).set S.length x=(S++[x])++List.replicate m 0:=by
 rw[List.set_append_right _ _ (As _)];simp[List.replicate_succ]
theorem Bm.zero_cell {w:World}{g:Nat}{e:TypeId}{k:IntKind}{S:List Nat}{m i:Nat}(h:Bm w g e k (S++List.replicate m 0))(hs:S.length=i)(hm:0<m):w.cell? ⟨g,i,none⟩=some (.int k 0):=by
 refine h.cell (x:=0) ?_;subst hs;rw[List.getElem?_append_right (As _)];simp[hm]
theorem Bm.last {w:World}{g:Nat}{e:TypeId}{k:IntKind}{S:List Nat}{i n:Nat}(h:Bm w g e k (S++List.replicate (n+1-i) 0))(hs:S.length=i)(hi:i<=n)(x:Nat) :
  Bm (w.setCell ⟨g,i,none⟩ (.int k x)) g e k ((S++[x])++List.replicate (n+1-(i+1)) 0):=by
 subst hs;have e1:n+1-S.length=(n+1-(S.length+1))+1:=by omega
 have:=h.set S.length x
 rwa [e1,Nf]at this
theorem Bm.next {w:World}{g:Nat}{e:TypeId}{k:IntKind}{S:List Nat}{i m m':Nat}(h:Bm w g e k (S++List.replicate m 0))(hs:S.length=i)(hm:m=m'+1)(x:Nat) :
  Bm (w.setCell ⟨g,i,none⟩ (.int k x)) g e k ((S++[x])++List.replicate m' 0):=by
 subst hs;subst hm;have:=h.set S.length x
 rwa [Nf]at this
theorem Row.lt {w:World}{k:IntKind}{p:Option Addr}{n c:Nat}{xs:List Nat}(h:Row w k p n c xs):∀q,p=some q->q.block<w.heap.size:=by
 intro q hq;rcases h.at_ with ⟨h1,_⟩|⟨b,off,h1,h2,_⟩
 .rw[h1]at hq;cases hq
 .rw[h1]at hq;cases hq;exact h2
structure Di (w wr:World) (u0 u1 u2:Value):Prop where
 bel:Below w.heap.size w wr
 size:w.heap.size+3<=wr.heap.size
 c0:wr.cell? ⟨w.heap.size,0,none⟩=some u0
 c1:wr.cell? ⟨w.heap.size+1,0,none⟩=some u1
 c2:wr.cell? ⟨w.heap.size+1+1,0,none⟩=some u2
 f0:wr.frozen? ⟨w.heap.size,0,none⟩=false
 f1:wr.frozen? ⟨w.heap.size+1,0,none⟩=false
 f2:wr.frozen? ⟨w.heap.size+1+1,0,none⟩=false
theorem Di.below {w wr w1:World}{u0 u1 u2:Value}(h:Di w wr u0 u1 u2){B:Nat}(hb:Below B wr w1)(hB:w.heap.size+3<=B):Di w w1 u0 u1 u2:=by
 obtain⟨hc,hf⟩:=Ca hb;refine⟨h.bel.trans (hb.mono (by omega)),Dn h.size hb.size,?_,?_,?_,?_,?_,?_⟩
 .rw[hc _ _ (by omega)];exact h.c0
 .rw[hc _ _ (by omega)];exact h.c1
 .rw[hc _ _ (by omega)];exact h.c2
 .rw[hf _ _ (by omega)];exact h.f0
 .rw[hf _ _ (by omega)];exact h.f1
 .rw[hf _ _ (by omega)];exact h.f2
theorem Di.mk' (w:World)(u0 u1 u2:Value)(t0 t1 t2 t3:TypeId)(row:Array Value) :
  Di w ((((w.alloc (.cells #[u0] t0)).alloc (.cells #[u1] t1)).alloc (.cells #[u2] t2)).alloc (.cells row t3)) u0 u1 u2:=by
 refine⟨?_,by simp,by simp[go_sem],by simp[go_sem],by simp[go_sem],by simp[go_sem],by simp[go_sem],by simp[go_sem]⟩;exact((((Bb _ _).alloc (As _) _).alloc (by simp) _).alloc (by simp;omega) _).alloc (by simp;omega) _
theorem Di.mk3 (w:World)(u0 u1 u2:Value)(t0 t1 t2:TypeId) :
  Di w (((w.alloc (.cells #[u0] t0)).alloc (.cells #[u1] t1)).alloc (.cells #[u2] t2)) u0 u1 u2:=by
 refine⟨?_,by simp,by simp[go_sem],by simp[go_sem],by simp[go_sem],by simp[go_sem],by simp[go_sem],by simp[go_sem]⟩;exact(((Bb _ _).alloc (As _) _).alloc (by simp) _).alloc (by simp;omega) _
theorem Di.later {w wr w1:World}{u0 u1 u2:Value}(h:Di w wr u0 u1 u2)(hb:Below wr.heap.size wr w1):Di w w1 u0 u1 u2:=h.below hb h.size
theorem Di.alloc {w wr:World}{u0 u1 u2:Value}(h:Di w wr u0 u1 u2)(o:Obj):Di w (wr.alloc o) u0 u1 u2:=h.later ((Bb _ _).alloc (As _) _)
theorem Di.grown {w wr w1:World}{u0 u1 u2:Value}(h:Di w wr u0 u1 u2){g:Nat}(hg:wr.grownBy w1 (some g))(hgw:w.heap.size+3<=g):Di w w1 u0 u1 u2 :=
 h.below (B:=w.heap.size+3) ((Bb _ wr).grown hg h.size (fun k e=>by cases e;exact hgw)) (As _)
structure Ef (w wr:World) (u0:Value):Prop where
 bel:Below w.heap.size w wr
 size:w.heap.size+1<=wr.heap.size
 c0:wr.cell? ⟨w.heap.size,0,none⟩=some u0
 f0:wr.frozen? ⟨w.heap.size,0,none⟩=false
theorem Ef.mk1 (w:World)(u0:Value)(t0:TypeId):Ef w (w.alloc (.cells #[u0] t0)) u0 :=
 ⟨(Bb _ _).alloc (As _) _,by simp,by simp[go_sem],by simp[go_sem]⟩
theorem Ef.below {w wr w1:World}{u0:Value}(h:Ef w wr u0){B:Nat}(hb:Below B wr w1)(hB:w.heap.size+1<=B):Ef w w1 u0:=by
 obtain⟨hc,hf⟩:=Ca hb;refine⟨h.bel.trans (hb.mono (by omega)),Dn h.size hb.size,?_,?_⟩
 .rw[hc _ _ (by omega)];exact h.c0
 .rw[hf _ _ (by omega)];exact h.f0
theorem Ef.later {w wr w1:World}{u0:Value}(h:Ef w wr u0)(hb:Below wr.heap.size wr w1):Ef w w1 u0:=h.below hb h.size
theorem Ef.alloc {w wr:World}{u0:Value}(h:Ef w wr u0)(o:Obj):Ef w (wr.alloc o) u0:=h.later ((Bb _ _).alloc (As _) _)
structure Ig (w wr:World) (u0 u1:Value):Prop where
 bel:Below w.heap.size w wr
 size:w.heap.size+2<=wr.heap.size
 c0:wr.cell? ⟨w.heap.size,0,none⟩=some u0
 c1:wr.cell? ⟨w.heap.size+1,0,none⟩=some u1
 f0:wr.frozen? ⟨w.heap.size,0,none⟩=false
 f1:wr.frozen? ⟨w.heap.size+1,0,none⟩=false
theorem Ig.mk2 (w:World)(u0 u1:Value)(t0 t1:TypeId):Ig w ((w.alloc (.cells #[u0] t0)).alloc (.cells #[u1] t1)) u0 u1 :=
 ⟨((Bb _ _).alloc (As _) _).alloc (by simp) _,by simp,by simp[go_sem],by simp[go_sem],by simp[go_sem],by simp[go_sem]⟩
theorem Ig.below {w wr w1:World}{u0 u1:Value}(h:Ig w wr u0 u1){B:Nat}(hb:Below B wr w1)(hB:w.heap.size+2<=B):Ig w w1 u0 u1:=by
 obtain⟨hc,hf⟩:=Ca hb;refine⟨h.bel.trans (hb.mono (by omega)),Dn h.size hb.size,?_,?_,?_,?_⟩
 .rw[hc _ _ (by omega)];exact h.c0
 .rw[hc _ _ (by omega)];exact h.c1
 .rw[hf _ _ (by omega)];exact h.f0
 .rw[hf _ _ (by omega)];exact h.f1
theorem Ig.later {w wr w1:World}{u0 u1:Value}(h:Ig w wr u0 u1)(hb:Below wr.heap.size wr w1):Ig w w1 u0 u1:=h.below hb h.size
theorem Row.of_owns {w:World}{base:Nat}{e:TypeId}{k:IntKind}{v:Value}{n:Nat}{ws:List Nat}(h:w.ownsRow base e 1 v n (ws.map fun(x:Nat)=>Value.int k x)) :
  ∃q d,v=.slice q n d/\Row w k q n d ws/\Gd base q:=by
 have hl:ws.length=n:=by have:=h.1;simpa using this
 rcases h.2 with ⟨rfl,rfl⟩|⟨g,cap,cur,rfl,hb,hg,hnc,hcm,hcs,htake⟩
 .have:ws=[]:=List.eq_nil_of_length_eq_zero hl;subst this;exact⟨none,0,rfl,Row.nil _ _,Gd.none _⟩
 .refine⟨_,cap,rfl,⟨hl.symm,hnc,by simpa [maxLen]using hcm,.inr ⟨g,0,rfl,(Kv hg).1,fun i x hx=>?_⟩⟩,fun q hq=>by cases hq;exact hb⟩;rw[Nat.zero_add,cell_of_row w g i cur e (0,0) hg];have hi:i<n:=by rw[<-hl];exact(List.getElem?_eq_some_iff.1 hx).1
  have:(cur.toList.take (n*1))[i]? = some (.int k x):=by rw[htake];simp[hx]
  rw[List.getElem?_take,if_pos (by omega)]at this
  simpa using this
structure nJ (w wr:World) (X Y:List Nat) (u0 u1 u2:Value) (n k cy:Nat):Prop where
 boxes:Di w wr u0 u1 u2
 ex:∃S,Js X Y k S cy/\Bm wr (w.heap.size+1+1+1) 129 .u32 (S++List.replicate (n+1-k) 0)
theorem pA (w:World)(pa:Option Addr)(na ca:Nat)(A:List Nat)(pb:Option Addr)(nb cb:Nat)(B:List Nat)(hA:Row w .u32 pa na ca A)(wA:Words A)(hB:Row w .u32 pb nb cb B)(wB:Words B)(hs:na<1000000)(hle:nb<=na) :
  Calls Tryz.prog 94 #[.agg #[.slice pa na ca],.agg #[.slice pb nb cb]] w (Ib (val A+val B) w):=by
 have HA:=Ag hA.len;have HB:=Ag hB.len;have hlt:¬((na:Int)<nb):=by omega
 have hmk:∀w,(Instr.makeSlice 35 (.int .i64 ((na:Int)+1)) (.int .i64 ((na:Int)+1))).run Tryz.prog w=.ok (.slice (some ⟨w.heap.size,0,none⟩) (na+1) (na+1)) (w.alloc (.cells (zeros .u32 (na+1)) 129)) :=
  fun w=>Iy (na+1) (by omega) w
 go_enter Tryz.func94,Tryz.ntmps94;go_wp2
 go_loopw [6,26] (fun cy i wr=>∃k c:Nat,k<=na/\i=.int .i64 k/\cy=.int .u32 c/\nJ w wr A B (.slice pa na ca) (.slice pb nb cb) (.slice none 0 0) na k c) (fun _ i _=>na-(intOf i).toNat)
 case atStart=>
  refine⟨0,0,by omega,rfl,rfl,Di.mk' _ _ _ _ _ _ _ _ _,[],Js.start A B,?_⟩;have:=Bm.zeros (((w.alloc (.cells #[.slice pa na ca] 37)).alloc (.cells #[.slice pb nb cb] 37)).alloc (.cells #[.slice none 0 0] 37)) 129 .u32 (na+1);simpa using this
 case round=>
  obtain⟨k,cy,hk,rfl,rfl,hrel⟩:=hrel;obtain⟨S,hS,hblk⟩:=hrel.ex;have hbx:=hrel.boxes;have c0:=hbx.c0;have c1:=hbx.c1;have hsz:=hbx.size
  by_cases hlt:k<na
  .have hsk:=hS.len;obtain⟨b,off,rfl,hb,hc⟩:=hA.pos (by omega);obtain⟨x,hx⟩:∃x,A.getD k 0=x:=⟨_,rfl⟩
   have hci:wr.cell? ⟨b,off+k,none⟩=some (.int .u32 (x:Nat)):=by
    rw[(Ca hbx.bel).1 _ _ hb];exact hc k x (by rw[<-hx,Du];simp[show k<A.length by have:=HA.out;omega])
   obtain⟨y,hy⟩:∃y,B.getD k 0=y:=⟨_,rfl⟩
   have HX:=Ag hx;have HY:=Ag hy;have HSk:=Ag hsk;clear hc hx hy hsk;have hg0:=hblk.zero_cell HSk.out (by omega);have hgf:=hblk.free k
   go_wp2_with fail
   refine(Hg wr pb nb cb B k y (hB.below hbx.bel) (by omega) HY.out).mono ?_;rintro e w1 ⟨rfl,hb1⟩;have hy:y<4294967296:=by rw[<-HY.out];exact wB.get k
   have hx':x<4294967296:=by rw[<-HX.out];exact wA.get k
   have hcy:=hS.carry;have hg0':=((Ca hb1).1 _ k hblk.lt).trans hg0;have hgf':=((Ca hb1).2 _ k hblk.lt).trans hgf
   go_wp2_with fail
   refine(Mv x y cy _ hx' hy hcy).mono ?_;rintro e w2 ⟨rfl,rfl⟩;go_wp2;go_roundw
   case rel=>
    refine⟨k+1,_,by omega,by go_num,rfl,(hbx.later hb1).below (B:=w.heap.size+3) ((Bb _ _).setCell (by simp) _) (As _),_,by have:=hS.step wA wB;rw[HX.out,HY.out]at this;exact this,?_⟩;exact(Bm.last (hblk.below hb1 hblk.lt) HSk.out (by omega) _)
   case measure=>simp[intOf];omega
  .obtain rfl:k=na:=by omega
   have hsk:=Ag hS.len;have hg0:=hblk.zero_cell hsk.out (by omega);have hgf:=hblk.free k;have hbl:=Bm.last hblk hsk.out (As _) cy;have hbx2:=hbx.below (B:=w.heap.size+3) ((Bb _ wr).setCell (p:=⟨w.heap.size+1+1+1,k,none⟩) (by simp) (.int .u32 cy)) (As _);have hw2:Words (S++[cy]++List.replicate (k+1-(k+1)) 0):=(hS.words.snoc (by have:=hS.carry;omega)).append (Words.zeros _)
   go_wp2_with fail
   refine(Cw _ _ _ _ _ (hbl.row (by simp;exact hsk.out.symm) (As _) (by omega)) hw2).mono ?_;rintro e w1 ⟨p,n,c,rfl,hn,hb1,hp⟩;have hbx3:=hbx2.later hb1;have d2:=hbx3.c2;have e2:=hbx3.f2;have hp':∀q,p=some q->q.block≠w.heap.size+1+1:=by
    intro q hq;rcases hp with rfl|rfl
    .cases hq
    .cases hq;simp
   have hn':Gd w.heap.size p:=by
    intro q hq;rcases hp with rfl|rfl
    .cases hq
    .cases hq;simp;omega
   go_wp2;refine bodyPost_ret (v:=.agg #[.slice p n c]) (by simp[results,Tryz.results94,go_sem,d2]) rfl ⟨p,n,c,rfl,?_,?_,hn'⟩
   .have:=hn.setCell (a:=⟨w.heap.size+1+1,0,none⟩) hp' (.slice p n c);rw[Nat.sub_self,List.replicate_zero,List.append_nil,hS.last HA.out.symm (by rw[<-HB.out];exact hle)]at this
    exact this
   .exact hbx3.bel.setCell (by simp;omega) _
theorem mP (w:World)(pa:Option Addr)(na ca:Nat)(A:List Nat)(pb:Option Addr)(nb cb:Nat)(B:List Nat)(hA:Row w .u32 pa na ca A)(wA:Words A)(hB:Row w .u32 pb nb cb B)(wB:Words B)(hs:na<1000000)(hle:nb<na) :
  Calls Tryz.prog 94 #[.agg #[.slice pb nb cb],.agg #[.slice pa na ca]] w (Ib (val A+val B) w):=by
 have HA:=Ag hA.len;have HB:=Ag hB.len;have hlt:(nb:Int)<na:=by omega
 have hmk:∀w,(Instr.makeSlice 35 (.int .i64 ((na:Int)+1)) (.int .i64 ((na:Int)+1))).run Tryz.prog w=.ok (.slice (some ⟨w.heap.size,0,none⟩) (na+1) (na+1)) (w.alloc (.cells (zeros .u32 (na+1)) 129)) :=
  fun w=>Iy (na+1) (by omega) w
 go_enter Tryz.func94,Tryz.ntmps94;go_wp2
 go_loopw [6,26] (fun cy i wr=>∃k c:Nat,k<=na/\i=.int .i64 k/\cy=.int .u32 c/\nJ w wr A B (.slice pa na ca) (.slice pb nb cb) (.slice none 0 0) na k c) (fun _ i _=>na-(intOf i).toNat)
 case atStart=>
  refine⟨0,0,by omega,rfl,rfl,Di.mk' _ _ _ _ _ _ _ _ _,[],Js.start A B,?_⟩;have:=Bm.zeros (((w.alloc (.cells #[.slice pa na ca] 37)).alloc (.cells #[.slice pb nb cb] 37)).alloc (.cells #[.slice none 0 0] 37)) 129 .u32 (na+1);simpa using this
 case round=>
  obtain⟨k,cy,hk,rfl,rfl,hrel⟩:=hrel;obtain⟨S,hS,hblk⟩:=hrel.ex;have hbx:=hrel.boxes;have c0:=hbx.c0;have c1:=hbx.c1;have hsz:=hbx.size
  by_cases hlt:k<na
  .have hsk:=hS.len;obtain⟨b,off,rfl,hb,hc⟩:=hA.pos (by omega);obtain⟨x,hx⟩:∃x,A.getD k 0=x:=⟨_,rfl⟩
   have hci:wr.cell? ⟨b,off+k,none⟩=some (.int .u32 (x:Nat)):=by
    rw[(Ca hbx.bel).1 _ _ hb];exact hc k x (by rw[<-hx,Du];simp[show k<A.length by have:=HA.out;omega])
   obtain⟨y,hy⟩:∃y,B.getD k 0=y:=⟨_,rfl⟩
   have HX:=Ag hx;have HY:=Ag hy;have HSk:=Ag hsk;clear hc hx hy hsk;have hg0:=hblk.zero_cell HSk.out (by omega);have hgf:=hblk.free k
   go_wp2_with fail
   refine(Hg wr pb nb cb B k y (hB.below hbx.bel) (by omega) HY.out).mono ?_;rintro e w1 ⟨rfl,hb1⟩;have hy:y<4294967296:=by rw[<-HY.out];exact wB.get k
   have hx':x<4294967296:=by rw[<-HX.out];exact wA.get k
   have hcy:=hS.carry;have hg0':=((Ca hb1).1 _ k hblk.lt).trans hg0;have hgf':=((Ca hb1).2 _ k hblk.lt).trans hgf
   go_wp2_with fail
   refine(Mv x y cy _ hx' hy hcy).mono ?_;rintro e w2 ⟨rfl,rfl⟩;go_wp2;go_roundw
   case rel=>
    refine⟨k+1,_,by omega,by go_num,rfl,(hbx.later hb1).below (B:=w.heap.size+3) ((Bb _ _).setCell (by simp) _) (As _),_,by have:=hS.step wA wB;rw[HX.out,HY.out]at this;exact this,?_⟩;exact(Bm.last (hblk.below hb1 hblk.lt) HSk.out (by omega) _)
   case measure=>simp[intOf];omega
  .obtain rfl:k=na:=by omega
   have hsk:=Ag hS.len;have hg0:=hblk.zero_cell hsk.out (by omega);have hgf:=hblk.free k;have hbl:=Bm.last hblk hsk.out (As _) cy;have hbx2:=hbx.below (B:=w.heap.size+3) ((Bb _ wr).setCell (p:=⟨w.heap.size+1+1+1,k,none⟩) (by simp) (.int .u32 cy)) (As _);have hw2:Words (S++[cy]++List.replicate (k+1-(k+1)) 0):=(hS.words.snoc (by have:=hS.carry;omega)).append (Words.zeros _)
   go_wp2_with fail
   refine(Cw _ _ _ _ _ (hbl.row (by simp;exact hsk.out.symm) (As _) (by omega)) hw2).mono ?_;rintro e w1 ⟨p,n,c,rfl,hn,hb1,hp⟩;have hbx3:=hbx2.later hb1;have d2:=hbx3.c2;have e2:=hbx3.f2;have hp':∀q,p=some q->q.block≠w.heap.size+1+1:=by
    intro q hq;rcases hp with rfl|rfl
    .cases hq
    .cases hq;simp
   have hn':Gd w.heap.size p:=by
    intro q hq;rcases hp with rfl|rfl
    .cases hq
    .cases hq;simp;omega
   go_wp2;refine bodyPost_ret (v:=.agg #[.slice p n c]) (by simp[results,Tryz.results94,go_sem,d2]) rfl ⟨p,n,c,rfl,?_,?_,hn'⟩
   .have:=hn.setCell (a:=⟨w.heap.size+1+1,0,none⟩) hp' (.slice p n c);rw[Nat.sub_self,List.replicate_zero,List.append_nil,hS.last HA.out.symm (by rw[<-HB.out];omega)]at this
    exact this
   .exact hbx3.bel.setCell (by simp;omega) _
theorem Wq (w:World)(pa:Option Addr)(na ca N:Nat)(pb:Option Addr)(nb cb M:Nat)(hA:Aj w pa na ca N)(hB:Aj w pb nb cb M)(ha:na<1000000)(hb:nb<1000000) :
  Calls Tryz.prog 94 #[.agg #[.slice pa na ca],.agg #[.slice pb nb cb]] w (Ib (N+M) w):=by
 obtain⟨A,h1,h2,_,rfl⟩:=hA.ex;obtain⟨B,k1,k2,_,rfl⟩:=hB.ex
 by_cases hle:nb<=na
 .exact pA w pa na ca A pb nb cb B h1 h2 k1 k2 ha hle
 .rw[Nat.add_comm];exact mP w pb nb cb B pa na ca A k1 k2 h1 h2 hb (by omega)
structure Un (W X:List Nat) (t k:Nat) (S:List Nat) (cy:Nat):Prop where
 len:S.length=k
 words:Words S
 carry:cy<4294967296
 eq:val S+Ar k*cy=val (W.take k)*t+val (X.take k)
theorem Un.start (W X:List Nat)(t:Nat):Un W X t 0 [] 0:=⟨rfl,Words.nil,by omega,by simp[val]⟩
theorem Nj {x t:Nat}(hx:x<4294967296)(ht:t<4294967296):x*t<=18446744065119617025:=by
 have:=Nat.mul_le_mul (Nat.le_of_lt_succ (show x<4294967295+1 by omega)) (Nat.le_of_lt_succ (show t<4294967295+1 by omega));omega
theorem Un.step {W X:List Nat}{t k:Nat}{S:List Nat}{cy:Nat}(h:Un W X t k S cy)(hW:Words W)(hX:Words X)(ht:t<4294967296) :
  Un W X t (k+1) (S++[(cy+(W.getD k 0*t+X.getD k 0))%4294967296]) ((cy+(W.getD k 0*t+X.getD k 0))/4294967296):=by
 have h1:=hW.get k;have h2:=hX.get k;have h3:=h.carry;have h4:=Nj h1 ht;refine⟨by simp[h.len],h.words.snoc (Nat.mod_lt _ (by omega)),by omega,?_⟩;rw[Eu,h.len,Be,Be,Bw];have e:=h.eq;generalize W.getD k 0=x at *;generalize X.getD k 0=y at *;have hd:=Nat.div_add_mod (cy+(x*t+y)) 4294967296;generalize (cy+(x*t+y))/4294967296=q at *;generalize (cy+(x*t+y))%4294967296=r at *;generalize Ar k=b at *;have e2:b*r+4294967296*b*q=b*(cy+(x*t+y)):=by
  rw[<-hd,Nat.mul_add,Nat.mul_comm 4294967296 b,Nat.mul_assoc,Nat.add_comm]
 have e3:(val (W.take k)+b*x)*t=val (W.take k)*t+b*(x*t):=by rw[Nat.add_mul,Nat.mul_assoc]
 simp only[Nat.mul_add]at e2;omega
def Kn (W X:List Nat)(t:Nat):Nat->List Nat×Nat
 | 0=>([],0)
 | k+1=>((Kn W X t k).1++[((Kn W X t k).2+(W.getD k 0*t+X.getD k 0))%4294967296],((Kn W X t k).2+(W.getD k 0*t+X.getD k 0))/4294967296)
theorem Pf {W X:List Nat}{t:Nat}(hW:Words W)(hX:Words X)(ht:t<4294967296):∀k,Un W X t k (Kn W X t k).1 (Kn W X t k).2
 | 0=>Un.start W X t
 | k+1=>(Pf hW hX ht k).step hW hX ht
theorem Bm.mid {w:World}{g:Nat}{e:TypeId}{k:IntKind}{xs S:List Nat}{o i:Nat}(h:Bm w g e k (xs.take o++S++xs.drop (o+i)))(hs:S.length=i)(ho:o+i<xs.length)(x:Nat) :
  w.cell? ⟨g,o+i,none⟩=some (.int k (xs.getD (o+i) 0:Nat))/\Bm (w.setCell ⟨g,o+i,none⟩ (.int k x)) g e k (xs.take o++(S++[x])++xs.drop (o+(i+1))):=by
 have hl:(xs.take o++S).length=o+i:=by simp;omega
 have hd:xs.drop (o+i)=xs.getD (o+i) 0::xs.drop (o+(i+1)):=by
  rw[List.drop_eq_getElem_cons ho,Du];simp[ho,Nat.add_assoc]
 rw[hd]at h
 constructor
 .refine h.cell ?_;rw[List.getElem?_append_right (by omega),hl];simp
 .have:=h.set (o+i) x;rw[List.set_append_right _ _ (by omega),hl,Nat.sub_self,List.set_cons_zero]at this
  rw[show xs.take o++(S++[x])++xs.drop (o+(i+1))=xs.take o++S++x::xs.drop (o+(i+1)) by simp];exact this
theorem grownBy_refl (w:World)(r:Option Nat):w.grownBy w r:=⟨rfl,rfl,rfl,As _,fun _ _ _=>rfl⟩
theorem grownBy_trans {a b c:World}{r:Option Nat}(h:a.grownBy b r)(k:b.grownBy c r):a.grownBy c r :=
 ⟨k.os.trans h.os,k.tape.trans h.tape,k.output.trans h.output,Dn h.size k.size,fun i hi hr=>(k.block i (Ej hi h.size) hr).trans (h.block i hi hr)⟩
theorem grownBy_setCell (w:World)(g i:Nat)(u:Value):w.grownBy (w.setCell ⟨g,i,none⟩ u) (some g) :=
 ⟨rfl,rfl,rfl,by simp,fun k _ hk=>heap_setCell_other w ⟨g,i,none⟩ k u (fun e=>hk (by simp[e]))⟩
theorem Row.grown {w w':World}{k:IntKind}{p:Option Addr}{n c:Nat}{xs:List Nat}{g:Nat}(h:Row w k p n c xs)(hg:w.grownBy w' (some g))(hp:∀q,p=some q->q.block≠g):Row w' k p n c xs:=by
 refine⟨h.len,h.cap,h.max,?_⟩;rcases h.at_ with h1|⟨b,off,h1,h2,h3⟩
 .exact .inl h1
 .have hne:=hp _ h1;refine .inr ⟨b,off,h1,Ej h2 hg.size,fun i x hx=>?_⟩;exact hg.cell (h3 i x hx) (fun e=>hne (Option.some.inj e))
def jB (W xs:List Nat)(t o g:Nat)(e:TypeId)(w:World)(en:Ending)(w':World):Prop :=
 en=.returned (.int .u32 ((Kn W (xs.drop o) t W.length).2:Nat))/\Bm w' g e .u32 (xs.take o++(Kn W (xs.drop o) t W.length).1++xs.drop (o+W.length))/\w.grownBy w' (some g)/\w'.heap.size=w.heap.size
theorem Qr (w:World)(g o n c:Nat)(xs:List Nat)(q:Option Addr)(m d:Nat)(W:List Nat)(t:Nat)(hg:Bm w g 129 .u32 xs)(hx:Words xs)(hW:Row w .u32 q m d W)(wW:Words W)(ht:t<4294967296)(hq:∀a,q=some a->a.block≠g)(hm:m<1000000)(ho:o+m<=xs.length)(hn:m<=n)(hc:n<=c)(hc2:c<9223372036854775807) :
  Calls Tryz.prog 158 #[.slice (some ⟨g,o,none⟩) n c,.slice q m d,.int .u32 t] w (jB W xs t o g 129 w):=by
 have HW:=Ag hW.len;go_enter Tryz.func158,Tryz.ntmps158;go_wp2
 go_loopw [7,12] (fun cy i wr=>∃k y:Nat,∃S,k<=m/\i=.int .i64 k/\cy=.int .u64 y/\Kn W (xs.drop o) t k=(S,y)/\Bm wr g 129 .u32 (xs.take o++S++xs.drop (o+k))/\w.grownBy wr (some g)/\wr.heap.size<=w.heap.size) (fun _ i _=>m-(intOf i).toNat)
 case atStart=>exact⟨0,0,[],by omega,rfl,rfl,rfl,by rw[List.append_nil,Nat.add_zero,List.take_append_drop];exact hg,grownBy_refl _ _,As _⟩
 case round=>
  obtain⟨k,y,S,hk,rfl,rfl,hS,hblk,hgr,hsz⟩:=hrel;have hst:=Pf wW (hx.drop o) ht k;rw[hS]at hst
  have hy:=hst.carry;have hsl:=hst.len;simp only at hy hsl;have HS:=Ag hS;have HSL:=Ag hsl;clear hS hst hsl
  by_cases hkm:k<m
  .obtain⟨b,off,rfl,hb,hcell⟩:=(hW.grown hgr hq).pos (by omega);obtain⟨x,hxk⟩:∃x,W.getD k 0=x:=⟨_,rfl⟩
   obtain⟨z,hz⟩:∃z,xs.getD (o+k) 0=z:=⟨_,rfl⟩
   have hci:wr.cell? ⟨b,off+k,none⟩=some (.int .u32 (x:Nat)):=hcell k x (by rw[<-hxk,Du];simp[show k<W.length by have:=HW.out;omega]);have hmid:=fun u=>Bm.mid hblk HSL.out (by omega) u
   have hcz:=(hmid 0).1;rw[hz]at hcz
   have hfz:=hblk.free (o+k);have hx1:x<4294967296:=by rw[<-hxk];exact wW.get k
   have hz1:z<4294967296:=by rw[<-hz];exact hx.get _
   have hp:=Nj hx1 ht;have hp':(x:Int)*t<=18446744065119617025:=by rw[<-Int.natCast_mul];omega
   have hp0:0<=(x:Int)*t:=by rw[<-Int.natCast_mul];omega
   have HX:=Ag hxk;have HZ:=Ag hz;have HM:=Ag (fun u=>(hmid u).2);clear hcell hxk hz hmid hp;go_wp2;go_roundw
   case rel=>
    have hzd:(xs.drop o).getD k 0=z:=by rw[Du,List.getElem?_drop,<-Du];exact HZ.out
    refine⟨k+1,(y+(x*t+z))/4294967296,S++[(y+(x*t+z))%4294967296],by omega,by go_num,?_,by rw[Kn,HS.out,HX.out,hzd],?_,?_,by simpa using hsz⟩
    .exact congrArg (Value.int .u64) (by rw[<-Int.natCast_mul];omega)
    .have:=HM.out ((y+(x*t+z))%4294967296);have e:(((y+(x*t+z))%4294967296:Nat):Int)=((y:Int)+((x:Int)*t+z))%4294967296:=by rw[<-Int.natCast_mul];omega
     rw[e]at this
     exact this
    .exact grownBy_trans hgr (grownBy_setCell _ _ _ _)
   case measure=>simp[intOf];omega
  .have hkm':m<=k:=by omega
   have hkl:k=W.length:=by have:=HW.out;omega
   have HK:=Ag hkl;clear hkl;go_wp2;go_ret;refine⟨?_,by rw[<-HK.out,HS.out];exact hblk,hgr,Nat.le_antisymm hsz hgr.size⟩;rw[<-HK.out,HS.out];exact congrArg (fun z=>Ending.returned (.int .u32 z)) (by omega)
open Go Go.RowKit Go.Proofs.YtokhckjemidbpaaGreatDoor.Flow
structure Ot (A B:List Nat) (k:Nat) (X:List Nat):Prop where
 len:X.length=A.length+B.length
 words:Words X
 eq:val X=val (A.take k)*val B
 rest:X.drop (k+B.length)=List.replicate (A.length-k) 0
theorem Ot.start (A B:List Nat):Ot A B 0 (List.replicate (A.length+B.length) 0) :=
 ⟨by simp,Words.zeros _,by rw[Kh];simp[val],by simp⟩
def Hp (A B X:List Nat)(k:Nat):List Nat:=X.take k++(Kn B (X.drop k) (A.getD k 0) B.length).1++X.drop (k+B.length)
def Oh (A B X:List Nat)(k:Nat):Nat:=(Kn B (X.drop k) (A.getD k 0) B.length).2
theorem Ot.step {A B X:List Nat}{k:Nat}(h:Ot A B k X)(hA:Words A)(hB:Words B)(hk:k<A.length):Ot A B (k+1) ((Hp A B X k).set (k+B.length) (Oh A B X k)):=by
 have hs:=Pf hB (h.words.drop k) (hA.get k) B.length;unfold Hp Oh;generalize (Kn B (X.drop k) (A.getD k 0) B.length).1=S at *;generalize (Kn B (X.drop k) (A.getD k 0) B.length).2=c at *;have hl:=h.len;have hx:X=X.take k++(X.drop k).take B.length++X.drop (k+B.length):=by
  rw[List.append_assoc,<-List.drop_drop,List.take_append_drop,List.take_append_drop]
 have hpl:(X.take k).length=k:=by simp;omega
 have hml:((X.drop k).take B.length).length=B.length:=by simp;omega
 have e1:val X=val (X.take k)+Ar k*val ((X.drop k).take B.length):=by
  conv=>lhs;rw[hx]
  rw[val_append,val_append,h.rest,Kh,hpl];simp
 have e2:=hs.eq;rw[List.take_of_length_le (As _)]at e2
 have e3:X.take k++S++X.drop (k+B.length)=(X.take k++S)++List.replicate (A.length-k-1+1) 0:=by
  rw[h.rest];congr 2;omega
 have hsl:(X.take k++S).length=k+B.length:=by simp[hs.len];omega
 have e4:(X.take k++S++X.drop (k+B.length)).set (k+B.length) c=X.take k++S++[c]++List.replicate (A.length-k-1) 0:=by
  rw[e3,<-hsl,Nf]
 rw[e4];refine⟨?_,?_,?_,?_⟩
 .simp[hs.len];omega
 .exact(((h.words.take k).append hs.words).snoc hs.carry).append (Words.zeros _)
 .rw[val_append,Kh,Eu,hsl,val_append,hpl,Be,Nat.add_mul,<-h.eq,e1];have hb:Ar (k+B.length)=Ar k*Ar B.length:=by unfold Ar;rw[Nat.pow_add]
  rw[hb];generalize Ar k=b at *;generalize Ar B.length=b2 at *;generalize A.getD k 0=x at *;have e5:b*(val S+b2*c)=b*(val B*x+val ((X.drop k).take B.length)):=by rw[e2]
  rw[Nat.mul_add,Nat.mul_add]at e5
  have e6:b*x*val B=b*(val B*x):=by rw[Nat.mul_assoc,Nat.mul_comm x]
  have e7:b*b2*c=b*(b2*c):=Nat.mul_assoc _ _ _;omega
 .rw[List.drop_append_of_le_length (by simp[hs.len];omega),List.drop_of_length_le (by simp[hs.len];omega)];simp;omega
theorem oF (w:World)(pa:Option Addr)(na ca:Nat)(A:List Nat)(pb:Option Addr)(nb cb:Nat)(B:List Nat)(hA:Row w .u32 pa na ca A)(wA:Words A)(hB:Row w .u32 pb nb cb B)(wB:Words B)(hs:na<1000000)(hsb:nb<1000000) :
  Calls Tryz.prog 95 #[.agg #[.slice pa na ca],.agg #[.slice pb nb cb]] w (Ib (val A*val B) w):=by
 have HA:=Ag hA.len;have HB:=Ag hB.len;have hmk:∀w,(Instr.makeSlice 35 (.int .i64 ((na:Int)+nb)) (.int .i64 ((na:Int)+nb))).run Tryz.prog w=.ok (.slice (some ⟨w.heap.size,0,none⟩) (na+nb) (na+nb)) (w.alloc (.cells (zeros .u32 (na+nb)) 129)) :=
  fun w=>Iy (na+nb) (by omega) w
 go_enter Tryz.func95,Tryz.ntmps95;go_wp2
 go_loopw [19] (fun i wr=>∃k:Nat,∃X,k<=na/\i=.int .i64 k/\Di w wr (.slice pa na ca) (.slice pb nb cb) (.slice none 0 0)/\Ot A B k X/\Bm wr (w.heap.size+1+1+1) 129 .u32 X) (fun i _=>na-(intOf i).toNat)
 case atStart=>
  refine⟨0,_,by omega,rfl,Di.mk' _ _ _ _ _ _ _ _ _,Ot.start A B,?_⟩;have:=Bm.zeros (((w.alloc (.cells #[.slice pa na ca] 37)).alloc (.cells #[.slice pb nb cb] 37)).alloc (.cells #[.slice none 0 0] 37)) 129 .u32 (na+nb);rw[<-HA.out,<-HB.out];simpa using this
 case round=>
  obtain⟨k,X,hk,rfl,hbx,hX,hblk⟩:=hrel;have c0:=hbx.c0;have c1:=hbx.c1;have c2:=hbx.c2;have f2:=hbx.f2
  by_cases hkn:k<na
  .obtain⟨b,off,rfl,hb,hc⟩:=hA.pos (by omega);obtain⟨x,hx⟩:∃x,A.getD k 0=x:=⟨_,rfl⟩
   have hci:wr.cell? ⟨b,off+k,none⟩=some (.int .u32 (x:Nat)):=by
    rw[(Ca hbx.bel).1 _ _ hb];exact hc k x (by rw[<-hx,Du];simp[show k<A.length by have:=HA.out;omega])
   have HX:=Ag hx;clear hc hx;go_wp2;refine Ah (by kernel_rfl) (by kernel_rfl)
    [some (.slice (some ⟨w.heap.size+1+1+1,0,none⟩) (na+nb) (na+nb)),some (.int .i64 k),some (.pointer (some ⟨w.heap.size+1,0,none⟩)),some (.slice pb nb cb),some (.int .i64 nb),some (.int .i64 ((k:Int)+nb)),
     some (.slice (some ⟨w.heap.size+1+1+1,0,none⟩) (na+nb) (na+nb)),some (.int .i64 k),some (.slice (some ⟨w.heap.size+1+1+1,k,none⟩) (na+nb-k) (na+nb-k)),some (.pointer (some ⟨w.heap.size+1,0,none⟩)),
     some (.slice pb nb cb),some (.int .u32 x),none,some (.pointer (some ⟨w.heap.size+1+1+1,k+nb,none⟩)),none]
    [false,false,false,false,false,false,false,false,false,false,false,false,true,false,true] rfl
    (fun _ _=>True)
    (fun D w'=>Di w w' (.slice (some ⟨b,off,none⟩) na ca) (.slice pb nb cb) (.slice none 0 0)/\Bm w' (w.heap.size+1+1+1) 129 .u32 (if D 14 then (Hp A B X k).set (k+B.length) (Oh A B X k) else if D 12 then Hp A B X k else X))
    (fun i v _=>i=12->v=.int .u32 (Oh A B X k:Nat))
    (fun _ _ _ _ h _=>h) ⟨hbx.below (Bb _ _).drew (As _),hblk⟩ ?_ ?_
   .have hk1:(k:Int)<=(na:Int)+nb:=by omega
    have hk2:¬na+nb=k:=by omega
    have hk3:(k:Int)+nb<(na:Int)+nb:=by omega
    have hk4:IntKind.i64.wrap ((k:Int)+nb)=(k:Int)+nb:=IntWalk.i64_in _ (by omega);have hk5:0<=(k:Int)+nb:=by omega
    have hk6:((k:Int)+nb).toNat=k+nb:=by omega
    have hx4:x<4294967296:=by rw[<-HX.out];exact wA.get k
    have hml:(Hp A B X k).length=na+nb:=by
     have h1:=(Pf wB (hX.words.drop k) (wA.get k) B.length).len;have h2:=hX.len;have h3:=HA.out;have h4:=HB.out;rw[Hp,List.length_append,List.length_append,h1,List.length_take,List.length_drop];omega
    simp only[Ba,Nat.reduceAdd];refine⟨?_,?_,?_,?_,?_,?_,?_,?_,?_,?_,?_,?_,?_,?_,?_,trivial⟩
    case refine_13=>
     intro D sp w' hD hW hdp ⟨hbx',hblk'⟩;have h14:D 14=false:=hW 14 (mq (by kernel_rfl));rw[h14,hD]at hblk'
     simp only[Bool.false_eq_true,if_false]at hblk';refine Ac (w1:=w') (f := 158) (args:=#[.slice (some ⟨w.heap.size+1+1+1,k,none⟩) (na+nb-k) (na+nb-k),.slice pb nb cb,.int .u32 x]) rfl (by simp[Act.eval,Act.put,go_sem]) ?_;refine(Qr w' _ k _ _ X pb nb cb B x hblk' hX.words (hB.below hbx'.bel) wB hx4 (fun a ha=>by have:=hB.lt a ha;omega) hsb (by have:=hX.len;have:=HA.out;have:=HB.out;omega) (by omega) (As _) (by omega)).mono ?_;rintro e w2 ⟨he,hb2,hg2,hs2⟩;refine⟨_,he,trivial,fun _=>?_,hbx'.grown hg2 (by omega),?_⟩
     .rw[Oh,HX.out]
     .simp only[h14,Bool.false_or,decide_true,Bool.or_true,if_true];rw[Hp,HX.out];exact hb2
    case refine_15=>
     intro D sp w' hD hW hdp ⟨hbx',hblk'⟩;have hdp12:=hdp 12 (mq (by kernel_rfl));have h12:=hdp12.1;have hs12':=hdp12.2 rfl;rw[h12,hD]at hblk'
     simp only[Bool.false_eq_true,if_false,if_true]at hblk';have hcl:w'.cell? ⟨w.heap.size+1+1+1,k+nb,none⟩=some (.int .u32 ((Hp A B X k).getD (k+nb) 0:Nat)):=hblk'.cell (by rw[Du];simp[show k+nb<(Hp A B X k).length by omega]);have hfr:=hblk'.free (k+nb)
     (with_reducible refine Aq (w1:=w'.setCell ⟨w.heap.size+1+1+1,k+nb,none⟩ (.int .u32 (Oh A B X k:Nat))) ?_ ?_ ?_)
     .simp only[Region.wanted]
     .simp[execOp,Act.eval,Act.put,go_sem,hs12',hcl,hfr]
     .refine⟨trivial,fun h=>by simp at h,hbx'.below (B:=w.heap.size+3) ((Bb _ _).setCell (by simp) _) (As _),?_⟩;simp only[decide_true,Bool.or_true,if_true];rw[<-HB.out];exact hblk'.set _ _
    all_goals
     clear c0 c1 c2 f2;intro D sp w' hD hW hdp ⟨hbx',hblk'⟩;have c1:=hbx'.c1;simp[asked,Region.wanted,Oper.gives,execOp,Act.eval,Act.put,go_sem,c1,hk1,hk2,hk3,hk4,hk5,hk6]
   .intro sp w' hsp ⟨hbx',hblk'⟩;simp only[An,Nat.reduceAdd];have hblk2:Bm w' (w.heap.size+1+1+1) 129 .u32 ((Hp A B X k).set (k+B.length) (Oh A B X k)):=hblk';clear hblk' hsp
    go_simp
    go_wp2;go_roundw
    case rel=>
     refine⟨k+1,_,by omega,by go_num,hbx',hX.step wA wB (by have:=HA.out;omega),hblk2⟩
    case measure=>simp[intOf];omega
  .have hkn':na<=k:=by omega
   have hrow:=hblk.row (n:=na+nb) (c:=na+nb) (by have:=hX.len;have:=HA.out;have:=HB.out;omega) (As _) (by omega)
   go_wp2_with fail
   refine(Cw _ _ _ _ _ hrow hX.words).mono ?_;rintro e w2 ⟨p,n,c,rfl,hn,hb2,hp⟩;have hbx3:=hbx.later hb2;have k2:=hbx3.c2;have e2:=hbx3.f2;have hn':Gd (w.heap.size+3) p:=by
    intro q hq;rcases hp with rfl|rfl
    .cases hq
    .cases hq;simp
   have hv:val X=val A*val B:=by
    rw[hX.eq,List.take_of_length_le (by have:=HA.out;omega)]
   have HV:=Ag hv;clear hv;go_wp2;refine bodyPost_ret (v:=.agg #[.slice p n c]) (by simp[results,Tryz.results95,go_sem,k2]) rfl ⟨p,n,c,rfl,?_,?_,hn'.mono (by omega)⟩
   .rw[<-HV.out];exact hn.setCell (a:=⟨w.heap.size+1+1,0,none⟩) (hn'.ne (show w.heap.size+1+1<w.heap.size+3 by omega)) (.slice p n c)
   .exact hbx3.bel.setCell (by simp;omega) _
theorem fY (w:World)(pa:Option Addr)(na ca N:Nat)(pb:Option Addr)(nb cb M:Nat)(hA:Aj w pa na ca N)(hB:Aj w pb nb cb M)(ha:na<1000000)(hb:nb<1000000) :
  Calls Tryz.prog 95 #[.agg #[.slice pa na ca],.agg #[.slice pb nb cb]] w (Ib (N*M) w):=by
 obtain⟨A,h1,h2,_,rfl⟩:=hA.ex;obtain⟨B,k1,k2,_,rfl⟩:=hB.ex;exact oF w pa na ca A pb nb cb B h1 h2 k1 k2 ha hb
end Go.Proofs.YtokhckjemidbpaaGreatDoor
