/- The sum of two numbers. -/
import Derived.Test.YtokhckjemidbpaaGreatDoorPock
import Derived.Handy
set_option maxRecDepth 1000000
set_option maxHeartbeats 16000000
set_option linter.all false
namespace Go.Proofs.YtokhckjemidbpaaGreatDoor
open Go Go.RowKit
theorem Tryz.info_u32:(Tryz.prog.info? 129).map (fun i=>(i.zero,i.size,i.bytes))=some (some (.int .u32 0),1,4):=by kernel_rfl
theorem Fz (n:Nat)(h:n<=4294967296)(w:World):(Instr.makeSlice 35 (.int .i64 n) (.int .i64 n)).run Tryz.prog w =
  .ok (.slice (some ⟨w.heap.size,0,none⟩) n n) (w.alloc (.cells (zeros .u32 n) 129)):=by
 obtain⟨i,hi,hz,hs,hb⟩:=info_parts Tryz.info_u32;have:=run_make (P:=Tryz.prog) w 35 129 i (.int .u32 0) Tryz.underlying35 hi hz .i64 .i64 n n (by omega) (Int.le_refl _) (by rw[hb];omega) (by omega);simp only[Int.toNat_natCast,hs,Nat.mul_one]at this;rw[this,<-Lc];rfl
theorem Ml {i:Int}(n:Nat)(hi:i=(n:Nat))(h:n<=4294967296)(w:World):(Instr.makeSlice 35 (.int .i64 i) (.int .i64 i)).run Tryz.prog w =
  .ok (.slice (some ⟨w.heap.size,0,none⟩) n n) (w.alloc (.cells (zeros .u32 n) 129)):=by subst hi;exact Fz n h w
structure Ah (w:World) (p:Option Addr) (n c:Nat) (N:Nat):Prop where
 ex:∃ws,Row w .u32 p n c ws/\Words ws/\ws.getLast? ≠ some 0/\val ws=N
theorem Ah.below {w w':World}{p:Option Addr}{n c N:Nat}(h:Ah w p n c N)(hb:Below w.heap.size w w'):Ah w' p n c N :=
 let ⟨ws,h1,h2,h3,h4⟩:=h.ex
 ⟨ws,h1.below hb,h2,h3,h4⟩
theorem Ah.setCell {w:World}{p:Option Addr}{n c N:Nat}(h:Ah w p n c N){a:Addr}(ha:∀q,p=some q->q.block≠a.block)(u:Value):Ah (w.setCell a u) p n c N :=
 let ⟨ws,h1,h2,h3,h4⟩:=h.ex
 ⟨ws,h1.setCell ha u,h2,h3,h4⟩
def Fg (N:Nat)(w:World)(e:Ending)(w':World):Prop:=∃p n c,e=.returned (.agg #[.slice p n c])/\Ah w' p n c N/\Below w.heap.size w w'/\El w.heap.size p
theorem Ep (w:World)(p:Option Addr)(n c:Nat)(ws:List Nat)(i y:Nat)(h:Row w .u32 p n c ws)(hi:i<9223372036854775807)(hy:ws.getD i 0=y) :
  Calls Tryz.prog 157 #[.agg #[.slice p n c],.int .i64 i] w fun e w'=>e=.returned (.int .u32 y)/\Below w.heap.size w w':=by
 by_cases hin:i<n
 .obtain⟨b,off,rfl,hb,hc⟩:=h.pos (by omega);have hl:=h.len;have hne:b≠w.heap.size:=by omega
  have hci:w.cell? ⟨b,off+i,none⟩=some (.int .u32 (y:Nat)):=hc i _ (by rw[<-hy,List.getD_eq_getElem?_getD];simp[show i<ws.length by omega]);clear hc hl h hy;go_enter Tryz.func157,Tryz.ntmps157;go_wp2;go_ret;exact⟨rfl,(Below.refl _ _).alloc (Nat.le_refl _) _⟩
 .have hl:=h.len;have hg:ws.getD i 0=0:=by rw[List.getD_eq_getElem?_getD];simp[List.getElem?_eq_none (show ws.length<=i by omega)]
  obtain rfl:y=0:=by rw[<-hy,hg]
  clear hg hl h hy;go_enter Tryz.func157,Tryz.ntmps157;go_wp2;go_ret;exact⟨rfl,(Below.refl _ _).alloc (Nat.le_refl _) _⟩
theorem Jo (x y c:Nat)(w:World)(hx:x<4294967296)(hy:y<4294967296)(hc:c<=1) :
  Calls Tryz.prog 156 #[.int .u32 x,.int .u32 y,.int .u32 c] w fun e w'=>
   e=.returned (.tuple #[.int .u32 ((x+y+c)%4294967296:Nat),.int .u32 ((x+y+c)/4294967296:Nat)])/\w=w':=by
 go_enter Tryz.func156,Tryz.ntmps156;go_wp2
 go_ret2
 exact⟨by simp,rfl⟩
def Mv (N:Nat)(p0:Option Addr)(w:World)(e:Ending)(w':World):Prop:=∃p n c,e=.returned (.agg #[.slice p n c])/\Ah w' p n c N/\Below w.heap.size w w'/\(p=none ∨ p=p0)
theorem Rr {ws:List Nat}(h:val (ws.take 0)=val ws)(p:Option Addr)(w:World)(o:Obj):Mv (val ws) p w (.returned (.agg #[.slice none 0 0])) (w.alloc o):=by
 refine⟨none,0,0,rfl,⟨[],Row.nil _ _,Words.nil,by simp,?_⟩,(Below.refl _ _).alloc (Nat.le_refl _) _,.inl rfl⟩;rw[<-h];rfl
theorem Rs {w:World}{p:Option Addr}{n c:Nat}{ws:List Nat}(h:Row w .u32 p n c ws)(hw:Words ws){k:Nat}(hk:k<n)(hv:val (ws.take (k+1))=val ws)(hz:ws.getD k 0≠0)(o:Obj):Mv (val ws) p w (.returned (.agg #[.slice p (k+1) c])) (w.alloc o):=by
 have hl:=h.len;have hb:Below w.heap.size w (w.alloc o):=(Below.refl _ _).alloc (Nat.le_refl _) _;refine⟨p,k+1,c,rfl,⟨ws.take (k+1),(h.take (k+1) (by omega)).below hb,hw.take _,?_,hv⟩,hb,.inr rfl⟩;rw[Fw _ _ (by omega),List.getLast?_append];simp only[List.getLast?_singleton,Option.some_or];intro e;exact hz (Option.some.inj e)
theorem Ca (w:World)(p:Option Addr)(n c:Nat)(ws:List Nat)(h:Row w .u32 p n c ws)(hw:Words ws) :
  Calls Tryz.prog 69 #[.slice p n c] w (Mv (val ws) p w):=by
 have HL:=Lib.hid h.len;have hm:=h.max;have hcp:=h.cap;go_enter Tryz.func69,Tryz.ntmps69;go_wp2
 go_loop [3] (fun m=>∃k:Nat,k<=n/\m=.int .i64 k/\val (ws.take k)=val ws) (fun m=>(intOf m).toNat)
 case atStart=>exact⟨n,Nat.le_refl _,rfl,by rw[List.take_of_length_le (by have:=HL.out;omega)]⟩
 case round=>
  obtain⟨k,hk,rfl,hv⟩:=hrel;have HV:=Lib.hid hv;clear hv
  by_cases hk0:k=0
  .subst hk0;go_wp2;refine bodyPost_ret (v:=.agg #[.slice none 0 0]) (by simp[results,Tryz.results69,go_sem]) rfl (Rr HV.out _ _ _)
  .obtain⟨m,rfl⟩:∃m,k=m+1:=⟨k-1,by omega⟩
   obtain⟨b,off,rfl,hb,hc⟩:=h.pos (by omega);have hne:b≠w.heap.size:=by omega
   obtain⟨x,hx⟩:∃x,ws.getD m 0=x:=⟨_,rfl⟩
   have hci:w.cell? ⟨b,off+m,none⟩=some (.int .u32 (x:Nat)):=hc m x (by rw[<-hx,List.getD_eq_getElem?_getD];simp[show m<ws.length by have:=HL.out;omega]);have HX:=Lib.hid hx;clear hc hx
   by_cases hz:x=0
   .subst hz;go_wp2;go_round
    case rel=>exact⟨m,by omega,by go_num,by rw[<-HV.out,Ar,HX.out];simp⟩
    case measure=>simp[intOf]
   .have hz':((x:Int)==0)=false:=by rw[beq_eq_false_iff_ne];omega
    go_wp2;refine bodyPost_ret (v:=.agg #[.slice (some ⟨b,off,none⟩) (m+1) c]) (by simp[results,Tryz.results69,go_sem]) rfl (Rs h hw (by omega) HV.out (by rw[HX.out];exact hz) _)
structure Gr (A B:List Nat) (k:Nat) (S:List Nat) (cy:Nat):Prop where
 len:S.length=k
 words:Words S
 carry:cy<=1
 eq:val S+Al k*cy=val (A.take k)+val (B.take k)
theorem Gr.start (A B:List Nat):Gr A B 0 [] 0:=⟨rfl,Words.nil,by omega,by simp[val]⟩
theorem Gr.step {A B:List Nat}{k:Nat}{S:List Nat}{cy:Nat}(h:Gr A B k S cy)(hA:Words A)(hB:Words B) :
  Gr A B (k+1) (S++[(A.getD k 0+B.getD k 0+cy)%4294967296]) ((A.getD k 0+B.getD k 0+cy)/4294967296):=by
 have h1:=hA.get k;have h2:=hB.get k;have h3:=h.carry;refine⟨by simp[h.len],h.words.snoc (Nat.mod_lt _ (by omega)),by omega,?_⟩;rw[Da,h.len,Ar,Ar,Bk];have e:=h.eq;generalize A.getD k 0=x at *;generalize B.getD k 0=y at *;have hd:=Nat.div_add_mod (x+y+cy) 4294967296;generalize (x+y+cy)/4294967296=q at *;generalize (x+y+cy)%4294967296=r at *;generalize Al k=b at *;have e2:b*r+4294967296*b*q=b*(x+y+cy):=by
  rw[<-hd,Nat.mul_add,Nat.mul_comm 4294967296 b,Nat.mul_assoc,Nat.add_comm]
 simp only[Nat.mul_add]at e2;omega
theorem Gr.last {A B:List Nat}{k:Nat}{S:List Nat}{cy:Nat}(h:Gr A B k S cy)(hA:A.length=k)(hB:B.length<=k):val (S++[cy])=val A+val B:=by
 have e:=h.eq;rw[List.take_of_length_le (by omega),List.take_of_length_le hB]at e
 rw[Da,h.len];exact e
theorem Jv (S:List Nat)(m x:Nat):(S++List.replicate (m+1) 0).set S.length x=(S++[x])++List.replicate m 0:=by
 rw[List.set_append_right _ _ (Nat.le_refl _)];simp[List.replicate_succ]
theorem Bi.zero_cell {w:World}{g:Nat}{e:TypeId}{k:IntKind}{S:List Nat}{m i:Nat}(h:Bi w g e k (S++List.replicate m 0))(hs:S.length=i)(hm:0<m):w.cell? ⟨g,i,none⟩=some (.int k 0):=by
 refine h.cell (x:=0) ?_;subst hs;rw[List.getElem?_append_right (Nat.le_refl _)];simp[hm]
theorem Bi.last {w:World}{g:Nat}{e:TypeId}{k:IntKind}{S:List Nat}{i n:Nat}(h:Bi w g e k (S++List.replicate (n+1-i) 0))(hs:S.length=i)(hi:i<=n)(x:Nat) :
  Bi (w.setCell ⟨g,i,none⟩ (.int k x)) g e k ((S++[x])++List.replicate (n+1-(i+1)) 0):=by
 subst hs;have e1:n+1-S.length=(n+1-(S.length+1))+1:=by omega
 have:=h.set S.length x
 rwa [e1,Jv]at this
theorem Bi.next {w:World}{g:Nat}{e:TypeId}{k:IntKind}{S:List Nat}{i m m':Nat}(h:Bi w g e k (S++List.replicate m 0))(hs:S.length=i)(hm:m=m'+1)(x:Nat) :
  Bi (w.setCell ⟨g,i,none⟩ (.int k x)) g e k ((S++[x])++List.replicate m' 0):=by
 subst hs;subst hm;have:=h.set S.length x
 rwa [Jv]at this
theorem Row.lt {w:World}{k:IntKind}{p:Option Addr}{n c:Nat}{xs:List Nat}(h:Row w k p n c xs):∀q,p=some q->q.block<w.heap.size:=by
 intro q hq;rcases h.at_ with ⟨h1,_⟩|⟨b,off,h1,h2,_⟩
 .rw[h1]at hq;cases hq
 .rw[h1]at hq;cases hq;exact h2
structure Ci (w wr:World) (u0 u1 u2:Value):Prop where
 bel:Below w.heap.size w wr
 size:w.heap.size+3<=wr.heap.size
 c0:wr.cell? ⟨w.heap.size,0,none⟩=some u0
 c1:wr.cell? ⟨w.heap.size+1,0,none⟩=some u1
 c2:wr.cell? ⟨w.heap.size+1+1,0,none⟩=some u2
 f0:wr.frozen? ⟨w.heap.size,0,none⟩=false
 f1:wr.frozen? ⟨w.heap.size+1,0,none⟩=false
 f2:wr.frozen? ⟨w.heap.size+1+1,0,none⟩=false
theorem Ci.below {w wr w1:World}{u0 u1 u2:Value}(h:Ci w wr u0 u1 u2){B:Nat}(hb:Below B wr w1)(hB:w.heap.size+3<=B):Ci w w1 u0 u1 u2:=by
 obtain⟨hc,hf⟩:=Cd hb;refine⟨h.bel.trans (hb.mono (by omega)),Nat.le_trans h.size hb.size,?_,?_,?_,?_,?_,?_⟩
 .rw[hc _ _ (by omega)];exact h.c0
 .rw[hc _ _ (by omega)];exact h.c1
 .rw[hc _ _ (by omega)];exact h.c2
 .rw[hf _ _ (by omega)];exact h.f0
 .rw[hf _ _ (by omega)];exact h.f1
 .rw[hf _ _ (by omega)];exact h.f2
theorem Ci.mk' (w:World)(u0 u1 u2:Value)(t0 t1 t2 t3:TypeId)(row:Array Value) :
  Ci w ((((w.alloc (.cells #[u0] t0)).alloc (.cells #[u1] t1)).alloc (.cells #[u2] t2)).alloc (.cells row t3)) u0 u1 u2:=by
 refine⟨?_,by simp,by simp[go_sem],by simp[go_sem],by simp[go_sem],by simp[go_sem],by simp[go_sem],by simp[go_sem]⟩;exact((((Below.refl _ _).alloc (Nat.le_refl _) _).alloc (by simp) _).alloc (by simp;omega) _).alloc (by simp;omega) _
theorem Ci.mk3 (w:World)(u0 u1 u2:Value)(t0 t1 t2:TypeId) :
  Ci w (((w.alloc (.cells #[u0] t0)).alloc (.cells #[u1] t1)).alloc (.cells #[u2] t2)) u0 u1 u2:=by
 refine⟨?_,by simp,by simp[go_sem],by simp[go_sem],by simp[go_sem],by simp[go_sem],by simp[go_sem],by simp[go_sem]⟩;exact(((Below.refl _ _).alloc (Nat.le_refl _) _).alloc (by simp) _).alloc (by simp;omega) _
theorem Ci.later {w wr w1:World}{u0 u1 u2:Value}(h:Ci w wr u0 u1 u2)(hb:Below wr.heap.size wr w1):Ci w w1 u0 u1 u2:=h.below hb h.size
theorem Ci.alloc {w wr:World}{u0 u1 u2:Value}(h:Ci w wr u0 u1 u2)(o:Obj):Ci w (wr.alloc o) u0 u1 u2:=h.later ((Below.refl _ _).alloc (Nat.le_refl _) _)
theorem Ci.grown {w wr w1:World}{u0 u1 u2:Value}(h:Ci w wr u0 u1 u2){g:Nat}(hg:wr.grownBy w1 (some g))(hgw:w.heap.size+3<=g):Ci w w1 u0 u1 u2 :=
 h.below (B:=w.heap.size+3) ((Below.refl _ wr).grown hg h.size (fun k e=>by cases e;exact hgw)) (Nat.le_refl _)
structure Cw (w wr:World) (u0:Value):Prop where
 bel:Below w.heap.size w wr
 size:w.heap.size+1<=wr.heap.size
 c0:wr.cell? ⟨w.heap.size,0,none⟩=some u0
 f0:wr.frozen? ⟨w.heap.size,0,none⟩=false
theorem Cw.mk1 (w:World)(u0:Value)(t0:TypeId):Cw w (w.alloc (.cells #[u0] t0)) u0 :=
 ⟨(Below.refl _ _).alloc (Nat.le_refl _) _,by simp,by simp[go_sem],by simp[go_sem]⟩
theorem Cw.below {w wr w1:World}{u0:Value}(h:Cw w wr u0){B:Nat}(hb:Below B wr w1)(hB:w.heap.size+1<=B):Cw w w1 u0:=by
 obtain⟨hc,hf⟩:=Cd hb;refine⟨h.bel.trans (hb.mono (by omega)),Nat.le_trans h.size hb.size,?_,?_⟩
 .rw[hc _ _ (by omega)];exact h.c0
 .rw[hf _ _ (by omega)];exact h.f0
theorem Cw.later {w wr w1:World}{u0:Value}(h:Cw w wr u0)(hb:Below wr.heap.size wr w1):Cw w w1 u0:=h.below hb h.size
theorem Cw.alloc {w wr:World}{u0:Value}(h:Cw w wr u0)(o:Obj):Cw w (wr.alloc o) u0:=h.later ((Below.refl _ _).alloc (Nat.le_refl _) _)
structure Fk (w wr:World) (u0 u1:Value):Prop where
 bel:Below w.heap.size w wr
 size:w.heap.size+2<=wr.heap.size
 c0:wr.cell? ⟨w.heap.size,0,none⟩=some u0
 c1:wr.cell? ⟨w.heap.size+1,0,none⟩=some u1
 f0:wr.frozen? ⟨w.heap.size,0,none⟩=false
 f1:wr.frozen? ⟨w.heap.size+1,0,none⟩=false
theorem Fk.mk2 (w:World)(u0 u1:Value)(t0 t1:TypeId):Fk w ((w.alloc (.cells #[u0] t0)).alloc (.cells #[u1] t1)) u0 u1 :=
 ⟨((Below.refl _ _).alloc (Nat.le_refl _) _).alloc (by simp) _,by simp,by simp[go_sem],by simp[go_sem],by simp[go_sem],by simp[go_sem]⟩
theorem Fk.below {w wr w1:World}{u0 u1:Value}(h:Fk w wr u0 u1){B:Nat}(hb:Below B wr w1)(hB:w.heap.size+2<=B):Fk w w1 u0 u1:=by
 obtain⟨hc,hf⟩:=Cd hb;refine⟨h.bel.trans (hb.mono (by omega)),Nat.le_trans h.size hb.size,?_,?_,?_,?_⟩
 .rw[hc _ _ (by omega)];exact h.c0
 .rw[hc _ _ (by omega)];exact h.c1
 .rw[hf _ _ (by omega)];exact h.f0
 .rw[hf _ _ (by omega)];exact h.f1
theorem Fk.later {w wr w1:World}{u0 u1:Value}(h:Fk w wr u0 u1)(hb:Below wr.heap.size wr w1):Fk w w1 u0 u1:=h.below hb h.size
theorem Row.of_owns {w:World}{base:Nat}{e:TypeId}{k:IntKind}{v:Value}{n:Nat}{ws:List Nat}(h:w.ownsRow base e 1 v n (ws.map fun(x:Nat)=>Value.int k x)) :
  ∃q d,v=.slice q n d/\Row w k q n d ws/\El base q:=by
 have hl:ws.length=n:=by have:=h.1;simpa using this
 rcases h.2 with ⟨rfl,rfl⟩|⟨g,cap,cur,rfl,hb,hg,hnc,hcm,hcs,htake⟩
 .have:ws=[]:=List.eq_nil_of_length_eq_zero hl;subst this;exact⟨none,0,rfl,Row.nil _ _,El.none _⟩
 .refine⟨_,cap,rfl,⟨hl.symm,hnc,by simpa [maxLen]using hcm,.inr ⟨g,0,rfl,(Array.getElem?_eq_some_iff.1 hg).1,fun i x hx=>?_⟩⟩,fun q hq=>by cases hq;exact hb⟩;rw[Nat.zero_add,cell_of_row w g i cur e (0,0) hg];have hi:i<n:=by rw[<-hl];exact(List.getElem?_eq_some_iff.1 hx).1
  have:(cur.toList.take (n*1))[i]? = some (.int k x):=by rw[htake];simp[hx]
  rw[List.getElem?_take,if_pos (by omega)]at this
  simpa using this
structure eF (w wr:World) (X Y:List Nat) (u0 u1 u2:Value) (n k cy:Nat):Prop where
 boxes:Ci w wr u0 u1 u2
 ex:∃S,Gr X Y k S cy/\Bi wr (w.heap.size+1+1+1) 129 .u32 (S++List.replicate (n+1-k) 0)
theorem fM (w:World)(pa:Option Addr)(na ca:Nat)(A:List Nat)(pb:Option Addr)(nb cb:Nat)(B:List Nat)(hA:Row w .u32 pa na ca A)(wA:Words A)(hB:Row w .u32 pb nb cb B)(wB:Words B)(hs:na<1000000)(hle:nb<=na) :
  Calls Tryz.prog 94 #[.agg #[.slice pa na ca],.agg #[.slice pb nb cb]] w (Fg (val A+val B) w):=by
 have HA:=Lib.hid hA.len;have HB:=Lib.hid hB.len;have hlt:¬((na:Int)<nb):=by omega
 have hmk:∀w,(Instr.makeSlice 35 (.int .i64 ((na:Int)+1)) (.int .i64 ((na:Int)+1))).run Tryz.prog w=.ok (.slice (some ⟨w.heap.size,0,none⟩) (na+1) (na+1)) (w.alloc (.cells (zeros .u32 (na+1)) 129)) :=
  fun w=>Fz (na+1) (by omega) w
 go_enter Tryz.func94,Tryz.ntmps94;go_wp2
 go_loopw [6,26] (fun cy i wr=>∃k c:Nat,k<=na/\i=.int .i64 k/\cy=.int .u32 c/\eF w wr A B (.slice pa na ca) (.slice pb nb cb) (.slice none 0 0) na k c) (fun _ i _=>na-(intOf i).toNat)
 case atStart=>
  refine⟨0,0,by omega,rfl,rfl,Ci.mk' _ _ _ _ _ _ _ _ _,[],Gr.start A B,?_⟩;have:=Bi.zeros (((w.alloc (.cells #[.slice pa na ca] 37)).alloc (.cells #[.slice pb nb cb] 37)).alloc (.cells #[.slice none 0 0] 37)) 129 .u32 (na+1);simpa using this
 case round=>
  obtain⟨k,cy,hk,rfl,rfl,hrel⟩:=hrel;obtain⟨S,hS,hblk⟩:=hrel.ex;have hbx:=hrel.boxes;have c0:=hbx.c0;have c1:=hbx.c1;have hsz:=hbx.size
  by_cases hlt:k<na
  .have hsk:=hS.len;obtain⟨b,off,rfl,hb,hc⟩:=hA.pos (by omega);obtain⟨x,hx⟩:∃x,A.getD k 0=x:=⟨_,rfl⟩
   have hci:wr.cell? ⟨b,off+k,none⟩=some (.int .u32 (x:Nat)):=by
    rw[(Cd hbx.bel).1 _ _ hb];exact hc k x (by rw[<-hx,List.getD_eq_getElem?_getD];simp[show k<A.length by have:=HA.out;omega])
   obtain⟨y,hy⟩:∃y,B.getD k 0=y:=⟨_,rfl⟩
   have HX:=Lib.hid hx;have HY:=Lib.hid hy;have HSk:=Lib.hid hsk;clear hc hx hy hsk;have hg0:=hblk.zero_cell HSk.out (by omega);have hgf:=hblk.free k
   go_wp2_with fail
   refine(Ep wr pb nb cb B k y (hB.below hbx.bel) (by omega) HY.out).mono ?_;rintro e w1 ⟨rfl,hb1⟩;have hy:y<4294967296:=by rw[<-HY.out];exact wB.get k
   have hx':x<4294967296:=by rw[<-HX.out];exact wA.get k
   have hcy:=hS.carry;have hg0':=((Cd hb1).1 _ k hblk.lt).trans hg0;have hgf':=((Cd hb1).2 _ k hblk.lt).trans hgf
   go_wp2_with fail
   refine(Jo x y cy _ hx' hy hcy).mono ?_;rintro e w2 ⟨rfl,rfl⟩;go_wp2;go_roundw
   case rel=>
    refine⟨k+1,_,by omega,by go_num,rfl,(hbx.later hb1).below (B:=w.heap.size+3) ((Below.refl _ _).setCell (by simp) _) (Nat.le_refl _),_,by have:=hS.step wA wB;rw[HX.out,HY.out]at this;exact this,?_⟩;exact(Bi.last (hblk.below hb1 hblk.lt) HSk.out (by omega) _)
   case measure=>simp[intOf];omega
  .obtain rfl:k=na:=by omega
   have hsk:=Lib.hid hS.len;have hg0:=hblk.zero_cell hsk.out (by omega);have hgf:=hblk.free k;have hbl:=Bi.last hblk hsk.out (Nat.le_refl _) cy;have hbx2:=hbx.below (B:=w.heap.size+3) ((Below.refl _ wr).setCell (p:=⟨w.heap.size+1+1+1,k,none⟩) (by simp) (.int .u32 cy)) (Nat.le_refl _);have hw2:Words (S++[cy]++List.replicate (k+1-(k+1)) 0):=(hS.words.snoc (by have:=hS.carry;omega)).append (Words.zeros _)
   go_wp2_with fail
   refine(Ca _ _ _ _ _ (hbl.row (by simp;exact hsk.out.symm) (Nat.le_refl _) (by omega)) hw2).mono ?_;rintro e w1 ⟨p,n,c,rfl,hn,hb1,hp⟩;have hbx3:=hbx2.later hb1;have d2:=hbx3.c2;have e2:=hbx3.f2;have hp':∀q,p=some q->q.block≠w.heap.size+1+1:=by
    intro q hq;rcases hp with rfl|rfl
    .cases hq
    .cases hq;simp
   have hn':El w.heap.size p:=by
    intro q hq;rcases hp with rfl|rfl
    .cases hq
    .cases hq;simp;omega
   go_wp2;refine bodyPost_ret (v:=.agg #[.slice p n c]) (by simp[results,Tryz.results94,go_sem,d2]) rfl ⟨p,n,c,rfl,?_,?_,hn'⟩
   .have:=hn.setCell (a:=⟨w.heap.size+1+1,0,none⟩) hp' (.slice p n c);rw[Nat.sub_self,List.replicate_zero,List.append_nil,hS.last HA.out.symm (by rw[<-HB.out];exact hle)]at this
    exact this
   .exact hbx3.bel.setCell (by simp;omega) _
theorem dQ (w:World)(pa:Option Addr)(na ca:Nat)(A:List Nat)(pb:Option Addr)(nb cb:Nat)(B:List Nat)(hA:Row w .u32 pa na ca A)(wA:Words A)(hB:Row w .u32 pb nb cb B)(wB:Words B)(hs:na<1000000)(hle:nb<na) :
  Calls Tryz.prog 94 #[.agg #[.slice pb nb cb],.agg #[.slice pa na ca]] w (Fg (val A+val B) w):=by
 have HA:=Lib.hid hA.len;have HB:=Lib.hid hB.len;have hlt:(nb:Int)<na:=by omega
 have hmk:∀w,(Instr.makeSlice 35 (.int .i64 ((na:Int)+1)) (.int .i64 ((na:Int)+1))).run Tryz.prog w=.ok (.slice (some ⟨w.heap.size,0,none⟩) (na+1) (na+1)) (w.alloc (.cells (zeros .u32 (na+1)) 129)) :=
  fun w=>Fz (na+1) (by omega) w
 go_enter Tryz.func94,Tryz.ntmps94;go_wp2
 go_loopw [6,26] (fun cy i wr=>∃k c:Nat,k<=na/\i=.int .i64 k/\cy=.int .u32 c/\eF w wr A B (.slice pa na ca) (.slice pb nb cb) (.slice none 0 0) na k c) (fun _ i _=>na-(intOf i).toNat)
 case atStart=>
  refine⟨0,0,by omega,rfl,rfl,Ci.mk' _ _ _ _ _ _ _ _ _,[],Gr.start A B,?_⟩;have:=Bi.zeros (((w.alloc (.cells #[.slice pa na ca] 37)).alloc (.cells #[.slice pb nb cb] 37)).alloc (.cells #[.slice none 0 0] 37)) 129 .u32 (na+1);simpa using this
 case round=>
  obtain⟨k,cy,hk,rfl,rfl,hrel⟩:=hrel;obtain⟨S,hS,hblk⟩:=hrel.ex;have hbx:=hrel.boxes;have c0:=hbx.c0;have c1:=hbx.c1;have hsz:=hbx.size
  by_cases hlt:k<na
  .have hsk:=hS.len;obtain⟨b,off,rfl,hb,hc⟩:=hA.pos (by omega);obtain⟨x,hx⟩:∃x,A.getD k 0=x:=⟨_,rfl⟩
   have hci:wr.cell? ⟨b,off+k,none⟩=some (.int .u32 (x:Nat)):=by
    rw[(Cd hbx.bel).1 _ _ hb];exact hc k x (by rw[<-hx,List.getD_eq_getElem?_getD];simp[show k<A.length by have:=HA.out;omega])
   obtain⟨y,hy⟩:∃y,B.getD k 0=y:=⟨_,rfl⟩
   have HX:=Lib.hid hx;have HY:=Lib.hid hy;have HSk:=Lib.hid hsk;clear hc hx hy hsk;have hg0:=hblk.zero_cell HSk.out (by omega);have hgf:=hblk.free k
   go_wp2_with fail
   refine(Ep wr pb nb cb B k y (hB.below hbx.bel) (by omega) HY.out).mono ?_;rintro e w1 ⟨rfl,hb1⟩;have hy:y<4294967296:=by rw[<-HY.out];exact wB.get k
   have hx':x<4294967296:=by rw[<-HX.out];exact wA.get k
   have hcy:=hS.carry;have hg0':=((Cd hb1).1 _ k hblk.lt).trans hg0;have hgf':=((Cd hb1).2 _ k hblk.lt).trans hgf
   go_wp2_with fail
   refine(Jo x y cy _ hx' hy hcy).mono ?_;rintro e w2 ⟨rfl,rfl⟩;go_wp2;go_roundw
   case rel=>
    refine⟨k+1,_,by omega,by go_num,rfl,(hbx.later hb1).below (B:=w.heap.size+3) ((Below.refl _ _).setCell (by simp) _) (Nat.le_refl _),_,by have:=hS.step wA wB;rw[HX.out,HY.out]at this;exact this,?_⟩;exact(Bi.last (hblk.below hb1 hblk.lt) HSk.out (by omega) _)
   case measure=>simp[intOf];omega
  .obtain rfl:k=na:=by omega
   have hsk:=Lib.hid hS.len;have hg0:=hblk.zero_cell hsk.out (by omega);have hgf:=hblk.free k;have hbl:=Bi.last hblk hsk.out (Nat.le_refl _) cy;have hbx2:=hbx.below (B:=w.heap.size+3) ((Below.refl _ wr).setCell (p:=⟨w.heap.size+1+1+1,k,none⟩) (by simp) (.int .u32 cy)) (Nat.le_refl _);have hw2:Words (S++[cy]++List.replicate (k+1-(k+1)) 0):=(hS.words.snoc (by have:=hS.carry;omega)).append (Words.zeros _)
   go_wp2_with fail
   refine(Ca _ _ _ _ _ (hbl.row (by simp;exact hsk.out.symm) (Nat.le_refl _) (by omega)) hw2).mono ?_;rintro e w1 ⟨p,n,c,rfl,hn,hb1,hp⟩;have hbx3:=hbx2.later hb1;have d2:=hbx3.c2;have e2:=hbx3.f2;have hp':∀q,p=some q->q.block≠w.heap.size+1+1:=by
    intro q hq;rcases hp with rfl|rfl
    .cases hq
    .cases hq;simp
   have hn':El w.heap.size p:=by
    intro q hq;rcases hp with rfl|rfl
    .cases hq
    .cases hq;simp;omega
   go_wp2;refine bodyPost_ret (v:=.agg #[.slice p n c]) (by simp[results,Tryz.results94,go_sem,d2]) rfl ⟨p,n,c,rfl,?_,?_,hn'⟩
   .have:=hn.setCell (a:=⟨w.heap.size+1+1,0,none⟩) hp' (.slice p n c);rw[Nat.sub_self,List.replicate_zero,List.append_nil,hS.last HA.out.symm (by rw[<-HB.out];omega)]at this
    exact this
   .exact hbx3.bel.setCell (by simp;omega) _
theorem Ro (w:World)(pa:Option Addr)(na ca N:Nat)(pb:Option Addr)(nb cb M:Nat)(hA:Ah w pa na ca N)(hB:Ah w pb nb cb M)(ha:na<1000000)(hb:nb<1000000) :
  Calls Tryz.prog 94 #[.agg #[.slice pa na ca],.agg #[.slice pb nb cb]] w (Fg (N+M) w):=by
 obtain⟨A,h1,h2,_,rfl⟩:=hA.ex;obtain⟨B,k1,k2,_,rfl⟩:=hB.ex
 by_cases hle:nb<=na
 .exact fM w pa na ca A pb nb cb B h1 h2 k1 k2 ha hle
 .rw[Nat.add_comm];exact dQ w pb nb cb B pa na ca A k1 k2 h1 h2 hb (by omega)
end Go.Proofs.YtokhckjemidbpaaGreatDoor
