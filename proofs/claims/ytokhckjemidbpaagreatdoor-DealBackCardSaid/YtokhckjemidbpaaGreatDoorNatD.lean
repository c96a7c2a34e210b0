/- Which of two numbers is greater: the call. -/
import Derived.Test.YtokhckjemidbpaaGreatDoorPock
import Derived.Handy
import Derived.Test.YtokhckjemidbpaaGreatDoorFlow
import Derived.RangeFuncNested
import Derived.RangeFuncBound
import Derived.RangeFuncCalls
import Derived.RangeFuncLeaves
import Derived.Shelf.Abstract
import Derived.Shelf.RegionOpen
import Derived.OwnWalkIn
import Derived.TacticsInMore
import Derived.LoopNIn
import Derived.LoopIn
set_option maxRecDepth 1000000
set_option maxHeartbeats 16000000
set_option linter.all false
namespace Go.Proofs.YtokhckjemidbpaaGreatDoor
open Go Go.RowKit
theorem Tryz.info_u32:(Tryz.prog.info? 129).map (fun i=>(i.zero,i.size,i.bytes))=some (some (.int .u32 0),1,4):=by kernel_rfl
theorem Ha (n:Nat)(h:n<=4294967296)(w:World):(Instr.makeSlice 35 (.int .i64 n) (.int .i64 n)).run Tryz.prog w =
  .ok (.slice (some ⟨w.heap.size,0,none⟩) n n) (w.alloc (.cells (zeros .u32 n) 129)):=by
 obtain⟨i,hi,hz,hs,hb⟩:=info_parts Tryz.info_u32;have:=run_make (P:=Tryz.prog) w 35 129 i (.int .u32 0) Tryz.underlying35 hi hz .i64 .i64 n n (by omega) (Int.le_refl _) (by rw[hb];omega) (by omega);simp only[Int.toNat_natCast,hs,Nat.mul_one]at this;rw[this,<-Mr];rfl
theorem Ow {i:Int}(n:Nat)(hi:i=(n:Nat))(h:n<=4294967296)(w:World):(Instr.makeSlice 35 (.int .i64 i) (.int .i64 i)).run Tryz.prog w =
  .ok (.slice (some ⟨w.heap.size,0,none⟩) n n) (w.alloc (.cells (zeros .u32 n) 129)):=by subst hi;exact Ha n h w
structure Ag (w:World) (p:Option Addr) (n c:Nat) (N:Nat):Prop where
 ex:∃ws,Row w .u32 p n c ws/\Words ws/\ws.getLast? ≠ some 0/\val ws=N
theorem Ag.below {w w':World}{p:Option Addr}{n c N:Nat}(h:Ag w p n c N)(hb:Below w.heap.size w w'):Ag w' p n c N :=
 let ⟨ws,h1,h2,h3,h4⟩:=h.ex
 ⟨ws,h1.below hb,h2,h3,h4⟩
theorem Ag.setCell {w:World}{p:Option Addr}{n c N:Nat}(h:Ag w p n c N){a:Addr}(ha:∀q,p=some q->q.block≠a.block)(u:Value):Ag (w.setCell a u) p n c N :=
 let ⟨ws,h1,h2,h3,h4⟩:=h.ex
 ⟨ws,h1.setCell ha u,h2,h3,h4⟩
def Gb (N:Nat)(w:World)(e:Ending)(w':World):Prop:=∃p n c,e=.returned (.agg #[.slice p n c])/\Ag w' p n c N/\Below w.heap.size w w'/\Gq w.heap.size p
theorem Fn (w:World)(p:Option Addr)(n c:Nat)(ws:List Nat)(i y:Nat)(h:Row w .u32 p n c ws)(hi:i<9223372036854775807)(hy:ws.getD i 0=y) :
  Calls Tryz.prog 157 #[.agg #[.slice p n c],.int .i64 i] w fun e w'=>e=.returned (.int .u32 y)/\Below w.heap.size w w':=by
 by_cases hin:i<n
 .obtain⟨b,off,rfl,hb,hc⟩:=h.pos (by omega);have hl:=h.len;have hne:b≠w.heap.size:=by omega
  have hci:w.cell? ⟨b,off+i,none⟩=some (.int .u32 (y:Nat)):=hc i _ (by rw[<-hy,Dy];simp[show i<ws.length by omega]);clear hc hl h hy;go_enter Tryz.func157,Tryz.ntmps157;go_wp2;go_ret;exact⟨rfl,(Ba _ _).alloc (Av _) _⟩
 .have hl:=h.len;have hg:ws.getD i 0=0:=by rw[Dy];simp[List.getElem?_eq_none (show ws.length<=i by omega)]
  obtain rfl:y=0:=by rw[<-hy,hg]
  clear hg hl h hy;go_enter Tryz.func157,Tryz.ntmps157;go_wp2;go_ret;exact⟨rfl,(Ba _ _).alloc (Av _) _⟩
theorem Kw (x y c:Nat)(w:World)(hx:x<4294967296)(hy:y<4294967296)(hc:c<=1) :
  Calls Tryz.prog 156 #[.int .u32 x,.int .u32 y,.int .u32 c] w fun e w'=>
   e=.returned (.tuple #[.int .u32 ((x+y+c)%4294967296:Nat),.int .u32 ((x+y+c)/4294967296:Nat)])/\w=w':=by
 go_enter Tryz.func156,Tryz.ntmps156;go_wp2
 go_ret2
 exact⟨by simp,rfl⟩
def Pg (N:Nat)(p0:Option Addr)(w:World)(e:Ending)(w':World):Prop:=∃p n c,e=.returned (.agg #[.slice p n c])/\Ag w' p n c N/\Below w.heap.size w w'/\(p=none ∨ p=p0)
theorem Vx {ws:List Nat}(h:val (ws.take 0)=val ws)(p:Option Addr)(w:World)(o:Obj):Pg (val ws) p w (.returned (.agg #[.slice none 0 0])) (w.alloc o):=by
 refine⟨none,0,0,rfl,⟨[],Row.nil _ _,Words.nil,by simp,?_⟩,(Ba _ _).alloc (Av _) _,.inl rfl⟩;rw[<-h];rfl
theorem Vy {w:World}{p:Option Addr}{n c:Nat}{ws:List Nat}(h:Row w .u32 p n c ws)(hw:Words ws){k:Nat}(hk:k<n)(hv:val (ws.take (k+1))=val ws)(hz:ws.getD k 0≠0)(o:Obj):Pg (val ws) p w (.returned (.agg #[.slice p (k+1) c])) (w.alloc o):=by
 have hl:=h.len;have hb:Below w.heap.size w (w.alloc o):=Bq;refine⟨p,k+1,c,rfl,⟨ws.take (k+1),(h.take (k+1) (by omega)).below hb,hw.take _,?_,hv⟩,hb,.inr rfl⟩;rw[Gx _ _ (by omega),List.getLast?_append];simp only[List.getLast?_singleton,Option.some_or];intro e;exact hz (Option.some.inj e)
theorem Cd (w:World)(p:Option Addr)(n c:Nat)(ws:List Nat)(h:Row w .u32 p n c ws)(hw:Words ws) :
  Calls Tryz.prog 69 #[.slice p n c] w (Pg (val ws) p w):=by
 have HL:=Ah h.len;have hm:=h.max;have hcp:=h.cap;go_enter Tryz.func69,Tryz.ntmps69;go_wp2
 go_loop [3] (fun m=>∃k:Nat,k<=n/\m=.int .i64 k/\val (ws.take k)=val ws) (fun m=>(intOf m).toNat)
 case atStart=>exact⟨n,Av _,rfl,by rw[List.take_of_length_le (by have:=HL.out;omega)]⟩
 case round=>
  obtain⟨k,hk,rfl,hv⟩:=hrel;have HV:=Ah hv;clear hv
  by_cases hk0:k=0
  .subst hk0;go_wp2;refine bodyPost_ret (v:=.agg #[.slice none 0 0]) (by simp[results,Tryz.results69,go_sem]) rfl (Vx HV.out _ _ _)
  .obtain⟨m,rfl⟩:∃m,k=m+1:=⟨k-1,by omega⟩
   obtain⟨b,off,rfl,hb,hc⟩:=h.pos (by omega);have hne:b≠w.heap.size:=by omega
   obtain⟨x,hx⟩:∃x,ws.getD m 0=x:=⟨_,rfl⟩
   have hci:w.cell? ⟨b,off+m,none⟩=some (.int .u32 (x:Nat)):=hc m x (by rw[<-hx,Dy];simp[show m<ws.length by have:=HL.out;omega]);have HX:=Ah hx;clear hc hx
   by_cases hz:x=0
   .subst hz;go_wp2;go_round
    case rel=>exact⟨m,by omega,by go_num,by rw[<-HV.out,Ay,HX.out];simp⟩
    case measure=>simp[intOf]
   .have hz':((x:Int)==0)=false:=by rw[beq_eq_false_iff_ne];omega
    go_wp2;refine bodyPost_ret (v:=.agg #[.slice (some ⟨b,off,none⟩) (m+1) c]) (by simp[results,Tryz.results69,go_sem]) rfl (Vy h hw (by omega) HV.out (by rw[HX.out];exact hz) _)
structure Hq (A B:List Nat) (k:Nat) (S:List Nat) (cy:Nat):Prop where
 len:S.length=k
 words:Words S
 carry:cy<=1
 eq:val S+An k*cy=val (A.take k)+val (B.take k)
theorem Hq.start (A B:List Nat):Hq A B 0 [] 0:=⟨rfl,Words.nil,by omega,by simp[val]⟩
theorem Hq.step {A B:List Nat}{k:Nat}{S:List Nat}{cy:Nat}(h:Hq A B k S cy)(hA:Words A)(hB:Words B) :
  Hq A B (k+1) (S++[(A.getD k 0+B.getD k 0+cy)%4294967296]) ((A.getD k 0+B.getD k 0+cy)/4294967296):=by
 have h1:=hA.get k;have h2:=hB.get k;have h3:=h.carry;refine⟨by simp[h.len],h.words.snoc (Nat.mod_lt _ (by omega)),by omega,?_⟩;rw[Dn,h.len,Ay,Ay,Bj];have e:=h.eq;generalize A.getD k 0=x at *;generalize B.getD k 0=y at *;have hd:=Nat.div_add_mod (x+y+cy) 4294967296;generalize (x+y+cy)/4294967296=q at *;generalize (x+y+cy)%4294967296=r at *;generalize An k=b at *;have e2:b*r+4294967296*b*q=b*(x+y+cy):=by
  rw[<-hd,Nat.mul_add,Nat.mul_comm 4294967296 b,Nat.mul_assoc,Nat.add_comm]
 simp only[Nat.mul_add]at e2;omega
theorem Hq.last {A B:List Nat}{k:Nat}{S:List Nat}{cy:Nat}(h:Hq A B k S cy)(hA:A.length=k)(hB:B.length<=k):val (S++[cy])=val A+val B:=by
 have e:=h.eq;rw[List.take_of_length_le (by omega),List.take_of_length_le hB]at e
 rw[Dn,h.len];exact e
theorem Op (S:List Nat)(m x:Nat):(S++List.replicate (m+1) 0).set S.length x=(S++[x])++List.replicate m 0:=by
 rw[List.set_append_right _ _ (Av _)];simp[List.replicate_succ]
theorem Bo.zero_cell {w:World}{g:Nat}{e:TypeId}{k:IntKind}{S:List Nat}{m i:Nat}(h:Bo w g e k (S++List.replicate m 0))(hs:S.length=i)(hm:0<m):w.cell? ⟨g,i,none⟩=some (.int k 0):=by
 refine h.cell (x:=0) ?_;subst hs;rw[List.getElem?_append_right (Av _)];simp[hm]
theorem Bo.last {w:World}{g:Nat}{e:TypeId}{k:IntKind}{S:List Nat}{i n:Nat}(h:Bo w g e k (S++List.replicate (n+1-i) 0))(hs:S.length=i)(hi:i<=n)(x:Nat) :
  Bo (w.setCell ⟨g,i,none⟩ (.int k x)) g e k ((S++[x])++List.replicate (n+1-(i+1)) 0):=by
 subst hs;have e1:n+1-S.length=(n+1-(S.length+1))+1:=by omega
 have:=h.set S.length x
 rwa [e1,Op]at this
theorem Bo.next {w:World}{g:Nat}{e:TypeId}{k:IntKind}{S:List Nat}{i m m':Nat}(h:Bo w g e k (S++List.replicate m 0))(hs:S.length=i)(hm:m=m'+1)(x:Nat) :
  Bo (w.setCell ⟨g,i,none⟩ (.int k x)) g e k ((S++[x])++List.replicate m' 0):=by
 subst hs;subst hm;have:=h.set S.length x
 rwa [Op]at this
theorem Row.lt {w:World}{k:IntKind}{p:Option Addr}{n c:Nat}{xs:List Nat}(h:Row w k p n c xs):∀q,p=some q->q.block<w.heap.size:=by
 intro q hq;rcases h.at_ with ⟨h1,_⟩|⟨b,off,h1,h2,_⟩
 .rw[h1]at hq;cases hq
 .rw[h1]at hq;cases hq;exact h2
structure Cl (w wr:World) (u0 u1 u2:Value):Prop where
 bel:Below w.heap.size w wr
 size:w.heap.size+3<=wr.heap.size
 c0:wr.cell? ⟨w.heap.size,0,none⟩=some u0
 c1:wr.cell? ⟨w.heap.size+1,0,none⟩=some u1
 c2:wr.cell? ⟨w.heap.size+1+1,0,none⟩=some u2
 f0:wr.frozen? ⟨w.heap.size,0,none⟩=false
 f1:wr.frozen? ⟨w.heap.size+1,0,none⟩=false
 f2:wr.frozen? ⟨w.heap.size+1+1,0,none⟩=false
theorem Cl.below {w wr w1:World}{u0 u1 u2:Value}(h:Cl w wr u0 u1 u2){B:Nat}(hb:Below B wr w1)(hB:w.heap.size+3<=B):Cl w w1 u0 u1 u2:=by
 obtain⟨hc,hf⟩:=Cp hb;refine⟨h.bel.trans (hb.mono (by omega)),Ee h.size hb.size,?_,?_,?_,?_,?_,?_⟩
 .rw[hc _ _ (by omega)];exact h.c0
 .rw[hc _ _ (by omega)];exact h.c1
 .rw[hc _ _ (by omega)];exact h.c2
 .rw[hf _ _ (by omega)];exact h.f0
 .rw[hf _ _ (by omega)];exact h.f1
 .rw[hf _ _ (by omega)];exact h.f2
theorem Cl.mk' (w:World)(u0 u1 u2:Value)(t0 t1 t2 t3:TypeId)(row:Array Value) :
  Cl w ((((w.alloc (.cells #[u0] t0)).alloc (.cells #[u1] t1)).alloc (.cells #[u2] t2)).alloc (.cells row t3)) u0 u1 u2:=by
 refine⟨?_,by simp,by simp[go_sem],by simp[go_sem],by simp[go_sem],by simp[go_sem],by simp[go_sem],by simp[go_sem]⟩;exact((((Ba _ _).alloc (Av _) _).alloc (by simp) _).alloc (by simp;omega) _).alloc (by simp;omega) _
theorem Cl.mk3 (w:World)(u0 u1 u2:Value)(t0 t1 t2:TypeId) :
  Cl w (((w.alloc (.cells #[u0] t0)).alloc (.cells #[u1] t1)).alloc (.cells #[u2] t2)) u0 u1 u2:=by
 refine⟨?_,by simp,by simp[go_sem],by simp[go_sem],by simp[go_sem],by simp[go_sem],by simp[go_sem],by simp[go_sem]⟩;exact(((Ba _ _).alloc (Av _) _).alloc (by simp) _).alloc (by simp;omega) _
theorem Cl.later {w wr w1:World}{u0 u1 u2:Value}(h:Cl w wr u0 u1 u2)(hb:Below wr.heap.size wr w1):Cl w w1 u0 u1 u2:=h.below hb h.size
theorem Cl.alloc {w wr:World}{u0 u1 u2:Value}(h:Cl w wr u0 u1 u2)(o:Obj):Cl w (wr.alloc o) u0 u1 u2:=h.later ((Ba _ _).alloc (Av _) _)
theorem Cl.grown {w wr w1:World}{u0 u1 u2:Value}(h:Cl w wr u0 u1 u2){g:Nat}(hg:wr.grownBy w1 (some g))(hgw:w.heap.size+3<=g):Cl w w1 u0 u1 u2 :=
 h.below (B:=w.heap.size+3) ((Ba _ wr).grown hg h.size (fun k e=>by cases e;exact hgw)) (Av _)
structure Dp (w wr:World) (u0:Value):Prop where
 bel:Below w.heap.size w wr
 size:w.heap.size+1<=wr.heap.size
 c0:wr.cell? ⟨w.heap.size,0,none⟩=some u0
 f0:wr.frozen? ⟨w.heap.size,0,none⟩=false
theorem Dp.mk1 (w:World)(u0:Value)(t0:TypeId):Dp w (w.alloc (.cells #[u0] t0)) u0 :=
 ⟨(Ba _ _).alloc (Av _) _,by simp,by simp[go_sem],by simp[go_sem]⟩
theorem Dp.below {w wr w1:World}{u0:Value}(h:Dp w wr u0){B:Nat}(hb:Below B wr w1)(hB:w.heap.size+1<=B):Dp w w1 u0:=by
 obtain⟨hc,hf⟩:=Cp hb;refine⟨h.bel.trans (hb.mono (by omega)),Ee h.size hb.size,?_,?_⟩
 .rw[hc _ _ (by omega)];exact h.c0
 .rw[hf _ _ (by omega)];exact h.f0
theorem Dp.later {w wr w1:World}{u0:Value}(h:Dp w wr u0)(hb:Below wr.heap.size wr w1):Dp w w1 u0:=h.below hb h.size
theorem Dp.alloc {w wr:World}{u0:Value}(h:Dp w wr u0)(o:Obj):Dp w (wr.alloc o) u0:=h.later ((Ba _ _).alloc (Av _) _)
structure Gj (w wr:World) (u0 u1:Value):Prop where
 bel:Below w.heap.size w wr
 size:w.heap.size+2<=wr.heap.size
 c0:wr.cell? ⟨w.heap.size,0,none⟩=some u0
 c1:wr.cell? ⟨w.heap.size+1,0,none⟩=some u1
 f0:wr.frozen? ⟨w.heap.size,0,none⟩=false
 f1:wr.frozen? ⟨w.heap.size+1,0,none⟩=false
theorem Gj.mk2 (w:World)(u0 u1:Value)(t0 t1:TypeId):Gj w ((w.alloc (.cells #[u0] t0)).alloc (.cells #[u1] t1)) u0 u1 :=
 ⟨((Ba _ _).alloc (Av _) _).alloc (by simp) _,by simp,by simp[go_sem],by simp[go_sem],by simp[go_sem],by simp[go_sem]⟩
theorem Gj.below {w wr w1:World}{u0 u1:Value}(h:Gj w wr u0 u1){B:Nat}(hb:Below B wr w1)(hB:w.heap.size+2<=B):Gj w w1 u0 u1:=by
 obtain⟨hc,hf⟩:=Cp hb;refine⟨h.bel.trans (hb.mono (by omega)),Ee h.size hb.size,?_,?_,?_,?_⟩
 .rw[hc _ _ (by omega)];exact h.c0
 .rw[hc _ _ (by omega)];exact h.c1
 .rw[hf _ _ (by omega)];exact h.f0
 .rw[hf _ _ (by omega)];exact h.f1
theorem Gj.later {w wr w1:World}{u0 u1:Value}(h:Gj w wr u0 u1)(hb:Below wr.heap.size wr w1):Gj w w1 u0 u1:=h.below hb h.size
theorem Row.of_owns {w:World}{base:Nat}{e:TypeId}{k:IntKind}{v:Value}{n:Nat}{ws:List Nat}(h:w.ownsRow base e 1 v n (ws.map fun(x:Nat)=>Value.int k x)) :
  ∃q d,v=.slice q n d/\Row w k q n d ws/\Gq base q:=by
 have hl:ws.length=n:=by have:=h.1;simpa using this
 rcases h.2 with ⟨rfl,rfl⟩|⟨g,cap,cur,rfl,hb,hg,hnc,hcm,hcs,htake⟩
 .have:ws=[]:=List.eq_nil_of_length_eq_zero hl;subst this;exact⟨none,0,rfl,Row.nil _ _,Gq.none _⟩
 .refine⟨_,cap,rfl,⟨hl.symm,hnc,by simpa [maxLen]using hcm,.inr ⟨g,0,rfl,(Gg hg).1,fun i x hx=>?_⟩⟩,fun q hq=>by cases hq;exact hb⟩;rw[Nat.zero_add,cell_of_row w g i cur e (0,0) hg];have hi:i<n:=by rw[<-hl];exact(List.getElem?_eq_some_iff.1 hx).1
  have:(cur.toList.take (n*1))[i]? = some (.int k x):=by rw[htake];simp[hx]
  rw[List.getElem?_take,if_pos (by omega)]at this
  simpa using this
structure mS (w wr:World) (X Y:List Nat) (u0 u1 u2:Value) (n k cy:Nat):Prop where
 boxes:Cl w wr u0 u1 u2
 ex:∃S,Hq X Y k S cy/\Bo wr (w.heap.size+1+1+1) 129 .u32 (S++List.replicate (n+1-k) 0)
theorem oK (w:World)(pa:Option Addr)(na ca:Nat)(A:List Nat)(pb:Option Addr)(nb cb:Nat)(B:List Nat)(hA:Row w .u32 pa na ca A)(wA:Words A)(hB:Row w .u32 pb nb cb B)(wB:Words B)(hs:na<1000000)(hle:nb<=na) :
  Calls Tryz.prog 94 #[.agg #[.slice pa na ca],.agg #[.slice pb nb cb]] w (Gb (val A+val B) w):=by
 have HA:=Ah hA.len;have HB:=Ah hB.len;have hlt:¬((na:Int)<nb):=by omega
 have hmk:∀w,(Instr.makeSlice 35 (.int .i64 ((na:Int)+1)) (.int .i64 ((na:Int)+1))).run Tryz.prog w=.ok (.slice (some ⟨w.heap.size,0,none⟩) (na+1) (na+1)) (w.alloc (.cells (zeros .u32 (na+1)) 129)) :=
  fun w=>Ha (na+1) (by omega) w
 go_enter Tryz.func94,Tryz.ntmps94;go_wp2
 go_loopw [6,26] (fun cy i wr=>∃k c:Nat,k<=na/\i=.int .i64 k/\cy=.int .u32 c/\mS w wr A B (.slice pa na ca) (.slice pb nb cb) (.slice none 0 0) na k c) (fun _ i _=>na-(intOf i).toNat)
 case atStart=>
  refine⟨0,0,by omega,rfl,rfl,Cl.mk' _ _ _ _ _ _ _ _ _,[],Hq.start A B,?_⟩;have:=Bo.zeros (((w.alloc (.cells #[.slice pa na ca] 37)).alloc (.cells #[.slice pb nb cb] 37)).alloc (.cells #[.slice none 0 0] 37)) 129 .u32 (na+1);simpa using this
 case round=>
  obtain⟨k,cy,hk,rfl,rfl,hrel⟩:=hrel;obtain⟨S,hS,hblk⟩:=hrel.ex;have hbx:=hrel.boxes;have c0:=hbx.c0;have c1:=hbx.c1;have hsz:=hbx.size
  by_cases hlt:k<na
  .have hsk:=hS.len;obtain⟨b,off,rfl,hb,hc⟩:=hA.pos (by omega);obtain⟨x,hx⟩:∃x,A.getD k 0=x:=⟨_,rfl⟩
   have hci:wr.cell? ⟨b,off+k,none⟩=some (.int .u32 (x:Nat)):=by
    rw[(Cp hbx.bel).1 _ _ hb];exact hc k x (by rw[<-hx,Dy];simp[show k<A.length by have:=HA.out;omega])
   obtain⟨y,hy⟩:∃y,B.getD k 0=y:=⟨_,rfl⟩
   have HX:=Ah hx;have HY:=Ah hy;have HSk:=Ah hsk;clear hc hx hy hsk;have hg0:=hblk.zero_cell HSk.out (by omega);have hgf:=hblk.free k
   go_wp2_with fail
   refine(Fn wr pb nb cb B k y (hB.below hbx.bel) (by omega) HY.out).mono ?_;rintro e w1 ⟨rfl,hb1⟩;have hy:y<4294967296:=by rw[<-HY.out];exact wB.get k
   have hx':x<4294967296:=by rw[<-HX.out];exact wA.get k
   have hcy:=hS.carry;have hg0':=((Cp hb1).1 _ k hblk.lt).trans hg0;have hgf':=((Cp hb1).2 _ k hblk.lt).trans hgf
   go_wp2_with fail
   refine(Kw x y cy _ hx' hy hcy).mono ?_;rintro e w2 ⟨rfl,rfl⟩;go_wp2;go_roundw
   case rel=>
    refine⟨k+1,_,by omega,by go_num,rfl,(hbx.later hb1).below (B:=w.heap.size+3) ((Ba _ _).setCell (by simp) _) (Av _),_,by have:=hS.step wA wB;rw[HX.out,HY.out]at this;exact this,?_⟩;exact(Bo.last (hblk.below hb1 hblk.lt) HSk.out (by omega) _)
   case measure=>simp[intOf];omega
  .obtain rfl:k=na:=by omega
   have hsk:=Ah hS.len;have hg0:=hblk.zero_cell hsk.out (by omega);have hgf:=hblk.free k;have hbl:=Bo.last hblk hsk.out (Av _) cy;have hbx2:=hbx.below (B:=w.heap.size+3) ((Ba _ wr).setCell (p:=⟨w.heap.size+1+1+1,k,none⟩) (by simp) (.int .u32 cy)) (Av _);have hw2:Words (S++[cy]++List.replicate (k+1-(k+1)) 0):=(hS.words.snoc (by have:=hS.carry;omega)).append (Words.zeros _)
   go_wp2_with fail
   refine(Cd _ _ _ _ _ (hbl.row (by simp;exact hsk.out.symm) (Av _) (by omega)) hw2).mono ?_;rintro e w1 ⟨p,n,c,rfl,hn,hb1,hp⟩;have hbx3:=hbx2.later hb1;have d2:=hbx3.c2;have e2:=hbx3.f2;have hp':∀q,p=some q->q.block≠w.heap.size+1+1:=by
    intro q hq;rcases hp with rfl|rfl
    .cases hq
    .cases hq;simp
   have hn':Gq w.heap.size p:=by
    intro q hq;rcases hp with rfl|rfl
    .cases hq
    .cases hq;simp;omega
   go_wp2;refine bodyPost_ret (v:=.agg #[.slice p n c]) (by simp[results,Tryz.results94,go_sem,d2]) rfl ⟨p,n,c,rfl,?_,?_,hn'⟩
   .have:=hn.setCell (a:=⟨w.heap.size+1+1,0,none⟩) hp' (.slice p n c);rw[Nat.sub_self,List.replicate_zero,List.append_nil,hS.last HA.out.symm (by rw[<-HB.out];exact hle)]at this
    exact this
   .exact hbx3.bel.setCell (by simp;omega) _
theorem mC (w:World)(pa:Option Addr)(na ca:Nat)(A:List Nat)(pb:Option Addr)(nb cb:Nat)(B:List Nat)(hA:Row w .u32 pa na ca A)(wA:Words A)(hB:Row w .u32 pb nb cb B)(wB:Words B)(hs:na<1000000)(hle:nb<na) :
  Calls Tryz.prog 94 #[.agg #[.slice pb nb cb],.agg #[.slice pa na ca]] w (Gb (val A+val B) w):=by
 have HA:=Ah hA.len;have HB:=Ah hB.len;have hlt:(nb:Int)<na:=by omega
 have hmk:∀w,(Instr.makeSlice 35 (.int .i64 ((na:Int)+1)) (.int .i64 ((na:Int)+1))).run Tryz.prog w=.ok (.slice (some ⟨w.heap.size,0,none⟩) (na+1) (na+1)) (w.alloc (.cells (zeros .u32 (na+1)) 129)) :=
  fun w=>Ha (na+1) (by omega) w
 go_enter Tryz.func94,Tryz.ntmps94;go_wp2
 go_loopw [6,26] (fun cy i wr=>∃k c:Nat,k<=na/\i=.int .i64 k/\cy=.int .u32 c/\mS w wr A B (.slice pa na ca) (.slice pb nb cb) (.slice none 0 0) na k c) (fun _ i _=>na-(intOf i).toNat)
 case atStart=>
  refine⟨0,0,by omega,rfl,rfl,Cl.mk' _ _ _ _ _ _ _ _ _,[],Hq.start A B,?_⟩;have:=Bo.zeros (((w.alloc (.cells #[.slice pa na ca] 37)).alloc (.cells #[.slice pb nb cb] 37)).alloc (.cells #[.slice none 0 0] 37)) 129 .u32 (na+1);simpa using this
 case round=>
  obtain⟨k,cy,hk,rfl,rfl,hrel⟩:=hrel;obtain⟨S,hS,hblk⟩:=hrel.ex;have hbx:=hrel.boxes;have c0:=hbx.c0;have c1:=hbx.c1;have hsz:=hbx.size
  by_cases hlt:k<na
  .have hsk:=hS.len;obtain⟨b,off,rfl,hb,hc⟩:=hA.pos (by omega);obtain⟨x,hx⟩:∃x,A.getD k 0=x:=⟨_,rfl⟩
   have hci:wr.cell? ⟨b,off+k,none⟩=some (.int .u32 (x:Nat)):=by
    rw[(Cp hbx.bel).1 _ _ hb];exact hc k x (by rw[<-hx,Dy];simp[show k<A.length by have:=HA.out;omega])
   obtain⟨y,hy⟩:∃y,B.getD k 0=y:=⟨_,rfl⟩
   have HX:=Ah hx;have HY:=Ah hy;have HSk:=Ah hsk;clear hc hx hy hsk;have hg0:=hblk.zero_cell HSk.out (by omega);have hgf:=hblk.free k
   go_wp2_with fail
   refine(Fn wr pb nb cb B k y (hB.below hbx.bel) (by omega) HY.out).mono ?_;rintro e w1 ⟨rfl,hb1⟩;have hy:y<4294967296:=by rw[<-HY.out];exact wB.get k
   have hx':x<4294967296:=by rw[<-HX.out];exact wA.get k
   have hcy:=hS.carry;have hg0':=((Cp hb1).1 _ k hblk.lt).trans hg0;have hgf':=((Cp hb1).2 _ k hblk.lt).trans hgf
   go_wp2_with fail
   refine(Kw x y cy _ hx' hy hcy).mono ?_;rintro e w2 ⟨rfl,rfl⟩;go_wp2;go_roundw
   case rel=>
    refine⟨k+1,_,by omega,by go_num,rfl,(hbx.later hb1).below (B:=w.heap.size+3) ((Ba _ _).setCell (by simp) _) (Av _),_,by have:=hS.step wA wB;rw[HX.out,HY.out]at this;exact this,?_⟩;exact(Bo.last (hblk.below hb1 hblk.lt) HSk.out (by omega) _)
   case measure=>simp[intOf];omega
  .obtain rfl:k=na:=by omega
   have hsk:=Ah hS.len;have hg0:=hblk.zero_cell hsk.out (by omega);have hgf:=hblk.free k;have hbl:=Bo.last hblk hsk.out (Av _) cy;have hbx2:=hbx.below (B:=w.heap.size+3) ((Ba _ wr).setCell (p:=⟨w.heap.size+1+1+1,k,none⟩) (by simp) (.int .u32 cy)) (Av _);have hw2:Words (S++[cy]++List.replicate (k+1-(k+1)) 0):=(hS.words.snoc (by have:=hS.carry;omega)).append (Words.zeros _)
   go_wp2_with fail
   refine(Cd _ _ _ _ _ (hbl.row (by simp;exact hsk.out.symm) (Av _) (by omega)) hw2).mono ?_;rintro e w1 ⟨p,n,c,rfl,hn,hb1,hp⟩;have hbx3:=hbx2.later hb1;have d2:=hbx3.c2;have e2:=hbx3.f2;have hp':∀q,p=some q->q.block≠w.heap.size+1+1:=by
    intro q hq;rcases hp with rfl|rfl
    .cases hq
    .cases hq;simp
   have hn':Gq w.heap.size p:=by
    intro q hq;rcases hp with rfl|rfl
    .cases hq
    .cases hq;simp;omega
   go_wp2;refine bodyPost_ret (v:=.agg #[.slice p n c]) (by simp[results,Tryz.results94,go_sem,d2]) rfl ⟨p,n,c,rfl,?_,?_,hn'⟩
   .have:=hn.setCell (a:=⟨w.heap.size+1+1,0,none⟩) hp' (.slice p n c);rw[Nat.sub_self,List.replicate_zero,List.append_nil,hS.last HA.out.symm (by rw[<-HB.out];omega)]at this
    exact this
   .exact hbx3.bel.setCell (by simp;omega) _
theorem Vs (w:World)(pa:Option Addr)(na ca N:Nat)(pb:Option Addr)(nb cb M:Nat)(hA:Ag w pa na ca N)(hB:Ag w pb nb cb M)(ha:na<1000000)(hb:nb<1000000) :
  Calls Tryz.prog 94 #[.agg #[.slice pa na ca],.agg #[.slice pb nb cb]] w (Gb (N+M) w):=by
 obtain⟨A,h1,h2,_,rfl⟩:=hA.ex;obtain⟨B,k1,k2,_,rfl⟩:=hB.ex
 by_cases hle:nb<=na
 .exact oK w pa na ca A pb nb cb B h1 h2 k1 k2 ha hle
 .rw[Nat.add_comm];exact mC w pb nb cb B pa na ca A k1 k2 h1 h2 hb (by omega)
def wordsOf (V n:Nat):List Nat:=(List.range n).map fun j=>V/An j%4294967296
theorem Ar (V n:Nat):(wordsOf V n).length=n:=by simp[wordsOf]
theorem Di {V n j:Nat}(h:j<n):(wordsOf V n)[j]? = some (V/An j%4294967296):=by simp[wordsOf,h]
theorem Co (V n:Nat):Words (wordsOf V n):=by
 intro x hx;simp only[wordsOf,List.mem_map]at hx;obtain⟨j,_,rfl⟩:=hx;exact Nat.mod_lt _ (by omega)
theorem Mu (V n:Nat):wordsOf V (n+1)=wordsOf V n++[V/An n%4294967296]:=by
 simp[wordsOf,List.range_succ]
theorem Pm (V:Nat):∀n,val (wordsOf V n)=V%An n
 | 0=>by simp[wordsOf,val,Ge,Nat.mod_one]
 | n+1=>by
  rw[Mu,Dn,Ar,Pm V n,Bj,Nat.mul_comm 4294967296,Nat.mod_mul]
theorem Cf {V n:Nat}(h:V<An n):val (wordsOf V n)=V:=by rw[Pm,Nat.mod_eq_of_lt h]
theorem Gm (n:Nat):wordsOf 0 n=List.replicate n 0:=by
 apply List.ext_getElem (by simp[wordsOf]);intro i h1 h2;simp[wordsOf]
theorem Rb (a b:Nat):An (a+b)=An a*An b:=by unfold An;rw[Nat.pow_add]
theorem digit (ws:List Nat)(h:Words ws):∀j,val ws/An j%4294967296=ws.getD j 0:=by
 induction ws with
 | nil=>intro j;simp[val]
 | cons x xs ih=>
  have hx:=h x (by simp);have hxs:Words xs:=fun y hy=>h y (by simp[hy])
  intro j
  cases j with
  | zero=>simp only[val,Ge,Nat.div_one,List.getD_cons_zero];omega
  | succ j=>
   rw[Bj,<-Nat.div_div_eq_div_mul,List.getD_cons_succ,<-ih hxs j]
   congr 2
   simp only[val];omega
def B8 (k:Nat):Nat:=256^k
theorem Qz:B8 0=1:=rfl
theorem Oc (k:Nat):B8 (k+1)=256*B8 k:=by unfold B8;rw[Nat.pow_succ,Nat.mul_comm]
theorem mR (k:Nat):0<B8 k:=Nat.pow_pos (by omega)
theorem pV (a b:Nat):B8 (a+b)=B8 a*B8 b:=by unfold B8;rw[Nat.pow_add]
theorem Ra (k:Nat):B8 (4*k)=An k:=by
 unfold B8 An;rw[Nat.pow_mul]
theorem Lm {a b:Nat}(h:a<=b):B8 a<=B8 b:=Nat.pow_le_pow_right (by omega) h
theorem Ta (k:Nat):B8 k=2^(8*k):=by unfold B8;rw[show (256:Nat)=2^8 from rfl,<-Nat.pow_mul]
def le:List Nat->Nat
 | []=>0
 | x::xs=>x+256*le xs
theorem Uw (xs ys:List Nat):le (xs++ys)=le xs+B8 xs.length*le ys:=by
 induction xs with
 | nil=>simp[le,Qz]
 | cons x xs ih=>
  simp only[List.cons_append,le,ih,List.length_cons,Oc,Nat.mul_add,Nat.mul_assoc];omega
theorem nW (xs:List Nat)(x:Nat):le (xs++[x])=le xs+B8 xs.length*x:=by
 rw[Uw];simp[le]
theorem Bd.lt {xs:List Nat}(h:Bd xs):le xs<B8 xs.length:=by
 induction xs with
 | nil=>simp[le,Qz]
 | cons x xs ih=>
  have h1:=ih fun y hy=>h y (by simp[hy])
  have h2:=h x (by simp);simp only[le,List.length_cons,Oc];omega
theorem Wr (xs:List Nat)(k:Nat)(h:k<xs.length):le (xs.take (k+1))=le (xs.take k)+B8 k*xs.getD k 0:=by
 rw[Gx xs k h,nW];simp[Nat.min_eq_left (Nat.le_of_lt h)]
theorem bJ {V n k x:Nat}(hV:V<B8 k)(hx:x<256) :
  (wordsOf V n).set (k/4) (V/An (k/4)%4294967296+x*B8 (k%4))=wordsOf (V+B8 k*x) n/\V/An (k/4)%4294967296<B8 (k%4)/\V/An (k/4)%4294967296+x*B8 (k%4)<4294967296:=by
 obtain⟨q,r,hkq,hr,hq,hr'⟩:∃q r,k=4*q+r/\r<4/\k/4=q/\k%4=r:=⟨k/4,k%4,by omega,by omega,rfl,rfl⟩
 rw[hq,hr'];have hbk:B8 k=An q*B8 r:=by rw[hkq,pV,Ra]
 have hd:V/An q<B8 r:=by
  rw[Nat.div_lt_iff_lt_mul (Fh q),Nat.mul_comm,<-hbk];exact hV
 have hb4:256*B8 r<=4294967296:=by
  have:B8 (r+1)<=B8 4:=Lm (by omega);rw[Oc]at this
  exact this
 have hb5:B8 r<=4294967296:=by have:=mR r;omega
 have hdm:V/An q%4294967296=V/An q:=Nat.mod_eq_of_lt (by omega);have hxb:x*B8 r+B8 r<=256*B8 r:=by
  have:=Nat.mul_le_mul_right (B8 r) (show x+1<=256 by omega);rw[Nat.add_mul,Nat.one_mul]at this
  exact this
 rw[hdm];have e1:V+B8 k*x=V+An q*(B8 r*x):=by rw[hbk,Nat.mul_assoc]
 have hcm:B8 r*x=x*B8 r:=Nat.mul_comm _ _;refine⟨?_,hd,by omega⟩;apply List.ext_getElem (by simp[wordsOf]);intro j h1 h2;simp only[List.length_set,Ar]at h1;rw[List.getElem_set];simp only[wordsOf,List.getElem_map,List.getElem_range];rw[e1]
 by_cases hqj:q=j
 .subst hqj;rw[if_pos rfl,Nat.add_mul_div_left _ _ (Fh q),Nat.mod_eq_of_lt (by omega)];omega
 .rw[if_neg hqj];rcases Nat.lt_or_gt_of_ne hqj with hlt|hgt
  ·-- above: both are nought
   have hb:An (q+1)<=An j:=B32_le (by omega);rw[Bj]at hb
   have h3:V<An j:=by
    have:An q*B8 r<=An q*4294967296:=Nat.mul_le_mul_left _ hb5;rw[Nat.mul_comm _ 4294967296]at this
    omega
   have h4:V+An q*(B8 r*x)<An j:=by
    have h5:V<An q*B8 r:=by rw[<-hbk];exact hV
    have h6:An q*(B8 r*x)+An q*B8 r<=An q*4294967296:=by
     rw[<-Nat.mul_add];exact Nat.mul_le_mul_left _ (by omega)
    rw[Nat.mul_comm _ 4294967296]at h6
    omega
   rw[Nat.div_eq_of_lt h3,Nat.div_eq_of_lt h4]
  .have hb:An q=An j*(4294967296*An (q-j-1)):=by
    rw[<-Bj,<-Rb];congr 1;omega
   rw[hb,Nat.mul_assoc,Nat.add_mul_div_left _ _ (Fh j),Nat.mul_assoc 4294967296,Nat.add_mul_mod_self_left]
where
 B32_le {a b:Nat} (h:a<=b):An a<=An b:=Nat.pow_le_pow_right (by omega) h
open Go Go.RowKit Go.Proofs.YtokhckjemidbpaaGreatDoor.Flow
theorem iB (w:World){a b:Int}{x y:Nat}(ha:a=(x:Nat))(hb:b=(y:Nat))(t:TypeId){g:Nat}(hg:g=w.heap.size):Row (w.alloc (.cells #[.int .u32 a,.int .u32 b] t)) .u32 (some ⟨g,0,none⟩) 2 2 [x,y]:=by
 subst ha;subst hb;subst hg;refine⟨rfl,Av _,by omega,.inr ⟨_,_,rfl,by simp,fun i z hx=>?_⟩⟩;rw[World.cell?_alloc_at (hn:=rfl)]
 match i,hx with
 | 0,hx=>simp at hx;subst hx;simp
 | 1,hx=>simp at hx;subst hx;simp
theorem Cc (n:Nat)(w:World)(hn:n<18446744073709551616) :
  Calls Tryz.prog 17 #[.int .u64 n] w (Gb n w):=by
 go_enter Tryz.func17,Tryz.ntmps17
 go_wp2_with fail
 have hrow:=iB (w.alloc (.cells #[.slice none 0 0] 37)) (a:=(n:Int)%4294967296) (b:=(n:Int)/4294967296) (x:=n%4294967296) (y:=n/4294967296) (by omega) (by omega) 129 (g:=w.heap.size+1) (by simp);have hw:Words [n%4294967296,n/4294967296]:=by intro x hx;simp at hx;omega
 refine(Cd _ _ _ _ _ hrow hw).mono ?_;rintro e w2 ⟨p,m,c,rfl,hn2,hb2,hp⟩;have hbx:=((Dp.mk1 w (.slice none 0 0) 37).alloc _).later hb2;have c0:=hbx.c0;have f0:=hbx.f0;have hn':Gq (w.heap.size+1) p:=by
  intro q hq;rcases hp with rfl|rfl
  .cases hq
  .cases hq;simp
 have hv:val [n%4294967296,n/4294967296]=n:=by simp only[val];omega
 have HV:=Ah hv;clear hv;go_wp2;refine bodyPost_ret (v:=.agg #[.slice p m c]) (by simp[results,Tryz.results17,go_sem,c0]) rfl ⟨p,m,c,rfl,?_,?_,hn'.mono (by omega)⟩
 .have:=hn2.setCell (a:=⟨w.heap.size,0,none⟩) (hn'.ne (show w.heap.size<w.heap.size+1 by omega)) (.slice p m c);rw[HV.out]at this
  exact this
 .exact hbx.bel.setCell (Av _) _
theorem Dj (w:World)(p:Option Addr)(n c:Nat) :
  Calls Tryz.prog 21 #[.agg #[.slice p n c]] w fun e w'=>e=.returned (.bool (decide (n=0)))/\Below w.heap.size w w':=by
 go_enter Tryz.func21,Tryz.ntmps21;go_wp2;go_ret;refine⟨?_,(Ba _ _).alloc (Av _) _⟩
 by_cases h:n=0
 .subst h;rfl
 .have:((n:Int)==0)=false:=by rw[beq_eq_false_iff_ne];omega
  simp[h,this]
theorem We (w:World)(p:Option Addr)(n c:Nat)(ws:List Nat)(h:Row w .u32 p n c ws)(hn:n<1000000) :
  Calls Tryz.prog 199 #[.slice p n c] w fun e w'=>∃q d,e=.returned (.slice q n d)/\Row w' .u32 q n d ws/\Below w.heap.size w w'/\Gq w.heap.size q:=by
 have hne:=fun w=>Lib.run_eql_slice_nil (P:=Tryz.prog) w 35 129 p n c 0 0 Tryz.underlying35
 by_cases hp:p=none
 .subst hp;rcases h.at_ with ⟨_,rfl,rfl⟩|⟨b,off,h1,_⟩
  .go_enter Tryz.func199,Tryz.ntmps199;go_wp2;go_ret;exact⟨none,0,rfl,h,Ba _ _,Gq.none _⟩
  .cases h1
 .rcases h.at_ with ⟨h1,_⟩|⟨b,off,rfl,hb,hc⟩
  .exact absurd h1 hp
  .obtain⟨i0,hi,hz0,hz1,hz2⟩:=info_parts Tryz.info_u32;have hl:=h.len;have HL:=Ah hl;have HC:=Ah hc;clear hl hc;have hown:=World.ownsRow_made w (base:=w.heap.size) (e := 129) (size:=1) #[] 0 (Av _) (by simp[maxLen]) (by simp);go_enter Tryz.func199,Tryz.ntmps199
   go_wp2_with (at_builtin;refine wpList_append_own _ rfl _ _ 35 rfl w.heap.size 129 i0 (.int .u32 0) 1 4 Tryz.underlying35 hi hz0 hz1 hz2 rfl (by decide) _ _ _ rfl hown ⟨b,off,none⟩ n c (ws.map fun(x:Nat)=>Value.int .u32 x) rfl ?c1 ?c2 ?c3 ?c4 ?c5 ?c6 ?_)
   case c1=>simp;exact HL.out.symm
   case c2=>
    intro j u hu;have hadd:(⟨b,off,none⟩:Addr).add j=⟨b,off+j,none⟩:=by unfold Addr.add;split<;>simp_all
    rw[hadd,World.cell?_alloc_past (hn:=hb)];rw[List.getElem?_map]at hu
    cases hx:ws[j]? with
    | none=>rw[hx]at hu;cases hu
    | some x=>rw[hx]at hu;cases hu;exact HC.out j x hx
   case c3=>intro u hu;simp only[List.mem_map]at hu;obtain⟨x,_,rfl⟩:=hu;rfl
   case c4=>unfold maxLen;omega
   case c5=>omega
   case c6=>simp
   intro v1 w1 ho1 hg1 _;obtain⟨q,d,rfl,hrow,hnew⟩:=Row.of_owns ho1;have hb1:Below w.heap.size w w1:=((Ba _ w).alloc (Av _) _).grown hg1 (by simp) (fun k e=>by simp[Value.ownBlock]at e;omega);go_wp2;go_ret;exact⟨q,d,rfl,hrow,hb1,hnew⟩
theorem Qe (w:World)(p:Option Addr)(n c N:Nat)(h:Ag w p n c N)(hn:n<1000000) :
  Calls Tryz.prog 153 #[.agg #[.slice p n c]] w (Gb N w):=by
 obtain⟨ws,h1,h2,h3,h4⟩:=h.ex;have H4:=Ah h4;clear h4;have hbx:=Gj.mk2 w (.slice p n c) (.slice none 0 0) 37 37;go_enter Tryz.func153,Tryz.ntmps153
 go_wp2_with fail
 refine(We _ p n c ws (h1.below hbx.bel) hn).mono ?_;rintro e w1 ⟨q,d,rfl,hrow,hb1,hnew⟩;have hbx1:=hbx.later hb1;have c1:=hbx1.c1;have f1:=hbx1.f1;have hnew':Gq (w.heap.size+2) q:=hnew.mono (by simp);go_wp2;refine bodyPost_ret (v:=.agg #[.slice q n d]) (by simp[results,Tryz.results153,go_sem,c1]) rfl ⟨q,n,d,rfl,?_,?_,hnew'.mono (by omega)⟩
 .exact⟨ws,hrow.setCell (hnew'.ne (show w.heap.size+1<w.heap.size+2 by omega)) _,h2,h3,H4.out⟩
 .exact hbx1.bel.setCell (by simp) _
def Bg (n:Nat):Nat:=if n=0 then 0 else n.log2+1
theorem Du (n k:Nat):Bg n<=k ↔ n<2^k:=by
 unfold Bg
 by_cases h:n=0
 .subst h;simp[Nat.pow_pos]
 .rw[if_neg h,<-Nat.log2_lt h];omega
theorem Nt (n:Nat):n<2^Bg n:=(Du n _).1 (Av _)
theorem Nr {n:Nat}(h:0<n):0<Bg n:=by unfold Bg;rw[if_neg (by omega)];omega
theorem Ji (n k:Nat)(h:0<n/2^k):Bg n=k+Bg (n/2^k):=by
 have hp:0<2^k:=Nat.pow_pos (by omega);have h1:=Nt (n/2^k);have h2:=Nt n;apply Nat.le_antisymm
 .rw[Du,Nat.pow_add,Nat.mul_comm]
  rwa [Nat.div_lt_iff_lt_mul hp]at h1
 .have hk:k<=Bg n:=by
   rcases Nat.lt_or_ge (Bg n) k with h3|h3
   .have:2^Bg n<=2^k:=Nat.pow_le_pow_right (by omega) (Nat.le_of_lt h3);have:n/2^k=0:=Nat.div_eq_of_lt (by omega);omega
   .exact h3
  have:Bg (n/2^k)<=Bg n-k:=by
   rw[Du,Nat.div_lt_iff_lt_mul hp,<-Nat.pow_add,Nat.sub_add_cancel hk];exact h2
  omega
theorem Lj {y:Nat}(h:y<=255):Bg y<=64:=by rw[Du];exact Nat.lt_of_le_of_lt h (by decide)
def Bk (a b:Nat):Int:=if a<b then -1 else if a=b then 0 else 1
theorem Dt {a b:Nat}(h:a<b):Bk a b = -1:=by simp[Bk,h]
theorem Xm (a:Nat):Bk a a=0:=by simp[Bk]
theorem Jg {a b:Nat}(h:b<a):Bk a b=1:=by rw[Bk,if_neg (by omega),if_neg (by omega)]
open Go Go.RowKit Go.Shelf
attribute [local go_sem] Oper.semAt_some
theorem Xl (a b:Nat)(w:World) :
  Calls Tryz.prog 78 #[.int .i64 a,.int .i64 b] w fun e w'=>e=.returned (.int .i64 (Bk a b))/\w=w':=by
 rcases Nat.lt_trichotomy a b with h|rfl|h
 .rw[Dt h];have h1:(a:Int)<b:=by omega
  go_enter Tryz.func78,Tryz.ntmps78;go_wp2;go_ret;exact⟨rfl,rfl⟩
 .rw[Xm];go_enter Tryz.func78,Tryz.ntmps78;go_wp2;go_ret;exact⟨rfl,rfl⟩
 .rw[Jg h];have h1:(b:Int)<a:=by omega
  have h2:¬(a:Int)<b:=by omega
  go_enter Tryz.func78,Tryz.ntmps78;go_wp2;go_ret;exact⟨rfl,rfl⟩
theorem Xk (a b:Nat)(w:World) :
  Calls Tryz.prog 80 #[.int .u32 a,.int .u32 b] w fun e w'=>e=.returned (.int .i64 (Bk a b))/\w=w':=by
 rcases Nat.lt_trichotomy a b with h|rfl|h
 .rw[Dt h];have h1:(a:Int)<b:=by omega
  go_enter Tryz.func80,Tryz.ntmps80;go_wp2;go_ret;exact⟨rfl,rfl⟩
 .rw[Xm];go_enter Tryz.func80,Tryz.ntmps80;go_wp2;go_ret;exact⟨rfl,rfl⟩
 .rw[Jg h];have h1:(b:Int)<a:=by omega
  have h2:¬(a:Int)<b:=by omega
  go_enter Tryz.func80,Tryz.ntmps80;go_wp2;go_ret;exact⟨rfl,rfl⟩
def Ga (n k:Nat)(h:k<=n):List (Fin n):=(List.finRange k).map fun j=>⟨n-1-j.1,by have:=j.2;omega⟩
theorem Xe (n k:Nat)(h:k<=n):(Ga n k h).length=k:=by simp[Ga]
theorem dH (n k:Nat)(h:k+1<=n):Ga n (k+1) h=Ga n k (by omega)++[⟨n-1-k,by omega⟩]:=by
 unfold Ga;rw[List.finRange_succ_last];simp[Function.comp_def]
def oD (ws:List Nat){n:Nat}(x:Fin n):Array Value:=#[.int .i64 (x.1:Nat),.int .u32 (ws.getD x.1 0:Nat)]
theorem pL (F:Fence)(n:Nat)(h7:F.fn 142)(hro:F.round=none)(hn:1<=n)(l Bs n₀:Nat)(p:Option Addr)(len cap:Nat)(ws:List Nat)(w0:World)(hrow:Row w0 .u32 p len cap ws)(hlen:len<1000000)(hB:w0.heap.size<=n₀)(J Jx:List (Fin len)->World->Prop)(hY:∀pre x W,J pre W->pre.length<len->YieldAt F (n-1) Tryz.prog l (oD ws x) W fun e W'=>
   (e=.returned (.bool true)/\J (pre++[x]) W'/\Below n₀ W W') ∨ (e=.returned (.bool false)/\Jx (pre++[x]) W'))(W:World)(hW:Below w0.heap.size w0 W)(hBn:Bs<n₀)(hBs:W.cell? ⟨Bs,0,none⟩=some (.slice p len cap))(h0:J [] W) :
  CallsIn F n Tryz.prog 142 #[.func (.yield l) #[] #[],.pointer (some ⟨Bs,0,none⟩)] W fun e W'=>(∃v,e=.returned v) /\
   ((∃ys,(∃h,ys=Ga len len h)/\J ys W') ∨ (∃pre,(∃k h,pre=Ga len k h)/\Jx pre W')):=by
 refine callsIn_of_wp Tryz.func142 rfl h7 ?_ hro;simp only[Tryz.ntmps142,List.size_toArray,List.length_cons,List.length_nil,Nat.reduceAdd,Nat.reduceSub,Array.replicate_succ,Array.replicate_zero,List.push_toArray,List.append_toArray,List.nil_append,List.cons_append]
 gi_wp2
 gi_loopw [3] (fun i wr=>∃k m:Nat,∃hk:k+m<=len,len<=k+m/\i=.int .i64 ((m:Int)-1)/\J (Ga len k (by omega)) wr/\Below n₀ W wr)
  (fun i _=>(intOf i+1).toNat)
 case atStart=>exact⟨0,len,by omega,by omega,rfl,h0,Ba _ _⟩
 case round=>
  obtain⟨k,m,hk,hk2,rfl,hJs,hnx⟩:=hrel;have hbx:=(hnx.cell (p:=⟨Bs,0,none⟩) hBn).trans hBs
  cases m with
  | succ j=>
   have hrow':=hrow.below (hW.trans (hnx.mono hB));obtain⟨b,off,rfl,hb,hc⟩:=hrow'.pos (by omega);have hjl:j<len:=by omega
   obtain⟨fn,tmps,assign,body,hy,hR⟩:=hY _ ⟨j,hjl⟩ wr hJs (by rw[Xe];omega);obtain⟨x,hx⟩:∃x,ws.getD j 0=x:=⟨_,rfl⟩
   have hcx:wr.cell? ⟨b,off+j,none⟩=some (.int .u32 (x:Nat)):=hc _ _ (by
    have:=hrow.len;rw[<-hx,Dy];simp[show j<ws.length by omega])
   unfold oD at hy
   dsimp only at hy
   rw[hx]at hy
   have HD:Hid (Ga len (k+1) (by omega)=Ga len k (by omega)++[⟨j,hjl⟩]):=by
    have:=dH len k (by omega);have e:len-1-k=j:=by omega
    simp only[e]at this;exact this
   clear hc hx;have e1:(((j+1:Nat):Int)-1)=(j:Int):=by omega
   simp only[e1];clear e1
   gi_wp2
   refine hR.mono ?_;rintro e W3 (⟨rfl,hJ3,hk3⟩|⟨rfl,hJx3⟩)
   .gi_wp2
    go_roundw
    case rel=>exact⟨k+1,j,by omega,by omega,rfl,by rw[HD.out];exact hJ3,hnx.trans hk3⟩
    case measure=>simp[intOf]
   .gi_wp2
    refine bodyPost_ret (results_none rfl _ _ _) rfl ?_;exact⟨⟨_,rfl⟩,.inr ⟨_,⟨k+1,by omega,HD.out.symm⟩,hJx3⟩⟩
  | zero=>
   obtain rfl:k=len:=by omega
   gi_wp2
   go_end0
   exact⟨⟨_,rfl⟩,.inl ⟨_,⟨by omega,rfl⟩,hJs⟩⟩
attribute [local go_sem] Oper.semAt_some
theorem kZ (F:Fence)(n:Nat)(h7:F.fn 142)(hro:F.round=none)(hn:1<=n)(Bs n₀:Nat)(p:Option Addr)(len cap:Nat)(ws:List Nat)(w0 w:World)(hrow:Row w0 .u32 p len cap ws)(hlen:len<1000000)(hB:w0.heap.size<=n₀)(hw:Below w0.heap.size w0 w)(hBn:Bs<n₀)(hBs:Bs<w.heap.size)(hc:w.cell? ⟨Bs,0,none⟩=some (.slice p len cap)) :
  SeqStopsK F n Tryz.prog 142 #[.pointer (some ⟨Bs,0,none⟩)] (oD ws) (Below n₀) (fun ys=>∃h,ys=Ga len len h) (fun pre=>∃k h,pre=Ga len k h) len w:=fun l J Jx W hW _ _ hY h0=>by
 have hc':=(hW.cell (p:=⟨Bs,0,none⟩) hBs).trans hc;exact pL F n h7 hro hn l Bs n₀ p len cap ws w0 hrow hlen hB J Jx hY W (hw.trans (hW.mono hw.size)) hBn hc' h0
theorem qH (F:Fence)(n:Nat)(h5:F.fn 79)(hro:F.round=none)(a:Option Addr)(len cap:Nat)(w:World) :
  CallsIn F n Tryz.prog 79 #[.agg #[.slice a len cap]] w fun e w'=>e=.returned (.func (.func 142) #[] #[.pointer (some ⟨w.heap.size,0,none⟩)])/\w'=w.alloc (.cells #[.slice a len cap] 37):=by
 refine callsIn_of_wp Tryz.func79 rfl h5 ?_ hro;simp only[Tryz.ntmps79,List.size_toArray,List.length_cons,List.length_nil,Nat.reduceAdd,Nat.reduceSub,Array.replicate_succ,Array.replicate_zero,List.push_toArray,List.append_toArray,List.nil_append,List.cons_append]
 gi_wp2
 go_ret;exact⟨rfl,rfl⟩
theorem Tx (A B:List Nat)(hl:A.length=B.length)(wA:Words A)(i:Nat)(hi:i<A.length)(h:∀j,i<j->A.getD j 0=B.getD j 0)(hlt:A.getD i 0<B.getD i 0):val A<val B:=by
 have hA:A=A.take i++(A.getD i 0::A.drop (i+1)):=by
  rw[Dy];simp[hi]
 have hB:B=B.take i++(B.getD i 0::B.drop (i+1)):=by
  rw[Dy];simp[show i<B.length by omega]
 have hd:A.drop (i+1)=B.drop (i+1):=by
  apply List.ext_getElem (by simp[hl]);intro j h1 h2;have:=h (i+1+j) (by omega);simp only[Dy]at this;simp only[List.length_drop]at h1 h2;simp only[List.getElem_drop];simpa [show i+1+j<A.length by omega,show i+1+j<B.length by omega]using this
 have e1:val A=val (A.take i)+An i*(A.getD i 0+4294967296*val (A.drop (i+1))):=by
  conv=>lhs;rw[hA]
  rw[val_append];simp[val,Nat.min_eq_left (Nat.le_of_lt hi)]
 have e2:val B=val (B.take i)+An i*(B.getD i 0+4294967296*val (A.drop (i+1))):=by
  conv=>lhs;rw[hB]
  rw[val_append,hd];simp[val,Nat.min_eq_left (show i<=B.length by omega)]
 have h1:=(wA.take i).lt;have h3:(A.take i).length=i:=by simp;omega
 rw[h3]at h1
 rw[e1,e2];generalize A.getD i 0=x at *;generalize B.getD i 0=y at *;obtain⟨d,rfl⟩:∃d,y=x+1+d:=⟨y-(x+1),by omega⟩
 generalize 4294967296*val (A.drop (i+1))=z;have:An i*(x+1+d+z)=An i*(x+z)+An i+An i*d:=by
  rw[show x+1+d+z=(x+z)+1+d from by omega,Nat.mul_add,Nat.mul_add,Nat.mul_one]
 omega
theorem pN (A B:List Nat)(hl:A.length=B.length)(wA:Words A)(wB:Words B)(i:Nat)(hi:i<A.length)(h:∀j,i<j->A.getD j 0=B.getD j 0)(hne:A.getD i 0≠B.getD i 0):Bk (A.getD i 0) (B.getD i 0)=Bk (val A) (val B):=by
 rcases Nat.lt_or_gt_of_ne hne with h1|h1
 .rw[Dt h1,Dt (Tx A B hl wA i hi h h1)]
 .rw[Jg h1,Jg (Tx B A hl.symm wB i (by omega) (fun j hj=>(h j hj).symm) h1)]
theorem Uu {n k:Nat}{h:k<=n}{x:Fin n}:x∈Ga n k h ↔ n<=x.1+k:=by
 unfold Ga;simp only[List.mem_map,List.mem_finRange,true_and];constructor
 .rintro⟨j,rfl⟩;have:=j.2;simp only;omega
 .intro hx;have:=x.2;exact⟨⟨n-1-x.1,by omega⟩,by ext;simp only;omega⟩
theorem nF {A B:List Nat}{n:Nat}(hA:n=A.length)(hB:n=B.length)(h:∀x∈Ga n n (Av n),A.getD x.1 0=B.getD x.1 0):A=B:=by
 apply List.ext_getElem (by omega);intro j h1 h2;have:=h ⟨j,by omega⟩ (Uu.2 (by simp only;omega));simp only[Dy]at this;simpa [h1,h2]using this
theorem gZ (n:Nat)(hn:10<=n)(w:World)(p q:Option Addr)(len c d:Nat)(A B:List Nat)(hA:Row w .u32 p len c A)(hB:Row w .u32 q len d B)(wA:Words A)(wB:Words B)(hlen:len<1000000) :
  CallsIn Fence.wide n Tryz.prog 24 #[.agg #[.slice p len c],.agg #[.slice q len d]] w fun e W'=>e=.returned (.int .i64 (Bk (val A) (val B)))/\Below w.heap.size w W':=by
 have h1:1<=n:=by omega
 have HA:=Ah hA.len;have HB:=Ah hB.len;refine callsIn_of_wp_marks Tryz.func24 rfl trivial ?_ rfl;simp only[Tryz.ntmps24,List.size_toArray,List.length_cons,List.length_nil,Nat.reduceAdd,Nat.reduceSub,Array.replicate_succ,Array.replicate_zero,List.push_toArray,List.append_toArray,List.nil_append,List.cons_append]
 gi_wp2_with fail
 refine⟨trivial,(qH Fence.wide (n-1) trivial rfl _ _ _ _).mono ?_⟩;rintro e w' ⟨rfl,rfl⟩
 gi_wp2_with fail
 have hB0:Below w.heap.size w ((((w.alloc (.cells #[.slice p len c] 37)).alloc (.cells #[.slice q len d] 37)).alloc (.cells #[.int .i64 0] 3)).alloc (.cells #[.slice p len c] 37)) :=
  ((((Ba _ w).alloc (Av _) _).alloc (by simp) _).alloc (by simp;omega) _).alloc (by simp;omega) _
 refine wpIn_rangeFunc_ownF rfl h1 (gf := 142) (lb:=#[.pointer (some ⟨w.heap.size+1+1+1,0,none⟩)]) rfl trivial (enters_of Tryz.func142 (by kernel_rfl) rfl)
  (kZ Fence.wide (n-1) trivial rfl (by omega) (w.heap.size+1+1+1) (w.heap.size+4) p len c A w _ hA hlen (by omega) hB0 (by omega) (by simp) (by simp[go_sem])) belowK_t (belowK_b (by simp)) (Ba _ _) (fun _=>rfl)
  (fun pre W=>((∀x∈pre,A.getD x.1 0=B.getD x.1 0)/\W.cell? ⟨w.heap.size+1,0,none⟩=some (.slice q len d)/\W.cell? ⟨w.heap.size+1+1,0,none⟩=some (.int .i64 0)/\W.frozen? ⟨w.heap.size+1+1,0,none⟩=false)/\Below w.heap.size w W)
  (fun cd pre W=>(cd=.ret/\∃ini last,pre=ini++[last]/\(∀x∈ini,A.getD x.1 0=B.getD x.1 0)/\A.getD last.1 0≠B.getD last.1 0/\W.cell? ⟨w.heap.size+1+1,0,none⟩=some (.int .i64 (Bk (A.getD last.1 0) (B.getD last.1 0))))/\Below w.heap.size w W)
  (OwnFrom.and (Own.from (fun s A B row hs hg hr=>⟨hs.1,cell_kept hs.2.1 hg hr,cell_kept hs.2.2.1 hg hr,(frozen_kept hs.2.2.1 hg hr).trans hs.2.2.2⟩) _) (ownFrom_below (Av _) (by simp;omega)))
  (fun c=>OwnFrom.and (Own.from (fun s A B row hs hg hr=>by obtain⟨hc,ini,last,e1,e2,e3,e4⟩:=hs;exact⟨hc,ini,last,e1,e2,e3,cell_kept e4 hg hr⟩) _) (ownFrom_below (Av _) (by simp;omega)))
  ⟨⟨by simp,by simp[go_sem],by simp[go_sem],by simp[go_sem]⟩,hB0⟩
  (fun x=>{ tmps:=#[.agg #[.slice p len c],.agg #[.slice q len d],.pointer (some ⟨w.heap.size,0,none⟩),.pointer (some ⟨w.heap.size+1,0,none⟩),.pointer (some ⟨w.heap.size+1+1,0,none⟩),.int .i64 (x.1:Nat),.int .u32 (A.getD x.1 0:Nat),
   .pointer (some ⟨w.heap.size,0,none⟩),.slice p len c,.int .i64 len,.pointer (some ⟨w.heap.size+1,0,none⟩),.slice q len d,.int .i64 len,.bool false,undef,undef,undef,undef,undef,undef,undef,.agg #[.slice p len c],
   .func (.func 142) #[] #[.pointer (some ⟨w.heap.size+1+1+1,0,none⟩)],.int .i64 (x.1:Nat),.int .u32 (A.getD x.1 0:Nat),undef,undef,undef,undef,undef,undef,undef,undef,undef,undef,undef,undef,undef,undef],defers:=[] }) ?assign ?body ?done ?stop
 case assign=>
  intro l x W K hK;simp only[oD]
  gi_wp2
  exact hK
 case body=>
  rintro l pre x W ⟨⟨hp,hc1,hc2,hf2⟩,hB1⟩ _;have hrow:=hB.below hB1;have hx2:=x.2;obtain⟨b,off,rfl,hb,hcell⟩:=hrow.pos (by omega);obtain⟨u,hu⟩:∃u,A.getD x.1 0=u:=⟨_,rfl⟩
  obtain⟨v,hv⟩:∃v,B.getD x.1 0=v:=⟨_,rfl⟩
  have hci:W.cell? ⟨b,off+x.1,none⟩=some (.int .u32 (v:Nat)):=hcell _ _ (by rw[<-hv,Dy];simp[show x.1<B.length by have:=HB.out;omega]);have HU:=Ah hu;have HV:=Ah hv;have HP:=Ah hp;rw[hu];clear hcell hu hv hp
  by_cases huv:u=v
  .subst huv
   gi_wp2
   refine⟨KeepsOthers.refl _,Ba _ _,⟨fun y hy=>?_,hc1,hc2,hf2⟩,hB1⟩;rcases List.mem_append.1 hy with h|h
   .exact HP.out y h
   .simp at h;subst h;rw[HU.out,HV.out]
  .have hne:((u:Int)==v)=false:=by rw[beq_eq_false_iff_ne];omega
   have hne':((u:Int)!=v)=true:=by rw[bne_iff_ne];omega
   gi_wp2_with fail
   refine⟨trivial,fun h=>by simp[Fence.wide]at h,CallsIn.inRound l ((callsIn_wide.2 (Xk u v W)).mono ?_)⟩;rintro e W3 ⟨rfl,rfl⟩
   gi_wp2
   refine⟨KeepsOthers.setCell _ _ _,⟨rfl,pre,x,rfl,HP.out,by rw[HU.out,HV.out];exact huv,?_⟩,hB1.setCell (by simp;omega) _⟩;rw[HU.out,HV.out];exact World.cell?_setCell_same _ _ _ hc2
 case done=>
  rintro D ys W hD ⟨_,rfl⟩ ⟨⟨hp,hc1,hc2,hf2⟩,hB1⟩ hK;have HE:Hid (A=B):=nF HA.out HB.out hp;clear hp
  gi_wp2
  have hK':=(KeepsOthers.setCell W ⟨w.heap.size+1+1,0,none⟩ (.int .i64 0)).same D _ hK rfl;refine⟨by simp,.inl ⟨_,_,rfl,run_takeDeferred hK',?_⟩⟩;have hc5:=cell_kept (World.cell?_setCell_same W ⟨w.heap.size+1+1,0,none⟩ (.int .i64 0) hc2) (grownBy_putObj' _ D (.deferred none)) (fun r e=>by cases e;exact⟨_,hK',rfl⟩);refine⟨.int .i64 0,?_,by rw[HE.out,Xm],(hB1.setCell (p:=⟨w.heap.size+1+1,0,none⟩) (by simp;omega) _).trans (belowK_b (w:=w) (Av _) _ D _ _ (by simp at hD;omega) hK' rfl rfl)⟩;simp[results,Tryz.f24,go_sem,hc5]
 case stop=>
  rintro D cd pre W hD ⟨k,hk,rfl⟩ ⟨⟨rfl,ini,last,e1,e2,e3,hcr⟩,hB1⟩ hK
  gi_wp2
  refine⟨by simp,.inl ⟨_,_,rfl,run_takeDeferred hK,?_⟩⟩;have hc5:=cell_kept hcr (grownBy_putObj' _ D (.deferred none)) (fun r e=>by cases e;exact⟨_,hK,rfl⟩);have hlast:Bk (A.getD last.1 0) (B.getD last.1 0)=Bk (val A) (val B):=by
   refine pN A B (by rw[<-HA.out,<-HB.out]) wA wB last.1 (by have:=last.2;have:=HA.out;omega) (fun j hj=>?_) e3
   by_cases hjl:j<len
   .have hlm:last∈Ga len k hk:=by rw[e1];simp
    have hjm:(⟨j,hjl⟩:Fin len)∈Ga len k hk:=by rw[Uu]at hlm ⊢;simp only;omega
    rw[e1]at hjm
    rcases List.mem_append.1 hjm with h|h
    .exact e2 _ h
    .simp at h;rw[<-h]at hj;simp at hj
   .simp only[Dy];rw[List.getElem?_eq_none (by have:=HA.out;omega),List.getElem?_eq_none (by have:=HB.out;omega)]
  rw[hlast]at hc5
  refine⟨_,?_,rfl,hB1.trans (belowK_b (w:=w) (Av _) W D _ _ (by simp at hD;omega) hK rfl rfl)⟩;simp[results,Tryz.f24,go_sem,hc5]
theorem jA {ws:List Nat}(h:ws.getLast? ≠ some 0)(hn:0<ws.length):An (ws.length-1)<=val ws:=by
 obtain⟨xs,x,rfl⟩:∃xs x,ws=xs++[x]:=by
  rcases List.eq_nil_or_concat ws with rfl|⟨xs,x,h⟩
  .simp at hn
  .exact⟨xs,x,by simpa using h⟩
 have hx:x≠0:=by simpa using h
 rw[Dn];have:An xs.length*1<=An xs.length*x:=Nat.mul_le_mul_left _ (by omega);simp at this ⊢;omega
theorem Cn {a b:Nat}(h:a<=b):An a<=An b:=Nat.pow_le_pow_right (by omega) h
theorem Ag.len_lt {w:World}{p q:Option Addr}{n c N m d M:Nat}(hA:Ag w p n c N)(hB:Ag w q m d M)(h:n<m):N<M:=by
 obtain⟨A,a1,a2,a3,rfl⟩:=hA.ex;obtain⟨B,b1,b2,b3,rfl⟩:=hB.ex;have h1:=a2.lt;have h2:=jA b3 (by have:=b1.len;omega);have h3:An A.length<=An (B.length-1):=Cn (by have:=a1.len;have:=b1.len;omega);omega
theorem Ag.len_le {w:World}{p:Option Addr}{n c N:Nat}(hA:Ag w p n c N){k:Nat}(h:N<An k):n<=k:=by
 obtain⟨A,a1,a2,a3,rfl⟩:=hA.ex;have hl:=a1.len;rcases Nat.lt_or_ge k n with h1|h1
 .have h2:=jA a3 (by omega);have h3:An k<=An (A.length-1):=Cn (by omega);omega
 .exact h1
theorem Ag.zero {w:World}{p:Option Addr}{n c N:Nat}(hA:Ag w p n c N):n=0 ↔ N=0:=by
 constructor
 .intro h;obtain⟨A,a1,a2,a3,rfl⟩:=hA.ex;have:A=[]:=List.eq_nil_of_length_eq_zero (by have:=a1.len;omega);rw[this];rfl
 .intro h;have:=hA.len_le (k:=0) (by rw[h];exact Fh 0);omega
theorem Gt (w:World)(p q:Option Addr)(n c N m d M:Nat)(hA:Ag w p n c N)(hB:Ag w q m d M)(hn:n<1000000)(hm:m<1000000) :
  Calls Tryz.prog 24 #[.agg #[.slice p n c],.agg #[.slice q m d]] w fun e w'=>e=.returned (.int .i64 (Bk N M))/\Below w.heap.size w w':=by
 by_cases hnm:n=m
 .subst hnm;obtain⟨A,a1,a2,_,rfl⟩:=hA.ex;obtain⟨B,b1,b2,_,rfl⟩:=hB.ex;exact callsIn_wide.1 (gZ 10 (Av _) w p q n c d A B a1 b1 a2 b2 hn)
 .have hc:Bk n m=Bk N M:=by
   rcases Nat.lt_or_gt_of_ne hnm with h|h
   .rw[Dt h,Dt (hA.len_lt hB h)]
   .rw[Jg h,Jg (hB.len_lt hA h)]
  have HC:=Ah hc;have hne:((n:Int)==m)=false:=by rw[beq_eq_false_iff_ne];omega
  have hne':((n:Int)!=m)=true:=by rw[bne_iff_ne];omega
  clear hc hA hB;go_enter Tryz.func24,Tryz.ntmps24
  go_wp2_with fail
  refine(Xl n m _).mono ?_;rintro e w1 ⟨rfl,rfl⟩;go_wp2;refine bodyPost_ret (v:=.int .i64 (Bk n m)) (by simp[results,Tryz.results24,go_sem]) rfl ⟨by rw[HC.out],?_⟩;exact((((Ba _ w).alloc (Av _) _).alloc (by simp) _).alloc (by simp;omega) _)
end Go.Proofs.YtokhckjemidbpaaGreatDoor
