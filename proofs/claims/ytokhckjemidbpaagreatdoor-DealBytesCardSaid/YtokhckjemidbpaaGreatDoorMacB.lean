/- A key's block, and the two sums under a key. -/
import Derived.Test.YtokhckjemidbpaaGreatDoorCpC
import Derived.KernelRfl
import Derived.Laws.OwnMore
import Derived.ArgAppend
import Derived.Laws.CopyOwn
import Derived.Tactics
set_option maxRecDepth 1000000
set_option maxHeartbeats 16000000
set_option linter.all false
namespace Go.Proofs.YtokhckjemidbpaaGreatDoor
open Go
def Kr (key:List Nat):List Nat:=if 64<key.length then Vu key else key
def Du (key:List Nat):List Nat:=Kr key++List.replicate (64-(Kr key).length) 0
def masked (b:List Nat)(x:Nat):List Nat:=b.map (· ^^^ x)
def Xe (key:List Nat):List Nat:=masked (Du key) 54
def Wu (key:List Nat):List Nat:=masked (Du key) 92
def Vz (key m:List Nat):List Nat:=Wu key++Vu (Xe key++m)
def Jc (key m:List Nat):List Nat:=Vu (Vz key m)
theorem Iy (key:List Nat):(Kr key).length<=64:=by
 unfold Kr;split
 .rw[Di];omega
 .omega
theorem Gv (key:List Nat):(Du key).length=64:=by have:=Iy key;simp[Du];omega
theorem Xb {key:List Nat}(h:Au key):Au (Kr key):=by
 unfold Kr;split
 .exact Mi _
 .exact h
theorem Sl {key:List Nat}(h:Au key):Au (Du key):=by
 intro x hx;rcases List.mem_append.1 hx with h1|h1
 .exact Xb h x h1
 .have:=(List.mem_replicate.1 h1).2;omega
theorem Ey (b:List Nat)(x:Nat):(masked b x).length=b.length:=by simp[masked]
theorem Sf {b:List Nat}(h:Au b){x:Nat}(hx:x<256):Au (masked b x):=by
 intro y hy;obtain⟨z,hz,rfl⟩:=List.mem_map.1 hy;exact Nat.xor_lt_two_pow (n:=8) (h z hz) hx
theorem Jb (key m:List Nat):(Jc key m).length=32:=Di _
theorem Pd (key m:List Nat):Au (Jc key m):=Mi _
def We (p:Nat):Bool:=decide (2<=p)&&decide (p<65536)&&(List.range 256).all fun d=>decide (d<2)||decide (p<d*d) || !(p%d==0)
theorem Gk {p:Nat}(h:We p=true):Ce p:=by
 simp only[We,Bool.and_eq_true,decide_eq_true_eq,List.all_eq_true,Bool.or_eq_true,Bool.not_eq_true',beq_eq_false_iff_ne]at h;obtain⟨⟨h2,hlt⟩,h⟩:=h;refine⟨h2,hlt,fun d h3 h4=>?_⟩;have hd:d<256:=Nat.lt_of_not_le fun hle=>by have:=Nat.mul_le_mul hle hle;omega
 rcases h d (List.mem_range.2 hd) with (h5|h5)|h5
 .omega
 .omega
 .exact h5
theorem Yg {p:Nat}(hp:2<=p):∀(f n:Nat),0<n->n<2^f->pw p f n=pw p n n
 | 0,n,h0,h=>by simp at h;omega
 | f+1,n,h0,h=>by
  rw[Ob hp h0,pw];split
  .rename_i hm
   have h4:0<n/p:=Nat.div_pos (Nat.le_of_dvd h0 (Nat.dvd_of_mod_eq_zero hm)) (by omega);have h5:n/p<2^f:=by
    have:n/p<=n/2:=Nat.div_le_div_left hp (by omega);rw[Nat.pow_succ]at h
    omega
   rw[Yg hp f (n/p) h4 h5]
  .rfl
def okB (f N base:Nat)(behind ps:List Nat)(i p:Nat):Bool :=
 !(ps.take i).contains p&&(We p||behind.contains p)&&decide (2<=p)&&(N-1)%p==0&&Nat.gcd ((pm base N f ((N-1)/p)+N-1)%N) N==1
def holdsB (f N base:Nat)(ps behind:List Nat):Bool :=
 decide (2<=N) && !ps.isEmpty&&decide (ps.length<=32)&&decide (N<=2^f)&&(List.range ps.length).all (fun i=>okB f N base behind ps i (ps.getD i 0))&&pm base N f (N-1)==1 &&
  decide (N<ps.foldl (fun a p=>a*pw p f (N-1)) 1*ps.foldl (fun a p=>a*pw p f (N-1)) 1)
theorem Uv {f n:Nat}(h0:0<n)(h:n<2^f):∀(ps:List Nat) (a:Nat),(∀p∈ps,2<=p)->ps.foldl (fun a p=>a*pw p f n) a=ps.foldl (fun a p=>a*pw p n n) a
 | [],_,_=>rfl
 | p::ps,a,hp=>by
  rw[List.foldl_cons,List.foldl_cons,Yg (hp p (by simp)) f n h0 h];exact Uv h0 h ps _ fun q hq=>hp q (by simp[hq])
theorem Ja {f N base:Nat}{ps behind:List Nat}(h:holdsB f N base ps behind=true):Fj N base ps behind:=by
 simp only[holdsB,Bool.and_eq_true,decide_eq_true_eq,List.all_eq_true,Bool.not_eq_true',beq_iff_eq]at h;obtain⟨⟨⟨⟨⟨⟨h2,hne⟩,h32⟩,hf⟩,hall⟩,hone⟩,hgr⟩:=h;have hlt:N-1<2^f:=by omega
 have each:∀i p,ps[i]? = .some p->dV N base behind ps i p:=fun i p hp=>by
  have hi:=(List.getElem?_eq_some_iff.1 hp).1;have h3:=hall i (List.mem_range.2 hi);rw[Dv,hp,Option.getD_some]at h3
  simp only[okB,Bool.and_eq_true,decide_eq_true_eq,Bool.not_eq_true',beq_iff_eq,Bool.or_eq_true,List.contains_iff_mem]at h3;obtain⟨⟨⟨⟨k1,k2⟩,k3⟩,k4⟩,k5⟩:=h3;refine⟨(fun hm=>by rw[List.contains_iff_mem.2 hm]at k1;cases k1),k2.imp Gk id,k3,k4,?_⟩;rw[<-Lk base N f _ (Nat.lt_of_le_of_lt (Nat.div_le_self _ _) hlt)];exact k5
 have hps:∀p∈ps,2<=p:=fun p hp=>by
  obtain⟨i,hi,e⟩:=List.getElem_of_mem hp;exact(each i p (by rw[List.getElem?_eq_getElem hi,e])).2.2.1
 refine⟨h2,(fun e=>by rw[e]at hne;cases hne),h32,each,?_,?_⟩
 .rw[<-Lk base N f _ hlt];exact hone
 .have:=Uv (f:=f) (n:=N-1) (by omega) hlt ps 1 hps;unfold Qc;rw[<-this];exact hgr
def gP:Nat->Nat
 | 0=>607
 | 1=>655211
 | _=>20752587082923246163
def gQ:Nat->Nat
 | 0=>101
 | 1=>65521
 | _=>1152921504606847009
def gG:Nat->Nat
 | 0=>64
 | 1=>1024
 | _=>262144
def gH:Nat->Nat
 | 0=>597
 | 1=>96520
 | _=>12833098634328171918
def iE:Nat->Nat
 | 0=>2
 | 1=>3
 | _=>9
def Ku:Nat->Nat
 | 0=>6
 | 1=>10
 | _=>18
def Dr:Nat->List Bn
 | 0=>[]
 | 1=>[⟨655211,2,[65521]⟩]
 | _=>[⟨1152921504606847009,13,[2,3,11,683,2971]⟩,⟨20752587082923246163,2,[1152921504606847009]⟩]
theorem cV:Fj 655211 2 [65521] []:=Ja (f:=20) (by kernel_rfl)
theorem aD:Fj 1152921504606847009 13 [2,3,11,683,2971] []:=Ja (f:=61) (by kernel_rfl)
theorem aC:Fj 20752587082923246163 2 [1152921504606847009] [1152921504606847009]:=Ja (f:=65) (by kernel_rfl)
theorem bL:Ce 607:=Gk (by kernel_rfl)
theorem bM:Ce 101:=Gk (by kernel_rfl)
theorem Wf:Ce 65521:=Gk (by kernel_rfl)
def Told (N:Nat)(l:List Bn):Prop:=Ce N ∨ (Bv [] l/\∃s∈l,s.n=N)
theorem Mq:∀i,i<3->Bv [] (Dr i)
 | 0,_=>trivial
 | 1,_=>⟨cV,trivial⟩
 | 2,_=>⟨aD,aC,trivial⟩
 | _+3,h=>by omega
theorem fE:∀i,i<3->Told (gP i) (Dr i)
 | 0,_=>.inl bL
 | 1,_=>.inr ⟨Mq 1 (by omega),_,List.mem_singleton.2 rfl,rfl⟩
 | 2,_=>.inr ⟨Mq 2 (by omega),_,List.mem_cons_of_mem _ (List.mem_singleton.2 rfl),rfl⟩
 | _+3,h=>by omega
theorem fD:∀i,i<3->Told (gQ i) (Dr i)
 | 0,_=>.inl bM
 | 1,_=>.inl Wf
 | 2,_=>.inr ⟨Mq 2 (by omega),_,List.mem_cons_self,rfl⟩
 | _+3,h=>by omega
theorem Rg:∀i,i<3->gP i-1=gQ i*Ku i
 | 0,_=>rfl
 | 1,_=>rfl
 | 2,_=>rfl
 | _+3,h=>by omega
theorem Lr:∀i,i<3->64<gQ i/\1<gG i/\gG i<gP i/\1<gH i/\gH i<gP i/\gP i<2^65
 | 0,_=>by decide
 | 1,_=>by decide
 | 2,_=>by decide
 | _+3,h=>by omega
theorem aB:∀i,i<3->gG i^gQ i%gP i=1
 | 0,_=>by rw[<-Lk (gG 0) (gP 0) 65 (gQ 0) (by decide)];kernel_rfl
 | 1,_=>by rw[<-Lk (gG 1) (gP 1) 65 (gQ 1) (by decide)];kernel_rfl
 | 2,_=>by rw[<-Lk (gG 2) (gP 2) 65 (gQ 2) (by decide)];kernel_rfl
 | _+3,h=>by omega
theorem Sk:Jc [] []=[182,19,103,154,8,20,217,236,119,47,149,215,120,195,95,197,255,22,151,196,147,113,86,83,198,199,18,20,66,146,197,173]:=by kernel_rfl
theorem Vx:Jc [182,19,103,154,8,20,217,236,119,47,149,215,120,195,95,197,255,22,151,196,147,113,86,83,198,199,18,20,66,146,197,173] [104,0,1] =
  [22,9,94,96,137,201,132,135,12,215,97,165,119,173,84,193,49]++(Jc [182,19,103,154,8,20,217,236,119,47,149,215,120,195,95,197,255,22,151,196,147,113,86,83,198,199,18,20,66,146,197,173] [104,0,1]).drop 17:=by kernel_rfl
def Ww (bs:List Nat):Nat:=bs.foldl (fun n x=>n*256+x) 0
def Pf:Nat->List Nat
 | 0=>[22,9,94,96,137,201,132,135,12,215]
 | 1=>[22,9,94,96,137,201,132,135,12,215,97]
 | _=>[22,9,94,96,137,201,132,135,12,215,97,165,119,173,84,193,49]
theorem iG:∀i,i<3->Ww (Pf i)^Ku i%gP i=gH i
 | 0,_=>by rw[<-Lk (Ww (Pf 0)) (gP 0) 65 (Ku 0) (by decide)];kernel_rfl
 | 1,_=>by rw[<-Lk (Ww (Pf 1)) (gP 1) 65 (Ku 1) (by decide)];kernel_rfl
 | 2,_=>by rw[<-Lk (Ww (Pf 2)) (gP 2) 65 (Ku 2) (by decide)];kernel_rfl
 | _+3,h=>by omega
open Go Go.RowKit
structure Own (w:World) (B:Nat) (v:Value) (bs:List Nat):Prop where
 owns:w.ownsRow B 5 1 v bs.length (bs.map fun(x:Nat)=>Value.int .u8 (x:Int))
theorem Own.elim {w:World}{B:Nat}{v:Value}{bs:List Nat}(h:Own w B v bs) :
  ∃p c,v=.slice p bs.length c/\Bb w .u8 p bs.length c bs/\El B p/\(p=none->c=0)/\(∀q,p=some q->q.block<w.heap.size):=by
 obtain⟨h1,h2⟩:=h.owns;rcases h2 with ⟨rfl,h0⟩|⟨g,cap,cur,rfl,hb,hg,hnc,hcm,hcs,ht⟩
 .refine⟨none,0,by rw[h0],⟨rfl,by omega,by omega,fun h=>absurd h (by omega)⟩,El.none _,fun _=>rfl,fun q hq=>(by cases hq)⟩
 .have hlt:g<w.heap.size:=(Ik hg).1;have hcm':cap<=9223372036854775807:=by simpa [maxLen]using hcm
  refine⟨some ⟨g,0,none⟩,cap,rfl,⟨rfl,hnc,hcm',fun _=>⟨rfl,hnc,hcm',.inr ⟨g,0,rfl,hlt,fun i x hx=>?_⟩⟩⟩,fun q hq=>(by cases hq;exact hb),fun h=>(by cases h),fun q hq=>(by cases hq;exact hlt)⟩;have hi:i<bs.length:=(List.getElem?_eq_some_iff.1 hx).1;have hx2:(bs.map fun(x:Nat)=>Value.int .u8 (x:Int))[i]? = some (.int .u8 (x:Int)):=by rw[List.getElem?_map,hx];rfl
  rw[<-ht,List.getElem?_take]at hx2
  split at hx2
  .unfold World.cell?
   dsimp only
   rw[hg];simp only[Nat.zero_add];rw[Array.getElem?_toList]at hx2
   exact hx2
  .cases hx2
theorem Own.below {w w':World}{B C:Nat}{v:Value}{bs:List Nat}(h:Own w B v bs)(hb:Below C w w')(hc:∀g,v.ownBlock=some g->g<C):Own w' B v bs:=by
 refine⟨⟨h.owns.1,?_⟩⟩;rcases h.owns.2 with h2|⟨g,cap,cur,rfl,hbg,hg,h3⟩
 .exact .inl h2
 .refine .inr ⟨g,cap,cur,rfl,hbg,?_,h3⟩;rw[hb.block g (hc g rfl)];exact hg
theorem Own.lt {w:World}{B:Nat}{v:Value}{bs:List Nat}(h:Own w B v bs):∀g,v.ownBlock=some g->g<w.heap.size:=by
 intro g hg;rcases h.owns.2 with ⟨rfl,_⟩|⟨g',cap,cur,rfl,hbg,hg',h3⟩
 .cases hg
 .obtain rfl:g'=g:=by simpa [Value.ownBlock]using hg
  exact(Ik hg').1
theorem Own.ge {w:World}{B:Nat}{v:Value}{bs:List Nat}(h:Own w B v bs):∀g,v.ownBlock=some g->B<=g:=by
 intro g hg;rcases h.owns.2 with ⟨rfl,_⟩|⟨g',cap,cur,rfl,hbg,hg',h3⟩
 .cases hg
 .obtain rfl:g'=g:=by simpa [Value.ownBlock]using hg
  exact hbg
theorem Own.belowS {w w':World}{B:Nat}{v:Value}{bs:List Nat}(h:Own w B v bs)(hb:Below w.heap.size w w'):Own w' B v bs:=h.below hb h.lt
theorem Own.mono {w:World}{B B':Nat}{v:Value}{bs:List Nat}(h:Own w B v bs)(hb:B'<=B):Own w B' v bs:=by
 refine⟨⟨h.owns.1,?_⟩⟩;rcases h.owns.2 with h2|⟨g,cap,cur,h1,hbg,h3⟩
 .exact .inl h2
 .exact .inr ⟨g,cap,cur,h1,by omega,h3⟩
theorem grown_below {w w':World}{g:Option Nat}(h:w.grownBy w' g){B:Nat}(hB:B<=w.heap.size)(hg:∀b,g=some b->B<=b):Below B w w' :=
 ⟨h.os,h.tape,h.output,h.size,fun k hk=>h.block k (by omega) (fun e=>by have:=hg k e.symm;omega)⟩
theorem eR {w:World}{B:Nat}{v:Value}{xs:List Nat}(h:Own w B v xs){p:Option Addr}{m c:Nat}{bs:List Nat}(hr:Bb w .u8 p m c bs)(hn:p=none->c=0)(hmax:xs.length+m<=140737488355328)(hB:B<=w.heap.size)(ty:TypeId) :
  ∃v' w',(Builtin.append_ #[23, 23] ty #[v,.slice p m c]).run Tryz.prog w=.ok v' w'/\Own w' B v' (xs++bs)/\w.grownBy w' v.ownBlock:=by
 obtain⟨i,hi,hz,hs,hb⟩:=info_parts Tryz.info_u8;have hl:=hr.len
 cases p with
 | none=>
  obtain rfl:=hn rfl;have hc:=hr.cap;obtain rfl:m=0:=by omega
  have hbs:bs=[]:=List.eq_nil_of_length_eq_zero hl.symm;refine⟨v,w,run_append_owned_none (P:=Tryz.prog) w B 23 ty 5 i 1 Tryz.underlying23 hi v xs.length _ h.owns,?_,⟨rfl,rfl,rfl,Av _,fun _ _ _=>rfl⟩⟩;rw[hbs,List.append_nil];exact h
 | some a=>
  have hmx:xs.length+m<=maxLen:=by simp only[maxLen];omega
  obtain⟨v',w',h1,h2,h3,_⟩:=run_append_own (P:=Tryz.prog) w B 23 ty 5 i (.int .u8 0) 1 1 Tryz.underlying23 hi hz hs hb (by rfl) (by decide) v xs.length _ h.owns a m c (bs.map fun(x:Nat)=>Value.int .u8 (x:Int)) (by simp[hl])
   (fun j u hu=>by
    rw[List.getElem?_map]at hu
    obtain⟨x,hx,rfl⟩:=Option.map_eq_some_iff.1 hu;have h0:0<m:=by have:=(List.getElem?_eq_some_iff.1 hx).1;omega
    obtain⟨b,off,e,h2,h3⟩:=(hr.row h0).pos h0;cases e;rw[add_plain];exact h3 j x hx)
   (fun u hu=>by obtain⟨x,_,rfl⟩:=List.mem_map.1 hu;rfl) hmx (by omega) hB
  refine⟨v',w',h1,⟨?_⟩,h3⟩;rw[<-List.map_append,hl,<-List.length_append]at h2
  exact h2
theorem Ok {w:World}{ops:Array Oper}{rest:List Oper}{o:Oper}{a:Act}{Q:Exit->Act->World->Prop}(hgd:o.guard=none)(s x:Operand)(ho:o.op=.call { callee:=.builtin .append,args:=#[s,x],argTypes:=#[23, 23] }){B:Nat}{v:Value}{xs:List Nat}(hs:a.eval s=v)(h:Own w B v xs){p:Option Addr}{m c:Nat}{bs:List Nat}(hx:a.eval x=.slice p m c)(hr:Bb w .u8 p m c bs)(hn:p=none->c=0)(hmax:xs.length+m<=140737488355328)(hB:B<=w.heap.size)(hk:∀v' w',Own w' B v' (xs++bs)->w.grownBy w' v.ownBlock->wpList Tryz.prog ops Q rest (a.put o.dst v') w'):wpList Tryz.prog ops Q (o::rest) a w:=by
 obtain⟨v',w',h1,h2,h3⟩:=eR h hr hn hmax hB o.type;refine wpList_plain hgd fun K hK=>?_
 unfold Oper.wp;simp[execOp,ho,resolve,invoke,builtin,hs,hx,h1,Result.andThen];exact hK _ _ (hk v' w' h2 h3)
inductive Db (lo:Nat) (bs:List Nat):Value->World->Prop where
 | of (p:Option Addr) (c:Nat) (w:World) (h:Bb w .u8 p bs.length c bs) (hn:El lo p) (hz:p=none->c=0) (hp:∀q,p=some q->q.block<w.heap.size):Db lo bs (.slice p bs.length c) w
theorem Db.mk {w:World}{B:Nat}{v:Value}{bs:List Nat}(h:Own w B v bs):Db B bs v w:=by
 obtain⟨p,c,rfl,h1,h2,h3,h4⟩:=h.elim;exact .of p c w h1 h2 h3 h4
theorem Db.elim {lo:Nat}{bs:List Nat}{v:Value}{w:World}(h:Db lo bs v w){C:Prop}(k:∀p c,v=.slice p bs.length c->Bb w .u8 p bs.length c bs->El lo p->(p=none->c=0)->C):C:=by
 cases h with
 | of p c _ h hn hz hp=>exact k p c rfl h hn hz
theorem Db.below {lo:Nat}{bs:List Nat}{v:Value}{w w':World}(h:Db lo bs v w)(hb:Below w.heap.size w w'):Db lo bs v w':=by
 cases h with
 | of p c _ h hn hz hp=>exact .of p c w' (h.below hb) hn hz (fun q hq=>Dk (hp q hq) hb.size)
theorem Db.zero {lo:Nat}{bs:List Nat}{v:Value}{w:World}(h:Db lo bs v w):Db 0 bs v w:=by
 cases h with
 | of p c _ h hn hz hp=>exact .of p c w h (fun _ _=>Nat.zero_le _) hz hp
theorem Yi (w:World)(bs:List Nat)(hm:bs.length<=9223372036854775807):Bb (w.alloc (.cells (bs.map fun(x:Nat)=>Value.int .u8 (x:Int)).toArray 5)) .u8 (some ⟨w.heap.size,0,none⟩) bs.length bs.length bs:=by
 have h:=Bi.row (w:=w.alloc (.cells (bs.map fun(x:Nat)=>Value.int .u8 (x:Int)).toArray 5)) (g:=w.heap.size) (e := 5) (k:=.u8) (xs:=bs) (heap_alloc_new w _) (n:=bs.length) (c:=bs.length) rfl (Av _) hm;exact⟨rfl,Av _,hm,fun _=>h⟩
open Go Go.RowKit Go.Proofs.YtokhckjemidbpaaGreatDoor.Flow
theorem Iv (w:World)(b off:Nat) :
  (Instr.sliceAt 273 (.pointer (some ⟨b,off,none⟩)) none none none).run Tryz.prog w=.ok (.slice (some ⟨b,off,none⟩) 64 64) w:=by
 have hlen:Tryz.prog.arrayLen 273 = 64:=by kernel_rfl
 rw[run_sliceAt_array_all w 273 ⟨b,off,none⟩ Tryz.underlying273,hlen];have hs:(sizeOf (Tryz.prog.elem 273)).run Tryz.prog w=.ok 1 w:=by
  have:Tryz.prog.elem 273 = 5 := by kernel_rfl
  rw[this];simp[go_sem]
 rw[hs];simp[slicedAt,Addr.add]
theorem Oe (b:List Nat)(h:b.length=64):(Tryz.prog.info? 273).map (·.size)=some (b.map fun(x:Nat)=>Value.int .u8 x).toArray.size:=by
 rw[show (b.map fun(x:Nat)=>Value.int .u8 x).toArray.size=64 by simp[h]];kernel_rfl
theorem Oq {kk:List Nat}(_h:kk.length<=64) :
  splice ((List.replicate 64 0).map fun(x:Nat)=>Value.int .u8 x) 0 (kk.map fun(x:Nat)=>Value.int .u8 x)=(kk++List.replicate (64-kk.length) 0).map fun(x:Nat)=>Value.int .u8 x:=by
 unfold splice;rw[List.take_zero,List.nil_append,List.length_map,Nat.zero_add,<-List.map_drop,List.drop_replicate,List.map_append]
theorem Yz {w:World}{p:Option Addr}{n c:Nat}{bs:List Nat}(h:Bb w .u8 p n c bs)(hn:0<n):∃ad,p=some ad/\ad.block<w.heap.size/\∀(j:Nat) (v:Value),(bs.map fun(x:Nat)=>Value.int .u8 (x:Int))[j]? = some v->w.cell? (ad.add j)=some v:=by
 obtain⟨b,off,rfl,hb,h3⟩:=(h.row hn).pos hn;refine⟨_,rfl,hb,fun j v hv=>?_⟩;rw[List.getElem?_map]at hv
 obtain⟨x,hx,rfl⟩:=Option.map_eq_some_iff.1 hv;rw[add_plain];exact h3 j x hx
def box2 (w:World):World:=(w.alloc (.cells (zeros .u8 64) 273)).alloc (.cells (zeros .u8 64) 273)
theorem Hy (w:World):Below w.heap.size w (box2 w):=((Bd _ _).alloc (Av _) _).alloc (by simp) _
theorem dG (w:World):Bi (box2 w) (w.heap.size+1) 273 .u8 (List.replicate 64 0):=by
 have:=Bi.zeros (w.alloc (.cells (zeros .u8 64) 273)) 273 .u8 64;rw[show (w.alloc (.cells (zeros .u8 64) 273)).heap.size=w.heap.size+1 by simp]at this
 exact this
theorem dF (w:World):Bi (box2 w) w.heap.size 273 .u8 (List.replicate 64 0):=(Bi.zeros w 273 .u8 64).alloc _
theorem Vh {w:World}{p:Option Addr}{n c:Nat}{key:List Nat}(hr:Bb w .u8 p n c key) :
  0<(key.map fun(x:Nat)=>Value.int .u8 (x:Int)).length->∃ad,p=some ad/\∀(j:Nat) (v:Value),(key.map fun(x:Nat)=>Value.int .u8 (x:Int))[j]? = some v->w.cell? (ad.add j)=some v:=fun h=>by
 obtain⟨ad,h1,_,h2⟩:=Yz hr (by have:=hr.len;simpa [this]using h);exact⟨ad,h1,h2⟩
theorem bJ (key:List Nat):∀v∈(key.map fun(x:Nat)=>Value.int .u8 (x:Int)),v.oneCell'=true:=fun v hv=>by
 obtain⟨x,_,rfl⟩:=List.mem_map.1 hv;rfl
theorem Vn (w:World)(p:Option Addr)(n c:Nat)(key:List Nat)(hT:Tabs w)(hr:Bb w .u8 p n c key)(h8:Au key) :
  Calls Tryz.prog 221 #[.slice p n c] w fun e w'=>e=.returned (.agg ((Du key).map fun(x:Nat)=>Value.int .u8 (x:Int)).toArray)/\Below w.heap.size w w':=by
 have hm:=hr.max;have hcap:=hr.cap;have hsl:=Iv;have HI:=Af (Oe (Du key) (Gv key));have H1:=Af (Lp .u8 (Du key));have HS:Hid (((List.replicate 64 0).map fun(x:Nat)=>Value.int .u8 x).toArray.size=((Du key).map fun(x:Nat)=>Value.int .u8 x).toArray.size):=Af (by simp[Gv]);have HSp:Hid (splice ((List.replicate 64 0).map fun(x:Nat)=>Value.int .u8 x) 0 ((Kr key).map fun(x:Nat)=>Value.int .u8 x)=(Du key).map fun(x:Nat)=>Value.int .u8 x):=Af (Oq (kk:=Kr key) (Iy key));have HG:=Af (dG w);have HW:=Af (Hy w);have HO:=Af (dF w);obtain⟨Z,hZ⟩:∃Z,((List.replicate 64 0).map fun(x:Nat)=>Value.int .u8 x)=Z:=⟨_,rfl⟩
 have HZ:=Af hZ;have HFit:Hid (0+((Kr key).map fun(x:Nat)=>Value.int .u8 (x:Int)).length<=((List.replicate 64 0).map fun(x:Nat)=>Value.int .u8 (x:Int)).length):=Af (by have:=Iy key;simp;omega);simp only[Bi,hZ]at HG HSp HFit HS HO;clear hZ
 by_cases hn:n<=64
 .have HKK:Hid (Kr key=key):=by
   show Kr key=_;unfold Kr;rw[if_neg (by have:=hr.len;omega)]
  rw[HKK.out]at HSp HFit
  have HSrc:=Ac (Vh (hr.below (Hy w)));have HN:Hid ((key.map fun(x:Nat)=>Value.int .u8 (x:Int)).length=Nat.min n 64):=by
   show List.length _=_;rw[List.length_map,<-hr.len];exact(Nat.min_eq_left hn).symm
  generalize Du key=B at *;go_enter Tryz.func221,Tryz.ntmps221
  go_wp2_with (refine wpList_copy_splice rfl (.tmp 10) (.tmp 11) 23 23 rfl 5 Tryz.underlying23 (by kernel_rfl) (some ⟨w.heap.size+1,0,none⟩) p 64 64 n c rfl rfl (w.heap.size+1) 0 Z 273 HG.out (key.map fun(x:Nat)=>Value.int .u8 (x:Int)) HN.out (fun h=>⟨rfl,HSrc.out h⟩) HFit.out (bJ key) (w.heap.size+1) (box2 w) (Bd _ _) (Av _) ?_)
  intro w2 hg2 hb2;have hg3:Hid (Bi w2 (w.heap.size+1) 273 .u8 B):=by
   show w2.heap[_]? = _;rw[hg2.out,HSp.out]
  have ho3:Hid (w2.heap[w.heap.size]? = some (.cells Z.toArray 273 (0,0))):=(hb2.block w.heap.size (by omega)).trans HO.out;have hb3:Hid (Below w.heap.size w w2):=HW.out.trans (hb2.mono (by omega));clear hg2 hb2 HSp HFit HSrc HN HO HG HW
  go_wp2_with (first|(refine wpList_load_row rfl 273 _ rfl (w.heap.size+1) rfl 273 (B.map fun(x:Nat)=>Value.int .u8 x).toArray (0,0) _ hg3.out Tryz.underlying273 rfl HI.out ?_)|(refine wpList_store_row rfl 273 _ _ rfl w.heap.size (B.map fun(x:Nat)=>Value.int .u8 x).toArray rfl rfl 273 Z.toArray ho3.out HI.out HS.out H1.out ?_))
  have hend:=setRow_heap w2 w.heap.size Z.toArray (B.map fun(x:Nat)=>Value.int .u8 x).toArray 273 (0,0) ho3.out;exact bodyPost_ret (v:=.agg (B.map fun(x:Nat)=>Value.int .u8 x).toArray) (results_cell_row Tryz.results221 _ _ w.heap.size 273 _ (0,0) _ rfl hend Tryz.underlying273 rfl HI.out) rfl ⟨rfl,below_setRow hb3.out (Av _) _⟩
 .have HKK:Hid (Kr key=Vu key):=by
   show Kr key=_;unfold Kr;rw[if_pos (by have:=hr.len;omega)]
  rw[HKK.out]at HSp HFit
  have hz:(box2 w).heap.size=w.heap.size+1+1:=by simp[box2]
  have hP:=bZ (box2 w) ⟨p,n,c,key⟩ ⟨hr.below (Hy w),h8⟩;rw[hz]at hP
  have HP:=Af hP;clear hP;have HT2:=Af (hT.below (Hy w) hT.size);have HN:Hid (((Vu key).map fun(x:Nat)=>Value.int .u8 (x:Int)).length=Nat.min 32 64):=by
   show List.length _=_;rw[List.length_map,Di];rfl
  generalize Du key=B at *;have HW1:Hid (Below (box2 w).heap.size (box2 w) ((box2 w).alloc (.cells #[.slice p n c] 23))):=Af ((Bd _ _).alloc (Av _) _);go_enter Tryz.func221,Tryz.ntmps221
  go_wp2_with fail
  refine Vl (w1:=(box2 w).alloc (.cells #[.slice p n c] 23)) (by kernel_rfl) ?_;refine(Yt ((box2 w).alloc (.cells #[.slice p n c] 23)) (some ⟨w.heap.size+1+1,0,none⟩) 1 1 [⟨p,n,c,key⟩] (HT2.out.below HW1.out HT2.out.size) HP.out).mono ?_;rintro e w1 ⟨q,rfl,hq,hb1,hk1⟩;rw[Qs]at hk1
  dsimp only at hk1
  have hb2:Below (box2 w).heap.size (box2 w) w1:=HW1.out.trans (hb1.mono HW1.out.size);have hrow:Bb w1 .u8 (some ⟨q,0,none⟩) 32 32 (Vu key):=⟨(Di _).symm,Av _,by omega,fun _=>hk1.row (Di _).symm (Av _) (by omega)⟩
  have HSrc:=Ac (Vh hrow);have HG1:Hid (w1.heap[w.heap.size+1]? = some (.cells Z.toArray 273 (0,0))):=(hb2.block (w.heap.size+1) (by omega)).trans HG.out;have HO1:Hid (w1.heap[w.heap.size]? = some (.cells Z.toArray 273 (0,0))):=(hb2.block w.heap.size (by omega)).trans HO.out;have HW2:Hid (Below w.heap.size w w1):=HW.out.trans (hb2.mono (by omega));clear hrow hk1 hb1 hb2 HG HO HW HP HT2 HW1 hq
  go_wp2_with (refine wpList_copy_splice rfl (.tmp 10) (.tmp 11) 23 23 rfl 5 Tryz.underlying23 (by kernel_rfl) (some ⟨w.heap.size+1,0,none⟩) (some ⟨q,0,none⟩) 64 64 32 32 rfl rfl (w.heap.size+1) 0 Z 273 HG1.out ((Vu key).map fun(x:Nat)=>Value.int .u8 (x:Int)) HN.out (fun h=>⟨rfl,HSrc.out h⟩) HFit.out (bJ _) (w.heap.size+1) w1 (Bd _ _) (Av _) ?_)
  intro w2 hg2 hb2;have hg3:Hid (Bi w2 (w.heap.size+1) 273 .u8 B):=by
   show w2.heap[_]? = _;rw[hg2.out,HSp.out]
  have ho3:Hid (w2.heap[w.heap.size]? = some (.cells Z.toArray 273 (0,0))):=(hb2.block w.heap.size (by omega)).trans HO1.out;have hb3:Hid (Below w.heap.size w w2):=HW2.out.trans (hb2.mono (by omega));clear hg2 hb2 HSp HFit HSrc HN HO1 HG1 HW2
  go_wp2_with (first|(refine wpList_load_row rfl 273 _ rfl (w.heap.size+1) rfl 273 (B.map fun(x:Nat)=>Value.int .u8 x).toArray (0,0) _ hg3.out Tryz.underlying273 rfl HI.out ?_)|(refine wpList_store_row rfl 273 _ _ rfl w.heap.size (B.map fun(x:Nat)=>Value.int .u8 x).toArray rfl rfl 273 Z.toArray ho3.out HI.out HS.out H1.out ?_))
  have hend:=setRow_heap w2 w.heap.size Z.toArray (B.map fun(x:Nat)=>Value.int .u8 x).toArray 273 (0,0) ho3.out;exact bodyPost_ret (v:=.agg (B.map fun(x:Nat)=>Value.int .u8 x).toArray) (results_cell_row Tryz.results221 _ _ w.heap.size 273 _ (0,0) _ rfl hend Tryz.underlying273 rfl HI.out) rfl ⟨rfl,below_setRow hb3.out (Av _) _⟩
end Go.Proofs.YtokhckjemidbpaaGreatDoor
