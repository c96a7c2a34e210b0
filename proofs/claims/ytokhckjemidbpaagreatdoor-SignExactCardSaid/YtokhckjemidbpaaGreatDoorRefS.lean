/- The document's sum. -/
import Derived.Test.YtokhckjemidbpaaGreatDoorCpE
import Derived.KernelRfl
import Derived.Laws.OwnMore
import Derived.ArgAppend
import Derived.Laws.CopyOwn
import Derived.Tactics
import Derived.Test.YtokhckjemidbpaaGreatDoorRefW
set_option maxRecDepth 1000000
set_option maxHeartbeats 16000000
set_option linter.all false
namespace Go.Proofs.YtokhckjemidbpaaGreatDoor
open Go
def Hl (key:List Nat):List Nat:=if 64<key.length then Ie key else key
def Ct (key:List Nat):List Nat:=Hl key++List.replicate (64-(Hl key).length) 0
def masked (b:List Nat)(x:Nat):List Nat:=b.map (· ^^^ x)
def Cl (key:List Nat):List Nat:=masked (Ct key) 54
def Cm (key:List Nat):List Nat:=masked (Ct key) 92
def bQ (key m:List Nat):List Nat:=Cm key++Ie (Cl key++m)
def Jz (key m:List Nat):List Nat:=Ie (bQ key m)
theorem Mh (key:List Nat):(Hl key).length<=64:=by
 unfold Hl;split
 .rw[Cd];omega
 .omega
theorem Cx (key:List Nat):(Ct key).length=64:=by have:=Mh key;simp[Ct];omega
theorem cY {key:List Nat}(h:Au key):Au (Hl key):=by
 unfold Hl;split
 .exact Ev _
 .exact h
theorem Im {key:List Nat}(h:Au key):Au (Ct key):=by
 intro x hx;rcases List.mem_append.1 hx with h1|h1
 .exact cY h x h1
 .have:=(List.mem_replicate.1 h1).2;omega
theorem Ew (b:List Nat)(x:Nat):(masked b x).length=b.length:=by simp[masked]
theorem Lf {b:List Nat}(h:Au b){x:Nat}(hx:x<256):Au (masked b x):=by
 intro y hy;obtain⟨z,hz,rfl⟩:=List.mem_map.1 hy;exact Nat.xor_lt_two_pow (n:=8) (h z hz) hx
theorem Ek (key:List Nat):(Cl key).length=64:=by rw[Cl,Ew,Cx]
theorem Ei (key:List Nat):(Cm key).length=64:=by rw[Cm,Ew,Cx]
theorem Lg {key:List Nat}(h:Au key):Au (Cl key):=Lf (Im h) (by omega)
theorem Lc {key:List Nat}(h:Au key):Au (Cm key):=Lf (Im h) (by omega)
theorem Mk (key m:List Nat):(Jz key m).length=32:=Cd _
theorem Tw (key m:List Nat):Au (Jz key m):=Ev _
def bT (p:Nat):Bool:=decide (2<=p)&&decide (p<65536)&&(List.range 256).all fun d=>decide (d<2)||decide (p<d*d) || !(p%d==0)
theorem Jn {p:Nat}(h:bT p=true):Dd p:=by
 simp only[bT,Bool.and_eq_true,decide_eq_true_eq,List.all_eq_true,Bool.or_eq_true,Bool.not_eq_true',beq_eq_false_iff_ne]at h;obtain⟨⟨h2,hlt⟩,h⟩:=h;refine⟨h2,hlt,fun d h3 h4=>?_⟩;have hd:d<256:=Nat.lt_of_not_le fun hle=>by have:=Nat.mul_le_mul hle hle;omega
 rcases h d (List.mem_range.2 hd) with (h5|h5)|h5
 .omega
 .omega
 .exact h5
theorem eI {p:Nat}(hp:2<=p):∀(f n:Nat),0<n->n<2^f->pw p f n=pw p n n
 | 0,n,h0,h=>by simp at h;omega
 | f+1,n,h0,h=>by
  rw[Sa hp h0,pw];split
  .rename_i hm
   have h4:0<n/p:=Nat.div_pos (Nat.le_of_dvd h0 (Nat.dvd_of_mod_eq_zero hm)) (by omega);have h5:n/p<2^f:=by
    have:n/p<=n/2:=Nat.div_le_div_left hp (by omega);rw[Nat.pow_succ]at h
    omega
   rw[eI hp f (n/p) h4 h5]
  .rfl
def okB (f N base:Nat)(behind ps:List Nat)(i p:Nat):Bool :=
 !(ps.take i).contains p&&(bT p||behind.contains p)&&decide (2<=p)&&(N-1)%p==0&&Nat.gcd ((pm base N f ((N-1)/p)+N-1)%N) N==1
def holdsB (f N base:Nat)(ps behind:List Nat):Bool :=
 decide (2<=N) && !ps.isEmpty&&decide (ps.length<=32)&&decide (N<=2^f)&&(List.range ps.length).all (fun i=>okB f N base behind ps i (ps.getD i 0))&&pm base N f (N-1)==1 &&
  decide (N<ps.foldl (fun a p=>a*pw p f (N-1)) 1*ps.foldl (fun a p=>a*pw p f (N-1)) 1)
theorem aD {f n:Nat}(h0:0<n)(h:n<2^f):∀(ps:List Nat) (a:Nat),(∀p∈ps,2<=p)->ps.foldl (fun a p=>a*pw p f n) a=ps.foldl (fun a p=>a*pw p n n) a
 | [],_,_=>rfl
 | p::ps,a,hp=>by
  rw[List.foldl_cons,List.foldl_cons,eI (hp p (by simp)) f n h0 h];exact aD h0 h ps _ fun q hq=>hp q (by simp[hq])
theorem Mj {f N base:Nat}{ps behind:List Nat}(h:holdsB f N base ps behind=true):If N base ps behind:=by
 simp only[holdsB,Bool.and_eq_true,decide_eq_true_eq,List.all_eq_true,Bool.not_eq_true',beq_iff_eq]at h;obtain⟨⟨⟨⟨⟨⟨h2,hne⟩,h32⟩,hf⟩,hall⟩,hone⟩,hgr⟩:=h;have hlt:N-1<2^f:=by omega
 have each:∀i p,ps[i]? = .some p->mT N base behind ps i p:=fun i p hp=>by
  have hi:=(List.getElem?_eq_some_iff.1 hp).1;have h3:=hall i (List.mem_range.2 hi);rw[Du,hp,Option.getD_some]at h3
  simp only[okB,Bool.and_eq_true,decide_eq_true_eq,Bool.not_eq_true',beq_iff_eq,Bool.or_eq_true,List.contains_iff_mem]at h3;obtain⟨⟨⟨⟨k1,k2⟩,k3⟩,k4⟩,k5⟩:=h3;refine⟨(fun hm=>by rw[List.contains_iff_mem.2 hm]at k1;cases k1),k2.imp Jn id,k3,k4,?_⟩;rw[<-Pd base N f _ (Nat.lt_of_le_of_lt (Nat.div_le_self _ _) hlt)];exact k5
 have hps:∀p∈ps,2<=p:=fun p hp=>by
  obtain⟨i,hi,e⟩:=List.getElem_of_mem hp;exact(each i p (by rw[List.getElem?_eq_getElem hi,e])).2.2.1
 refine⟨h2,(fun e=>by rw[e]at hne;cases hne),h32,each,?_,?_⟩
 .rw[<-Pd base N f _ hlt];exact hone
 .have:=aD (f:=f) (n:=N-1) (by omega) hlt ps 1 hps;unfold Ux;rw[<-this];exact hgr
def gP:Nat->Nat
 | 0=>607
 | 1=>655211
 | _=>20752587082923246163
def gQ:Nat->Nat
 | 0=>101
 | 1=>65521
 | _=>1152921504606847009
def gG:Nat->Nat
 | 0=>64
 | 1=>1024
 | _=>262144
def gH:Nat->Nat
 | 0=>597
 | 1=>96520
 | _=>12833098634328171918
def qR:Nat->Nat
 | 0=>2
 | 1=>3
 | _=>9
def Ok:Nat->Nat
 | 0=>6
 | 1=>10
 | _=>18
def Fu:Nat->List Bz
 | 0=>[]
 | 1=>[⟨655211,2,[65521]⟩]
 | _=>[⟨1152921504606847009,13,[2,3,11,683,2971]⟩,⟨20752587082923246163,2,[1152921504606847009]⟩]
theorem lJ:If 655211 2 [65521] []:=Mj (f:=20) (by kernel_rfl)
theorem gZ:If 1152921504606847009 13 [2,3,11,683,2971] []:=Mj (f:=61) (by kernel_rfl)
theorem gY:If 20752587082923246163 2 [1152921504606847009] [1152921504606847009]:=Mj (f:=65) (by kernel_rfl)
theorem jN:Dd 607:=Jn (by kernel_rfl)
theorem jO:Dd 101:=Jn (by kernel_rfl)
theorem bU:Dd 65521:=Jn (by kernel_rfl)
def Told (N:Nat)(l:List Bz):Prop:=Dd N ∨ (Cq [] l/\∃s∈l,s.n=N)
theorem Qm:∀i,i<3->Cq [] (Fu i)
 | 0,_=>trivial
 | 1,_=>⟨lJ,trivial⟩
 | 2,_=>⟨gZ,gY,trivial⟩
 | _+3,h=>by omega
theorem oP:∀i,i<3->Told (gP i) (Fu i)
 | 0,_=>.inl jN
 | 1,_=>.inr ⟨Qm 1 (by omega),_,List.mem_singleton.2 rfl,rfl⟩
 | 2,_=>.inr ⟨Qm 2 (by omega),_,List.mem_cons_of_mem _ (List.mem_singleton.2 rfl),rfl⟩
 | _+3,h=>by omega
theorem oO:∀i,i<3->Told (gQ i) (Fu i)
 | 0,_=>.inl jO
 | 1,_=>.inl bU
 | 2,_=>.inr ⟨Qm 2 (by omega),_,List.mem_cons_self,rfl⟩
 | _+3,h=>by omega
theorem Wg:∀i,i<3->gP i-1=gQ i*Ok i
 | 0,_=>rfl
 | 1,_=>rfl
 | 2,_=>rfl
 | _+3,h=>by omega
theorem Ko:∀i,i<3->64<gQ i/\1<gG i/\gG i<gP i/\1<gH i/\gH i<gP i/\gP i<2^65
 | 0,_=>by decide
 | 1,_=>by decide
 | 2,_=>by decide
 | _+3,h=>by omega
theorem Nn:∀i,i<3->gG i^gQ i%gP i=1
 | 0,_=>by rw[<-Pd (gG 0) (gP 0) 65 (gQ 0) (by decide)];kernel_rfl
 | 1,_=>by rw[<-Pd (gG 1) (gP 1) 65 (gQ 1) (by decide)];kernel_rfl
 | 2,_=>by rw[<-Pd (gG 2) (gP 2) 65 (gQ 2) (by decide)];kernel_rfl
 | _+3,h=>by omega
theorem Xs:Jz [] []=[182,19,103,154,8,20,217,236,119,47,149,215,120,195,95,197,255,22,151,196,147,113,86,83,198,199,18,20,66,146,197,173]:=by kernel_rfl
theorem bO:Jz [182,19,103,154,8,20,217,236,119,47,149,215,120,195,95,197,255,22,151,196,147,113,86,83,198,199,18,20,66,146,197,173] [104,0,1] =
  [22,9,94,96,137,201,132,135,12,215,97,165,119,173,84,193,49]++(Jz [182,19,103,154,8,20,217,236,119,47,149,215,120,195,95,197,255,22,151,196,147,113,86,83,198,199,18,20,66,146,197,173] [104,0,1]).drop 17:=by kernel_rfl
def cO (bs:List Nat):Nat:=bs.foldl (fun n x=>n*256+x) 0
def Tz:Nat->List Nat
 | 0=>[22,9,94,96,137,201,132,135,12,215]
 | 1=>[22,9,94,96,137,201,132,135,12,215,97]
 | _=>[22,9,94,96,137,201,132,135,12,215,97,165,119,173,84,193,49]
theorem qS:∀i,i<3->cO (Tz i)^Ok i%gP i=gH i
 | 0,_=>by rw[<-Pd (cO (Tz 0)) (gP 0) 65 (Ok 0) (by decide)];kernel_rfl
 | 1,_=>by rw[<-Pd (cO (Tz 1)) (gP 1) 65 (Ok 1) (by decide)];kernel_rfl
 | 2,_=>by rw[<-Pd (cO (Tz 2)) (gP 2) 65 (Ok 2) (by decide)];kernel_rfl
 | _+3,h=>by omega
open Go Go.RowKit
structure Own (w:World) (B:Nat) (v:Value) (bs:List Nat):Prop where
 owns:w.ownsRow B 5 1 v bs.length (bs.map fun(x:Nat)=>Value.int .u8 (x:Int))
theorem Own.elim {w:World}{B:Nat}{v:Value}{bs:List Nat}(h:Own w B v bs) :
  ∃p c,v=.slice p bs.length c/\Bd w .u8 p bs.length c bs/\Gd B p/\(p=none->c=0)/\(∀q,p=some q->q.block<w.heap.size):=by
 obtain⟨h1,h2⟩:=h.owns;rcases h2 with ⟨rfl,h0⟩|⟨g,cap,cur,rfl,hb,hg,hnc,hcm,hcs,ht⟩
 .refine⟨none,0,by rw[h0],⟨rfl,by omega,by omega,fun h=>absurd h (by omega)⟩,Gd.none _,fun _=>rfl,fun q hq=>(by cases hq)⟩
 .have hlt:g<w.heap.size:=(Kv hg).1;have hcm':cap<=9223372036854775807:=by simpa [maxLen]using hcm
  refine⟨some ⟨g,0,none⟩,cap,rfl,⟨rfl,hnc,hcm',fun _=>⟨rfl,hnc,hcm',.inr ⟨g,0,rfl,hlt,fun i x hx=>?_⟩⟩⟩,fun q hq=>(by cases hq;exact hb),fun h=>(by cases h),fun q hq=>(by cases hq;exact hlt)⟩;have hi:i<bs.length:=(List.getElem?_eq_some_iff.1 hx).1;have hx2:(bs.map fun(x:Nat)=>Value.int .u8 (x:Int))[i]? = some (.int .u8 (x:Int)):=by rw[List.getElem?_map,hx];rfl
  rw[<-ht,List.getElem?_take]at hx2
  split at hx2
  .unfold World.cell?
   dsimp only
   rw[hg];simp only[Nat.zero_add];rw[Array.getElem?_toList]at hx2
   exact hx2
  .cases hx2
theorem Own.below {w w':World}{B C:Nat}{v:Value}{bs:List Nat}(h:Own w B v bs)(hb:Below C w w')(hc:∀g,v.ownBlock=some g->g<C):Own w' B v bs:=by
 refine⟨⟨h.owns.1,?_⟩⟩;rcases h.owns.2 with h2|⟨g,cap,cur,rfl,hbg,hg,h3⟩
 .exact .inl h2
 .refine .inr ⟨g,cap,cur,rfl,hbg,?_,h3⟩;rw[hb.block g (hc g rfl)];exact hg
theorem Own.lt {w:World}{B:Nat}{v:Value}{bs:List Nat}(h:Own w B v bs):∀g,v.ownBlock=some g->g<w.heap.size:=by
 intro g hg;rcases h.owns.2 with ⟨rfl,_⟩|⟨g',cap,cur,rfl,hbg,hg',h3⟩
 .cases hg
 .obtain rfl:g'=g:=by simpa [Value.ownBlock]using hg
  exact(Kv hg').1
theorem Own.ge {w:World}{B:Nat}{v:Value}{bs:List Nat}(h:Own w B v bs):∀g,v.ownBlock=some g->B<=g:=by
 intro g hg;rcases h.owns.2 with ⟨rfl,_⟩|⟨g',cap,cur,rfl,hbg,hg',h3⟩
 .cases hg
 .obtain rfl:g'=g:=by simpa [Value.ownBlock]using hg
  exact hbg
theorem Own.belowS {w w':World}{B:Nat}{v:Value}{bs:List Nat}(h:Own w B v bs)(hb:Below w.heap.size w w'):Own w' B v bs:=h.below hb h.lt
theorem Own.mono {w:World}{B B':Nat}{v:Value}{bs:List Nat}(h:Own w B v bs)(hb:B'<=B):Own w B' v bs:=by
 refine⟨⟨h.owns.1,?_⟩⟩;rcases h.owns.2 with h2|⟨g,cap,cur,h1,hbg,h3⟩
 .exact .inl h2
 .exact .inr ⟨g,cap,cur,h1,by omega,h3⟩
theorem grown_below {w w':World}{g:Option Nat}(h:w.grownBy w' g){B:Nat}(hB:B<=w.heap.size)(hg:∀b,g=some b->B<=b):Below B w w' :=
 ⟨h.os,h.tape,h.output,h.size,fun k hk=>h.block k (by omega) (fun e=>by have:=hg k e.symm;omega)⟩
theorem Own.lit (w:World)(bs:List Nat)(hm:bs.length<=9223372036854775807):Own (w.alloc (.cells (bs.map fun(x:Nat)=>Value.int .u8 (x:Int)).toArray 5)) w.heap.size (.slice (some ⟨w.heap.size,0,none⟩) bs.length bs.length) bs:=by
 refine⟨⟨by simp,.inr ⟨w.heap.size,bs.length,_,rfl,As _,heap_alloc_new w _,As _,by simpa [maxLen]using hm,by simp,?_⟩⟩⟩;rw[List.take_of_length_le (by simp)]
theorem eH {w:World}{B:Nat}{v:Value}{xs:List Nat}(h:Own w B v xs){p:Option Addr}{m c:Nat}{bs:List Nat}(hr:Bd w .u8 p m c bs)(hn:p=none->c=0)(hmax:xs.length+m<=140737488355328)(hB:B<=w.heap.size)(ty:TypeId) :
  ∃v' w',(Builtin.append_ #[23, 23] ty #[v,.slice p m c]).run Tryz.prog w=.ok v' w'/\Own w' B v' (xs++bs)/\w.grownBy w' v.ownBlock:=by
 obtain⟨i,hi,hz,hs,hb⟩:=info_parts Tryz.info_u8;have hl:=hr.len
 cases p with
 | none=>
  obtain rfl:=hn rfl;have hc:=hr.cap;obtain rfl:m=0:=by omega
  have hbs:bs=[]:=List.eq_nil_of_length_eq_zero hl.symm;refine⟨v,w,run_append_owned_none (P:=Tryz.prog) w B 23 ty 5 i 1 Tryz.underlying23 hi v xs.length _ h.owns,?_,⟨rfl,rfl,rfl,As _,fun _ _ _=>rfl⟩⟩;rw[hbs,List.append_nil];exact h
 | some a=>
  have hmx:xs.length+m<=maxLen:=by simp only[maxLen];omega
  obtain⟨v',w',h1,h2,h3,_⟩:=run_append_own (P:=Tryz.prog) w B 23 ty 5 i (.int .u8 0) 1 1 Tryz.underlying23 hi hz hs hb (by rfl) (by decide) v xs.length _ h.owns a m c (bs.map fun(x:Nat)=>Value.int .u8 (x:Int)) (by simp[hl])
   (fun j u hu=>by
    rw[List.getElem?_map]at hu
    obtain⟨x,hx,rfl⟩:=Option.map_eq_some_iff.1 hu;have h0:0<m:=by have:=(List.getElem?_eq_some_iff.1 hx).1;omega
    obtain⟨b,off,e,h2,h3⟩:=(hr.row h0).pos h0;cases e;rw[add_plain];exact h3 j x hx)
   (fun u hu=>by obtain⟨x,_,rfl⟩:=List.mem_map.1 hu;rfl) hmx (by omega) hB
  refine⟨v',w',h1,⟨?_⟩,h3⟩;rw[<-List.map_append,hl,<-List.length_append]at h2
  exact h2
theorem Cc {w:World}{ops:Array Oper}{rest:List Oper}{o:Oper}{a:Act}{Q:Exit->Act->World->Prop}(hgd:o.guard=none)(s x:Operand)(ho:o.op=.call { callee:=.builtin .append,args:=#[s,x],argTypes:=#[23, 23] }){B:Nat}{v:Value}{xs:List Nat}(hs:a.eval s=v)(h:Own w B v xs){p:Option Addr}{m c:Nat}{bs:List Nat}(hx:a.eval x=.slice p m c)(hr:Bd w .u8 p m c bs)(hn:p=none->c=0)(hmax:xs.length+m<=140737488355328)(hB:B<=w.heap.size)(hk:∀v' w',Own w' B v' (xs++bs)->w.grownBy w' v.ownBlock->wpList Tryz.prog ops Q rest (a.put o.dst v') w'):wpList Tryz.prog ops Q (o::rest) a w:=by
 obtain⟨v',w',h1,h2,h3⟩:=eH h hr hn hmax hB o.type;refine wpList_plain hgd fun K hK=>?_
 unfold Oper.wp;simp[execOp,ho,resolve,invoke,builtin,hs,hx,h1,Result.andThen];exact hK _ _ (hk v' w' h2 h3)
inductive Bp (lo:Nat) (bs:List Nat):Value->World->Prop where
 | of (p:Option Addr) (c:Nat) (w:World) (h:Bd w .u8 p bs.length c bs) (hn:Gd lo p) (hz:p=none->c=0) (hp:∀q,p=some q->q.block<w.heap.size):Bp lo bs (.slice p bs.length c) w
theorem Bp.mk {w:World}{B:Nat}{v:Value}{bs:List Nat}(h:Own w B v bs):Bp B bs v w:=by
 obtain⟨p,c,rfl,h1,h2,h3,h4⟩:=h.elim;exact .of p c w h1 h2 h3 h4
theorem Bp.elim {lo:Nat}{bs:List Nat}{v:Value}{w:World}(h:Bp lo bs v w){C:Prop}(k:∀p c,v=.slice p bs.length c->Bd w .u8 p bs.length c bs->Gd lo p->(p=none->c=0)->C):C:=by
 cases h with
 | of p c _ h hn hz hp=>exact k p c rfl h hn hz
theorem Bp.below {lo:Nat}{bs:List Nat}{v:Value}{w w':World}(h:Bp lo bs v w)(hb:Below w.heap.size w w'):Bp lo bs v w':=by
 cases h with
 | of p c _ h hn hz hp=>exact .of p c w' (h.below hb) hn hz (fun q hq=>Ej (hp q hq) hb.size)
theorem Bp.zero {lo:Nat}{bs:List Nat}{v:Value}{w:World}(h:Bp lo bs v w):Bp 0 bs v w:=by
 cases h with
 | of p c _ h hn hz hp=>exact .of p c w h (fun _ _=>Nat.zero_le _) hz hp
def Mz (bs:List Nat)(w:World)(e:Ending)(w':World):Prop:=∃v,e=.returned v/\Bp w.heap.size bs v w'/\Below w.heap.size w w'
theorem Ds (w:World)(bs:List Nat)(hm:bs.length<=9223372036854775807):Bd (w.alloc (.cells (bs.map fun(x:Nat)=>Value.int .u8 (x:Int)).toArray 5)) .u8 (some ⟨w.heap.size,0,none⟩) bs.length bs.length bs:=by
 have h:=Bm.row (w:=w.alloc (.cells (bs.map fun(x:Nat)=>Value.int .u8 (x:Int)).toArray 5)) (g:=w.heap.size) (e := 5) (k:=.u8) (xs:=bs) (heap_alloc_new w _) (n:=bs.length) (c:=bs.length) rfl (As _) hm;exact⟨rfl,As _,hm,fun _=>h⟩
open Go Go.RowKit Go.Proofs.YtokhckjemidbpaaGreatDoor.Flow
theorem Lz (w:World)(b off:Nat) :
  (Instr.sliceAt 273 (.pointer (some ⟨b,off,none⟩)) none none none).run Tryz.prog w=.ok (.slice (some ⟨b,off,none⟩) 64 64) w:=by
 have hlen:Tryz.prog.arrayLen 273 = 64:=by kernel_rfl
 rw[run_sliceAt_array_all w 273 ⟨b,off,none⟩ Tryz.underlying273,hlen];have hs:(sizeOf (Tryz.prog.elem 273)).run Tryz.prog w=.ok 1 w:=by
  have:Tryz.prog.elem 273 = 5 := by kernel_rfl
  rw[this];simp[go_sem]
 rw[hs];simp[slicedAt,Addr.add]
theorem Sf (b:List Nat)(h:b.length=64):(Tryz.prog.info? 273).map (·.size)=some (b.map fun(x:Nat)=>Value.int .u8 x).toArray.size:=by
 rw[show (b.map fun(x:Nat)=>Value.int .u8 x).toArray.size=64 by simp[h]];kernel_rfl
theorem Su {kk:List Nat}(_h:kk.length<=64) :
  splice ((List.replicate 64 0).map fun(x:Nat)=>Value.int .u8 x) 0 (kk.map fun(x:Nat)=>Value.int .u8 x)=(kk++List.replicate (64-kk.length) 0).map fun(x:Nat)=>Value.int .u8 x:=by
 unfold splice;rw[List.take_zero,List.nil_append,List.length_map,Nat.zero_add,<-List.map_drop,List.drop_replicate,List.map_append]
theorem fM {w:World}{p:Option Addr}{n c:Nat}{bs:List Nat}(h:Bd w .u8 p n c bs)(hn:0<n):∃ad,p=some ad/\ad.block<w.heap.size/\∀(j:Nat) (v:Value),(bs.map fun(x:Nat)=>Value.int .u8 (x:Int))[j]? = some v->w.cell? (ad.add j)=some v:=by
 obtain⟨b,off,rfl,hb,h3⟩:=(h.row hn).pos hn;refine⟨_,rfl,hb,fun j v hv=>?_⟩;rw[List.getElem?_map]at hv
 obtain⟨x,hx,rfl⟩:=Option.map_eq_some_iff.1 hv;rw[add_plain];exact h3 j x hx
def box2 (w:World):World:=(w.alloc (.cells (zeros .u8 64) 273)).alloc (.cells (zeros .u8 64) 273)
theorem Lm (w:World):Below w.heap.size w (box2 w):=((Bb _ _).alloc (As _) _).alloc (by simp) _
theorem mF (w:World):Bm (box2 w) (w.heap.size+1) 273 .u8 (List.replicate 64 0):=by
 have:=Bm.zeros (w.alloc (.cells (zeros .u8 64) 273)) 273 .u8 64;rw[show (w.alloc (.cells (zeros .u8 64) 273)).heap.size=w.heap.size+1 by simp]at this
 exact this
theorem mE (w:World):Bm (box2 w) w.heap.size 273 .u8 (List.replicate 64 0):=(Bm.zeros w 273 .u8 64).alloc _
theorem aU {w:World}{p:Option Addr}{n c:Nat}{key:List Nat}(hr:Bd w .u8 p n c key) :
  0<(key.map fun(x:Nat)=>Value.int .u8 (x:Int)).length->∃ad,p=some ad/\∀(j:Nat) (v:Value),(key.map fun(x:Nat)=>Value.int .u8 (x:Int))[j]? = some v->w.cell? (ad.add j)=some v:=fun h=>by
 obtain⟨ad,h1,_,h2⟩:=fM hr (by have:=hr.len;simpa [this]using h);exact⟨ad,h1,h2⟩
theorem jJ (key:List Nat):∀v∈(key.map fun(x:Nat)=>Value.int .u8 (x:Int)),v.oneCell'=true:=fun v hv=>by
 obtain⟨x,_,rfl⟩:=List.mem_map.1 hv;rfl
theorem bC (w:World)(p:Option Addr)(n c:Nat)(key:List Nat)(hT:Tabs w)(hr:Bd w .u8 p n c key)(h8:Au key) :
  Calls Tryz.prog 221 #[.slice p n c] w fun e w'=>e=.returned (.agg ((Ct key).map fun(x:Nat)=>Value.int .u8 (x:Int)).toArray)/\Below w.heap.size w w':=by
 have hm:=hr.max;have hcap:=hr.cap;have hsl:=Lz;have HI:=Ag (Sf (Ct key) (Cx key));have H1:=Ag (Mi .u8 (Ct key));have HS:Hid (((List.replicate 64 0).map fun(x:Nat)=>Value.int .u8 x).toArray.size=((Ct key).map fun(x:Nat)=>Value.int .u8 x).toArray.size):=Ag (by simp[Cx]);have HSp:Hid (splice ((List.replicate 64 0).map fun(x:Nat)=>Value.int .u8 x) 0 ((Hl key).map fun(x:Nat)=>Value.int .u8 x)=(Ct key).map fun(x:Nat)=>Value.int .u8 x):=Ag (Su (kk:=Hl key) (Mh key));have HG:=Ag (mF w);have HW:=Ag (Lm w);have HO:=Ag (mE w);obtain⟨Z,hZ⟩:∃Z,((List.replicate 64 0).map fun(x:Nat)=>Value.int .u8 x)=Z:=⟨_,rfl⟩
 have HZ:=Ag hZ;have HFit:Hid (0+((Hl key).map fun(x:Nat)=>Value.int .u8 (x:Int)).length<=((List.replicate 64 0).map fun(x:Nat)=>Value.int .u8 (x:Int)).length):=Ag (by have:=Mh key;simp;omega);simp only[Bm,hZ]at HG HSp HFit HS HO;clear hZ
 by_cases hn:n<=64
 .have HKK:Hid (Hl key=key):=by
   show Hl key=_;unfold Hl;rw[if_neg (by have:=hr.len;omega)]
  rw[HKK.out]at HSp HFit
  have HSrc:=Ab (aU (hr.below (Lm w)));have HN:Hid ((key.map fun(x:Nat)=>Value.int .u8 (x:Int)).length=Nat.min n 64):=by
   show List.length _=_;rw[List.length_map,<-hr.len];exact(Nat.min_eq_left hn).symm
  generalize Ct key=B at *;go_enter Tryz.func221,Tryz.ntmps221
  go_wp2_with (refine wpList_copy_splice rfl (.tmp 10) (.tmp 11) 23 23 rfl 5 Tryz.underlying23 (by kernel_rfl) (some ⟨w.heap.size+1,0,none⟩) p 64 64 n c rfl rfl (w.heap.size+1) 0 Z 273 HG.out (key.map fun(x:Nat)=>Value.int .u8 (x:Int)) HN.out (fun h=>⟨rfl,HSrc.out h⟩) HFit.out (jJ key) (w.heap.size+1) (box2 w) (Bb _ _) (As _) ?_)
  intro w2 hg2 hb2;have hg3:Hid (Bm w2 (w.heap.size+1) 273 .u8 B):=by
   show w2.heap[_]? = _;rw[hg2.out,HSp.out]
  have ho3:Hid (w2.heap[w.heap.size]? = some (.cells Z.toArray 273 (0,0))):=(hb2.block w.heap.size (by omega)).trans HO.out;have hb3:Hid (Below w.heap.size w w2):=HW.out.trans (hb2.mono (by omega));clear hg2 hb2 HSp HFit HSrc HN HO HG HW
  go_wp2_with (first|(refine wpList_load_row rfl 273 _ rfl (w.heap.size+1) rfl 273 (B.map fun(x:Nat)=>Value.int .u8 x).toArray (0,0) _ hg3.out Tryz.underlying273 rfl HI.out ?_)|(refine wpList_store_row rfl 273 _ _ rfl w.heap.size (B.map fun(x:Nat)=>Value.int .u8 x).toArray rfl rfl 273 Z.toArray ho3.out HI.out HS.out H1.out ?_))
  have hend:=setRow_heap w2 w.heap.size Z.toArray (B.map fun(x:Nat)=>Value.int .u8 x).toArray 273 (0,0) ho3.out;exact bodyPost_ret (v:=.agg (B.map fun(x:Nat)=>Value.int .u8 x).toArray) (results_cell_row Tryz.results221 _ _ w.heap.size 273 _ (0,0) _ rfl hend Tryz.underlying273 rfl HI.out) rfl ⟨rfl,below_setRow hb3.out (As _) _⟩
 .have HKK:Hid (Hl key=Ie key):=by
   show Hl key=_;unfold Hl;rw[if_pos (by have:=hr.len;omega)]
  rw[HKK.out]at HSp HFit
  have hz:(box2 w).heap.size=w.heap.size+1+1:=by simp[box2]
  have hP:=kG (box2 w) ⟨p,n,c,key⟩ ⟨hr.below (Lm w),h8⟩;rw[hz]at hP
  have HP:=Ag hP;clear hP;have HT2:=Ag (hT.below (Lm w) hT.size);have HN:Hid (((Ie key).map fun(x:Nat)=>Value.int .u8 (x:Int)).length=Nat.min 32 64):=by
   show List.length _=_;rw[List.length_map,Cd];rfl
  generalize Ct key=B at *;have HW1:Hid (Below (box2 w).heap.size (box2 w) ((box2 w).alloc (.cells #[.slice p n c] 23))):=Ag ((Bb _ _).alloc (As _) _);go_enter Tryz.func221,Tryz.ntmps221
  go_wp2_with fail
  refine Mt (w1:=(box2 w).alloc (.cells #[.slice p n c] 23)) (by kernel_rfl) ?_;refine(fE ((box2 w).alloc (.cells #[.slice p n c] 23)) (some ⟨w.heap.size+1+1,0,none⟩) 1 1 [⟨p,n,c,key⟩] (HT2.out.below HW1.out HT2.out.size) HP.out).mono ?_;rintro e w1 ⟨q,rfl,hq,hb1,hk1⟩;rw[Vi]at hk1
  dsimp only at hk1
  have hb2:Below (box2 w).heap.size (box2 w) w1:=HW1.out.trans (hb1.mono HW1.out.size);have hrow:Bd w1 .u8 (some ⟨q,0,none⟩) 32 32 (Ie key):=⟨(Cd _).symm,As _,by omega,fun _=>hk1.row (Cd _).symm (As _) (by omega)⟩
  have HSrc:=Ab (aU hrow);have HG1:Hid (w1.heap[w.heap.size+1]? = some (.cells Z.toArray 273 (0,0))):=(hb2.block (w.heap.size+1) (by omega)).trans HG.out;have HO1:Hid (w1.heap[w.heap.size]? = some (.cells Z.toArray 273 (0,0))):=(hb2.block w.heap.size (by omega)).trans HO.out;have HW2:Hid (Below w.heap.size w w1):=HW.out.trans (hb2.mono (by omega));clear hrow hk1 hb1 hb2 HG HO HW HP HT2 HW1 hq
  go_wp2_with (refine wpList_copy_splice rfl (.tmp 10) (.tmp 11) 23 23 rfl 5 Tryz.underlying23 (by kernel_rfl) (some ⟨w.heap.size+1,0,none⟩) (some ⟨q,0,none⟩) 64 64 32 32 rfl rfl (w.heap.size+1) 0 Z 273 HG1.out ((Ie key).map fun(x:Nat)=>Value.int .u8 (x:Int)) HN.out (fun h=>⟨rfl,HSrc.out h⟩) HFit.out (jJ _) (w.heap.size+1) w1 (Bb _ _) (As _) ?_)
  intro w2 hg2 hb2;have hg3:Hid (Bm w2 (w.heap.size+1) 273 .u8 B):=by
   show w2.heap[_]? = _;rw[hg2.out,HSp.out]
  have ho3:Hid (w2.heap[w.heap.size]? = some (.cells Z.toArray 273 (0,0))):=(hb2.block w.heap.size (by omega)).trans HO1.out;have hb3:Hid (Below w.heap.size w w2):=HW2.out.trans (hb2.mono (by omega));clear hg2 hb2 HSp HFit HSrc HN HO1 HG1 HW2
  go_wp2_with (first|(refine wpList_load_row rfl 273 _ rfl (w.heap.size+1) rfl 273 (B.map fun(x:Nat)=>Value.int .u8 x).toArray (0,0) _ hg3.out Tryz.underlying273 rfl HI.out ?_)|(refine wpList_store_row rfl 273 _ _ rfl w.heap.size (B.map fun(x:Nat)=>Value.int .u8 x).toArray rfl rfl 273 Z.toArray ho3.out HI.out HS.out H1.out ?_))
  have hend:=setRow_heap w2 w.heap.size Z.toArray (B.map fun(x:Nat)=>Value.int .u8 x).toArray 273 (0,0) ho3.out;exact bodyPost_ret (v:=.agg (B.map fun(x:Nat)=>Value.int .u8 x).toArray) (results_cell_row Tryz.results221 _ _ w.heap.size 273 _ (0,0) _ rfl hend Tryz.underlying273 rfl HI.out) rfl ⟨rfl,below_setRow hb3.out (As _) _⟩
structure Yj (w:World) (g:Nat) (H:List Nat):Prop where
 k:w.heap[g]? = some (.cells (Et Dt) 249 (0,0))
 h:w.heap[g+1]? = some (.cells (Et H) 250 (0,0))
theorem Yj.lt {w:World}{g:Nat}{H:List Nat}(h:Yj w g H):g+1<w.heap.size:=(Kv h.h).1
theorem Yj.below {w w':World}{g:Nat}{H:List Nat}(h:Yj w g H){B:Nat}(hb:Below B w w')(hg:g+1<B):Yj w' g H:=⟨(hb.block g (by omega)).trans h.k,(hb.block (g+1) hg).trans h.h⟩
structure SG (w0:World) (g:Nat) (H H':List Nat) (d7 d8:Bool) (w':World):Prop where
 but:Dg (g+1) w0 w'
 k:w'.heap[g]? = some (.cells (Et Dt) 249 (0,0))
 ord:d8=true->d7=true
 old:d8=false->w'.heap[g+1]? = some (.cells (Et H) 250 (0,0))
 new:d8=true->w'.heap[g+1]? = some (.cells (Et H') 250 (0,0))
theorem SG.open {w0 w':World}{g:Nat}{H H':List Nat}{d8:Bool}(h:SG w0 g H H' false d8 w'):d8=false:=by
 cases d8 with
 | false=>rfl
 | true=>exact absurd (h.ord rfl) (by simp)
theorem oH {w:World}{g:Nat}{l:List Nat}(hl:l.length=8)(h:w.heap[g]? = some (.cells (Et l) 250 (0,0))):(loadVar 250 ⟨g,0,none⟩).run Tryz.prog w=.ok (.agg (Et l)) w :=
 run_loadVar_row w g 250 250 _ (0,0) _ h Tryz.underlying250 rfl (Nl hl)
theorem kS {w:World}{g:Nat}{l:List Nat}(hl:l.length=64)(h:w.heap[g]? = some (.cells (Et l) 249 (0,0))):(loadVar 249 ⟨g,0,none⟩).run Tryz.prog w=.ok (.agg (Et l)) w :=
 run_loadVar_row w g 249 249 _ (0,0) _ h Tryz.underlying249 rfl (Tu hl)
theorem jM {w:World}{g:Nat}{l l':List Nat}(hl:l.length=8)(hl':l'.length=8)(h:w.heap[g]? = some (.cells (Et l) 250 (0,0))):(storeVar 250 ⟨g,0,none⟩ (.agg (Et l'))).run Tryz.prog w=.ok () (w.setRow g (Et l')) :=
 run_storeVar_row w g 250 250 (Et l) (Et l') h (Nl hl') (by rw[Kg,Kg,hl,hl']) (Nc l')
theorem jP (w:World)(b off k N c:Nat)(h1:64*k+64<=N)(h2:N<=c) :
  (Instr.sliceAt 23 (.slice (some ⟨b,off,none⟩) N c) (some (.int .i64 (64*(k:Int)))) (some (.int .i64 (64*(k:Int)+64))) none).run Tryz.prog w=.ok (.slice (some ⟨b,off+64*k,none⟩) 64 (c-64*k)) w:=by
 have hel:Tryz.prog.elem 23 = 5 := by kernel_rfl
 have hu:Tryz.prog.underlying 23 = some (.slice (Tryz.prog.elem 23)):=by rw[hel];exact Tryz.underlying23
 rw[run_sliceAt_slice w 23 _ _ _ _ hu,run_slice_lh w 23 _ _ _ hu .i64 .i64 _ _ (by omega) (by omega) (by omega)];have hs:(sizeOf (Tryz.prog.elem 23)).run Tryz.prog w=.ok 1 w:=by rw[hel];simp[go_sem]
 rw[hs];simp only[Result.andThen_ok,sliced];rw[if_neg (by omega)]
 congr 1
 rw[Option.map_some,add_plain]
 congr 1
 .congr 2;omega
 .omega
theorem qQ (a b c d e f g h k:Nat)(hk:k<8)(w:World) :
  (Instr.index 250 (.agg #[Value.int .u32 (a:Nat),Value.int .u32 (b:Nat),Value.int .u32 (c:Nat),Value.int .u32 (d:Nat),Value.int .u32 (e:Nat),Value.int .u32 (f:Nat),Value.int .u32 (g:Nat),Value.int .u32 (h:Nat)]) (.int .i64 (k:Nat))).run Tryz.prog w =
   .ok (.int .u32 ([a,b,c,d,e,f,g,h].getD k 0:Nat)) w:=by
 rcases(by omega:k=0 ∨ k=1 ∨ k=2 ∨ k=3 ∨ k=4 ∨ k=5 ∨ k=6 ∨ k=7) with rfl|rfl|rfl|rfl|rfl|rfl|rfl|rfl<;>kernel_rfl
theorem qA (l:List Nat)(hl:l.length=8)(k:Nat)(hk:k<8)(w:World):(Instr.index 250 (.agg (Et l)) (.int .i64 k)).run Tryz.prog w=.ok (.int .u32 (l.getD k 0:Nat)) w:=by
 match l,hl with
 | [a,b,c,d,e,f,g,h],_=>exact qQ a b c d e f g h k hk w
theorem Pe {n j:Nat}(hj:j<=Bj n):(n+1+j)%64=56 ↔ j=Bj n:=by
 unfold Bj at *;omega
theorem Fp (w:World)(p:Option Addr)(n c:Nat)(xs:List Nat)(hr:Bd w .u8 p n c xs)(h8:Au xs)(hz:p=none->c=0)(hn:n<=1000000) :
  Calls Tryz.prog 159 #[.slice p n c] w (Mz (Ie xs) w):=by
 have HR:Aa (Bd w .u8 p n c xs):=⟨hr⟩
 have HL:Aa (n=xs.length):=⟨hr.len⟩
 have H8:Aa (Au xs):=⟨h8⟩
 have HZ:Aa (p=none->c=0):=⟨hz⟩
 have hI64:=Ab (Tu Ff);have hI8:=Ab (Nl Pj);clear hr h8 hz;go_enter Tryz.func159,Tryz.ntmps159
 go_wp2_with fail
 refine(Yv w).mono ?_;rintro e w1 ⟨rfl,hb1⟩;have hG0:Aa (((w1.alloc (.cells (zeros .u32 64) 249)).alloc (.cells (zeros .u32 8) 250)).heap[w1.heap.size]? = some (.cells (zeros .u32 64) 249 (0,0))):=⟨heap_alloc2_old w1 _ _⟩
 have hG1:Aa (((w1.alloc (.cells (zeros .u32 64) 249)).alloc (.cells (zeros .u32 8) 250)).heap[w1.heap.size+1]? = some (.cells (zeros .u32 8) 250 (0,0))):=⟨heap_alloc2_new w1 _ _⟩
 have hW:Aa (Below w.heap.size w ((w1.alloc (.cells (zeros .u32 64) 249)).alloc (.cells (zeros .u32 8) 250))):=⟨Bn hb1 (((Bb _ _).alloc (As _) _).alloc (by simp) _)⟩
 have hz1:=hb1.size
 go_wp2_with (first
  | (refine wpList_store_row rfl 249 _ _ rfl w1.heap.size (Et Dt) rfl rfl 249 (zeros .u32 64) hG0.out hI64.out rfl (Nc Dt) ?_)
  | (refine wpList_store_row rfl 250 _ _ rfl (w1.heap.size+1) (Et Ea) rfl rfl 250 (zeros .u32 8) ((setRow_other _ w1.heap.size (w1.heap.size+1) _ (by omega)).trans hG1.out) hI8.out rfl (Nc Ea) ?_;refine De.out ?_))
 refine⟨?_⟩;refine fA (w':=(((w1.alloc (.cells (zeros .u32 64) 249)).alloc (.cells (zeros .u32 8) 250)).setRow w1.heap.size (Et Dt)).setRow (w1.heap.size+1) (Et Ea)) (by kernel_rfl) ?_;have o1:=(setRow_other _ w1.heap.size (w1.heap.size+1) (Et Dt) (by omega)).trans hG1.out;have k1:=setRow_heap _ w1.heap.size (zeros .u32 64) (Et Dt) 249 (0,0) hG0.out;have k2:=(setRow_other _ (w1.heap.size+1) w1.heap.size (Et Ea) (by omega)).trans k1;have k3:=setRow_heap _ (w1.heap.size+1) (zeros .u32 8) (Et Ea) 250 (0,0) o1;have hb2:=below_setRow (below_setRow hW.out hz1 (Et Dt)) (show w.heap.size<=w1.heap.size+1 by omega) (Et Ea);generalize hw2:World.setRow (World.setRow _ _ _) _ _=w2 at *;have HSB:Aa (Yj w2 w1.heap.size Ea):=⟨⟨k2,k3⟩⟩
 have HB2:Aa (Below w.heap.size w w2):=⟨hb2⟩
 have hgw:w1.heap.size+1<w2.heap.size:=HSB.out.lt;obtain⟨G,hG⟩:∃G,w1.heap.size=G:=⟨_,rfl⟩
 rw[hG]at HSB hgw hz1
 simp only[hG];clear o1 k1 k2 k3 hb2 hw2 hG0 hG1 hW hb1 hG hI64 hI8;have hrow0:Aa (Bd (w2.alloc (.cells #[] 5)) .u8 p n c xs):=⟨HR.out.below (HB2.out.trans (((Bb _ _).alloc (As _) _).mono HB2.out.size))⟩
 have hbd:Below w2.heap.size w2 (w2.alloc (.cells #[] 5)):=Bx;have HO0:Aa (Own (w2.alloc (.cells #[] 5)) w2.heap.size (.slice (some ⟨w2.heap.size,0,none⟩) 0 0) []):=⟨Own.lit w2 [] (by decide)⟩
 have hmx:Aa (([]:List Nat).length+n<=140737488355328):=⟨by simp;omega⟩
 have hsz3:w2.heap.size<=(w2.alloc (.cells #[] 5)).heap.size:=hbd.size
 go_wp2_with (at_builtin;refine Cc rfl _ _ rfl rfl HO0.out rfl hrow0.out HZ.out hmx.out hsz3 ?_;intro v1 w3 ho1 hg1;refine De.out ?_)
 refine⟨?_⟩;rw[List.nil_append]at ho1
 have hb3:Below w2.heap.size w2 w3:=hbd.trans (grown_below hg1 hsz3 (fun b hb=>by cases hb;exact As _));clear hg1 hrow0 hbd hmx hsz3 HR HZ;obtain⟨q1,c1,rfl,r1,_,z1,_⟩:=ho1.elim;have HN:Aa (Bj xs.length=Bj n/\xs.length=n):=⟨by rw[HL.out],HL.out.symm⟩
 have hM:((xs.length:Int)*8)%18446744073709551616=((n*8:Nat):Int):=by have:=HL.out;omega
 have hM':IntKind.u64.wrap ((xs.length:Int)*8)=((n*8:Nat):Int):=hM;have HO1:Aa (Own w3 w2.heap.size (.slice q1 xs.length c1) xs):=⟨ho1⟩
 clear ho1 r1 z1;have hl:xs.length<=1000000:=by have:=HL.out;omega
 have hsz3:=hb3.size;have hb4:Below w3.heap.size w3 (w3.alloc (.cells #[.int .u8 128] 5)):=Bx;have HO2:Aa (Own (w3.alloc (.cells #[.int .u8 128] 5)) w2.heap.size (.slice q1 xs.length c1) xs):=⟨HO1.out.belowS hb4⟩
 have hrow:Aa (Bd (w3.alloc (.cells #[.int .u8 128] 5)) .u8 (some ⟨w3.heap.size,0,none⟩) 1 1 [128]):=⟨Ds w3 [128] (by decide)⟩
 have hsz4:w2.heap.size<=(w3.alloc (.cells #[.int .u8 128] 5)).heap.size:=Dn hsz3 hb4.size
 go_wp2_with (at_builtin;refine Cc rfl _ _ rfl rfl HO2.out rfl hrow.out (fun h=>by cases h) (by omega) hsz4 ?_;intro v2 w4 ho2 hg2;refine De.out ?_)
 refine⟨?_⟩;have hb5:Below w2.heap.size w2 w4:=(hb3.trans (hb4.mono hsz3)).trans (grown_below hg2 hsz4 HO2.out.ge);clear hg2 hb4 HO1 HO2 hrow hsz4 hsz3 hb3;have HX:Aa (w2.heap.size<=w4.heap.size):=⟨hb5.size⟩
 go_wp2
 go_loopw [5] (fun x wr=>∃(j:Nat) (v:Value),j<=Bj n/\v=x/\Aa (Own wr w2.heap.size v (xs++128::List.replicate j 0))/\Aa (Below w2.heap.size w2 wr)) (fun x _=>n+1+Bj n-(match x with | .slice _ l _=>l|_=>0))
 case atStart=>exact⟨0,v2,by omega,rfl,⟨ho2⟩,⟨hb5⟩⟩
 case round=>
  obtain⟨j,v,hj,rfl,HOW,HBE⟩:=hrel;obtain⟨q,c5,rfl,_,_,_,_⟩:=HOW.out.elim;obtain⟨L,hL⟩:∃L,(xs++128::List.replicate j 0).length=L:=⟨_,rfl⟩
  have hLn:L=n+1+j:=by rw[<-hL];simp;have:=HL.out;omega
  have hnn:Bj n<64:=by unfold Bj;omega
  rw[hL]at HOW ⊢
  have HLe:Aa ((xs++128::List.replicate j 0).length=L):=⟨hL⟩
  clear hL;have hsz:=HBE.out.size
  by_cases hjn:j=Bj n
  .have ht:(L:Int)%64=56:=by have:=(Pe (n:=n) hj).2 hjn;omega
   have ht':(L:Int).tmod 64=56:=by rw[Int.tmod_eq_emod_of_nonneg (by omega)];exact ht
   have hw4:=HX.out;have HP:Aa (xs++128::List.replicate j 0=xs++128::(List.replicate (Bj n) 0++(Yp (n*8)).take 0)):=⟨by rw[hjn,List.take_zero,List.append_nil]⟩
   have HLn:Aa (L=n+1+j):=⟨hLn⟩
   clear hLn;go_wp2
   go_loopw [5,7] (fun x i wr=>∃v:Value,v=x/\Aa (Below w2.heap.size w2 wr)/\((∃k d:Nat,k+d=7/\i=.int .i64 d/\Aa (Own wr w2.heap.size v (xs++128::(List.replicate (Bj n) 0++(Yp (n*8)).take k)))) ∨ (i=.int .i64 (-1)/\Aa (Own wr w2.heap.size v (xs++128::(List.replicate (Bj n) 0++(Yp (n*8)).take 8)))))) (fun _ i _=>(intOf i+1).toNat)
   case atStart=>exact⟨_,rfl,HBE,.inl ⟨0,7,rfl,rfl,⟨by rw[<-HP.out];exact HOW.out⟩⟩⟩
   case round=>
    obtain⟨v,rfl,HBE2,hor⟩:=hrel;have hsz2:=HBE2.out.size;rcases hor with ⟨k,d,hkd,rfl,HOW2⟩|⟨rfl,HOW2⟩
    .obtain⟨b,hb⟩:∃b,n*8/2^(8*d)%256=b:=⟨_,rfl⟩
     have hv:(n:Int)*8/2^(8*d)%256=(b:Int):=by
      rw[<-hb,Int.natCast_emod,Int.natCast_ediv,Int.natCast_pow,Int.natCast_mul];rfl
     have hb256:b<256:=by omega
     have HE:Aa ((xs++128::(List.replicate (Bj n) 0++(Yp (n*8)).take k))++[b]=xs++128::(List.replicate (Bj n) 0++(Yp (n*8)).take (k+1))):=⟨by
      have h1:(Yp (n*8))[k]? = some b:=by
       unfold Yp;rw[List.getElem?_map,List.getElem?_range (by omega),Option.map_some,show 7-k=d by omega,hb]
      rw[List.take_add_one,h1,List.append_assoc,List.cons_append,List.append_assoc];rfl⟩
     have HLk:Aa ((xs++128::(List.replicate (Bj n) 0++(Yp (n*8)).take k)).length<=n+80):=⟨by simp[Jj];have:=HL.out;omega⟩
     obtain⟨Y,hY⟩:∃Y,xs++128::(List.replicate (Bj n) 0++(Yp (n*8)).take k)=Y:=⟨_,rfl⟩
     rw[hY]at HOW2 HE HLk
     clear hY hb;obtain⟨q2,c2,rfl,_,_,_,_⟩:=HOW2.out.elim;have hb6:Below wr.heap.size wr (wr.alloc (.cells #[.int .u8 b] 5)):=Bx;have HO3:Aa (Own (wr.alloc (.cells #[.int .u8 b] 5)) w2.heap.size (.slice q2 Y.length c2) Y):=⟨HOW2.out.belowS hb6⟩
     have hrow:Aa (Bd (wr.alloc (.cells #[.int .u8 b] 5)) .u8 (some ⟨wr.heap.size,0,none⟩) 1 1 [b]):=⟨Ds wr [b] (show 1<=9223372036854775807 by decide)⟩
     have hsz6:w2.heap.size<=(wr.alloc (.cells #[.int .u8 b] 5)).heap.size:=Dn hsz2 hb6.size;have hmx:Aa (Y.length+1<=140737488355328):=⟨by have:=HLk.out;omega⟩
     have HB6:Aa (Below w2.heap.size w2 (wr.alloc (.cells #[.int .u8 b] 5))):=⟨HBE2.out.trans (hb6.mono hsz2)⟩
     have a8:(8*(d:Int)).toNat=8*d:=by omega
     have d7:d<=7:=by omega
     clear hb6
     go_wp2_with (at_builtin;refine Cc rfl _ _ rfl rfl HO3.out rfl hrow.out (fun h=>by cases h) hmx.out hsz6 ?_;intro v3 w6 ho3 hg3;refine De.out ?_)
     refine⟨?_⟩;have hb7:=grown_below hg3 hsz6 HO3.out.ge;rw[HE.out]at ho3
     have HO4:=Ab ho3;have HB7:=Ab (HB6.out.trans hb7);clear hg3 ho3 hb7 HB6 HO3 hrow;go_wp2;go_roundw
     case rel=>
      refine⟨_,rfl,HB7,?_⟩;rcases Nat.eq_zero_or_pos d with rfl|hd
      .obtain rfl:k=7:=by omega
       exact .inr ⟨rfl,HO4⟩
      .exact .inl ⟨k+1,d-1,by omega,(show Value.int .i64 ((d:Int)-1)=.int .i64 ((d-1:Nat):Int) from congrArg (Value.int .i64) (by omega)),HO4⟩
     case measure=>simp[intOf]
    .have HMM:Aa (xs++128::(List.replicate (Bj n) 0++(Yp (n*8)).take 8)=xs++behind xs.length):=⟨by
      unfold behind;rw[HN.out.1,HN.out.2,List.take_of_length_le (by rw[Jj];exact As _),Nat.mod_eq_of_lt (show n*8<18446744073709551616 by omega)]⟩
     rw[HMM.out]at HOW2
     have hall:=dV xs.length;obtain⟨K,hK⟩:∃K,(xs.length+(behind xs.length).length)/64=K:=⟨_,rfl⟩
     have hml:(xs++behind xs.length).length=64*K:=by rw[List.length_append];omega
     have hK0:0<K:=by have:=Hu xs.length;omega
     have hKb:K<=100000:=by
      have h1:=Hu xs.length;have h2:Bj xs.length<64:=by unfold Bj;omega
      omega
     have H8m:Aa (Au (xs++behind xs.length)):=⟨fun x hx=>by
      rcases List.mem_append.1 hx with h|h
      .exact H8.out x h
      .exact Pt _ x h⟩
     have HSha:Aa (Ie xs=(blocks (xs++behind xs.length) K).flatMap Ft):=⟨by unfold Ie;rw[hK]⟩
     obtain⟨mm,hmm⟩:∃mm,xs++behind xs.length=mm:=⟨_,rfl⟩
     rw[hmm]at HOW2 hml H8m HSha
     clear hmm hall HMM;obtain⟨q3,c7,rfl,hr7,hn7,_,_⟩:=HOW2.out.elim;obtain⟨b,off,rfl,hbl,Bt⟩:=(hr7.row (by omega)).pos (by omega);have hbge:w2.heap.size<=b:=hn7 _ rfl;have hcap7:=hr7.cap;have hmax7:=hr7.max;rw[hml]at hcap7 ⊢
     have HCell:Aa (∀w',Dg (G+1) wr w'->∀(i x:Nat),mm[i]? = some x->w'.cell? ⟨b,off+i,none⟩=some (.int .u8 (x:Int))):=⟨fun w' hb i x hx=>by
      rw[hb.cell (p:=⟨b,off+i,none⟩) hbl (by show b≠G+1;omega)];exact Bt i x hx⟩
     have HS0:Aa (Yj wr G (blocks mm 0)):=⟨HSB.out.below HBE2.out hgw⟩
     have HML:Aa (mm.length=64*K):=⟨hml⟩
     clear hr7 hn7 Bt HOW2 hml hK;have HB8:Aa (Below w2.heap.size w2 wr):=HBE2;go_wp2
     go_loopw [8] (fun i w'=>∃k:Nat,k<=K/\i=.int .i64 ((64*k:Nat):Int)/\Aa (Dg (G+1) wr w')/\Aa (Yj w' G (blocks mm k))) (fun i _=>64*K-(intOf i).toNat)
     case atStart=>exact⟨0,by omega,rfl,⟨Dg.refl _ _⟩,HS0⟩
     case round=>
      obtain⟨k,hk,rfl,HBut,HSk⟩:=hrel
      by_cases hkK:k<K
      .have hlt:64*k<64*K:=by omega
       have hlt':((64*k:Nat):Int)<((64*K:Nat):Int):=by omega
       have hgl:G+1<wr.heap.size:=HSk.out.lt;obtain⟨Hk,hHk⟩:∃H,blocks mm k=H:=⟨_,rfl⟩
       obtain⟨Hn,hHn⟩:∃H,blocks mm (k+1)=H:=⟨_,rfl⟩
       have HHk:Aa (Hk.length=8/\Words Hk/\Hn.length=8):=⟨by rw[<-hHk,<-hHn];exact⟨Cy mm k,Ip mm k,Cy mm (k+1)⟩⟩
       have HStep:Aa (Qo Hk ((mm.drop (64*k)).take 64)=Hn):=⟨by rw[<-hHn,<-hHk];rfl⟩
       rw[hHk]at HSk
       have HPl:Aa (((mm.drop (64*k)).take 64).length=64):=⟨by simp;have:=HML.out;omega⟩
       have HNx:Aa (blocks mm (k+1)=Hn):=⟨hHn⟩
       clear hHk hHn;go_wp2;refine Ah (by kernel_rfl) (by kernel_rfl)
        [some (.agg (Et Hk)),some (.slice (some ⟨b,off,none⟩) (64*K) c7),some (.int .i64 ((64*k:Nat):Int)),some (.int .i64 ((64*k:Nat):Int)),some (.int .i64 ((64*k:Nat)+64:Int)),some (.slice (some ⟨b,off+64*k,none⟩) 64 (c7-64*k)),some (.agg (Et Dt)),none,none]
        [false,false,false,false,false,false,false,true,true] rfl
        (fun w1 w2=>Dg (G+1) w1 w2) (fun D w'=>SG wr G Hk Hn (D 7) (D 8) w')
        (fun i v w'=>match i with
         | 7=>v=.agg (Et Hn)
         | _=>True)
        ?_ ⟨Dg.drew (Dg.refl _ _),HSk.out.k,(fun e=>by cases e),(fun _=>HSk.out.h),fun e=>by cases e⟩ ?_ ?_
       .intro i v w1 w2 hf hb;split at hf
        .exact hf
        .trivial
       .simp only[Ba,Nat.reduceAdd];refine⟨?_,?_,?_,?_,?_,?_,?_,?_,?_,trivial⟩
        case refine_1=>
         intro D sp w' hD hW hdp hG;have h7:D 7=false:=hW 7 (mq (by kernel_rfl));rw[h7]at hG
         have hk8:=oH HHk.out.1 (hG.old hG.open)
         (with_reducible refine Ai (v:=.agg (Et Hk)) (w1:=w') ?_ ?_ ⟨rfl,rfl⟩)
         .simp[Region.wanted,go_sem]
         .simp[execOp,Act.eval,Instr.loadAt,Instr.sureAddr,Result.andThen_ok,hk8]
        case refine_6=>
         intro D sp w' hD hW hdp hG;have hsl:=jP w' b off k (64*K) c7 (by omega) hcap7
         (with_reducible refine Ai (v:=.slice (some ⟨b,off+64*k,none⟩) 64 (c7-64*k)) (w1:=w') ?_ ?_ ⟨rfl,rfl⟩)
         .simp[Region.wanted,go_sem]
         .simp[execOp,Act.eval,Act.put,hsl,Result.andThen_ok]
        case refine_7=>
         intro D sp w' hD hW hdp hG;have hk8:=kS Ff hG.k
         (with_reducible refine Ai (v:=.agg (Et Dt)) (w1:=w') ?_ ?_ ⟨rfl,rfl⟩)
         .simp[Region.wanted,go_sem]
         .simp[execOp,Act.eval,Act.put,Instr.loadAt,Instr.sureAddr,Result.andThen_ok,hk8]
        case refine_8=>
         intro D sp w' hD hW hdp hG;have h8:D 8=false:=hW 8 (mq (by kernel_rfl));have hcl:=HCell.out w' (HBut.out.trans hG.but);have hbw:b<w'.heap.size:=Ej (Ej hbl HBut.out.size) hG.but.size
         (with_reducible refine Ac (w1:=w') (f := 206) (args:=#[.agg (Et Hk),.slice (some ⟨b,off+64*k,none⟩) 64 (c7-64*k),.agg (Et Dt)]) ?_ ?_ ?_)
         .simp[Region.wanted,go_sem]
         .simp[Act.eval,Act.put,go_sem]
         .refine(Tb w' Hk ((mm.drop (64*k)).take 64) b (off+64*k) (c7-64*k) HHk.out.1 HHk.out.2.1 HPl.out (fun x hx=>H8m.out x (List.mem_of_mem_drop (List.mem_of_mem_take hx))) hbw (by omega) (by omega) (fun i x hx=>?_)).mono ?_
          .rw[Nat.add_assoc];refine hcl (64*k+i) x ?_;rw[List.getElem?_take]at hx
           split at hx
           .rw[List.getElem?_drop]at hx;exact hx
           .cases hx
          .rintro e w5 ⟨rfl,hb⟩;rw[HStep.out];refine⟨_,rfl,Dg.of hb,rfl,hG.but.trans (Dg.of hb),?_,(fun e=>?_),(fun _=>?_),fun e=>?_⟩
           .have hx:=hG.k;rw[hb.block G (Kv hx).1];exact hx
           .simp[h8]at e
           .have hx:=hG.old h8;rw[hb.block (G+1) (Kv hx).1];exact hx
           .simp[h8]at e
        case refine_9=>
         intro D sp w' hD hW hdp hG;have h7:=(hdp 7 (mq (by kernel_rfl))).1;have hv:sp 7=.agg (Et Hn):=(hdp 7 (mq (by kernel_rfl))).2;have hst:=jM HHk.out.1 HHk.out.2.2 (hG.old hD);have hb5:Dg (G+1) w' (w'.setRow (G+1) (Et Hn)):=Dg.setRow _ _
         (with_reducible refine Aq (w1:=w'.setRow (G+1) (Et Hn)) ?_ ?_ ?_)
         .simp[Region.wanted,go_sem]
         .simp[execOp,Act.eval,Act.put,hv,Instr.storeAt,Instr.sureAddr,Result.andThen_ok,hst]
         .exact⟨hb5,trivial,hG.but.trans hb5,(setRow_other _ (G+1) G _ (by omega)).trans hG.k,(fun _=>by simp[h7]),(fun e=>by simp at e),fun _=>setRow_heap _ _ _ _ _ _ (hG.old hD)⟩
        all_goals
         intro D sp w' hD hW hdp hG;have hwr:IntKind.i64.wrap (64*(k:Int)+64)=64*(k:Int)+64:=IntWalk.i64_in _ (by omega);simp[asked,Region.wanted,Oper.gives,execOp,Act.eval,Act.put,go_sem,hwr]
       .intro sp w5 hsp hG;have HB9:Aa (Dg (G+1) wr w5):=⟨hG.but⟩
        have HS9:Aa (Yj w5 G (blocks mm (k+1))):=⟨⟨hG.k,by rw[HNx.out];exact hG.new rfl⟩⟩
        clear hsp hG;simp only[An,Nat.reduceAdd];generalize sp 7=u7';generalize sp 8=u8';have HB10:=Ab (HBut.out.trans HB9.out);clear HB9 HBut;go_wp2;go_roundw
        case rel=>exact⟨k+1,by omega,(show Value.int .i64 (((64*k:Nat):Int)+64)=.int .i64 ((64*(k+1):Nat):Int) from congrArg (Value.int .i64) (by omega)),HB10,HS9⟩
        case measure=>simp[intOf];omega
      .obtain rfl:k=K:=by omega
       obtain⟨Hf,hHf⟩:∃H,blocks mm k=H:=⟨_,rfl⟩
       rw[hHf]at HSk HSha
       have HHf:Aa (Hf.length=8/\Words Hf):=⟨by rw[<-hHf];exact⟨Cy mm k,Ip mm k⟩⟩
       have hbw8:Below w.heap.size w w2:=HB2.out;have HW8:=(hbw8.trans (HB8.out.mono hbw8.size)).trans (HBut.out.below (show w.heap.size<=G+1 by omega) (Dn hbw8.size HB8.out.size));clear hHf hbw8 HB8 HBut HCell HML H8m HS0;have hwz:=HW8.size;have HC8:Aa ((World.alloc _ (.cells #[] 5)).heap[G+1]? = some (.cells (Et Hf) 250 (0,0))):=⟨(heap_alloc_old _ _ (r:=G+1) HSk.out.lt).trans HSk.out.h⟩
       have HOwn:=(Own.lit _ [] (by decide)).mono hwz;have HBn:=Bn HW8 ((Bb _ _).alloc (As _) (.cells #[] 5));have HO8:=Ab HOwn;have HB8:=Ab HBn;have HI8:=Ab (Nl HHf.out.1);clear HOwn HBn HW8
       go_wp2_with (refine wpList_load_row rfl 250 _ rfl (G+1) rfl 250 (Et Hf) (0,0) _ HC8.out Tryz.underlying250 rfl HI8.out ?_)
       go_loopw [9,62] (fun x i w'=>∃(k:Nat) (v:Value),k<=8/\i=.int .i64 k/\v=x/\Aa (Own w' w.heap.size v ((Hf.take k).flatMap Ft))/\Aa (Below w.heap.size w w')) (fun _ i _=>8-(intOf i).toNat)
       case atStart=>exact⟨0,_,by omega,rfl,rfl,HO8,HB8⟩
       case round=>
        obtain⟨j,v,hj,rfl,rfl,HOj,HBj⟩:=hrel;have hszj:=HBj.out.size
        by_cases hj8:j<8
        .obtain⟨x,hx⟩:∃x,Hf.getD j 0=x:=⟨_,rfl⟩
         have hx32:x<4294967296:=by rw[<-hx];exact HHf.out.2.get j
         have hidx:∀wx:World,(Instr.index 250 (.agg (Et Hf)) (.int .i64 j)).run Tryz.prog wx=.ok (.int .u32 (x:Nat)) wx:=fun wx=>by rw[<-hx];exact qA Hf HHf.out.1 j hj8 wx
         obtain⟨b0,hb0⟩:∃v,x/16777216%256=v:=⟨_,rfl⟩
         obtain⟨b1,hb1⟩:∃v,x/65536%256=v:=⟨_,rfl⟩
         obtain⟨b2,hb2⟩:∃v,x/256%256=v:=⟨_,rfl⟩
         obtain⟨b3,hb3⟩:∃v,x%256=v:=⟨_,rfl⟩
         have HE:Aa ((Hf.take j).flatMap Ft++[b0,b1,b2,b3]=(Hf.take (j+1)).flatMap Ft):=⟨by
          rw[Da Hf j (by rw[HHf.out.1];exact hj8),hx,List.flatMap_append,<-hb0,<-hb1,<-hb2,<-hb3];rfl⟩
         have e0:(x:Int)/16777216=(b0:Int):=by omega
         have e1:(x:Int)/65536%256=(b1:Int):=by omega
         have e2:(x:Int)/256%256=(b2:Int):=by omega
         have e3:(x:Int)%256=(b3:Int):=by omega
         have l0:b0<256:=by omega
         have e0':(b0:Int)%256=(b0:Int):=by omega
         have HLj:Aa (((Hf.take j).flatMap Ft).length+4<=140737488355328):=⟨by
          rw[Jw];have:=List.length_take_le j Hf;have:=HHf.out.1;simp;omega⟩
         clear hx hb0 hb1 hb2 hb3;have hb6:∀wr:World,Below wr.heap.size wr (wr.alloc (.cells #[.int .u8 b0,.int .u8 b1,.int .u8 b2,.int .u8 b3] 5)):=fun wr=>(Bb _ _).alloc (As _) _
         have HO3:Aa (Own (wr.alloc (.cells #[.int .u8 b0,.int .u8 b1,.int .u8 b2,.int .u8 b3] 5)) w.heap.size v ((Hf.take j).flatMap Ft)):=⟨HOj.out.belowS (hb6 wr)⟩
         have hrow:Aa (Bd (wr.alloc (.cells #[.int .u8 b0,.int .u8 b1,.int .u8 b2,.int .u8 b3] 5)) .u8 (some ⟨wr.heap.size,0,none⟩) 4 4 [b0,b1,b2,b3]):=⟨Ds wr [b0,b1,b2,b3] (show 4<=9223372036854775807 by decide)⟩
         have hsz6:w.heap.size<=(wr.alloc (.cells #[.int .u8 b0,.int .u8 b1,.int .u8 b2,.int .u8 b3] 5)).heap.size:=Dn hszj (hb6 wr).size;have HB6:Aa (Below w.heap.size w (wr.alloc (.cells #[.int .u8 b0,.int .u8 b1,.int .u8 b2,.int .u8 b3] 5))):=⟨Bn HBj.out (hb6 wr)⟩
         clear hb6
         go_wp2_with (at_builtin;refine Cc rfl _ _ rfl rfl HO3.out rfl hrow.out (fun h=>by cases h) HLj.out hsz6 ?_;intro v3 w6 ho3 hg3;refine De.out ?_)
         refine⟨?_⟩;have hb7:=grown_below hg3 hsz6 HO3.out.ge;rw[HE.out]at ho3
         have HO4:=Ab ho3;have HB7:=Ab (HB6.out.trans hb7);clear hg3 ho3 hb7 HB6 HO3 hrow e0 e1 e2 e3 e0';go_wp2;go_roundw
         case rel=>exact⟨j+1,_,by omega,by go_num,rfl,HO4,HB7⟩
         case measure=>simp[intOf];omega
        .obtain rfl:j=8:=by omega
         have HFin:=HOj.out;rw[List.take_of_length_le (by rw[HHf.out.1];exact As _),<-HSha.out]at HFin
         have HF:=Ab HFin;clear HFin HOj;go_wp2;go_ret;exact⟨_,rfl,Bp.mk HF.out,HBj.out⟩
  .have hne:¬(L:Int)%64=56:=by have:=(Pe (n:=n) hj);omega
   have hne':¬(L:Int).tmod 64=56:=by rw[Int.tmod_eq_emod_of_nonneg (by omega)];exact hne
   have hb6:Below wr.heap.size wr (wr.alloc (.cells #[.int .u8 0] 5)):=Bx;have HO3:Aa (Own (wr.alloc (.cells #[.int .u8 0] 5)) w2.heap.size (.slice q L c5) (xs++128::List.replicate j 0)):=⟨HOW.out.belowS hb6⟩
   have hrow:Aa (Bd (wr.alloc (.cells #[.int .u8 0] 5)) .u8 (some ⟨wr.heap.size,0,none⟩) 1 1 [0]):=⟨Ds wr [0] (by decide)⟩
   have hsz6:w2.heap.size<=(wr.alloc (.cells #[.int .u8 0] 5)).heap.size:=Dn hsz hb6.size;have hmx:Aa ((xs++128::List.replicate j 0).length+1<=140737488355328):=⟨by rw[HLe.out];omega⟩
   have HB6:Aa (Below w2.heap.size w2 (wr.alloc (.cells #[.int .u8 0] 5))):=⟨HBE.out.trans (hb6.mono hsz)⟩
   have HE:Aa ((xs++128::List.replicate j 0)++[0]=xs++128::List.replicate (j+1) 0):=⟨by rw[List.append_assoc,List.cons_append,List.replicate_succ']⟩
   clear hb6
   go_wp2_with (at_builtin;refine Cc rfl _ _ rfl rfl HO3.out rfl hrow.out (fun h=>by cases h) hmx.out hsz6 ?_;intro v3 w6 ho3 hg3;refine De.out ?_)
   refine⟨?_⟩;have hb7:=grown_below hg3 hsz6 HO3.out.ge;rw[HE.out]at ho3
   obtain⟨q3,c3,hv3,_,_,_,_⟩:=ho3.elim;have hL3:(xs++128::List.replicate (j+1) 0).length=L+1:=by rw[<-HE.out,List.length_append,HLe.out];rfl
   rw[hL3]at hv3
   subst hv3;have HO4:=Ab ho3;have HB7:=Ab (HB6.out.trans hb7);clear hg3 ho3 hb7 HB6 HO3 hrow;go_wp2;go_roundw
   case rel=>exact⟨j+1,_,by omega,rfl,HO4,HB7⟩
   case measure=>show n+1+Bj n-(L+1)<n+1+Bj n-L;omega
end Go.Proofs.YtokhckjemidbpaaGreatDoor
