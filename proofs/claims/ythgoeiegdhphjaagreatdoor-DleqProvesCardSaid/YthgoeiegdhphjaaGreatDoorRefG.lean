/- The document's tag. -/
import Derived.Test.YthgoeiegdhphjaaGreatDoorCpI
import Derived.Laws.OwnMore
import Derived.Test.YthgoeiegdhphjaaGreatDoorRefS
import Derived.Laws.BitsAllLaws
set_option maxRecDepth 1000000
set_option maxHeartbeats 16000000
set_option linter.all false
namespace Go.Proofs.YthgoeiegdhphjaaGreatDoor
open Go Go.RowKit
def Gs (L:List Part):Prop:=∀P∈L,P.p=none->P.c=0
theorem Tryz.info_Bs:(Tryz.prog.info? 60).map (fun i=>(i.zero,i.size,i.bytes))=some (some (.slice none 0 0),1,24):=by kernel_rfl
structure Hh (w:World) (B:Nat) (v:Value) (L:List Part):Prop where
 own:w.ownsRow B 60 1 v L.length (L.map fun P=>.slice P.p P.n P.c)
 ok:∀P∈L,Aq w P
 off:∀P∈L,0<P.n->∀q,P.p=some q->v.ownBlock≠some q.block
theorem Hh.below {w w':World}{B:Nat}{v:Value}{L:List Part}(h:Hh w B v L)(hb:Below w.heap.size w w'):Hh w' B v L :=
 ⟨Oq h.own fun g hg=>hb.block g (Ew h.own g hg).2,fun P hP=>(h.ok P hP).below hb,h.off⟩
theorem Aq.lt {w:World}{P:Part}(h:Aq w P)(h0:0<P.n):∀q,P.p=some q->q.block<w.heap.size:=fun q hq=>by
 rcases(h.row.row h0).at_ with h1|⟨b,off,h1,h2,_⟩
 .have:=h1.2.1;omega
 .rw[h1]at hq
  cases hq;exact h2
theorem Hh.one {w:World}{B:Nat}{P:Part}(hB:B<=w.heap.size)(hP:Aq w P) :
  Hh (w.alloc (.cells #[.slice P.p P.n P.c] 60)) B (.slice (some ⟨w.heap.size,0,none⟩) 1 1) [P]:=by
 have hb:Below w.heap.size w (w.alloc (.cells #[.slice P.p P.n P.c] 60)):=Bw;refine⟨World.ownsRow_lit (size:=1) w #[.slice P.p P.n P.c] 1 hB (by decide) rfl,fun Q hQ=>?_,fun Q hQ h0 q hq e=>?_⟩
 .rw[List.mem_singleton.1 hQ];exact hP.below hb
 .rw[List.mem_singleton.1 hQ]at hq h0
  have h1:=hP.lt h0 q hq;have h2:w.heap.size=q.block:=by simpa [Value.ownBlock]using e
  omega
theorem Aq.grown {w w':World}{P:Part}{r:Option Nat}(h:Aq w P)(hg:w.grownBy w' r)(hn:0<P.n->∀q,P.p=some q->r≠some q.block):Aq w' P:=by
 refine⟨⟨h.row.len,h.row.cap,h.row.max,fun h0=>?_⟩,h.bytes⟩;obtain⟨k1,k2,k3,k4⟩:=h.row.row h0;refine⟨k1,k2,k3,?_⟩;rcases k4 with k|⟨b,off,h1,h2,h3⟩
 .exact .inl k
 .refine .inr ⟨b,off,h1,Dj h2 hg.size,fun i x hx=>?_⟩;rw[World.cell?_of_block (a:=⟨b,off+i,none⟩) (hg.block b h2 fun e=>hn h0 _ h1 e.symm)];exact h3 i x hx
theorem Hh.app {w:World}{B:Nat}{v:Value}{L:List Part}(h:Hh w B v L)(hB:B<=w.heap.size){P:Part}{a:Addr}{c:Nat}(hc:w.cell? a=some (.slice P.p P.n P.c))(hP:Aq w P)(hn:0<P.n->∀q,P.p=some q->v.ownBlock≠some q.block)(hl:L.length<=1000000)(ty:TypeId) :
  ∃v' w',(Builtin.append_ #[203, 203] ty #[v,.slice (some a) 1 c]).run Tryz.prog w=.ok v' w'/\Hh w' B v' (L++[P])/\w.grownBy w' v.ownBlock/\eT w v v':=by
 obtain⟨i,hi,hz,hs,hb⟩:=info_parts Tryz.info_Bs;have ha0:a.add 0=a:=by obtain⟨b,o,s⟩:=a;simp[Addr.add]
 obtain⟨v',w',k1,k2,k3,k4⟩:=Zr Tryz.underlying203 hi hz hs hb rfl (by decide) h.own (a:=a) (m:=1) (c:=c) (news:=[.slice P.p P.n P.c]) rfl
  (fun j u hj=>by
   cases j with
   | zero=>simp at hj;subst hj;rw[ha0];exact hc
   | succ j=>simp at hj)
  (fun u hj=>by simp at hj;subst hj;rfl) (by simp only[maxLen];omega) (Dx (Nat.mul_le_mul (Nat.add_le_add_right hl 1) (show (24:Nat)<=24 by decide)) (by decide)) hB ty
 refine⟨v',w',k1,⟨by rw[List.length_append,List.map_append];exact k2,fun Q hQ=>?_,fun Q hQ h0 q hq e=>?_⟩,k3,k4⟩
 .rcases List.mem_append.1 hQ with hm|hm
  .exact(h.ok Q hm).grown k3 (h.off Q hm)
  .rw[List.mem_singleton.1 hm];exact hP.grown k3 hn
 .have h1:v.ownBlock≠some q.block/\q.block<w.heap.size:=by
   rcases List.mem_append.1 hQ with hm|hm
   .exact⟨h.off Q hm h0 q hq,(h.ok Q hm).lt h0 q hq⟩
   .rw[List.mem_singleton.1 hm]at hq h0
    exact⟨hn h0 q hq,hP.lt h0 q hq⟩
  rcases k4 with k5|k5
  .rw[k5]at e;exact h1.1 e
  .have:=k5 _ e;omega
theorem Hh.in_ {w:World}{B:Nat}{v:Value}{L:List Part}(h:Hh w B v L):∃p c,v=.slice p L.length c/\Br w p L.length c L:=by
 rcases h.own.2 with ⟨e,hn⟩|⟨g,cap,cur,rfl,hbg,hg,hnc,hcm,hcs,ht⟩
 .have hL:L=[]:=List.eq_nil_of_length_eq_zero hn;subst hL;exact⟨none,0,e,Br.none w none⟩
 .refine⟨_,_,rfl,⟨rfl,hnc,by simpa [maxLen]using hcm,fun i P hP=>h.ok P (List.mem_of_getElem? hP),fun _=>⟨g,0,rfl,(Ep hg).1,fun i P hP=>?_⟩⟩⟩;have:=h.own.cells (g:=g) rfl i (.slice P.p P.n P.c) (by rw[List.getElem?_map,hP];rfl);rw[add_plain g 0 i]at this
  exact this
open Go Go.RowKit Go.Proofs.YthgoeiegdhphjaaGreatDoor.Flow
def oA (w:World)(v v':Value):Prop:=v'.ownBlock=v.ownBlock ∨ ∀g,v'.ownBlock=some g->w.heap.size<=g
theorem kQ {w:World}{B:Nat}{v:Value}{xs:List Nat}(h:Own w B v xs){p:Option Addr}{m c:Nat}{bs:List Nat}(hr:Bd w .u8 p m c bs)(hn:p=none->c=0)(hmax:xs.length+m<=140737488355328)(hB:B<=w.heap.size)(ty:TypeId) :
  ∃v' w',(Builtin.append_ #[60, 60] ty #[v,.slice p m c]).run Tryz.prog w=.ok v' w'/\Own w' B v' (xs++bs)/\w.grownBy w' v.ownBlock/\oA w v v':=by
 obtain⟨v',w',h1,h2,h3⟩:=fK h hr hn hmax hB ty;refine⟨v',w',h1,h2,h3,?_⟩;obtain⟨i,hi,hz,hs,hb⟩:=info_parts Tryz.info_u8;have hl:=hr.len;have hmx:xs.length+m<=maxLen:=by simp only[maxLen];omega
 cases p with
 | none=>
  obtain rfl:=hn rfl;have hc:=hr.cap;obtain rfl:m=0:=by omega
  have h4:=run_append_owned_none (P:=Tryz.prog) w B 60 ty 5 i 1 Tryz.underlying60 hi v xs.length _ h.owns;rw[h1]at h4
  injection h4 with h5 _
  exact .inl (by rw[h5])
 | some a=>
  have hcell:∀j u,(bs.map fun(x:Nat)=>Value.int .u8 (x:Int))[j]? = some u->w.cell? (a.add j)=some u:=fun j u hu=>by
   rw[List.getElem?_map]at hu
   obtain⟨x,hx,rfl⟩:=Option.map_eq_some_iff.1 hu;have h0:0<m:=by have:=(List.getElem?_eq_some_iff.1 hx).1;omega
   obtain⟨b,off,e,h2,h3⟩:=(hr.row h0).pos h0;cases e;rw[add_plain];exact h3 j x hx
  have hone:∀u∈(bs.map fun(x:Nat)=>Value.int .u8 (x:Int)),u.oneCell'=true:=fun u hu=>by obtain⟨x,_,rfl⟩:=List.mem_map.1 hu;rfl
  rcases h.owns.2 with ⟨rfl,h0⟩|⟨g,cap,cur,rfl,hbg,hg,hnc,hcm,hcs,ht⟩
  .obtain⟨v2,w2,k1,k2,_,_⟩:=run_append_own (P:=Tryz.prog) w w.heap.size 60 ty 5 i (.int .u8 0) 1 1 Tryz.underlying60 hi hz hs hb rfl (by decide) (.slice none 0 0) 0 [] (World.ownsRow_nil w _ _ _) a m c (bs.map fun(x:Nat)=>Value.int .u8 (x:Int)) (by simp[hl]) hcell hone (by omega) (by omega) (Av _);rw[h1]at k1
   injection k1 with k3 k4
   subst k3;refine .inr fun g hg=>?_
   rcases k2.2 with ⟨e,_⟩|⟨g',cap,cur,e,hb',_⟩
   .rw[e]at hg;cases hg
   .rw[e]at hg
    obtain rfl:g'=g:=by simpa [Value.ownBlock]using hg
    exact hb'
  .by_cases hroom:xs.length+m<=cap
   .have hsz:i.size=1:=hs;have hfit:xs.length*i.size+(bs.map fun(x:Nat)=>Value.int .u8 (x:Int)).length<=cur.size:=by rw[hsz,hcs,List.length_map];omega
    have k1:=run_append_room (P:=Tryz.prog) w 60 ty 5 i Tryz.underlying60 hi g xs.length cap cur hg a m c (bs.map fun(x:Nat)=>Value.int .u8 (x:Int)) (by rw[hsz];simp[hl]) hcell hone hroom hfit;rw[h1]at k1
    injection k1 with k2 _
    exact .inl (by rw[k2];rfl)
   .obtain⟨v2,w2,k1,k2,_⟩:=run_append_arg_grows (P:=Tryz.prog) w 60 ty 5 i (.int .u8 0) 1 1 Tryz.underlying60 hi hz hs hb rfl (by decide) ⟨g,0,none⟩ xs.length cap (xs.map fun(x:Nat)=>Value.int .u8 (x:Int)) (by simp)
     (fun j u hu=>World.ownsRow.cells h.owns rfl j u hu) a m c (bs.map fun(x:Nat)=>Value.int .u8 (x:Int)) (by simp[hl]) hcell (by omega) hmx (by omega)
    rw[h1]at k1
    injection k1 with k3 k4
    subst k3;refine .inr fun g hg=>?_
    rcases k2.2 with ⟨e,_⟩|⟨g',cap,cur,e,hb',_⟩
    .rw[e]at hg;cases hg
    .rw[e]at hg
     obtain rfl:g'=g:=by simpa [Value.ownBlock]using hg
     exact hb'
theorem Eb {w:World}{ops:Array Oper}{rest:List Oper}{o:Oper}{a:Act}{Q:Exit->Act->World->Prop}(hgd:o.guard=none)(s x:Operand)(ho:o.op=.call { callee:=.builtin .append,args:=#[s,x],argTypes:=#[60, 60] }){B:Nat}{v:Value}{xs:List Nat}(hs:a.eval s=v)(h:Own w B v xs){p:Option Addr}{m c:Nat}{bs:List Nat}(hx:a.eval x=.slice p m c)(hr:Bd w .u8 p m c bs)(hn:p=none->c=0)(hmax:xs.length+m<=140737488355328)(hB:B<=w.heap.size)(hk:∀v' w',Own w' B v' (xs++bs)->w.grownBy w' v.ownBlock->oA w v v'->wpList Tryz.prog ops Q rest (a.put o.dst v') w'):wpList Tryz.prog ops Q (o::rest) a w:=by
 obtain⟨v',w',h1,h2,h3,h4⟩:=kQ h hr hn hmax hB o.type;refine wpList_plain hgd fun K hK=>?_
 unfold Oper.wp;simp[execOp,ho,resolve,invoke,builtin,hs,hx,h1,Result.andThen];exact hK _ _ (hk v' w' h2 h3 h4)
theorem Jj (L:List Part)(k:Nat){P:Part}(hP:L[k]? = some P):(whole (L.take k)).length+P.bs.length<=(whole L).length:=by
 have h1:whole L=whole (L.take (k+1))++whole (L.drop (k+1)):=by
  unfold whole;rw[<-List.flatMap_append,List.take_append_drop]
 have h2:whole (L.take (k+1))=whole (L.take k)++P.bs:=by rw[List.take_add_one,hP];exact Gz _ _
 rw[h1,h2,List.length_append,List.length_append];omega
theorem Hd (w:World)(p:Option Addr)(n c:Nat)(L:List Part)(hL:Br w p n c L)(hz:Gs L)(hmax:(whole L).length<=1000000) :
  Calls Tryz.prog 117 #[.slice p n c] w (Ki (whole L) w):=by
 have HP:Aa (Br w p n c L):=⟨hL⟩
 have HZ:Aa (Gs L):=⟨hz⟩
 have hpl:Aa (n=L.length):=⟨hL.len⟩
 have HMx:Aa ((whole L).length<=1000000):=⟨hmax⟩
 have mp:=hL.max;have mcp:=hL.cap;clear hL hz hmax;have HO0:Aa (Own (w.alloc (.cells #[] 5)) w.heap.size (.slice (some ⟨w.heap.size,0,none⟩) 0 0) []):=⟨Own.lit w [] (by decide)⟩
 have HB0:Aa (Below w.heap.size w (w.alloc (.cells #[] 5))):=⟨(Bg _ _).alloc (Av _) _⟩
 go_enter Tryz.func117,Tryz.ntmps117;go_wp2
 go_loopw [3,9] (fun x i wr=>∃(k:Nat) (v:Value),k<=n/\i=.int .i64 k/\v=x/\Aa (Below w.heap.size w wr)/\Aa (Own wr w.heap.size v (whole (L.take k)))) (fun _ i _=>n-(intOf i).toNat)
 case atStart=>exact⟨0,_,by omega,rfl,rfl,HB0,HO0⟩
 case round=>
  obtain⟨k,v,hk,rfl,rfl,HB,HO⟩:=hrel;have hzr:=HB.out.size
  by_cases hkn:k<n
  .obtain⟨b,off,rfl,hb,hc⟩:=HP.out.cells (by omega);obtain⟨P,hP⟩:∃P,L[k]? = some P:=⟨_,List.getElem?_eq_getElem (by have:=hpl.out;omega)⟩
   have HOK:Aa (Aq wr P):=⟨(HP.out.ok k P hP).below HB.out⟩
   have HZP:Aa (P.p=none->P.c=0):=⟨HZ.out P (List.mem_of_getElem? hP)⟩
   have hck:wr.cell? ⟨b,off+k,none⟩=some (.slice P.p P.n P.c):=by
    rw[(Bz HB.out).1 _ _ hb];exact hc k P hP
   have htk:Aa (whole (L.take (k+1))=whole (L.take k)++P.bs):=⟨by rw[List.take_add_one,hP];exact Gz _ _⟩
   have hlen:Aa ((whole (L.take k)).length+P.n<=140737488355328):=⟨by
    have h1:=Jj L k hP;have h2:=HMx.out;have h3:=HOK.out.row.len;omega⟩
   clear hc hP;obtain⟨qp,qn,qc,qb⟩:=P
   dsimp only at *
   go_wp2_with (at_builtin;refine Da rfl _ _ rfl rfl HO.out rfl HOK.out.row HZP.out hlen.out hzr ?_;intro v1 w3 ho1 hg1;refine Dc.out ?_)
   refine⟨?_⟩;rw[<-htk.out]at ho1
   have HB3:=Ab (HB.out.trans (grown_below hg1 hzr HO.out.ge));have HO1:=Ab ho1;clear ho1 hg1;go_wp2;go_roundw
   case rel=>exact⟨k+1,_,by omega,by go_num,rfl,HB3,HO1⟩
   case measure=>simp[intOf];omega
  .obtain rfl:k=n:=by omega
   have HF:Aa (Own wr w.heap.size v (whole L)):=⟨by
    have h:=HO.out;rw[List.take_of_length_le (by have:=hpl.out;omega)]at h
    exact h⟩
   go_wp2;go_ret;exact⟨_,rfl,Bh.mk HF.out,HB.out⟩
structure Apart (u v:Value):Prop where
 out:∀g,u.ownBlock=some g->v.ownBlock≠some g
theorem Apart.symm {u v:Value}(h:Apart u v):Apart v u:=⟨fun g hg e=>h.out g e hg⟩
theorem Apart.moved {u u' v:Value}{w:World}{B:Nat}{xs:List Nat}(h:Apart u v)(hm:oA w u u')(hv:Own w B v xs):Apart u' v:=⟨fun g hg e=>by
 rcases hm with h1|h1
 .exact h.out g (by rw[<-h1];exact hg) e
 .have:=h1 g hg;have:=hv.lt g e;omega⟩
theorem Own.grown {w w':World}{B:Nat}{u v:Value}{xs:List Nat}(h:Own w B v xs)(hg:w.grownBy w' u.ownBlock)(ha:Apart u v):Own w' B v xs:=by
 refine⟨⟨h.owns.1,?_⟩⟩;rcases h.owns.2 with h2|⟨g,cap,cur,rfl,hbg,hgb,h3⟩
 .exact .inl h2
 .refine .inr ⟨g,cap,cur,rfl,hbg,?_,h3⟩;rw[hg.block g (Ep hgb).1 (fun e=>ha.out g e.symm rfl)];exact hgb
theorem Xo (w:World)(p:Option Addr)(n c:Nat)(key:List Nat)(pb:Option Addr)(nb cb:Nat)(xb:List Nat)(hr:Bd w .u8 p n c key)(h8:Ay key)(hz:p=none->c=0)(hn:n<=1000)(hX:Aq w ⟨pb,nb,cb,xb⟩)(hzb:pb=none->cb=0)(hnb:nb<=5000) :
  Calls Tryz.prog 150 #[.slice p n c,.slice pb nb cb] w (Ki (Jn key xb) w):=by
 have H8:Aa (Ay key):=⟨h8⟩
 have HX:Aa (Aq w ⟨pb,nb,cb,xb⟩):=⟨hX⟩
 have HZb:Aa (pb=none->cb=0):=⟨hzb⟩
 have HK8:Aa (Ay (Co key)):=⟨Ih h8⟩
 by_cases hn64:n<=64
 .have hkk:Hc key=key:=by unfold Hc;rw[if_neg (by have:=hr.len;omega)]
  have HK:Aa (Bd w .u8 p n c (Hc key)):=⟨by rw[hkk];exact hr⟩
  have HW:Aa (Below w.heap.size w w):=⟨Bg _ _⟩
  clear hr h8 hX hzb hkk hz;go_enter Tryz.func150,Tryz.ntmps150;have HW2:Aa (Below w.heap.size w ((w.alloc (.cells #[] 5)).alloc (.cells #[] 5))):=⟨((Bg _ _).alloc (Av _) _).alloc (by simp) _⟩
  have HU0:Aa (Own ((w.alloc (.cells #[] 5)).alloc (.cells #[] 5)) w.heap.size (.slice (some ⟨w.heap.size,0,none⟩) 0 0) ((Cg key).take 0)):=⟨((Own.lit w [] (by decide)).belowS ((Bg _ _).alloc (Av _) _))⟩
  have HV0:Aa (Own ((w.alloc (.cells #[] 5)).alloc (.cells #[] 5)) w.heap.size (.slice (some ⟨w.heap.size+1,0,none⟩) 0 0) ((Ci key).take 0)):=⟨by
   have h:=Own.lit (w.alloc (.cells #[] 5)) [] (by decide);rw[show (w.alloc (.cells #[] 5)).heap.size=w.heap.size+1 by simp]at h
   exact h.mono (Nat.le_succ _)⟩
  have HA0:Aa (Apart (.slice (some ⟨w.heap.size,0,none⟩) 0 0) (.slice (some ⟨w.heap.size+1,0,none⟩) 0 0)):=⟨⟨fun g hg e=>by
   simp[Value.ownBlock]at hg e
   omega⟩⟩
  have HRd:Aa (∀w',Below w.heap.size w w'->∀i,i<n->∃b off,p=some ⟨b,off,none⟩/\w'.cell? ⟨b,off+i,none⟩=some (.int .u8 ((Hc key).getD i 0:Nat))):=⟨fun w' hb i hi=>by
   obtain⟨b,off,e,hbl,hc⟩:=(HK.out.row (by omega)).pos (by omega);refine⟨b,off,e,?_⟩;rw[(Bz hb).1 _ _ hbl];exact hc i _ (by rw[Dp,List.getElem?_eq_getElem (by have:=HK.out.len;omega)];rfl)⟩
  have hkcap:=HK.out.cap;have hkmax:=HK.out.max;have HKl:Aa (n=(Hc key).length):=⟨HK.out.len⟩
  have HBd:Aa (Below w.heap.size w ((w.alloc (.cells #[] 5)).alloc (.cells #[] 5))):=⟨((Bg _ _).alloc (Av _) _).alloc (by simp) _⟩
  go_wp2
  go_loopw [5,6,7] (fun x y i wr=>∃(k:Nat) (u v:Value),k<=64/\u=x/\v=y/\i=.int .i64 k/\Aa (Own wr w.heap.size u ((Cg key).take k))/\Aa (Own wr w.heap.size v ((Ci key).take k))/\Aa (Apart u v)/\Aa (Below w.heap.size w wr)) (fun _ _ i _=>64-(intOf i).toNat)
  case atStart=>exact⟨0,_,_,by omega,rfl,rfl,rfl,HU0,HV0,HA0,HW2⟩
  case round=>
   obtain⟨k,u,v,hk,rfl,rfl,rfl,HU,HV,HAp,HB⟩:=hrel;have hsz:=HB.out.size
   by_cases hk64:k<64
   .have HEu:∀y:Nat,(Co key).getD k 0=y->Aa ((Cg key).take k++[y ^^^ 54]=(Cg key).take (k+1)):=fun y hy=>⟨by
     rw[Cu (Cg key) k (by rw[Ef];exact hk64)]
     congr 1
     unfold Cg masked;rw[Dp,List.getElem?_map,<-hy,Dp,List.getElem?_eq_getElem (by rw[Cr];exact hk64)];rfl⟩
    have HEv:∀y:Nat,(Co key).getD k 0=y->Aa ((Ci key).take k++[y ^^^ 92]=(Ci key).take (k+1)):=fun y hy=>⟨by
     rw[Cu (Ci key) k (by rw[Ed];exact hk64)]
     congr 1
     unfold Ci masked;rw[Dp,List.getElem?_map,<-hy,Dp,List.getElem?_eq_getElem (by rw[Cr];exact hk64)];rfl⟩
    have hli:((Cg key).take k).length<=64:=by simp;omega
    have hlo:((Ci key).take k).length<=64:=by simp;omega
    by_cases hkn:k<n
    .obtain⟨b,off,hpe,hcell⟩:=HRd.out wr HB.out k hkn;obtain⟨y,hy⟩:∃y,(Hc key).getD k 0=y:=⟨_,rfl⟩
     have hyb:(Co key).getD k 0=y:=by
      unfold Co;rw[<-hy,Dp,List.getElem?_append_left (by have:=HKl.out;omega),Dp]
     have hy8:y<256:=by rw[<-hyb];exact HK8.out.get k
     have HEu:=HEu y hyb;have HEv:=HEv y hyb;rw[hy]at hcell
     obtain⟨a1,ha1⟩:∃a,y ^^^ 54=a:=⟨_,rfl⟩
     obtain⟨a2,ha2⟩:∃a,y ^^^ 92=a:=⟨_,rfl⟩
     have F1:bits BinOp.xor IntKind.u8 (y:Int) 54=(a1:Int):=by rw[<-ha1];exact u8_xor_nat y 54 hy8 (by omega)
     have F2:bits BinOp.xor IntKind.u8 (y:Int) 92=(a2:Int):=by rw[<-ha2];exact u8_xor_nat y 92 hy8 (by omega)
     rw[ha1]at HEu
     rw[ha2]at HEv
     clear hy hyb ha1 ha2;subst hpe;have hb6:Below wr.heap.size wr (wr.alloc (.cells #[.int .u8 a1] 5)):=Bw;have HU3:Aa (Own (wr.alloc (.cells #[.int .u8 a1] 5)) w.heap.size u ((Cg key).take k)):=⟨HU.out.belowS hb6⟩
     have HV3:Aa (Own (wr.alloc (.cells #[.int .u8 a1] 5)) w.heap.size v ((Ci key).take k)):=⟨HV.out.belowS hb6⟩
     have hrow:Aa (Bd (wr.alloc (.cells #[.int .u8 a1] 5)) .u8 (some ⟨wr.heap.size,0,none⟩) 1 1 [a1]):=⟨Dz wr [a1] (show 1<=9223372036854775807 by decide)⟩
     have hsz6:w.heap.size<=(wr.alloc (.cells #[.int .u8 a1] 5)).heap.size:=Dx hsz hb6.size;have HB6:Aa (Below w.heap.size w (wr.alloc (.cells #[.int .u8 a1] 5))):=⟨Bo HB.out hb6⟩
     have hmx:Aa (((Cg key).take k).length+1<=140737488355328):=⟨by simp;omega⟩
     have hmy:Aa (((Ci key).take k).length+1<=140737488355328):=⟨by simp;omega⟩
     clear hb6
     go_wp2_with (at_builtin;refine Eb rfl _ _ rfl rfl HU3.out rfl hrow.out (fun h=>by cases h) hmx.out hsz6 ?_;intro u3 w6 ho3 hg3 hmv3;refine Dc.out ?_)
     refine⟨?_⟩;rw[HEu.out]at ho3
     have HV4:=Ab (HV3.out.grown hg3 HAp.out);have HAp4:=Ab (HAp.out.moved hmv3 HV3.out);have HB7:=Ab (HB6.out.trans (grown_below hg3 hsz6 HU3.out.ge));have HU4:=Ab ho3;clear ho3 hg3 hmv3 HU3 HV3 hrow hsz6 HB6;have hsz7:=HB7.out.size;have hb8:Below w6.heap.size w6 (w6.alloc (.cells #[.int .u8 a2] 5)):=Bw;have HU5:Aa (Own (w6.alloc (.cells #[.int .u8 a2] 5)) w.heap.size u3 ((Cg key).take (k+1))):=⟨HU4.out.belowS hb8⟩
     have HV5:Aa (Own (w6.alloc (.cells #[.int .u8 a2] 5)) w.heap.size v ((Ci key).take k)):=⟨HV4.out.belowS hb8⟩
     have hrow:Aa (Bd (w6.alloc (.cells #[.int .u8 a2] 5)) .u8 (some ⟨w6.heap.size,0,none⟩) 1 1 [a2]):=⟨Dz w6 [a2] (show 1<=9223372036854775807 by decide)⟩
     have hsz8:w.heap.size<=(w6.alloc (.cells #[.int .u8 a2] 5)).heap.size:=Dx hsz7 hb8.size;have HB8:Aa (Below w.heap.size w (w6.alloc (.cells #[.int .u8 a2] 5))):=⟨Bo HB7.out hb8⟩
     clear hb8 HU4 HV4 HB7
     go_wp2_with (at_builtin;refine Eb rfl _ _ rfl rfl HV5.out rfl hrow.out (fun h=>by cases h) hmy.out hsz8 ?_;intro v3 w9 ho3 hg3 hmv3;refine Dc.out ?_)
     refine⟨?_⟩;rw[HEv.out]at ho3
     have HU9:=Ab (HU5.out.grown hg3 HAp4.out.symm);have HAp9:=Ab ((HAp4.out.symm.moved hmv3 HU5.out).symm);have HB9:=Ab (HB8.out.trans (grown_below hg3 hsz8 HV5.out.ge));have HV9:=Ab ho3;clear ho3 hg3 hmv3 HU5 HV5 hrow hsz8 HB8;go_wp2;go_roundw
     case rel=>exact⟨k+1,_,_,by omega,rfl,rfl,by go_num,HU9,HV9,HAp9,HB9⟩
     case measure=>simp[intOf];omega
    .have hyb:(Co key).getD k 0=0:=by
      unfold Co;rw[Dp,List.getElem?_append_right (by have:=HKl.out;omega),List.getElem?_replicate];split<;>rfl
     have HEu:Aa ((Cg key).take k++[54]=(Cg key).take (k+1)):=HEu 0 hyb;have HEv:Aa ((Ci key).take k++[92]=(Ci key).take (k+1)):=HEv 0 hyb;have F1:bits BinOp.xor IntKind.u8 0 54=54:=by decide
     have F2:bits BinOp.xor IntKind.u8 0 92=92:=by decide
     clear hyb;have hb6:Below wr.heap.size wr (wr.alloc (.cells #[.int .u8 54] 5)):=Bw;have HU3:Aa (Own (wr.alloc (.cells #[.int .u8 54] 5)) w.heap.size u ((Cg key).take k)):=⟨HU.out.belowS hb6⟩
     have HV3:Aa (Own (wr.alloc (.cells #[.int .u8 54] 5)) w.heap.size v ((Ci key).take k)):=⟨HV.out.belowS hb6⟩
     have hrow:Aa (Bd (wr.alloc (.cells #[.int .u8 54] 5)) .u8 (some ⟨wr.heap.size,0,none⟩) 1 1 [54]):=⟨Dz wr [54] (show 1<=9223372036854775807 by decide)⟩
     have hsz6:w.heap.size<=(wr.alloc (.cells #[.int .u8 54] 5)).heap.size:=Dx hsz hb6.size;have HB6:Aa (Below w.heap.size w (wr.alloc (.cells #[.int .u8 54] 5))):=⟨Bo HB.out hb6⟩
     have hmx:Aa (((Cg key).take k).length+1<=140737488355328):=⟨by simp;omega⟩
     have hmy:Aa (((Ci key).take k).length+1<=140737488355328):=⟨by simp;omega⟩
     clear hb6
     go_wp2_with (at_builtin;refine Eb rfl _ _ rfl rfl HU3.out rfl hrow.out (fun h=>by cases h) hmx.out hsz6 ?_;intro u3 w6 ho3 hg3 hmv3;refine Dc.out ?_)
     refine⟨?_⟩;rw[HEu.out]at ho3
     have HV4:=Ab (HV3.out.grown hg3 HAp.out);have HAp4:=Ab (HAp.out.moved hmv3 HV3.out);have HB7:=Ab (HB6.out.trans (grown_below hg3 hsz6 HU3.out.ge));have HU4:=Ab ho3;clear ho3 hg3 hmv3 HU3 HV3 hrow hsz6 HB6;have hsz7:=HB7.out.size;have hb8:Below w6.heap.size w6 (w6.alloc (.cells #[.int .u8 92] 5)):=Bw;have HU5:Aa (Own (w6.alloc (.cells #[.int .u8 92] 5)) w.heap.size u3 ((Cg key).take (k+1))):=⟨HU4.out.belowS hb8⟩
     have HV5:Aa (Own (w6.alloc (.cells #[.int .u8 92] 5)) w.heap.size v ((Ci key).take k)):=⟨HV4.out.belowS hb8⟩
     have hrow:Aa (Bd (w6.alloc (.cells #[.int .u8 92] 5)) .u8 (some ⟨w6.heap.size,0,none⟩) 1 1 [92]):=⟨Dz w6 [92] (show 1<=9223372036854775807 by decide)⟩
     have hsz8:w.heap.size<=(w6.alloc (.cells #[.int .u8 92] 5)).heap.size:=Dx hsz7 hb8.size;have HB8:Aa (Below w.heap.size w (w6.alloc (.cells #[.int .u8 92] 5))):=⟨Bo HB7.out hb8⟩
     clear hb8 HU4 HV4 HB7
     go_wp2_with (at_builtin;refine Eb rfl _ _ rfl rfl HV5.out rfl hrow.out (fun h=>by cases h) hmy.out hsz8 ?_;intro v3 w9 ho3 hg3 hmv3;refine Dc.out ?_)
     refine⟨?_⟩;rw[HEv.out]at ho3
     have HU9:=Ab (HU5.out.grown hg3 HAp4.out.symm);have HAp9:=Ab ((HAp4.out.symm.moved hmv3 HU5.out).symm);have HB9:=Ab (HB8.out.trans (grown_below hg3 hsz8 HV5.out.ge));have HV9:=Ab ho3;clear ho3 hg3 hmv3 HU5 HV5 hrow hsz8 HB8;go_wp2;go_roundw
     case rel=>exact⟨k+1,_,_,by omega,rfl,rfl,by go_num,HU9,HV9,HAp9,HB9⟩
     case measure=>simp[intOf];omega
   .obtain rfl:k=64:=by omega
    have hiT:(Cg key).take 64=Cg key:=List.take_of_length_le (by rw[Ef];exact Av _);have hoT:(Ci key).take 64=Ci key:=List.take_of_length_le (by rw[Ed];exact Av _);rw[hiT]at HU
    rw[hoT]at HV
    obtain⟨pu,cu,rfl,ru,_,zu,_⟩:=HU.out.elim;obtain⟨pv,cv,rfl,rv,_,zv,_⟩:=HV.out.elim;have HPu:Aa (Aq wr ⟨pu,(Cg key).length,cu,Cg key⟩/\(pu=none->cu=0)):=⟨⟨ru,Kt H8.out⟩,zu⟩
    have HPv:Aa (Aq wr ⟨pv,(Ci key).length,cv,Ci key⟩/\(pv=none->cv=0)):=⟨⟨rv,Kn H8.out⟩,zv⟩
    have HBw:Aa (Below w.heap.size w wr):=⟨HW.out.trans (HB.out.mono HW.out.size)⟩
    clear hiT hoT HU HV ru rv zu zv HB;have HXb:=HX.out.below HBw.out;have HP1:=Ab (Xt wr ⟨pu,(Cg key).length,cu,Cg key⟩ ⟨pb,nb,cb,xb⟩ HPu.out.1 HXb);have hba:Below wr.heap.size wr (wr.alloc (.cells #[.slice pu (Cg key).length cu,.slice pb nb cb] 60)):=Bw
    go_wp2_with fail
    refine(Hd _ _ _ _ _ HP1.out (fun P hP=>by
     rcases List.mem_cons.1 hP with rfl|hP
     .exact HPu.out.2
     .obtain rfl:=List.mem_singleton.1 hP;exact HZb.out) (by rw[whole2];simp[Ef];have:=HX.out.row.len;dsimp only at this;omega)).mono ?_
    rintro e w5 ⟨v5,rfl,ho5,hb5⟩;rw[whole2]at ho5
    have H85:Ay (Cg key++xb):=fun x hx=>by
     rcases List.mem_append.1 hx with h|h
     .exact Kt H8.out x h
     .exact HX.out.bytes x h
    have hl5:(Cg key++xb).length<=10000:=by rw[List.length_append,Ef];have:=HX.out.row.len;dsimp only at this;omega
    obtain⟨Y5,hY5⟩:∃Y,Cg key++xb=Y:=⟨_,rfl⟩
    dsimp only at ho5
    rw[hY5]at ho5 H85 hl5
    have HY5:Aa (Cg key++xb=Y5):=⟨hY5⟩
    obtain⟨p5,c5,_,r5,n5,z5,_⟩:=ho5;have hb15:=Bo hba hb5;clear hY5 n5
    go_wp2_with fail
    refine(Fl w5 p5 _ c5 Y5 r5 H85 z5 (by omega)).mono ?_;rintro e w6 ⟨v6,rfl,ho6,hb6⟩;obtain⟨p6,c6,_,r6,n6,z6,_⟩:=ho6;have hb16:=Bo hb15 hb6;have HP2:=Ab (Xt w6 ⟨pv,(Ci key).length,cv,Ci key⟩ ⟨p6,(Hy Y5).length,c6,Hy Y5⟩ (HPv.out.1.below hb16) ⟨r6,Ev _⟩);have hba6:Below w6.heap.size w6 (w6.alloc (.cells #[.slice pv (Ci key).length cv,.slice p6 (Hy Y5).length c6] 60)):=Bw;clear n6
    go_wp2_with fail
    refine(Hd _ _ _ _ _ HP2.out (fun P hP=>by
     rcases List.mem_cons.1 hP with rfl|hP
     .exact HPv.out.2
     .obtain rfl:=List.mem_singleton.1 hP;exact z6) (by rw[whole2];simp[Ed,Cb])).mono ?_
    rintro e w7 ⟨v7,rfl,ho7,hb7⟩;rw[whole2]at ho7
    have H87:Ay (Ci key++Hy Y5):=fun x hx=>by
     rcases List.mem_append.1 hx with h|h
     .exact Kn H8.out x h
     .exact Ev _ x h
    have hl7:(Ci key++Hy Y5).length<=10000:=by rw[List.length_append,Ed,Cb];omega
    obtain⟨Y7,hY7⟩:∃Y,Ci key++Hy Y5=Y:=⟨_,rfl⟩
    dsimp only at ho7
    rw[hY7]at ho7 H87 hl7
    have HY7:Aa (Jn key xb=Hy Y7):=⟨by rw[<-hY7,<-HY5.out];rfl⟩
    obtain⟨p7,c7,_,r7,n7,z7,_⟩:=ho7;have hbw7:=Bo HBw.out (Bo hb16 (Bo hba6 hb7));clear hY7 n7
    go_wp2_with fail
    refine(Fl w7 p7 _ c7 _ r7 H87 z7 (by omega)).mono ?_;rintro e w8 ⟨v8,rfl,ho8,hb8⟩;rw[<-HY7.out]at ho8
    go_wp2;go_ret;refine⟨v8,rfl,?_,Bo hbw7 hb8⟩
    cases ho8 with
    | of p8 c8 _ h8 hn8 hz8 hp8=>exact .of p8 c8 w8 h8 (hn8.mono hbw7.size) hz8 hp8
 .have hkk:Hc key=Hy key:=by unfold Hc;rw[if_pos (by have:=hr.len;omega)]
  have hn64':(64:Int)<n:=by omega
  go_enter Tryz.func150,Tryz.ntmps150
  go_wp2_with fail
  refine(Fl w p n c key hr h8 hz (by omega)).mono ?_;rintro e w1 ⟨v1,rfl,ho1,hb1⟩;obtain⟨p1,c1,_,r1,n1,z1,_⟩:=ho1;rw[Cb]at r1 ⊢
  have HK:Aa (Bd w1 .u8 p1 32 c1 (Hc key)):=⟨by rw[hkk];exact r1⟩
  have HW:Aa (Below w.heap.size w w1):=⟨hb1⟩
  clear hr h8 hX hzb hkk hz r1 n1 z1 hb1;have HW2:Aa (Below w1.heap.size w1 ((w1.alloc (.cells #[] 5)).alloc (.cells #[] 5))):=⟨((Bg _ _).alloc (Av _) _).alloc (by simp) _⟩
  have HU0:Aa (Own ((w1.alloc (.cells #[] 5)).alloc (.cells #[] 5)) w1.heap.size (.slice (some ⟨w1.heap.size,0,none⟩) 0 0) ((Cg key).take 0)):=⟨((Own.lit w1 [] (by decide)).belowS ((Bg _ _).alloc (Av _) _))⟩
  have HV0:Aa (Own ((w1.alloc (.cells #[] 5)).alloc (.cells #[] 5)) w1.heap.size (.slice (some ⟨w1.heap.size+1,0,none⟩) 0 0) ((Ci key).take 0)):=⟨by
   have h:=Own.lit (w1.alloc (.cells #[] 5)) [] (by decide);rw[show (w1.alloc (.cells #[] 5)).heap.size=w1.heap.size+1 by simp]at h
   exact h.mono (Nat.le_succ _)⟩
  have HA0:Aa (Apart (.slice (some ⟨w1.heap.size,0,none⟩) 0 0) (.slice (some ⟨w1.heap.size+1,0,none⟩) 0 0)):=⟨⟨fun g hg e=>by
   simp[Value.ownBlock]at hg e
   omega⟩⟩
  have HRd:Aa (∀w',Below w1.heap.size w1 w'->∀i,i<32->∃b off,p1=some ⟨b,off,none⟩/\w'.cell? ⟨b,off+i,none⟩=some (.int .u8 ((Hc key).getD i 0:Nat))):=⟨fun w' hb i hi=>by
   obtain⟨b,off,e,hbl,hc⟩:=(HK.out.row (by omega)).pos (by omega);refine⟨b,off,e,?_⟩;rw[(Bz hb).1 _ _ hbl];exact hc i _ (by rw[Dp,List.getElem?_eq_getElem (by have:=HK.out.len;omega)];rfl)⟩
  have hkcap:=HK.out.cap;have hkmax:=HK.out.max;have HKl:Aa (32=(Hc key).length):=⟨HK.out.len⟩
  have HBd:Aa (Below w1.heap.size w1 ((w1.alloc (.cells #[] 5)).alloc (.cells #[] 5))):=⟨((Bg _ _).alloc (Av _) _).alloc (by simp) _⟩
  go_wp2
  go_loopw [5,6,7] (fun x y i wr=>∃(k:Nat) (u v:Value),k<=64/\u=x/\v=y/\i=.int .i64 k/\Aa (Own wr w1.heap.size u ((Cg key).take k))/\Aa (Own wr w1.heap.size v ((Ci key).take k))/\Aa (Apart u v)/\Aa (Below w1.heap.size w1 wr)) (fun _ _ i _=>64-(intOf i).toNat)
  case atStart=>exact⟨0,_,_,by omega,rfl,rfl,rfl,HU0,HV0,HA0,HW2⟩
  case round=>
   obtain⟨k,u,v,hk,rfl,rfl,rfl,HU,HV,HAp,HB⟩:=hrel;have hsz:=HB.out.size
   by_cases hk64:k<64
   .have HEu:∀y:Nat,(Co key).getD k 0=y->Aa ((Cg key).take k++[y ^^^ 54]=(Cg key).take (k+1)):=fun y hy=>⟨by
     rw[Cu (Cg key) k (by rw[Ef];exact hk64)]
     congr 1
     unfold Cg masked;rw[Dp,List.getElem?_map,<-hy,Dp,List.getElem?_eq_getElem (by rw[Cr];exact hk64)];rfl⟩
    have HEv:∀y:Nat,(Co key).getD k 0=y->Aa ((Ci key).take k++[y ^^^ 92]=(Ci key).take (k+1)):=fun y hy=>⟨by
     rw[Cu (Ci key) k (by rw[Ed];exact hk64)]
     congr 1
     unfold Ci masked;rw[Dp,List.getElem?_map,<-hy,Dp,List.getElem?_eq_getElem (by rw[Cr];exact hk64)];rfl⟩
    have hli:((Cg key).take k).length<=64:=by simp;omega
    have hlo:((Ci key).take k).length<=64:=by simp;omega
    by_cases hkn:k<32
    .obtain⟨b,off,hpe,hcell⟩:=HRd.out wr HB.out k hkn;obtain⟨y,hy⟩:∃y,(Hc key).getD k 0=y:=⟨_,rfl⟩
     have hyb:(Co key).getD k 0=y:=by
      unfold Co;rw[<-hy,Dp,List.getElem?_append_left (by have:=HKl.out;omega),Dp]
     have hy8:y<256:=by rw[<-hyb];exact HK8.out.get k
     have HEu:=HEu y hyb;have HEv:=HEv y hyb;rw[hy]at hcell
     obtain⟨a1,ha1⟩:∃a,y ^^^ 54=a:=⟨_,rfl⟩
     obtain⟨a2,ha2⟩:∃a,y ^^^ 92=a:=⟨_,rfl⟩
     have F1:bits BinOp.xor IntKind.u8 (y:Int) 54=(a1:Int):=by rw[<-ha1];exact u8_xor_nat y 54 hy8 (by omega)
     have F2:bits BinOp.xor IntKind.u8 (y:Int) 92=(a2:Int):=by rw[<-ha2];exact u8_xor_nat y 92 hy8 (by omega)
     rw[ha1]at HEu
     rw[ha2]at HEv
     clear hy hyb ha1 ha2;subst hpe;have hb6:Below wr.heap.size wr (wr.alloc (.cells #[.int .u8 a1] 5)):=Bw;have HU3:Aa (Own (wr.alloc (.cells #[.int .u8 a1] 5)) w1.heap.size u ((Cg key).take k)):=⟨HU.out.belowS hb6⟩
     have HV3:Aa (Own (wr.alloc (.cells #[.int .u8 a1] 5)) w1.heap.size v ((Ci key).take k)):=⟨HV.out.belowS hb6⟩
     have hrow:Aa (Bd (wr.alloc (.cells #[.int .u8 a1] 5)) .u8 (some ⟨wr.heap.size,0,none⟩) 1 1 [a1]):=⟨Dz wr [a1] (show 1<=9223372036854775807 by decide)⟩
     have hsz6:w1.heap.size<=(wr.alloc (.cells #[.int .u8 a1] 5)).heap.size:=Dx hsz hb6.size;have HB6:Aa (Below w1.heap.size w1 (wr.alloc (.cells #[.int .u8 a1] 5))):=⟨Bo HB.out hb6⟩
     have hmx:Aa (((Cg key).take k).length+1<=140737488355328):=⟨by simp;omega⟩
     have hmy:Aa (((Ci key).take k).length+1<=140737488355328):=⟨by simp;omega⟩
     clear hb6
     go_wp2_with (at_builtin;refine Eb rfl _ _ rfl rfl HU3.out rfl hrow.out (fun h=>by cases h) hmx.out hsz6 ?_;intro u3 w6 ho3 hg3 hmv3;refine Dc.out ?_)
     refine⟨?_⟩;rw[HEu.out]at ho3
     have HV4:=Ab (HV3.out.grown hg3 HAp.out);have HAp4:=Ab (HAp.out.moved hmv3 HV3.out);have HB7:=Ab (HB6.out.trans (grown_below hg3 hsz6 HU3.out.ge));have HU4:=Ab ho3;clear ho3 hg3 hmv3 HU3 HV3 hrow hsz6 HB6;have hsz7:=HB7.out.size;have hb8:Below w6.heap.size w6 (w6.alloc (.cells #[.int .u8 a2] 5)):=Bw;have HU5:Aa (Own (w6.alloc (.cells #[.int .u8 a2] 5)) w1.heap.size u3 ((Cg key).take (k+1))):=⟨HU4.out.belowS hb8⟩
     have HV5:Aa (Own (w6.alloc (.cells #[.int .u8 a2] 5)) w1.heap.size v ((Ci key).take k)):=⟨HV4.out.belowS hb8⟩
     have hrow:Aa (Bd (w6.alloc (.cells #[.int .u8 a2] 5)) .u8 (some ⟨w6.heap.size,0,none⟩) 1 1 [a2]):=⟨Dz w6 [a2] (show 1<=9223372036854775807 by decide)⟩
     have hsz8:w1.heap.size<=(w6.alloc (.cells #[.int .u8 a2] 5)).heap.size:=Dx hsz7 hb8.size;have HB8:Aa (Below w1.heap.size w1 (w6.alloc (.cells #[.int .u8 a2] 5))):=⟨Bo HB7.out hb8⟩
     clear hb8 HU4 HV4 HB7
     go_wp2_with (at_builtin;refine Eb rfl _ _ rfl rfl HV5.out rfl hrow.out (fun h=>by cases h) hmy.out hsz8 ?_;intro v3 w9 ho3 hg3 hmv3;refine Dc.out ?_)
     refine⟨?_⟩;rw[HEv.out]at ho3
     have HU9:=Ab (HU5.out.grown hg3 HAp4.out.symm);have HAp9:=Ab ((HAp4.out.symm.moved hmv3 HU5.out).symm);have HB9:=Ab (HB8.out.trans (grown_below hg3 hsz8 HV5.out.ge));have HV9:=Ab ho3;clear ho3 hg3 hmv3 HU5 HV5 hrow hsz8 HB8;go_wp2;go_roundw
     case rel=>exact⟨k+1,_,_,by omega,rfl,rfl,by go_num,HU9,HV9,HAp9,HB9⟩
     case measure=>simp[intOf];omega
    .have hyb:(Co key).getD k 0=0:=by
      unfold Co;rw[Dp,List.getElem?_append_right (by have:=HKl.out;omega),List.getElem?_replicate];split<;>rfl
     have HEu:Aa ((Cg key).take k++[54]=(Cg key).take (k+1)):=HEu 0 hyb;have HEv:Aa ((Ci key).take k++[92]=(Ci key).take (k+1)):=HEv 0 hyb;have F1:bits BinOp.xor IntKind.u8 0 54=54:=by decide
     have F2:bits BinOp.xor IntKind.u8 0 92=92:=by decide
     clear hyb;have hb6:Below wr.heap.size wr (wr.alloc (.cells #[.int .u8 54] 5)):=Bw;have HU3:Aa (Own (wr.alloc (.cells #[.int .u8 54] 5)) w1.heap.size u ((Cg key).take k)):=⟨HU.out.belowS hb6⟩
     have HV3:Aa (Own (wr.alloc (.cells #[.int .u8 54] 5)) w1.heap.size v ((Ci key).take k)):=⟨HV.out.belowS hb6⟩
     have hrow:Aa (Bd (wr.alloc (.cells #[.int .u8 54] 5)) .u8 (some ⟨wr.heap.size,0,none⟩) 1 1 [54]):=⟨Dz wr [54] (show 1<=9223372036854775807 by decide)⟩
     have hsz6:w1.heap.size<=(wr.alloc (.cells #[.int .u8 54] 5)).heap.size:=Dx hsz hb6.size;have HB6:Aa (Below w1.heap.size w1 (wr.alloc (.cells #[.int .u8 54] 5))):=⟨Bo HB.out hb6⟩
     have hmx:Aa (((Cg key).take k).length+1<=140737488355328):=⟨by simp;omega⟩
     have hmy:Aa (((Ci key).take k).length+1<=140737488355328):=⟨by simp;omega⟩
     clear hb6
     go_wp2_with (at_builtin;refine Eb rfl _ _ rfl rfl HU3.out rfl hrow.out (fun h=>by cases h) hmx.out hsz6 ?_;intro u3 w6 ho3 hg3 hmv3;refine Dc.out ?_)
     refine⟨?_⟩;rw[HEu.out]at ho3
     have HV4:=Ab (HV3.out.grown hg3 HAp.out);have HAp4:=Ab (HAp.out.moved hmv3 HV3.out);have HB7:=Ab (HB6.out.trans (grown_below hg3 hsz6 HU3.out.ge));have HU4:=Ab ho3;clear ho3 hg3 hmv3 HU3 HV3 hrow hsz6 HB6;have hsz7:=HB7.out.size;have hb8:Below w6.heap.size w6 (w6.alloc (.cells #[.int .u8 92] 5)):=Bw;have HU5:Aa (Own (w6.alloc (.cells #[.int .u8 92] 5)) w1.heap.size u3 ((Cg key).take (k+1))):=⟨HU4.out.belowS hb8⟩
     have HV5:Aa (Own (w6.alloc (.cells #[.int .u8 92] 5)) w1.heap.size v ((Ci key).take k)):=⟨HV4.out.belowS hb8⟩
     have hrow:Aa (Bd (w6.alloc (.cells #[.int .u8 92] 5)) .u8 (some ⟨w6.heap.size,0,none⟩) 1 1 [92]):=⟨Dz w6 [92] (show 1<=9223372036854775807 by decide)⟩
     have hsz8:w1.heap.size<=(w6.alloc (.cells #[.int .u8 92] 5)).heap.size:=Dx hsz7 hb8.size;have HB8:Aa (Below w1.heap.size w1 (w6.alloc (.cells #[.int .u8 92] 5))):=⟨Bo HB7.out hb8⟩
     clear hb8 HU4 HV4 HB7
     go_wp2_with (at_builtin;refine Eb rfl _ _ rfl rfl HV5.out rfl hrow.out (fun h=>by cases h) hmy.out hsz8 ?_;intro v3 w9 ho3 hg3 hmv3;refine Dc.out ?_)
     refine⟨?_⟩;rw[HEv.out]at ho3
     have HU9:=Ab (HU5.out.grown hg3 HAp4.out.symm);have HAp9:=Ab ((HAp4.out.symm.moved hmv3 HU5.out).symm);have HB9:=Ab (HB8.out.trans (grown_below hg3 hsz8 HV5.out.ge));have HV9:=Ab ho3;clear ho3 hg3 hmv3 HU5 HV5 hrow hsz8 HB8;go_wp2;go_roundw
     case rel=>exact⟨k+1,_,_,by omega,rfl,rfl,by go_num,HU9,HV9,HAp9,HB9⟩
     case measure=>simp[intOf];omega
   .obtain rfl:k=64:=by omega
    have hiT:(Cg key).take 64=Cg key:=List.take_of_length_le (by rw[Ef];exact Av _);have hoT:(Ci key).take 64=Ci key:=List.take_of_length_le (by rw[Ed];exact Av _);rw[hiT]at HU
    rw[hoT]at HV
    obtain⟨pu,cu,rfl,ru,_,zu,_⟩:=HU.out.elim;obtain⟨pv,cv,rfl,rv,_,zv,_⟩:=HV.out.elim;have HPu:Aa (Aq wr ⟨pu,(Cg key).length,cu,Cg key⟩/\(pu=none->cu=0)):=⟨⟨ru,Kt H8.out⟩,zu⟩
    have HPv:Aa (Aq wr ⟨pv,(Ci key).length,cv,Ci key⟩/\(pv=none->cv=0)):=⟨⟨rv,Kn H8.out⟩,zv⟩
    have HBw:Aa (Below w.heap.size w wr):=⟨HW.out.trans (HB.out.mono HW.out.size)⟩
    clear hiT hoT HU HV ru rv zu zv HB;have HXb:=HX.out.below HBw.out;have HP1:=Ab (Xt wr ⟨pu,(Cg key).length,cu,Cg key⟩ ⟨pb,nb,cb,xb⟩ HPu.out.1 HXb);have hba:Below wr.heap.size wr (wr.alloc (.cells #[.slice pu (Cg key).length cu,.slice pb nb cb] 60)):=Bw
    go_wp2_with fail
    refine(Hd _ _ _ _ _ HP1.out (fun P hP=>by
     rcases List.mem_cons.1 hP with rfl|hP
     .exact HPu.out.2
     .obtain rfl:=List.mem_singleton.1 hP;exact HZb.out) (by rw[whole2];simp[Ef];have:=HX.out.row.len;dsimp only at this;omega)).mono ?_
    rintro e w5 ⟨v5,rfl,ho5,hb5⟩;rw[whole2]at ho5
    have H85:Ay (Cg key++xb):=fun x hx=>by
     rcases List.mem_append.1 hx with h|h
     .exact Kt H8.out x h
     .exact HX.out.bytes x h
    have hl5:(Cg key++xb).length<=10000:=by rw[List.length_append,Ef];have:=HX.out.row.len;dsimp only at this;omega
    obtain⟨Y5,hY5⟩:∃Y,Cg key++xb=Y:=⟨_,rfl⟩
    dsimp only at ho5
    rw[hY5]at ho5 H85 hl5
    have HY5:Aa (Cg key++xb=Y5):=⟨hY5⟩
    obtain⟨p5,c5,_,r5,n5,z5,_⟩:=ho5;have hb15:=Bo hba hb5;clear hY5 n5
    go_wp2_with fail
    refine(Fl w5 p5 _ c5 Y5 r5 H85 z5 (by omega)).mono ?_;rintro e w6 ⟨v6,rfl,ho6,hb6⟩;obtain⟨p6,c6,_,r6,n6,z6,_⟩:=ho6;have hb16:=Bo hb15 hb6;have HP2:=Ab (Xt w6 ⟨pv,(Ci key).length,cv,Ci key⟩ ⟨p6,(Hy Y5).length,c6,Hy Y5⟩ (HPv.out.1.below hb16) ⟨r6,Ev _⟩);have hba6:Below w6.heap.size w6 (w6.alloc (.cells #[.slice pv (Ci key).length cv,.slice p6 (Hy Y5).length c6] 60)):=Bw;clear n6
    go_wp2_with fail
    refine(Hd _ _ _ _ _ HP2.out (fun P hP=>by
     rcases List.mem_cons.1 hP with rfl|hP
     .exact HPv.out.2
     .obtain rfl:=List.mem_singleton.1 hP;exact z6) (by rw[whole2];simp[Ed,Cb])).mono ?_
    rintro e w7 ⟨v7,rfl,ho7,hb7⟩;rw[whole2]at ho7
    have H87:Ay (Ci key++Hy Y5):=fun x hx=>by
     rcases List.mem_append.1 hx with h|h
     .exact Kn H8.out x h
     .exact Ev _ x h
    have hl7:(Ci key++Hy Y5).length<=10000:=by rw[List.length_append,Ed,Cb];omega
    obtain⟨Y7,hY7⟩:∃Y,Ci key++Hy Y5=Y:=⟨_,rfl⟩
    dsimp only at ho7
    rw[hY7]at ho7 H87 hl7
    have HY7:Aa (Jn key xb=Hy Y7):=⟨by rw[<-hY7,<-HY5.out];rfl⟩
    obtain⟨p7,c7,_,r7,n7,z7,_⟩:=ho7;have hbw7:=Bo HBw.out (Bo hb16 (Bo hba6 hb7));clear hY7 n7
    go_wp2_with fail
    refine(Fl w7 p7 _ c7 _ r7 H87 z7 (by omega)).mono ?_;rintro e w8 ⟨v8,rfl,ho8,hb8⟩;rw[<-HY7.out]at ho8
    go_wp2;go_ret;refine⟨v8,rfl,?_,Bo hbw7 hb8⟩
    cases ho8 with
    | of p8 c8 _ h8 hn8 hz8 hp8=>exact .of p8 c8 w8 h8 (hn8.mono hbw7.size) hz8 hp8
end Go.Proofs.YthgoeiegdhphjaaGreatDoor
