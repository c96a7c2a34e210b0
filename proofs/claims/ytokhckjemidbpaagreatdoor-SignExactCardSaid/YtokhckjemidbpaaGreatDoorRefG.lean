/- The document's tag. -/
import Derived.Test.YtokhckjemidbpaaGreatDoorRefS
import Derived.Laws.BitsAllLaws
set_option maxRecDepth 1000000
set_option maxHeartbeats 16000000
set_option linter.all false
namespace Go.Proofs.YtokhckjemidbpaaGreatDoor
open Go Go.RowKit
def Kd (L:List Part):Prop:=∀P∈L,P.p=none->P.c=0
open Go Go.RowKit Go.Proofs.YtokhckjemidbpaaGreatDoor.Flow
def mW (w:World)(v v':Value):Prop:=v'.ownBlock=v.ownBlock ∨ ∀g,v'.ownBlock=some g->w.heap.size<=g
theorem jV {w:World}{B:Nat}{v:Value}{xs:List Nat}(h:Own w B v xs){p:Option Addr}{m c:Nat}{bs:List Nat}(hr:Bd w .u8 p m c bs)(hn:p=none->c=0)(hmax:xs.length+m<=140737488355328)(hB:B<=w.heap.size)(ty:TypeId) :
  ∃v' w',(Builtin.append_ #[23, 23] ty #[v,.slice p m c]).run Tryz.prog w=.ok v' w'/\Own w' B v' (xs++bs)/\w.grownBy w' v.ownBlock/\mW w v v':=by
 obtain⟨v',w',h1,h2,h3⟩:=eH h hr hn hmax hB ty;refine⟨v',w',h1,h2,h3,?_⟩;obtain⟨i,hi,hz,hs,hb⟩:=info_parts Tryz.info_u8;have hl:=hr.len;have hmx:xs.length+m<=maxLen:=by simp only[maxLen];omega
 cases p with
 | none=>
  obtain rfl:=hn rfl;have hc:=hr.cap;obtain rfl:m=0:=by omega
  have h4:=run_append_owned_none (P:=Tryz.prog) w B 23 ty 5 i 1 Tryz.underlying23 hi v xs.length _ h.owns;rw[h1]at h4
  injection h4 with h5 _
  exact .inl (by rw[h5])
 | some a=>
  have hcell:∀j u,(bs.map fun(x:Nat)=>Value.int .u8 (x:Int))[j]? = some u->w.cell? (a.add j)=some u:=fun j u hu=>by
   rw[List.getElem?_map]at hu
   obtain⟨x,hx,rfl⟩:=Option.map_eq_some_iff.1 hu;have h0:0<m:=by have:=(List.getElem?_eq_some_iff.1 hx).1;omega
   obtain⟨b,off,e,h2,h3⟩:=(hr.row h0).pos h0;cases e;rw[add_plain];exact h3 j x hx
  have hone:∀u∈(bs.map fun(x:Nat)=>Value.int .u8 (x:Int)),u.oneCell'=true:=fun u hu=>by obtain⟨x,_,rfl⟩:=List.mem_map.1 hu;rfl
  rcases h.owns.2 with ⟨rfl,h0⟩|⟨g,cap,cur,rfl,hbg,hg,hnc,hcm,hcs,ht⟩
  .obtain⟨v2,w2,k1,k2,_,_⟩:=run_append_own (P:=Tryz.prog) w w.heap.size 23 ty 5 i (.int .u8 0) 1 1 Tryz.underlying23 hi hz hs hb rfl (by decide) (.slice none 0 0) 0 [] (World.ownsRow_nil w _ _ _) a m c (bs.map fun(x:Nat)=>Value.int .u8 (x:Int)) (by simp[hl]) hcell hone (by omega) (by omega) (As _);rw[h1]at k1
   injection k1 with k3 k4
   subst k3;refine .inr fun g hg=>?_
   rcases k2.2 with ⟨e,_⟩|⟨g',cap,cur,e,hb',_⟩
   .rw[e]at hg;cases hg
   .rw[e]at hg
    obtain rfl:g'=g:=by simpa [Value.ownBlock]using hg
    exact hb'
  .by_cases hroom:xs.length+m<=cap
   .have hsz:i.size=1:=hs;have hfit:xs.length*i.size+(bs.map fun(x:Nat)=>Value.int .u8 (x:Int)).length<=cur.size:=by rw[hsz,hcs,List.length_map];omega
    have k1:=run_append_room (P:=Tryz.prog) w 23 ty 5 i Tryz.underlying23 hi g xs.length cap cur hg a m c (bs.map fun(x:Nat)=>Value.int .u8 (x:Int)) (by rw[hsz];simp[hl]) hcell hone hroom hfit;rw[h1]at k1
    injection k1 with k2 _
    exact .inl (by rw[k2];rfl)
   .obtain⟨v2,w2,k1,k2,_⟩:=run_append_arg_grows (P:=Tryz.prog) w 23 ty 5 i (.int .u8 0) 1 1 Tryz.underlying23 hi hz hs hb rfl (by decide) ⟨g,0,none⟩ xs.length cap (xs.map fun(x:Nat)=>Value.int .u8 (x:Int)) (by simp)
     (fun j u hu=>World.ownsRow.cells h.owns rfl j u hu) a m c (bs.map fun(x:Nat)=>Value.int .u8 (x:Int)) (by simp[hl]) hcell (by omega) hmx (by omega)
    rw[h1]at k1
    injection k1 with k3 k4
    subst k3;refine .inr fun g hg=>?_
    rcases k2.2 with ⟨e,_⟩|⟨g',cap,cur,e,hb',_⟩
    .rw[e]at hg;cases hg
    .rw[e]at hg
     obtain rfl:g'=g:=by simpa [Value.ownBlock]using hg
     exact hb'
theorem Eg {w:World}{ops:Array Oper}{rest:List Oper}{o:Oper}{a:Act}{Q:Exit->Act->World->Prop}(hgd:o.guard=none)(s x:Operand)(ho:o.op=.call { callee:=.builtin .append,args:=#[s,x],argTypes:=#[23, 23] }){B:Nat}{v:Value}{xs:List Nat}(hs:a.eval s=v)(h:Own w B v xs){p:Option Addr}{m c:Nat}{bs:List Nat}(hx:a.eval x=.slice p m c)(hr:Bd w .u8 p m c bs)(hn:p=none->c=0)(hmax:xs.length+m<=140737488355328)(hB:B<=w.heap.size)(hk:∀v' w',Own w' B v' (xs++bs)->w.grownBy w' v.ownBlock->mW w v v'->wpList Tryz.prog ops Q rest (a.put o.dst v') w'):wpList Tryz.prog ops Q (o::rest) a w:=by
 obtain⟨v',w',h1,h2,h3,h4⟩:=jV h hr hn hmax hB o.type;refine wpList_plain hgd fun K hK=>?_
 unfold Oper.wp;simp[execOp,ho,resolve,invoke,builtin,hs,hx,h1,Result.andThen];exact hK _ _ (hk v' w' h2 h3 h4)
theorem Ut (L:List Part)(k:Nat){P:Part}(hP:L[k]? = some P):(whole (L.take k)).length+P.bs.length<=(whole L).length:=by
 have h1:whole L=whole (L.take (k+1))++whole (L.drop (k+1)):=by
  unfold whole;rw[<-List.flatMap_append,List.take_append_drop]
 have h2:whole (L.take (k+1))=whole (L.take k)++P.bs:=by rw[List.take_add_one,hP];exact Kw _ _
 rw[h1,h2,List.length_append,List.length_append];omega
theorem Iz (w:World)(p:Option Addr)(n c:Nat)(L:List Part)(hL:Ck w p n c L)(hz:Kd L)(hmax:(whole L).length<=1000000) :
  Calls Tryz.prog 137 #[.slice p n c] w (Mz (whole L) w):=by
 have HP:Aa (Ck w p n c L):=⟨hL⟩
 have HZ:Aa (Kd L):=⟨hz⟩
 have hpl:Aa (n=L.length):=⟨hL.len⟩
 have HMx:Aa ((whole L).length<=1000000):=⟨hmax⟩
 have mp:=hL.max;have mcp:=hL.cap;clear hL hz hmax;have HO0:Aa (Own (w.alloc (.cells #[] 5)) w.heap.size (.slice (some ⟨w.heap.size,0,none⟩) 0 0) []):=⟨Own.lit w [] (by decide)⟩
 have HB0:Aa (Below w.heap.size w (w.alloc (.cells #[] 5))):=⟨(Bb _ _).alloc (As _) _⟩
 go_enter Tryz.func137,Tryz.ntmps137;go_wp2
 go_loopw [3,9] (fun x i wr=>∃(k:Nat) (v:Value),k<=n/\i=.int .i64 k/\v=x/\Aa (Below w.heap.size w wr)/\Aa (Own wr w.heap.size v (whole (L.take k)))) (fun _ i _=>n-(intOf i).toNat)
 case atStart=>exact⟨0,_,by omega,rfl,rfl,HB0,HO0⟩
 case round=>
  obtain⟨k,v,hk,rfl,rfl,HB,HO⟩:=hrel;have hzr:=HB.out.size
  by_cases hkn:k<n
  .obtain⟨b,off,rfl,hb,hc⟩:=HP.out.cells (by omega);obtain⟨P,hP⟩:∃P,L[k]? = some P:=⟨_,List.getElem?_eq_getElem (by have:=hpl.out;omega)⟩
   have HOK:Aa (Ax wr P):=⟨(HP.out.ok k P hP).below HB.out⟩
   have HZP:Aa (P.p=none->P.c=0):=⟨HZ.out P (List.mem_of_getElem? hP)⟩
   have hck:wr.cell? ⟨b,off+k,none⟩=some (.slice P.p P.n P.c):=by
    rw[(Ca HB.out).1 _ _ hb];exact hc k P hP
   have htk:Aa (whole (L.take (k+1))=whole (L.take k)++P.bs):=⟨by rw[List.take_add_one,hP];exact Kw _ _⟩
   have hlen:Aa ((whole (L.take k)).length+P.n<=140737488355328):=⟨by
    have h1:=Ut L k hP;have h2:=HMx.out;have h3:=HOK.out.row.len;omega⟩
   clear hc hP;obtain⟨qp,qn,qc,qb⟩:=P
   dsimp only at *
   go_wp2_with (at_builtin;refine Cc rfl _ _ rfl rfl HO.out rfl HOK.out.row HZP.out hlen.out hzr ?_;intro v1 w3 ho1 hg1;refine De.out ?_)
   refine⟨?_⟩;rw[<-htk.out]at ho1
   have HB3:=Ab (HB.out.trans (grown_below hg1 hzr HO.out.ge));have HO1:=Ab ho1;clear ho1 hg1;go_wp2;go_roundw
   case rel=>exact⟨k+1,_,by omega,by go_num,rfl,HB3,HO1⟩
   case measure=>simp[intOf];omega
  .obtain rfl:k=n:=by omega
   have HF:Aa (Own wr w.heap.size v (whole L)):=⟨by
    have h:=HO.out;rw[List.take_of_length_le (by have:=hpl.out;omega)]at h
    exact h⟩
   go_wp2;go_ret;exact⟨_,rfl,Bp.mk HF.out,HB.out⟩
structure Apart (u v:Value):Prop where
 out:∀g,u.ownBlock=some g->v.ownBlock≠some g
theorem Apart.symm {u v:Value}(h:Apart u v):Apart v u:=⟨fun g hg e=>h.out g e hg⟩
theorem Apart.moved {u u' v:Value}{w:World}{B:Nat}{xs:List Nat}(h:Apart u v)(hm:mW w u u')(hv:Own w B v xs):Apart u' v:=⟨fun g hg e=>by
 rcases hm with h1|h1
 .exact h.out g (by rw[<-h1];exact hg) e
 .have:=h1 g hg;have:=hv.lt g e;omega⟩
theorem Own.grown {w w':World}{B:Nat}{u v:Value}{xs:List Nat}(h:Own w B v xs)(hg:w.grownBy w' u.ownBlock)(ha:Apart u v):Own w' B v xs:=by
 refine⟨⟨h.owns.1,?_⟩⟩;rcases h.owns.2 with h2|⟨g,cap,cur,rfl,hbg,hgb,h3⟩
 .exact .inl h2
 .refine .inr ⟨g,cap,cur,rfl,hbg,?_,h3⟩;rw[hg.block g (Kv hgb).1 (fun e=>ha.out g e.symm rfl)];exact hgb
theorem Xg (w:World)(p:Option Addr)(n c:Nat)(key:List Nat)(pb:Option Addr)(nb cb:Nat)(xb:List Nat)(hr:Bd w .u8 p n c key)(h8:Au key)(hz:p=none->c=0)(hn:n<=1000)(hX:Ax w ⟨pb,nb,cb,xb⟩)(hzb:pb=none->cb=0)(hnb:nb<=5000) :
  Calls Tryz.prog 136 #[.slice p n c,.slice pb nb cb] w (Mz (Jz key xb) w):=by
 have H8:Aa (Au key):=⟨h8⟩
 have HX:Aa (Ax w ⟨pb,nb,cb,xb⟩):=⟨hX⟩
 have HZb:Aa (pb=none->cb=0):=⟨hzb⟩
 have HK8:Aa (Au (Ct key)):=⟨Im h8⟩
 by_cases hn64:n<=64
 .have hkk:Hl key=key:=by unfold Hl;rw[if_neg (by have:=hr.len;omega)]
  have HK:Aa (Bd w .u8 p n c (Hl key)):=⟨by rw[hkk];exact hr⟩
  have HW:Aa (Below w.heap.size w w):=⟨Bb _ _⟩
  clear hr h8 hX hzb hkk hz;go_enter Tryz.func136,Tryz.ntmps136;have HW2:Aa (Below w.heap.size w ((w.alloc (.cells #[] 5)).alloc (.cells #[] 5))):=⟨((Bb _ _).alloc (As _) _).alloc (by simp) _⟩
  have HU0:Aa (Own ((w.alloc (.cells #[] 5)).alloc (.cells #[] 5)) w.heap.size (.slice (some ⟨w.heap.size,0,none⟩) 0 0) ((Cl key).take 0)):=⟨((Own.lit w [] (by decide)).belowS ((Bb _ _).alloc (As _) _))⟩
  have HV0:Aa (Own ((w.alloc (.cells #[] 5)).alloc (.cells #[] 5)) w.heap.size (.slice (some ⟨w.heap.size+1,0,none⟩) 0 0) ((Cm key).take 0)):=⟨by
   have h:=Own.lit (w.alloc (.cells #[] 5)) [] (by decide);rw[show (w.alloc (.cells #[] 5)).heap.size=w.heap.size+1 by simp]at h
   exact h.mono (Nat.le_succ _)⟩
  have HA0:Aa (Apart (.slice (some ⟨w.heap.size,0,none⟩) 0 0) (.slice (some ⟨w.heap.size+1,0,none⟩) 0 0)):=⟨⟨fun g hg e=>by
   simp[Value.ownBlock]at hg e
   omega⟩⟩
  have HRd:Aa (∀w',Below w.heap.size w w'->∀i,i<n->∃b off,p=some ⟨b,off,none⟩/\w'.cell? ⟨b,off+i,none⟩=some (.int .u8 ((Hl key).getD i 0:Nat))):=⟨fun w' hb i hi=>by
   obtain⟨b,off,e,hbl,hc⟩:=(HK.out.row (by omega)).pos (by omega);refine⟨b,off,e,?_⟩;rw[(Ca hb).1 _ _ hbl];exact hc i _ (by rw[Du,List.getElem?_eq_getElem (by have:=HK.out.len;omega)];rfl)⟩
  have hkcap:=HK.out.cap;have hkmax:=HK.out.max;have HKl:Aa (n=(Hl key).length):=⟨HK.out.len⟩
  have HBd:Aa (Below w.heap.size w ((w.alloc (.cells #[] 5)).alloc (.cells #[] 5))):=⟨((Bb _ _).alloc (As _) _).alloc (by simp) _⟩
  go_wp2
  go_loopw [5,6,7] (fun x y i wr=>∃(k:Nat) (u v:Value),k<=64/\u=x/\v=y/\i=.int .i64 k/\Aa (Own wr w.heap.size u ((Cl key).take k))/\Aa (Own wr w.heap.size v ((Cm key).take k))/\Aa (Apart u v)/\Aa (Below w.heap.size w wr)) (fun _ _ i _=>64-(intOf i).toNat)
  case atStart=>exact⟨0,_,_,by omega,rfl,rfl,rfl,HU0,HV0,HA0,HW2⟩
  case round=>
   obtain⟨k,u,v,hk,rfl,rfl,rfl,HU,HV,HAp,HB⟩:=hrel;have hsz:=HB.out.size
   by_cases hk64:k<64
   .have HEu:∀y:Nat,(Ct key).getD k 0=y->Aa ((Cl key).take k++[y ^^^ 54]=(Cl key).take (k+1)):=fun y hy=>⟨by
     rw[Da (Cl key) k (by rw[Ek];exact hk64)]
     congr 1
     unfold Cl masked;rw[Du,List.getElem?_map,<-hy,Du,List.getElem?_eq_getElem (by rw[Cx];exact hk64)];rfl⟩
    have HEv:∀y:Nat,(Ct key).getD k 0=y->Aa ((Cm key).take k++[y ^^^ 92]=(Cm key).take (k+1)):=fun y hy=>⟨by
     rw[Da (Cm key) k (by rw[Ei];exact hk64)]
     congr 1
     unfold Cm masked;rw[Du,List.getElem?_map,<-hy,Du,List.getElem?_eq_getElem (by rw[Cx];exact hk64)];rfl⟩
    have hli:((Cl key).take k).length<=64:=by simp;omega
    have hlo:((Cm key).take k).length<=64:=by simp;omega
    by_cases hkn:k<n
    .obtain⟨b,off,hpe,hcell⟩:=HRd.out wr HB.out k hkn;obtain⟨y,hy⟩:∃y,(Hl key).getD k 0=y:=⟨_,rfl⟩
     have hyb:(Ct key).getD k 0=y:=by
      unfold Ct;rw[<-hy,Du,List.getElem?_append_left (by have:=HKl.out;omega),Du]
     have hy8:y<256:=by rw[<-hyb];exact HK8.out.get k
     have HEu:=HEu y hyb;have HEv:=HEv y hyb;rw[hy]at hcell
     obtain⟨a1,ha1⟩:∃a,y ^^^ 54=a:=⟨_,rfl⟩
     obtain⟨a2,ha2⟩:∃a,y ^^^ 92=a:=⟨_,rfl⟩
     have F1:bits BinOp.xor IntKind.u8 (y:Int) 54=(a1:Int):=by rw[<-ha1];exact u8_xor_nat y 54 hy8 (by omega)
     have F2:bits BinOp.xor IntKind.u8 (y:Int) 92=(a2:Int):=by rw[<-ha2];exact u8_xor_nat y 92 hy8 (by omega)
     rw[ha1]at HEu
     rw[ha2]at HEv
     clear hy hyb ha1 ha2;subst hpe;have hb6:Below wr.heap.size wr (wr.alloc (.cells #[.int .u8 a1] 5)):=Bx;have HU3:Aa (Own (wr.alloc (.cells #[.int .u8 a1] 5)) w.heap.size u ((Cl key).take k)):=⟨HU.out.belowS hb6⟩
     have HV3:Aa (Own (wr.alloc (.cells #[.int .u8 a1] 5)) w.heap.size v ((Cm key).take k)):=⟨HV.out.belowS hb6⟩
     have hrow:Aa (Bd (wr.alloc (.cells #[.int .u8 a1] 5)) .u8 (some ⟨wr.heap.size,0,none⟩) 1 1 [a1]):=⟨Ds wr [a1] (show 1<=9223372036854775807 by decide)⟩
     have hsz6:w.heap.size<=(wr.alloc (.cells #[.int .u8 a1] 5)).heap.size:=Dn hsz hb6.size;have HB6:Aa (Below w.heap.size w (wr.alloc (.cells #[.int .u8 a1] 5))):=⟨Bn HB.out hb6⟩
     have hmx:Aa (((Cl key).take k).length+1<=140737488355328):=⟨by simp;omega⟩
     have hmy:Aa (((Cm key).take k).length+1<=140737488355328):=⟨by simp;omega⟩
     clear hb6
     go_wp2_with (at_builtin;refine Eg rfl _ _ rfl rfl HU3.out rfl hrow.out (fun h=>by cases h) hmx.out hsz6 ?_;intro u3 w6 ho3 hg3 hmv3;refine De.out ?_)
     refine⟨?_⟩;rw[HEu.out]at ho3
     have HV4:=Ab (HV3.out.grown hg3 HAp.out);have HAp4:=Ab (HAp.out.moved hmv3 HV3.out);have HB7:=Ab (HB6.out.trans (grown_below hg3 hsz6 HU3.out.ge));have HU4:=Ab ho3;clear ho3 hg3 hmv3 HU3 HV3 hrow hsz6 HB6;have hsz7:=HB7.out.size;have hb8:Below w6.heap.size w6 (w6.alloc (.cells #[.int .u8 a2] 5)):=Bx;have HU5:Aa (Own (w6.alloc (.cells #[.int .u8 a2] 5)) w.heap.size u3 ((Cl key).take (k+1))):=⟨HU4.out.belowS hb8⟩
     have HV5:Aa (Own (w6.alloc (.cells #[.int .u8 a2] 5)) w.heap.size v ((Cm key).take k)):=⟨HV4.out.belowS hb8⟩
     have hrow:Aa (Bd (w6.alloc (.cells #[.int .u8 a2] 5)) .u8 (some ⟨w6.heap.size,0,none⟩) 1 1 [a2]):=⟨Ds w6 [a2] (show 1<=9223372036854775807 by decide)⟩
     have hsz8:w.heap.size<=(w6.alloc (.cells #[.int .u8 a2] 5)).heap.size:=Dn hsz7 hb8.size;have HB8:Aa (Below w.heap.size w (w6.alloc (.cells #[.int .u8 a2] 5))):=⟨Bn HB7.out hb8⟩
     clear hb8 HU4 HV4 HB7
     go_wp2_with (at_builtin;refine Eg rfl _ _ rfl rfl HV5.out rfl hrow.out (fun h=>by cases h) hmy.out hsz8 ?_;intro v3 w9 ho3 hg3 hmv3;refine De.out ?_)
     refine⟨?_⟩;rw[HEv.out]at ho3
     have HU9:=Ab (HU5.out.grown hg3 HAp4.out.symm);have HAp9:=Ab ((HAp4.out.symm.moved hmv3 HU5.out).symm);have HB9:=Ab (HB8.out.trans (grown_below hg3 hsz8 HV5.out.ge));have HV9:=Ab ho3;clear ho3 hg3 hmv3 HU5 HV5 hrow hsz8 HB8;go_wp2;go_roundw
     case rel=>exact⟨k+1,_,_,by omega,rfl,rfl,by go_num,HU9,HV9,HAp9,HB9⟩
     case measure=>simp[intOf];omega
    .have hyb:(Ct key).getD k 0=0:=by
      unfold Ct;rw[Du,List.getElem?_append_right (by have:=HKl.out;omega),List.getElem?_replicate];split<;>rfl
     have HEu:Aa ((Cl key).take k++[54]=(Cl key).take (k+1)):=HEu 0 hyb;have HEv:Aa ((Cm key).take k++[92]=(Cm key).take (k+1)):=HEv 0 hyb;have F1:bits BinOp.xor IntKind.u8 0 54=54:=by decide
     have F2:bits BinOp.xor IntKind.u8 0 92=92:=by decide
     clear hyb;have hb6:Below wr.heap.size wr (wr.alloc (.cells #[.int .u8 54] 5)):=Bx;have HU3:Aa (Own (wr.alloc (.cells #[.int .u8 54] 5)) w.heap.size u ((Cl key).take k)):=⟨HU.out.belowS hb6⟩
     have HV3:Aa (Own (wr.alloc (.cells #[.int .u8 54] 5)) w.heap.size v ((Cm key).take k)):=⟨HV.out.belowS hb6⟩
     have hrow:Aa (Bd (wr.alloc (.cells #[.int .u8 54] 5)) .u8 (some ⟨wr.heap.size,0,none⟩) 1 1 [54]):=⟨Ds wr [54] (show 1<=9223372036854775807 by decide)⟩
     have hsz6:w.heap.size<=(wr.alloc (.cells #[.int .u8 54] 5)).heap.size:=Dn hsz hb6.size;have HB6:Aa (Below w.heap.size w (wr.alloc (.cells #[.int .u8 54] 5))):=⟨Bn HB.out hb6⟩
     have hmx:Aa (((Cl key).take k).length+1<=140737488355328):=⟨by simp;omega⟩
     have hmy:Aa (((Cm key).take k).length+1<=140737488355328):=⟨by simp;omega⟩
     clear hb6
     go_wp2_with (at_builtin;refine Eg rfl _ _ rfl rfl HU3.out rfl hrow.out (fun h=>by cases h) hmx.out hsz6 ?_;intro u3 w6 ho3 hg3 hmv3;refine De.out ?_)
     refine⟨?_⟩;rw[HEu.out]at ho3
     have HV4:=Ab (HV3.out.grown hg3 HAp.out);have HAp4:=Ab (HAp.out.moved hmv3 HV3.out);have HB7:=Ab (HB6.out.trans (grown_below hg3 hsz6 HU3.out.ge));have HU4:=Ab ho3;clear ho3 hg3 hmv3 HU3 HV3 hrow hsz6 HB6;have hsz7:=HB7.out.size;have hb8:Below w6.heap.size w6 (w6.alloc (.cells #[.int .u8 92] 5)):=Bx;have HU5:Aa (Own (w6.alloc (.cells #[.int .u8 92] 5)) w.heap.size u3 ((Cl key).take (k+1))):=⟨HU4.out.belowS hb8⟩
     have HV5:Aa (Own (w6.alloc (.cells #[.int .u8 92] 5)) w.heap.size v ((Cm key).take k)):=⟨HV4.out.belowS hb8⟩
     have hrow:Aa (Bd (w6.alloc (.cells #[.int .u8 92] 5)) .u8 (some ⟨w6.heap.size,0,none⟩) 1 1 [92]):=⟨Ds w6 [92] (show 1<=9223372036854775807 by decide)⟩
     have hsz8:w.heap.size<=(w6.alloc (.cells #[.int .u8 92] 5)).heap.size:=Dn hsz7 hb8.size;have HB8:Aa (Below w.heap.size w (w6.alloc (.cells #[.int .u8 92] 5))):=⟨Bn HB7.out hb8⟩
     clear hb8 HU4 HV4 HB7
     go_wp2_with (at_builtin;refine Eg rfl _ _ rfl rfl HV5.out rfl hrow.out (fun h=>by cases h) hmy.out hsz8 ?_;intro v3 w9 ho3 hg3 hmv3;refine De.out ?_)
     refine⟨?_⟩;rw[HEv.out]at ho3
     have HU9:=Ab (HU5.out.grown hg3 HAp4.out.symm);have HAp9:=Ab ((HAp4.out.symm.moved hmv3 HU5.out).symm);have HB9:=Ab (HB8.out.trans (grown_below hg3 hsz8 HV5.out.ge));have HV9:=Ab ho3;clear ho3 hg3 hmv3 HU5 HV5 hrow hsz8 HB8;go_wp2;go_roundw
     case rel=>exact⟨k+1,_,_,by omega,rfl,rfl,by go_num,HU9,HV9,HAp9,HB9⟩
     case measure=>simp[intOf];omega
   .obtain rfl:k=64:=by omega
    have hiT:(Cl key).take 64=Cl key:=List.take_of_length_le (by rw[Ek];exact As _);have hoT:(Cm key).take 64=Cm key:=List.take_of_length_le (by rw[Ei];exact As _);rw[hiT]at HU
    rw[hoT]at HV
    obtain⟨pu,cu,rfl,ru,_,zu,_⟩:=HU.out.elim;obtain⟨pv,cv,rfl,rv,_,zv,_⟩:=HV.out.elim;have HPu:Aa (Ax wr ⟨pu,(Cl key).length,cu,Cl key⟩/\(pu=none->cu=0)):=⟨⟨ru,Lg H8.out⟩,zu⟩
    have HPv:Aa (Ax wr ⟨pv,(Cm key).length,cv,Cm key⟩/\(pv=none->cv=0)):=⟨⟨rv,Lc H8.out⟩,zv⟩
    have HBw:Aa (Below w.heap.size w wr):=⟨HW.out.trans (HB.out.mono HW.out.size)⟩
    clear hiT hoT HU HV ru rv zu zv HB;have HXb:=HX.out.below HBw.out;have HP1:=Ab (Xk wr ⟨pu,(Cl key).length,cu,Cl key⟩ ⟨pb,nb,cb,xb⟩ HPu.out.1 HXb);have hba:Below wr.heap.size wr (wr.alloc (.cells #[.slice pu (Cl key).length cu,.slice pb nb cb] 23)):=Bx
    go_wp2_with fail
    refine(Iz _ _ _ _ _ HP1.out (fun P hP=>by
     rcases List.mem_cons.1 hP with rfl|hP
     .exact HPu.out.2
     .obtain rfl:=List.mem_singleton.1 hP;exact HZb.out) (by rw[whole2];simp[Ek];have:=HX.out.row.len;dsimp only at this;omega)).mono ?_
    rintro e w5 ⟨v5,rfl,ho5,hb5⟩;rw[whole2]at ho5
    have H85:Au (Cl key++xb):=fun x hx=>by
     rcases List.mem_append.1 hx with h|h
     .exact Lg H8.out x h
     .exact HX.out.bytes x h
    have hl5:(Cl key++xb).length<=10000:=by rw[List.length_append,Ek];have:=HX.out.row.len;dsimp only at this;omega
    obtain⟨Y5,hY5⟩:∃Y,Cl key++xb=Y:=⟨_,rfl⟩
    dsimp only at ho5
    rw[hY5]at ho5 H85 hl5
    have HY5:Aa (Cl key++xb=Y5):=⟨hY5⟩
    obtain⟨p5,c5,_,r5,n5,z5,_⟩:=ho5;have hb15:=Bn hba hb5;clear hY5 n5
    go_wp2_with fail
    refine(Fp w5 p5 _ c5 Y5 r5 H85 z5 (by omega)).mono ?_;rintro e w6 ⟨v6,rfl,ho6,hb6⟩;obtain⟨p6,c6,_,r6,n6,z6,_⟩:=ho6;have hb16:=Bn hb15 hb6;have HP2:=Ab (Xk w6 ⟨pv,(Cm key).length,cv,Cm key⟩ ⟨p6,(Ie Y5).length,c6,Ie Y5⟩ (HPv.out.1.below hb16) ⟨r6,Ev _⟩);have hba6:Below w6.heap.size w6 (w6.alloc (.cells #[.slice pv (Cm key).length cv,.slice p6 (Ie Y5).length c6] 23)):=Bx;clear n6
    go_wp2_with fail
    refine(Iz _ _ _ _ _ HP2.out (fun P hP=>by
     rcases List.mem_cons.1 hP with rfl|hP
     .exact HPv.out.2
     .obtain rfl:=List.mem_singleton.1 hP;exact z6) (by rw[whole2];simp[Ei,Cd])).mono ?_
    rintro e w7 ⟨v7,rfl,ho7,hb7⟩;rw[whole2]at ho7
    have H87:Au (Cm key++Ie Y5):=fun x hx=>by
     rcases List.mem_append.1 hx with h|h
     .exact Lc H8.out x h
     .exact Ev _ x h
    have hl7:(Cm key++Ie Y5).length<=10000:=by rw[List.length_append,Ei,Cd];omega
    obtain⟨Y7,hY7⟩:∃Y,Cm key++Ie Y5=Y:=⟨_,rfl⟩
    dsimp only at ho7
    rw[hY7]at ho7 H87 hl7
    have HY7:Aa (Jz key xb=Ie Y7):=⟨by rw[<-hY7,<-HY5.out];rfl⟩
    obtain⟨p7,c7,_,r7,n7,z7,_⟩:=ho7;have hbw7:=Bn HBw.out (Bn hb16 (Bn hba6 hb7));clear hY7 n7
    go_wp2_with fail
    refine(Fp w7 p7 _ c7 _ r7 H87 z7 (by omega)).mono ?_;rintro e w8 ⟨v8,rfl,ho8,hb8⟩;rw[<-HY7.out]at ho8
    go_wp2;go_ret;refine⟨v8,rfl,?_,Bn hbw7 hb8⟩
    cases ho8 with
    | of p8 c8 _ h8 hn8 hz8 hp8=>exact .of p8 c8 w8 h8 (hn8.mono hbw7.size) hz8 hp8
 .have hkk:Hl key=Ie key:=by unfold Hl;rw[if_pos (by have:=hr.len;omega)]
  have hn64':(64:Int)<n:=by omega
  go_enter Tryz.func136,Tryz.ntmps136
  go_wp2_with fail
  refine(Fp w p n c key hr h8 hz (by omega)).mono ?_;rintro e w1 ⟨v1,rfl,ho1,hb1⟩;obtain⟨p1,c1,_,r1,n1,z1,_⟩:=ho1;rw[Cd]at r1 ⊢
  have HK:Aa (Bd w1 .u8 p1 32 c1 (Hl key)):=⟨by rw[hkk];exact r1⟩
  have HW:Aa (Below w.heap.size w w1):=⟨hb1⟩
  clear hr h8 hX hzb hkk hz r1 n1 z1 hb1;have HW2:Aa (Below w1.heap.size w1 ((w1.alloc (.cells #[] 5)).alloc (.cells #[] 5))):=⟨((Bb _ _).alloc (As _) _).alloc (by simp) _⟩
  have HU0:Aa (Own ((w1.alloc (.cells #[] 5)).alloc (.cells #[] 5)) w1.heap.size (.slice (some ⟨w1.heap.size,0,none⟩) 0 0) ((Cl key).take 0)):=⟨((Own.lit w1 [] (by decide)).belowS ((Bb _ _).alloc (As _) _))⟩
  have HV0:Aa (Own ((w1.alloc (.cells #[] 5)).alloc (.cells #[] 5)) w1.heap.size (.slice (some ⟨w1.heap.size+1,0,none⟩) 0 0) ((Cm key).take 0)):=⟨by
   have h:=Own.lit (w1.alloc (.cells #[] 5)) [] (by decide);rw[show (w1.alloc (.cells #[] 5)).heap.size=w1.heap.size+1 by simp]at h
   exact h.mono (Nat.le_succ _)⟩
  have HA0:Aa (Apart (.slice (some ⟨w1.heap.size,0,none⟩) 0 0) (.slice (some ⟨w1.heap.size+1,0,none⟩) 0 0)):=⟨⟨fun g hg e=>by
   simp[Value.ownBlock]at hg e
   omega⟩⟩
  have HRd:Aa (∀w',Below w1.heap.size w1 w'->∀i,i<32->∃b off,p1=some ⟨b,off,none⟩/\w'.cell? ⟨b,off+i,none⟩=some (.int .u8 ((Hl key).getD i 0:Nat))):=⟨fun w' hb i hi=>by
   obtain⟨b,off,e,hbl,hc⟩:=(HK.out.row (by omega)).pos (by omega);refine⟨b,off,e,?_⟩;rw[(Ca hb).1 _ _ hbl];exact hc i _ (by rw[Du,List.getElem?_eq_getElem (by have:=HK.out.len;omega)];rfl)⟩
  have hkcap:=HK.out.cap;have hkmax:=HK.out.max;have HKl:Aa (32=(Hl key).length):=⟨HK.out.len⟩
  have HBd:Aa (Below w1.heap.size w1 ((w1.alloc (.cells #[] 5)).alloc (.cells #[] 5))):=⟨((Bb _ _).alloc (As _) _).alloc (by simp) _⟩
  go_wp2
  go_loopw [5,6,7] (fun x y i wr=>∃(k:Nat) (u v:Value),k<=64/\u=x/\v=y/\i=.int .i64 k/\Aa (Own wr w1.heap.size u ((Cl key).take k))/\Aa (Own wr w1.heap.size v ((Cm key).take k))/\Aa (Apart u v)/\Aa (Below w1.heap.size w1 wr)) (fun _ _ i _=>64-(intOf i).toNat)
  case atStart=>exact⟨0,_,_,by omega,rfl,rfl,rfl,HU0,HV0,HA0,HW2⟩
  case round=>
   obtain⟨k,u,v,hk,rfl,rfl,rfl,HU,HV,HAp,HB⟩:=hrel;have hsz:=HB.out.size
   by_cases hk64:k<64
   .have HEu:∀y:Nat,(Ct key).getD k 0=y->Aa ((Cl key).take k++[y ^^^ 54]=(Cl key).take (k+1)):=fun y hy=>⟨by
     rw[Da (Cl key) k (by rw[Ek];exact hk64)]
     congr 1
     unfold Cl masked;rw[Du,List.getElem?_map,<-hy,Du,List.getElem?_eq_getElem (by rw[Cx];exact hk64)];rfl⟩
    have HEv:∀y:Nat,(Ct key).getD k 0=y->Aa ((Cm key).take k++[y ^^^ 92]=(Cm key).take (k+1)):=fun y hy=>⟨by
     rw[Da (Cm key) k (by rw[Ei];exact hk64)]
     congr 1
     unfold Cm masked;rw[Du,List.getElem?_map,<-hy,Du,List.getElem?_eq_getElem (by rw[Cx];exact hk64)];rfl⟩
    have hli:((Cl key).take k).length<=64:=by simp;omega
    have hlo:((Cm key).take k).length<=64:=by simp;omega
    by_cases hkn:k<32
    .obtain⟨b,off,hpe,hcell⟩:=HRd.out wr HB.out k hkn;obtain⟨y,hy⟩:∃y,(Hl key).getD k 0=y:=⟨_,rfl⟩
     have hyb:(Ct key).getD k 0=y:=by
      unfold Ct;rw[<-hy,Du,List.getElem?_append_left (by have:=HKl.out;omega),Du]
     have hy8:y<256:=by rw[<-hyb];exact HK8.out.get k
     have HEu:=HEu y hyb;have HEv:=HEv y hyb;rw[hy]at hcell
     obtain⟨a1,ha1⟩:∃a,y ^^^ 54=a:=⟨_,rfl⟩
     obtain⟨a2,ha2⟩:∃a,y ^^^ 92=a:=⟨_,rfl⟩
     have F1:bits BinOp.xor IntKind.u8 (y:Int) 54=(a1:Int):=by rw[<-ha1];exact u8_xor_nat y 54 hy8 (by omega)
     have F2:bits BinOp.xor IntKind.u8 (y:Int) 92=(a2:Int):=by rw[<-ha2];exact u8_xor_nat y 92 hy8 (by omega)
     rw[ha1]at HEu
     rw[ha2]at HEv
     clear hy hyb ha1 ha2;subst hpe;have hb6:Below wr.heap.size wr (wr.alloc (.cells #[.int .u8 a1] 5)):=Bx;have HU3:Aa (Own (wr.alloc (.cells #[.int .u8 a1] 5)) w1.heap.size u ((Cl key).take k)):=⟨HU.out.belowS hb6⟩
     have HV3:Aa (Own (wr.alloc (.cells #[.int .u8 a1] 5)) w1.heap.size v ((Cm key).take k)):=⟨HV.out.belowS hb6⟩
     have hrow:Aa (Bd (wr.alloc (.cells #[.int .u8 a1] 5)) .u8 (some ⟨wr.heap.size,0,none⟩) 1 1 [a1]):=⟨Ds wr [a1] (show 1<=9223372036854775807 by decide)⟩
     have hsz6:w1.heap.size<=(wr.alloc (.cells #[.int .u8 a1] 5)).heap.size:=Dn hsz hb6.size;have HB6:Aa (Below w1.heap.size w1 (wr.alloc (.cells #[.int .u8 a1] 5))):=⟨Bn HB.out hb6⟩
     have hmx:Aa (((Cl key).take k).length+1<=140737488355328):=⟨by simp;omega⟩
     have hmy:Aa (((Cm key).take k).length+1<=140737488355328):=⟨by simp;omega⟩
     clear hb6
     go_wp2_with (at_builtin;refine Eg rfl _ _ rfl rfl HU3.out rfl hrow.out (fun h=>by cases h) hmx.out hsz6 ?_;intro u3 w6 ho3 hg3 hmv3;refine De.out ?_)
     refine⟨?_⟩;rw[HEu.out]at ho3
     have HV4:=Ab (HV3.out.grown hg3 HAp.out);have HAp4:=Ab (HAp.out.moved hmv3 HV3.out);have HB7:=Ab (HB6.out.trans (grown_below hg3 hsz6 HU3.out.ge));have HU4:=Ab ho3;clear ho3 hg3 hmv3 HU3 HV3 hrow hsz6 HB6;have hsz7:=HB7.out.size;have hb8:Below w6.heap.size w6 (w6.alloc (.cells #[.int .u8 a2] 5)):=Bx;have HU5:Aa (Own (w6.alloc (.cells #[.int .u8 a2] 5)) w1.heap.size u3 ((Cl key).take (k+1))):=⟨HU4.out.belowS hb8⟩
     have HV5:Aa (Own (w6.alloc (.cells #[.int .u8 a2] 5)) w1.heap.size v ((Cm key).take k)):=⟨HV4.out.belowS hb8⟩
     have hrow:Aa (Bd (w6.alloc (.cells #[.int .u8 a2] 5)) .u8 (some ⟨w6.heap.size,0,none⟩) 1 1 [a2]):=⟨Ds w6 [a2] (show 1<=9223372036854775807 by decide)⟩
     have hsz8:w1.heap.size<=(w6.alloc (.cells #[.int .u8 a2] 5)).heap.size:=Dn hsz7 hb8.size;have HB8:Aa (Below w1.heap.size w1 (w6.alloc (.cells #[.int .u8 a2] 5))):=⟨Bn HB7.out hb8⟩
     clear hb8 HU4 HV4 HB7
     go_wp2_with (at_builtin;refine Eg rfl _ _ rfl rfl HV5.out rfl hrow.out (fun h=>by cases h) hmy.out hsz8 ?_;intro v3 w9 ho3 hg3 hmv3;refine De.out ?_)
     refine⟨?_⟩;rw[HEv.out]at ho3
     have HU9:=Ab (HU5.out.grown hg3 HAp4.out.symm);have HAp9:=Ab ((HAp4.out.symm.moved hmv3 HU5.out).symm);have HB9:=Ab (HB8.out.trans (grown_below hg3 hsz8 HV5.out.ge));have HV9:=Ab ho3;clear ho3 hg3 hmv3 HU5 HV5 hrow hsz8 HB8;go_wp2;go_roundw
     case rel=>exact⟨k+1,_,_,by omega,rfl,rfl,by go_num,HU9,HV9,HAp9,HB9⟩
     case measure=>simp[intOf];omega
    .have hyb:(Ct key).getD k 0=0:=by
      unfold Ct;rw[Du,List.getElem?_append_right (by have:=HKl.out;omega),List.getElem?_replicate];split<;>rfl
     have HEu:Aa ((Cl key).take k++[54]=(Cl key).take (k+1)):=HEu 0 hyb;have HEv:Aa ((Cm key).take k++[92]=(Cm key).take (k+1)):=HEv 0 hyb;have F1:bits BinOp.xor IntKind.u8 0 54=54:=by decide
     have F2:bits BinOp.xor IntKind.u8 0 92=92:=by decide
     clear hyb;have hb6:Below wr.heap.size wr (wr.alloc (.cells #[.int .u8 54] 5)):=Bx;have HU3:Aa (Own (wr.alloc (.cells #[.int .u8 54] 5)) w1.heap.size u ((Cl key).take k)):=⟨HU.out.belowS hb6⟩
     have HV3:Aa (Own (wr.alloc (.cells #[.int .u8 54] 5)) w1.heap.size v ((Cm key).take k)):=⟨HV.out.belowS hb6⟩
     have hrow:Aa (Bd (wr.alloc (.cells #[.int .u8 54] 5)) .u8 (some ⟨wr.heap.size,0,none⟩) 1 1 [54]):=⟨Ds wr [54] (show 1<=9223372036854775807 by decide)⟩
     have hsz6:w1.heap.size<=(wr.alloc (.cells #[.int .u8 54] 5)).heap.size:=Dn hsz hb6.size;have HB6:Aa (Below w1.heap.size w1 (wr.alloc (.cells #[.int .u8 54] 5))):=⟨Bn HB.out hb6⟩
     have hmx:Aa (((Cl key).take k).length+1<=140737488355328):=⟨by simp;omega⟩
     have hmy:Aa (((Cm key).take k).length+1<=140737488355328):=⟨by simp;omega⟩
     clear hb6
     go_wp2_with (at_builtin;refine Eg rfl _ _ rfl rfl HU3.out rfl hrow.out (fun h=>by cases h) hmx.out hsz6 ?_;intro u3 w6 ho3 hg3 hmv3;refine De.out ?_)
     refine⟨?_⟩;rw[HEu.out]at ho3
     have HV4:=Ab (HV3.out.grown hg3 HAp.out);have HAp4:=Ab (HAp.out.moved hmv3 HV3.out);have HB7:=Ab (HB6.out.trans (grown_below hg3 hsz6 HU3.out.ge));have HU4:=Ab ho3;clear ho3 hg3 hmv3 HU3 HV3 hrow hsz6 HB6;have hsz7:=HB7.out.size;have hb8:Below w6.heap.size w6 (w6.alloc (.cells #[.int .u8 92] 5)):=Bx;have HU5:Aa (Own (w6.alloc (.cells #[.int .u8 92] 5)) w1.heap.size u3 ((Cl key).take (k+1))):=⟨HU4.out.belowS hb8⟩
     have HV5:Aa (Own (w6.alloc (.cells #[.int .u8 92] 5)) w1.heap.size v ((Cm key).take k)):=⟨HV4.out.belowS hb8⟩
     have hrow:Aa (Bd (w6.alloc (.cells #[.int .u8 92] 5)) .u8 (some ⟨w6.heap.size,0,none⟩) 1 1 [92]):=⟨Ds w6 [92] (show 1<=9223372036854775807 by decide)⟩
     have hsz8:w1.heap.size<=(w6.alloc (.cells #[.int .u8 92] 5)).heap.size:=Dn hsz7 hb8.size;have HB8:Aa (Below w1.heap.size w1 (w6.alloc (.cells #[.int .u8 92] 5))):=⟨Bn HB7.out hb8⟩
     clear hb8 HU4 HV4 HB7
     go_wp2_with (at_builtin;refine Eg rfl _ _ rfl rfl HV5.out rfl hrow.out (fun h=>by cases h) hmy.out hsz8 ?_;intro v3 w9 ho3 hg3 hmv3;refine De.out ?_)
     refine⟨?_⟩;rw[HEv.out]at ho3
     have HU9:=Ab (HU5.out.grown hg3 HAp4.out.symm);have HAp9:=Ab ((HAp4.out.symm.moved hmv3 HU5.out).symm);have HB9:=Ab (HB8.out.trans (grown_below hg3 hsz8 HV5.out.ge));have HV9:=Ab ho3;clear ho3 hg3 hmv3 HU5 HV5 hrow hsz8 HB8;go_wp2;go_roundw
     case rel=>exact⟨k+1,_,_,by omega,rfl,rfl,by go_num,HU9,HV9,HAp9,HB9⟩
     case measure=>simp[intOf];omega
   .obtain rfl:k=64:=by omega
    have hiT:(Cl key).take 64=Cl key:=List.take_of_length_le (by rw[Ek];exact As _);have hoT:(Cm key).take 64=Cm key:=List.take_of_length_le (by rw[Ei];exact As _);rw[hiT]at HU
    rw[hoT]at HV
    obtain⟨pu,cu,rfl,ru,_,zu,_⟩:=HU.out.elim;obtain⟨pv,cv,rfl,rv,_,zv,_⟩:=HV.out.elim;have HPu:Aa (Ax wr ⟨pu,(Cl key).length,cu,Cl key⟩/\(pu=none->cu=0)):=⟨⟨ru,Lg H8.out⟩,zu⟩
    have HPv:Aa (Ax wr ⟨pv,(Cm key).length,cv,Cm key⟩/\(pv=none->cv=0)):=⟨⟨rv,Lc H8.out⟩,zv⟩
    have HBw:Aa (Below w.heap.size w wr):=⟨HW.out.trans (HB.out.mono HW.out.size)⟩
    clear hiT hoT HU HV ru rv zu zv HB;have HXb:=HX.out.below HBw.out;have HP1:=Ab (Xk wr ⟨pu,(Cl key).length,cu,Cl key⟩ ⟨pb,nb,cb,xb⟩ HPu.out.1 HXb);have hba:Below wr.heap.size wr (wr.alloc (.cells #[.slice pu (Cl key).length cu,.slice pb nb cb] 23)):=Bx
    go_wp2_with fail
    refine(Iz _ _ _ _ _ HP1.out (fun P hP=>by
     rcases List.mem_cons.1 hP with rfl|hP
     .exact HPu.out.2
     .obtain rfl:=List.mem_singleton.1 hP;exact HZb.out) (by rw[whole2];simp[Ek];have:=HX.out.row.len;dsimp only at this;omega)).mono ?_
    rintro e w5 ⟨v5,rfl,ho5,hb5⟩;rw[whole2]at ho5
    have H85:Au (Cl key++xb):=fun x hx=>by
     rcases List.mem_append.1 hx with h|h
     .exact Lg H8.out x h
     .exact HX.out.bytes x h
    have hl5:(Cl key++xb).length<=10000:=by rw[List.length_append,Ek];have:=HX.out.row.len;dsimp only at this;omega
    obtain⟨Y5,hY5⟩:∃Y,Cl key++xb=Y:=⟨_,rfl⟩
    dsimp only at ho5
    rw[hY5]at ho5 H85 hl5
    have HY5:Aa (Cl key++xb=Y5):=⟨hY5⟩
    obtain⟨p5,c5,_,r5,n5,z5,_⟩:=ho5;have hb15:=Bn hba hb5;clear hY5 n5
    go_wp2_with fail
    refine(Fp w5 p5 _ c5 Y5 r5 H85 z5 (by omega)).mono ?_;rintro e w6 ⟨v6,rfl,ho6,hb6⟩;obtain⟨p6,c6,_,r6,n6,z6,_⟩:=ho6;have hb16:=Bn hb15 hb6;have HP2:=Ab (Xk w6 ⟨pv,(Cm key).length,cv,Cm key⟩ ⟨p6,(Ie Y5).length,c6,Ie Y5⟩ (HPv.out.1.below hb16) ⟨r6,Ev _⟩);have hba6:Below w6.heap.size w6 (w6.alloc (.cells #[.slice pv (Cm key).length cv,.slice p6 (Ie Y5).length c6] 23)):=Bx;clear n6
    go_wp2_with fail
    refine(Iz _ _ _ _ _ HP2.out (fun P hP=>by
     rcases List.mem_cons.1 hP with rfl|hP
     .exact HPv.out.2
     .obtain rfl:=List.mem_singleton.1 hP;exact z6) (by rw[whole2];simp[Ei,Cd])).mono ?_
    rintro e w7 ⟨v7,rfl,ho7,hb7⟩;rw[whole2]at ho7
    have H87:Au (Cm key++Ie Y5):=fun x hx=>by
     rcases List.mem_append.1 hx with h|h
     .exact Lc H8.out x h
     .exact Ev _ x h
    have hl7:(Cm key++Ie Y5).length<=10000:=by rw[List.length_append,Ei,Cd];omega
    obtain⟨Y7,hY7⟩:∃Y,Cm key++Ie Y5=Y:=⟨_,rfl⟩
    dsimp only at ho7
    rw[hY7]at ho7 H87 hl7
    have HY7:Aa (Jz key xb=Ie Y7):=⟨by rw[<-hY7,<-HY5.out];rfl⟩
    obtain⟨p7,c7,_,r7,n7,z7,_⟩:=ho7;have hbw7:=Bn HBw.out (Bn hb16 (Bn hba6 hb7));clear hY7 n7
    go_wp2_with fail
    refine(Fp w7 p7 _ c7 _ r7 H87 z7 (by omega)).mono ?_;rintro e w8 ⟨v8,rfl,ho8,hb8⟩;rw[<-HY7.out]at ho8
    go_wp2;go_ret;refine⟨v8,rfl,?_,Bn hbw7 hb8⟩
    cases ho8 with
    | of p8 c8 _ h8 hn8 hz8 hp8=>exact .of p8 c8 w8 h8 (hn8.mono hbw7.size) hz8 hp8
end Go.Proofs.YtokhckjemidbpaaGreatDoor
