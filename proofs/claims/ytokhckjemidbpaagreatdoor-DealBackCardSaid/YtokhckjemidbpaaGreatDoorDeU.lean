/- What is told of a dealing, out of what a row says of its arguments. -/
import Derived.Test.YtokhckjemidbpaaGreatDoorDeP
set_option maxRecDepth 1000000
set_option maxHeartbeats 16000000
set_option linter.all false
namespace Go.Proofs.YtokhckjemidbpaaGreatDoor
open Go Go.RowKit Go.Deep Go.ChangeShapes Go.WideShapes
theorem mZ {H:Type}{enc:TypeId×Value->H}{w:World}{base:Nat}{held:Bool}{n:Nat}{v0 v1:Value}{x:DataW H×List MemPlace}(h:DataW.trod enc Tryz.prog w base (fun _=>true) held n 102 [v0,v1]=some x) :
  ∃s:Int×Nat,v0=.int .i64 s.1/\v1=.int .u64 (s.2:Nat)/\Su s.2:=by
 have c23:Tryz.prog.cellsOf 22 = 1:=by kernel_rfl
 have c33:Tryz.prog.cellsOf 3 = 1:=by kernel_rfl
 have hst:=DataW.trod_struct Tryz.underlying102 h;obtain⟨xs,k,hk,hxy,_,hxl,hf⟩:=hst;have f0:=hf 0 _ rfl;have f1:=hf 1 _ rfl
 match xs,hxl with
 | [y0,y1],_=>
  simp[c23,c33]at f0 f1
  obtain⟨a,e0,_,w0⟩:=DataW.trod_int Tryz.underlying3 f0;obtain⟨b,e1,_,w1⟩:=DataW.trod_int Tryz.underlying22 f1;obtain⟨hb1,hb2⟩:=wf_u64 w1;obtain⟨b,rfl⟩:=Int.eq_ofNat_of_zero_le hb1;simp only[List.cons.injEq,and_true]at e0 e1;exact⟨(a,b),e0,e1,by unfold Su;omega⟩
theorem jC {H:Type}{enc:TypeId×Value->H}{w:World}{base:Nat}{held:Bool}{n:Nat}{a:Option Addr}{len cap:Nat}{x:DataW H×List MemPlace}(h:DataW.trod enc Tryz.prog w base (fun _=>true) held n 85 [.slice a len cap]=some x):∃l,Nx w a len cap l:=by
 have ce:Tryz.prog.cellsOf 102 = 2:=by kernel_rfl
 have hos:=open_slice Tryz.underlying85 h;rcases hos with ⟨hcs,_⟩|⟨z,l,c,m,k,D,Pl,hcs,_,hl,hm,hmm,_,hx⟩
 .simp only[List.cons.injEq,Value.slice.injEq,and_true]at hcs;obtain⟨rfl,rfl,rfl⟩:=hcs;exact⟨[],rfl,Av _,by omega,fun h=>by omega⟩
 .simp only[List.cons.injEq,Value.slice.injEq,and_true]at hcs;obtain⟨rfl,rfl,rfl⟩:=hcs;simp only[if_true]at hmm;subst hmm;have each:∀i,i<m->∃y:Int×Nat,w.cell? (z.add (i*2))=some (.int .i64 y.1)/\w.cell? (z.add (i*2+1))=some (.int .u64 (y.2:Nat))/\Su y.2:=by
   intro i hi;obtain⟨cs',h1,h2⟩:=hx i hi;rw[ce]at h1
   obtain⟨_,hlen,hcell⟩:=World.cells?_some h1
   match cs',hlen with
   | [v0,v1],_=>
    obtain⟨s,e0,e1,k1⟩:=mZ h2;have g0:=hcell 0 (by omega);have g1:=hcell 1 (by omega);rw[add_add]at g0 g1
    simp only[List.getElem?_cons_zero,List.getElem?_cons_succ,Nat.add_zero]at g0 g1;exact⟨s,by rw[g0,e0],by rw[g1,e1],k1⟩
  obtain⟨y,hy⟩:=choose_lt each;refine⟨(List.range len).map fun i=>y i,by simp,hl,by simpa [maxLen]using hm,fun h0=>?_⟩;obtain⟨b,off,spot⟩:=z;have h1:=(hy 0 (by omega)).1;have hspot:spot=none:=by simpa [Addr.add]using World.cell?_spot h1
  subst hspot;refine⟨b,off,rfl,?_,fun i s hs=>?_⟩
  .rw[add_plain]at h1
   unfold World.cell? at h1;rcases Nat.lt_or_ge b w.heap.size with k|k
   .exact k
   .simp[Array.getElem?_eq_none k]at h1
  .rw[List.getElem?_map]at hs
   obtain⟨j,hj,rfl⟩:=Option.map_eq_some_iff.1 hs;have hj':=List.getElem?_eq_some_iff.1 hj;obtain⟨hj1,hj2⟩:=hj';simp at hj1 hj2;subst hj2;obtain⟨k0,k1,k2⟩:=hy i (by omega);rw[add_plain]at k0 k1
   exact⟨k0,by rw[Nat.add_assoc];exact k1,k2⟩
end Go.Proofs.YtokhckjemidbpaaGreatDoor
