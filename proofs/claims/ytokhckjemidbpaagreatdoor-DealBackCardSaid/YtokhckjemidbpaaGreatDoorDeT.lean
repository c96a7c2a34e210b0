/- Rows of what is told, of the call's own. -/
import Derived.Test.YtokhckjemidbpaaGreatDoorDeP
set_option maxRecDepth 1000000
set_option maxHeartbeats 16000000
set_option linter.all false
namespace Go.Proofs.YtokhckjemidbpaaGreatDoor
open Go Go.RowKit Go.Proofs.YtokhckjemidbpaaGreatDoor.Flow
theorem Tryz.info_Told:(Tryz.prog.info? 102).map (fun i=>(i.zero,i.size,i.bytes))=some (some (.agg #[.int .i64 0,.int .u64 0]),2,16):=by kernel_rfl
structure He (w:World) (B:Nat) (v:Value) (l:List (Int×Nat)):Prop where
 ex:∃vs:List Value,w.ownsRow B 102 2 v l.length vs/\∀(i:Nat) (s:Int×Nat),l[i]? = some s->vs[i*2]? = some (.int .i64 s.1)/\vs[i*2+1]? = some (.int .u64 (s.2:Nat))/\Su s.2
section
variable {w:World} {B:Nat} {v:Value} {l:List (Int×Nat)}
theorem He.nil:He w B (.slice none 0 0) []:=⟨[],World.ownsRow_nil w B _ 2,fun i s h=>by simp at h⟩
theorem He.block (h:He w B v l):∀g,v.ownBlock=some g->B<=g/\g<w.heap.size:=by obtain⟨_,h1,_⟩:=h.ex;exact El h1
theorem He.below {w':World}(h:He w B v l)(hb:Below w.heap.size w w'):He w' B v l:=by
 obtain⟨vs,h1,h2⟩:=h.ex;exact⟨vs,Gn h1 fun g hg=>hb.block g (El h1 g hg).2,h2⟩
theorem He.app (h:He w B v l)(hB:B<=w.heap.size){g c:Nat}{s:Int×Nat}(hc0:w.cell? ⟨g,0,none⟩=some (.int .i64 s.1))(hc1:w.cell? ⟨g,1,none⟩=some (.int .u64 (s.2:Nat)))(hs:Su s.2)(hl:l.length<=1000000)(ty:TypeId) :
  ∃v' w',(Builtin.append_ #[85, 85] ty #[v,.slice (some ⟨g,0,none⟩) 1 c]).run Tryz.prog w=.ok v' w'/\He w' B v' (l++[s])/\w.grownBy w' v.ownBlock:=by
 obtain⟨i,hi,hz,hs1,hb⟩:=info_parts Tryz.info_Told;obtain⟨vs,h1,h3⟩:=h.ex;have h2:=h1.1;obtain⟨v',w',k1,k2,k3,_⟩:=Na Tryz.underlying85 hi hz hs1 hb rfl (by decide) h1 (a:=⟨g,0,none⟩) (m:=1) (c:=c) (news:=[.int .i64 s.1,.int .u64 (s.2:Nat)]) rfl
  (fun j u hj=>by
   match j,hj with
   | 0,hj=>simp at hj;subst hj;exact hc0
   | 1,hj=>simp at hj;subst hj;exact hc1
   | j+2,hj=>simp at hj)
  (fun u hj=>by simp at hj;rcases hj with rfl|rfl<;>rfl) (by simp only[maxLen];omega) (Ee (Nat.mul_le_mul (Nat.add_le_add_right hl 1) (show 16<=16 by decide)) (by decide)) hB ty
 refine⟨v',w',k1,⟨vs++[.int .i64 s.1,.int .u64 (s.2:Nat)],by rw[List.length_append];exact k2,fun j M hM=>?_⟩,k3⟩;rcases Nat.lt_or_ge j l.length with hj|hj
 .rw[List.getElem?_append_left hj]at hM
  obtain⟨g0,g1,g2⟩:=h3 j M hM;exact⟨by rw[List.getElem?_append_left (by omega)];exact g0,by rw[List.getElem?_append_left (by omega)];exact g1,g2⟩
 .rw[List.getElem?_append_right hj]at hM
  obtain⟨t,ht⟩:∃t,j-l.length=t:=⟨_,rfl⟩
  rw[ht]at hM
  cases t with
  | zero=>
   simp at hM;subst hM;have e0:j*2-vs.length=0:=by omega
   have e1:j*2+1-vs.length=1:=by omega
   exact⟨by rw[List.getElem?_append_right (by omega),e0];rfl,by rw[List.getElem?_append_right (by omega),e1];rfl,hs⟩
  | succ t=>simp at hM
theorem He.told (h:He w B v l):∃p c,v=.slice p l.length c/\Nx w p l.length c l:=by
 obtain⟨vs,h1,h3⟩:=h.ex;have h2:=h1.1;rcases h1.2 with ⟨rfl,h0⟩|⟨g,cap,cur,rfl,hb,hg,hnc,hcm,hcs,ht⟩
 .exact⟨none,0,by rw[h0],rfl,by omega,by omega,fun h=>by omega⟩
 .have hlt:g<w.heap.size:=(Gg hg).1;have hcell:∀(o:Nat) (u:Value),vs[o]? = some u->w.cell? ⟨g,0+o,none⟩=some u:=by
   intro o u hu;have h6:(cur.toList.take (l.length*2))[o]? = some u:=by rw[ht];exact hu
   have ho:o<l.length*2:=by rw[<-h2];exact(List.getElem?_eq_some_iff.1 hu).1
   rw[List.getElem?_take,if_pos ho]at h6
   unfold World.cell?
   dsimp only
   rw[hg];simp only[Nat.zero_add];rw[Array.getElem?_toList]at h6
   exact h6
  refine⟨some ⟨g,0,none⟩,cap,rfl,rfl,hnc,by simpa [maxLen]using hcm,fun _=>⟨g,0,rfl,hlt,fun i s hs=>?_⟩⟩;obtain⟨k0,k1,k2⟩:=h3 i s hs;exact⟨hcell _ _ k0,hcell _ _ k1,k2⟩
end
theorem Pc {w:World}{b P Q GG HH T c c2:Nat}{p p2:Option Addr}{As Bs:List Nat}(hG:Au w b P Q GG HH)(hA:Aq w 33 p T c As)(hB:Aq w 33 p2 T c2 Bs)(hT:T<=1000) :
  Calls Tryz.prog 43 #[.agg #[.slice p T c,.slice p2 T c2],.pointer (some ⟨b,0,none⟩)] w fun en w'=>∃u,en=.returned u/\pR T (Cw P Q GG HH As Bs) u w'/\Below w.heap.size w w':=by
 have h:=Xc hG hA hB (by decide) (by decide) hT hT;rw[Nat.max_self]at h
 exact h
end Go.Proofs.YtokhckjemidbpaaGreatDoor
