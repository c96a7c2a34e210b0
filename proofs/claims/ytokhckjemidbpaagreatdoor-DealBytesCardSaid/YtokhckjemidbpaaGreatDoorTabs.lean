/- What the row's list of package-level variables gives. -/
import Derived.Test.YtokhckjemidbpaaGreatDoorShaT
import Derived.Lib.LaidTab
import Derived.LaidOnce
set_option maxRecDepth 1000000
set_option maxHeartbeats 16000000
set_option linter.all false
namespace Go.Proofs.YtokhckjemidbpaaGreatDoor
open Go Go.RowKit
def Un:List (String×DataW Unit):=[("sacristy/sha.constants",Rows.laid_sacristy_sha_constants),("sacristy/sha.firstState",Rows.laid_sacristy_sha_firstState)]
theorem eM {W:World}(h:laidMet Tryz.prog Un W):Tabs W:=by
 have e1:Rows.laid_sacristy_sha_constants (H:=Unit)=Lib.tabData .u32 (Lo.map fun(x:Nat)=>(x:Int)):=rfl;have e2:Rows.laid_sacristy_sha_firstState (H:=Unit)=Lib.tabData .u32 (Hg.map fun(x:Nat)=>(x:Int)):=rfl;have g1:Tryz.prog.globalNamed "sacristy/sha.constants" = some 2 := by kernel_rfl
 have g2:Tryz.prog.globalNamed "sacristy/sha.firstState" = some 0 := by kernel_rfl
 have t1:(Tryz.prog.globals[(2 : Nat)]?).map (·.type)=some 249 := by kernel_rfl
 have t2:(Tryz.prog.globals[(0 : Nat)]?).map (·.type)=some 276 := by kernel_rfl
 have c1:Tryz.prog.cellsOf 249 = 64:=by kernel_rfl
 have c2:Tryz.prog.cellsOf 276 = 8:=by kernel_rfl
 have c3:Tryz.prog.cellsOf 129 = 1:=by kernel_rfl
 unfold Un at h;rw[e1,e2]at h
 have h1:=Lib.tabIs_of_head g1 t1 Tryz.underlying249 Tryz.underlying129 c3 c1 h;obtain⟨ps,⟨ga,ta,ca,fa,pa,qa,hga,hta,hva,hda,⟨g',t',cs,fuel,p,q,hg',ht',hvar,hd,_,_⟩,_⟩,_⟩:=h;obtain rfl:=Option.some.inj (g2.symm.trans hg');obtain rfl:=Option.some.inj (t2.symm.trans ht');have h2:W.var? Tryz.prog "sacristy/sha.firstState" = some ((Hg.map fun(x:Nat)=>(x:Int)).map fun z=>Value.int .u32 z).toArray:=by
  rw[hvar,<-Lib.cells_of_tab Tryz.underlying276 Tryz.underlying129 c3 c2 hd]
 have hlt:∀(i:Nat) (v:Value),W.cell? ⟨2,i,none⟩=some v->(2 : Nat)<W.heap.size:=fun i v hv=>by
  rcases Nat.lt_or_ge 2 W.heap.size with k|k
  .exact k
  .simp[World.cell?,Array.getElem?_eq_none k]at hv
 have hk:∀i,i<64->W.cell? ⟨2,i,none⟩=some (.int .u32 (Lo.getD i 0:Nat)):=fun i hi=>by
  have h:=h1.cell g1 i (by simp[Nk,hi]);rw[h,Dv,List.getElem?_map,Dv,List.getElem?_eq_getElem (by rw[Nk];exact hi)];rfl
 refine⟨?_,by have:=hlt 0 _ (hk 0 (by omega));omega,hk⟩;unfold World.var? at h2;rw[g2]at h2
 simp only[Option.bind_some]at h2;split at h2
 .rename_i cs2 tt fr heq
  refine⟨tt,fr,?_⟩;rw[heq];have:=Option.some.inj h2;rw[this,List.map_map];rfl
 .cases h2
end Go.Proofs.YtokhckjemidbpaaGreatDoor
