/- A number's small value; one of its bits. -/
import Derived.Lib.Tables
import Derived.Lib.BitFns
import Derived.Deep.QuietTactic
import Derived.BigQuiet
import Derived.RangeFuncNested
import Derived.Test.YthgoeiegdhphjaaGreatDoorNatN
import Derived.Test.YthgoeiegdhphjaaGreatDoorNatG
import Derived.Laws.BytesArg
import Derived.Laws.BytesString
import Derived.WideShapes
set_option maxRecDepth 1000000
set_option maxHeartbeats 16000000
set_option linter.all false
namespace Go.Proofs.YthgoeiegdhphjaaGreatDoor.Flow
open Go
section
variable {P:Program} {ops:Array Oper} {Q:Exit->Act->World->Prop}
def upd (sp:Nat->Value)(i:Nat)(v:Value):Nat->Value:=fun j=>if j=i then v else sp j
theorem Nh {id:Nat}{a0:Act}{w0:World}(hm:P.follows .mixedOrders=true)(hb:Fu ops=true)(hd:Dz ops=true)(hu:Oa ops=true)(hs:Region.noSelect ops=true)(V:Nat->Option Value)(R:World->World->Prop)(G:(Nat->Bool)->(Nat->Value)->World->Prop)(F:Nat->Value->World->Prop)(hF:∀i v w w',V i=none->F i v w->R w w'->F i v w')(h0:G (fun _=>false) (fun _=>undef) { w0 with drawn:=w0.drawn+1 })(plain:∀i o,ops[i]? = some o->∀v,V i=some v->∀(D:Nat->Bool) (sp:Nat->Value) (w:World),D i=false ->
   (∀j p,ops[j]? = some p->(∃e∈p.after,Region.binds .any e=true/\e.on=i)->D j=false) ->
   (∀e∈o.after,Region.binds .any e=true->V e.on=none->D e.on=true)->(∀j,D j=true->F j (sp j) w)->G D sp w ->
   asked P o ops (En ops (mix V sp) (List.range i) a0) w fun u w'=>u=v/\w'=w)(special:∀i o,ops[i]? = some o->V i=none->∀(D:Nat->Bool) (sp:Nat->Value) (w:World),D i=false ->
   (∀j p,ops[j]? = some p->(∃e∈p.after,Region.binds .any e=true/\e.on=i)->D j=false) ->
   (∀e∈o.after,Region.binds .any e=true->V e.on=none->D e.on=true)->(∀j,D j=true->F j (sp j) w)->G D sp w ->
   asked P o ops (En ops (mix V sp) (List.range i) a0) w fun u w'=>R w w'/\F i u w'/\G (fun j=>D j||decide (j=i)) (upd sp i u) w')(done:∀(sp:Nat->Value) (w:World),(∀j,j<ops.size->V j=none->F j (sp j) w)->G (fun j=>decide (j<ops.size)&&(V j).isNone) sp w ->
   Q .normal (En ops (mix V sp) (List.range ops.size) a0) w):(Code.region id ops true).wp P Q a0 w0:=by
 refine wp_region_any hm ?_
 let D':Array Bool->Nat->Bool:=fun listed j=>listed.getD j false&&(V j).isNone
 let Inv:Array Bool->Act->World->Prop:=fun listed a w=>listed.size=ops.size/\(∀j o,listed.getD j false=true->ops[j]? = some o->∀e∈o.after,Region.binds .any e=true->listed.getD e.on false=true) /\
  ∃sp,At ops a0 (fun j=>listed.getD j false) (mix V sp) a/\(∀j,D' listed j=true->F j (sp j) w)/\G (D' listed) sp w
 have hset:∀(listed:Array Bool) (i:Nat),i<listed.size->(fun j=>(listed.setIfInBounds i true).getD j false)=(fun j=>listed.getD j false||decide (j=i)):=by
  intro listed i hi
  funext j
  by_cases hji:j=i
  .subst hji;simp[hi]
  .rw[getD_set_ne false (Ne.symm hji)];simp[hji]
 refine Lt hb Inv ?_ ?_ _ _ _ _ (by simp) ?_ ?_
 .intro listed a w i o ho hl hall ⟨hsz,hcl,sp,hat,hf,hg⟩;have hilt:i<ops.size:=(Ll ho).1;have hil:i<listed.size:=by omega
  have hDi:listed.getD i false=false:=by simp[hil]at hl ⊢;exact hl
  have hsel:=Region.noSelect_spec hs i o;have hrd:=Ol hu hd hat hcl ho hDi hall;have hex:=Na (ops:=ops) o (fun cs d=>hsel cs d ho) hrd;have hwt:=Mm (ops:=ops) o hrd;have hcl':∀j p,(listed.setIfInBounds i true).getD j false=true->ops[j]? = some p->∀e∈p.after,Region.binds .any e=true->(listed.setIfInBounds i true).getD e.on false=true:=by
   intro j p hj hp e he hbd;refine getD_set_true ?_
   by_cases hji:j=i
   .subst hji;rw[ho]at hp;cases hp;exact hall e he hbd
   .rw[getD_set_ne false (Ne.symm hji)]at hj;exact hcl j p hj hp e he hbd
  have hdeps:∀e∈o.after,Region.binds .any e=true->V e.on=none->D' listed e.on=true:=fun e he hbd hv=>by
   simp only[D',hall e he hbd,hv];rfl
  have hD'i:D' listed i=false:=by simp only[D',hDi];rfl
  have hwait:∀j p,ops[j]? = some p->(∃e∈p.after,Region.binds .any e=true/\e.on=i)->D' listed j=false:=by
   intro j p hp ⟨e,he,hbd,hei⟩
   cases hj:listed.getD j false with
   | false=>simp only[D',hj];rfl
   | true=>have:=hcl j p hj hp e he hbd;rw[hei,hDi]at this;cases this
  have atput:∀v,At ops a0 (fun j=>(listed.setIfInBounds i true).getD j false) (fun j=>if j=i then v else mix V sp j) (a.put o.dst v):=by
   intro v;rw[hset listed i hil];have:=hat.step hd hDi v;rw[ho]at this
   exact this
  -- the next state
  have fin:∀v w',(V i=some v->w'=w)->(V i=none->R w w'/\F i v w'/\G (fun j=>D' listed j||decide (j=i)) (upd sp i v) w')->(∀u,V i=some u->u=v)->Inv (listed.setIfInBounds i true) (a.put o.dst v) w':=by
   intro v w' hp hsn hvu;refine⟨by simpa using hsz,hcl',if (V i).isSome then sp else upd sp i v,?_,?_,?_⟩
   .have e:mix V (if (V i).isSome then sp else upd sp i v)=(fun j=>if j=i then v else mix V sp j):=by
     funext j
     by_cases hji:j=i
     .subst hji
      cases hV:V j with
      | none=>simp[mix,hV,upd]
      | some u=>simp[mix,hV,hvu u hV]
     .cases hV:V i with
      | none=>simp[mix,hji,upd]
      | some u=>simp[mix,hji]
    rw[e];exact atput v
   .intro j hj
    by_cases hji:j=i
    .subst hji;have hV:V j=none:=by simp only[D',Bool.and_eq_true,Option.isNone_iff_eq_none]at hj;exact hj.2
     simpa [hV,upd]using(hsn hV).2.1
    .simp only[D',getD_set_ne false (Ne.symm hji)]at hj;have hspj:(if (V i).isSome then sp else upd sp i v) j=sp j:=by split<;>simp[upd,hji]
     rw[hspj];have hVj:V j=none:=by simp only[Bool.and_eq_true,Option.isNone_iff_eq_none]at hj;exact hj.2
     have h1:=hf j hj
     cases hV:V i with
     | none=>exact hF _ _ _ _ hVj h1 (hsn hV).1
     | some u=>rw[hp (by rw[hV,hvu u hV])];exact h1
   .cases hV:V i with
    | none=>
     have e:D' (listed.setIfInBounds i true)=(fun j=>D' listed j||decide (j=i)):=by
      funext j
      by_cases hji:j=i
      .subst hji;simp[D',hV,hil]
      .simp only[D',getD_set_ne false (Ne.symm hji)];simp[hji]
     rw[e];simpa [hV]using(hsn hV).2.2
    | some u=>
     have e:D' (listed.setIfInBounds i true)=D' listed:=by
      funext j
      by_cases hji:j=i
      .subst hji;simp[D',hV]
      .simp only[D',getD_set_ne false (Ne.symm hji)]
     rw[e,hp (by rw[hV,hvu u hV])];simpa [hV]using hg
  have asked':∀K:Value->World->Prop,asked P o ops (En ops (mix V sp) (List.range i) a0) w K->(∀v w',K v w'->Inv (listed.setIfInBounds i true) (a.put o.dst v) w')->wpOp P ops Q i (Inv (listed.setIfInBounds i true)) a w:=by
   intro K hk hn;unfold asked at hk;rw[<-hwt]at hk
   unfold wpOp;simp only[ho];split
   .rename_i hw
    rw[if_pos hw]at hk
    unfold Oper.gives at hk;rw[<-hex]at hk
    exact .inl (Oper.wp_of_gives (R:=K) hk hn)
   .rename_i hw
    rw[if_neg hw]at hk
    exact hn _ _ hk
  cases hV:V i with
  | none=>
   exact asked' _ (special i o ho hV (D' listed) sp w hD'i hwait hdeps hf hg) fun v w' h=>fin v w' (fun e=>by rw[hV]at e;cases e) (fun _=>h) (fun u e=>by rw[hV]at e;cases e)
  | some v=>
   exact asked' _ (plain i o ho v hV (D' listed) sp w hD'i hwait hdeps hf hg) fun u w' h=>fin u w' (fun _=>h.2) (fun e=>by rw[hV]at e;cases e) (fun u' e=>by rw[hV]at e;cases e;exact h.1.symm)
 .intro listed a w hall ⟨hsz,_,sp,hat,hf,hg⟩;have e:(fun j=>listed.getD j false)=(fun j=>decide (j<ops.size)):=by
   funext j
   by_cases hj:j<ops.size
   .simp only[hall j hj];simp[hj]
   .have:¬j<listed.size:=by omega
    simp[this,hj]
  have eD:D' listed=(fun j=>decide (j<ops.size)&&(V j).isNone):=by
   funext j
   have:=congrFun e j;simp only[D',this]
  rw[e]at hat
  rw[eD]at hg
  have h1:At ops a0 (fun _=>false) (mix V sp) a0:=⟨rfl,rfl,fun _ _=>rfl,fun _ _ h=>by simp at h⟩
  have h2:=Gn hd (mix V sp) (List.range ops.size) _ a0 a0 h1 List.nodup_range (fun _ _=>rfl);have e2:(fun j=>false||decide (j∈List.range ops.size))=(fun j=>decide (j<ops.size)):=by funext j;simp[List.mem_range]
  rw[e2]at h2
  rw[hat.unique h2];exact done sp w (fun j hj hV=>hf j (by simp only[eD,hV];simp[hj])) hg
 .unfold Jo;refine Ep (List.length_filter_le _ _) ?_;simp
 .have e:∀j,(Array.replicate ops.size false).getD j false=false:=by
   intro j;simp[Array.getElem?_replicate];split<;>simp
  refine⟨by simp,?_,fun _=>undef,?_,?_,?_⟩
  .intro j o hj;rw[e j]at hj;cases hj
  .exact⟨rfl,rfl,fun _ _=>rfl,fun i t h=>by simp only[e i]at h;cases h⟩
  .intro j hj;simp only[D',e j]at hj;cases hj
  .have e2:D' (Array.replicate ops.size false)=(fun _=>false):=by funext j;simp only[D',e j];rfl
   rw[e2];exact h0
def Ax (P:Program)(ops:Array Oper)(V:List Bool)(R:World->World->Prop)(G:(Nat->Bool)->(Nat->Value)->World->Prop)(F:Nat->Value->World->Prop) :
  Nat->((Nat->Value)->Act)->List Oper->List (Option Value)->Prop
 | k,fr,o::l,some v::L=>(∀(D:Nat->Bool) (sp:Nat->Value) (w:World),D k=false->(∀j∈Dx ops k,D j=false)->(∀j∈Ij V o,D j=true/\F j (sp j) w)->G D sp w->asked P o ops (fr sp) w fun u w'=>u=v/\w'=w) /\
   Ax P ops V R G F (k+1) (fun sp=>(fr sp).put o.dst v) l L
 | k,fr,o::l,none::L=>(∀(D:Nat->Bool) (sp:Nat->Value) (w:World),D k=false->(∀j∈Dx ops k,D j=false)->(∀j∈Ij V o,D j=true/\F j (sp j) w)->G D sp w ->
    asked P o ops (fr sp) w fun u w'=>R w w'/\F k u w'/\G (fun j=>D j||decide (j=k)) (upd sp k u) w') /\
   Ax P ops V R G F (k+1) (fun sp=>(fr sp).put o.dst (sp k)) l L
 | _,_,[],[]=>True
 | _,_,_,_=>False
theorem Hg {P:Program}{all:List Oper}{ms:List Bool}{pl:List (Option Value)}{R:World->World->Prop}{G:(Nat->Bool)->(Nat->Value)->World->Prop}{F:Nat->Value->World->Prop}{a0:Act} :
  ∀(l:List Oper) (L:List (Option Value)) (k:Nat) (fr:(Nat->Value)->Act),(∀i,l[i]? = all[k+i]?)->(∀i,L[i]? = pl[k+i]?) ->
   (∀sp,fr sp=En all.toArray (mix (Bv pl) sp) (List.range k) a0)->Ax P all.toArray ms R G F k fr l L ->
   (∀i o,k<=i->all[i]? = some o->∀(D:Nat->Bool) (sp:Nat->Value) (w:World),D i=false->(∀j∈Dx all.toArray i,D j=false)->(∀j∈Ij ms o,D j=true/\F j (sp j) w)->G D sp w ->
    asked P o all.toArray (En all.toArray (mix (Bv pl) sp) (List.range i) a0) w fun u w'=>
     match Bv pl i with
     | some v=>u=v/\w'=w
     | none=>R w w'/\F i u w'/\G (fun j=>D j||decide (j=i)) (upd sp i u) w') /\
   (∀sp,Am k fr l L sp=En all.toArray (mix (Bv pl) sp) (List.range (k+l.length)) a0)
 | [],[],k,fr,hl,_,hfr,_=>by
  refine⟨fun i o hi ho=>?_,fun sp=>by simp only[Am,List.length_nil,Nat.add_zero];exact hfr sp⟩;have:=hl (i-k);rw[show k+(i-k)=i by omega,ho]at this
  simp at this
 | o::l,some v::L,k,fr,hl,hL,hfr,hd=>by
  obtain⟨h1,h2⟩:=hd;have ho:all[k]? = some o:=by have:=hl 0;simpa using this.symm
  have hp:Bv pl k=some v:=by have:=hL 0;simp at this;simp[Bv,<-this]
  have hfr':∀sp,(fr sp).put o.dst v=En all.toArray (mix (Bv pl) sp) (List.range (k+1)) a0:=fun sp=>by
   rw[List.range_succ,Gp,<-hfr sp];simp[ho,mix,hp]
  have ih:=Hg l L (k+1) (fun sp=>(fr sp).put o.dst v) (fun i=>by have:=hl (i+1);simpa [Nat.add_assoc,Nat.add_comm 1 i]using this) (fun i=>by have:=hL (i+1);simpa [Nat.add_assoc,Nat.add_comm 1 i]using this) hfr' h2;refine⟨fun i p hi hp'=>?_,fun sp=>?_⟩
  .by_cases hik:i=k
   .subst hik;rw[ho]at hp';cases hp'
    intro D sp w hD hwt hdp hG;rw[hp,<-hfr sp];exact h1 D sp w hD hwt hdp hG
   .exact ih.1 i p (by omega) hp'
  .simp only[Am,List.length_cons];rw[ih.2 sp];congr 2;omega
 | o::l,none::L,k,fr,hl,hL,hfr,hd=>by
  obtain⟨h1,h2⟩:=hd;have ho:all[k]? = some o:=by have:=hl 0;simpa using this.symm
  have hp:Bv pl k=none:=by have:=hL 0;simp at this;simp[Bv,<-this]
  have hfr':∀sp,(fr sp).put o.dst (sp k)=En all.toArray (mix (Bv pl) sp) (List.range (k+1)) a0:=fun sp=>by
   rw[List.range_succ,Gp,<-hfr sp];simp[ho,mix,hp]
  have ih:=Hg l L (k+1) (fun sp=>(fr sp).put o.dst (sp k)) (fun i=>by have:=hl (i+1);simpa [Nat.add_assoc,Nat.add_comm 1 i]using this) (fun i=>by have:=hL (i+1);simpa [Nat.add_assoc,Nat.add_comm 1 i]using this) hfr' h2;refine⟨fun i p hi hp'=>?_,fun sp=>?_⟩
  .by_cases hik:i=k
   .subst hik;rw[ho]at hp';cases hp'
    intro D sp w hD hwt hdp hG;rw[hp,<-hfr sp];exact h1 D sp w hD hwt hdp hG
   .exact ih.1 i p (by omega) hp'
  .simp only[Am,List.length_cons];rw[ih.2 sp];congr 2;omega
 | [],_::_,_,_,_,_,_,hd=>by simp[Ax]at hd
 | _::_,[],_,_,_,_,_,hd=>by simp[Ax]at hd
theorem Ig {P:Program}{ops:Array Oper}{ms:List Bool}{R:World->World->Prop}{G:(Nat->Bool)->(Nat->Value)->World->Prop}{F:Nat->Value->World->Prop} :
  ∀(l:List Oper) (L:List (Option Value)) (k:Nat) (fr:(Nat->Value)->Act),Ax P ops ms R G F k fr l L->L.length=l.length
 | [],[],_,_,_=>rfl
 | _::l,some _::L,k,_,h=>by simp[Ig l L (k+1) _ h.2]
 | _::l,none::L,k,_,h=>by simp[Ig l L (k+1) _ h.2]
 | [],_::_,_,_,h=>by simp[Ax]at h
 | _::_,[],_,_,h=>by simp[Ax]at h
theorem Aj {id:Nat}{a0:Act}{w0:World}{all:List Oper}(hm:P.follows .mixedOrders=true)(hok:Rs all.toArray=true)(pl:List (Option Value))(ms:List Bool)(hms:pl.map Option.isNone=ms)(R:World->World->Prop)(G:(Nat->Bool)->(Nat->Value)->World->Prop)(F:Nat->Value->World->Prop)(hF:∀i v w w',F i v w->R w w'->F i v w')(h0:G (fun _=>false) (fun _=>undef) { w0 with drawn:=w0.drawn+1 })(hd:Ax P all.toArray ms R G F 0 (fun _=>a0) all pl)(done:∀(sp:Nat->Value) (w:World),(∀j,ms.getD j false=true->F j (sp j) w)->G (fun j=>ms.getD j false) sp w ->
   Q .normal (Am 0 (fun _=>a0) all pl sp) w):(Code.region id all.toArray true).wp P Q a0 w0:=by
 simp only[Rs,Bool.and_eq_true]at hok;obtain⟨⟨⟨hb,hda⟩,hu⟩,hs⟩:=hok;obtain⟨h1,h2⟩:=Hg (a0:=a0) (pl:=pl) all pl 0 (fun _=>a0) (fun i=>by simp) (fun i=>by simp) (fun sp=>by simp[En]) hd;refine Nh hm hb hda hu hs (Bv pl) R G F (fun i v w w' _=>hF i v w w') h0 ?_ ?_ ?_
 .intro i o ho v hv D sp w hD hwt hdp hf hG;have:=h1 i o (Nat.zero_le _) (by simpa using ho) D sp w hD (fun j hj=>by
   obtain⟨p,hp,hex⟩:=Ev hj;exact hwt j p hp hex) (fun j hj=>by
   obtain⟨e,he,hbd,hV,rfl⟩:=Hd hms hj;exact⟨hdp e he hbd hV,hf _ (hdp e he hbd hV)⟩) hG
  rw[hv]at this
  exact this
 .intro i o ho hv D sp w hD hwt hdp hf hG;have:=h1 i o (Nat.zero_le _) (by simpa using ho) D sp w hD (fun j hj=>by
   obtain⟨p,hp,hex⟩:=Ev hj;exact hwt j p hp hex) (fun j hj=>by
   obtain⟨e,he,hbd,hV,rfl⟩:=Hd hms hj;exact⟨hdp e he hbd hV,hf _ (hdp e he hbd hV)⟩) hG
  rw[hv]at this
  exact this
 .intro sp w hf hG;have e:=h2 sp;rw[Nat.zero_add]at e
  simp only[List.size_toArray]at hf hG ⊢;rw[<-e];have hlen:=Ig _ _ _ _ hd;refine done sp w (fun j hj=>?_) ?_
  .rw[Nq hms,hlen]at hj
   simp only[Bool.and_eq_true,decide_eq_true_eq,Option.isNone_iff_eq_none]at hj;exact hf j hj.1 hj.2
  .have e2:(fun j=>ms.getD j false)=(fun j=>decide (j<all.length)&&(Bv pl j).isNone):=by
    funext j;rw[Nq hms,hlen]
   rw[e2];exact hG
end
end Go.Proofs.YthgoeiegdhphjaaGreatDoor.Flow
namespace Go.Proofs.YthgoeiegdhphjaaGreatDoor
open Go Go.RowKit Go.Proofs.YthgoeiegdhphjaaGreatDoor.Flow
theorem Uc:(⟨((([0,1,2,2,3,3,3,3,4,4,4,4,4,4,4,4,5,5,5,5,5,5,5,5,5,5,5,5,5,5,5,5,6,6,6,6,6,6,6,6,6,6,6,6,6,6,6,6,6,6,6,6,6,6,6,6,6,6,6,6,6,6,6,6]:List UInt8).append [7,7,7,7,7,7,7,7,7,7,7,7,7,7,7,7,7,7,7,7,7,7,7,7,7,7,7,7,7,7,7,7,7,7,7,7,7,7,7,7,7,7,7,7,7,7,7,7,7,7,7,7,7,7,7,7,7,7,7,7,7,7,7,7]).append (([8,8,8,8,8,8,8,8,8,8,8,8,8,8,8,8,8,8,8,8,8,8,8,8,8,8,8,8,8,8,8,8,8,8,8,8,8,8,8,8,8,8,8,8,8,8,8,8,8,8,8,8,8,8,8,8,8,8,8,8,8,8,8,8]:List UInt8).append [8,8,8,8,8,8,8,8,8,8,8,8,8,8,8,8,8,8,8,8,8,8,8,8,8,8,8,8,8,8,8,8,8,8,8,8,8,8,8,8,8,8,8,8,8,8,8,8,8,8,8,8,8,8,8,8,8,8,8,8,8,8,8,8])).toArray⟩:ByteArray)=Lib.len8tab:=by kernel_rfl
theorem Zf:∀n:Fin 256,Lib.len8 (n.val:Int)=(Ba n.val:Int):=by decide +kernel
theorem Nn (y:Int)(h0:0<=y)(h1:y<=255)(h:y.toNat<Lib.len8tab.size):((Lib.len8tab[y.toNat]'h).toNat:Int)=(Ba y.toNat:Nat):=by
 have e:=Zf ⟨y.toNat,by omega⟩;simp only[Int.toNat_of_nonneg h0]at e;rw[<-e];unfold Lib.len8;rw[getElem?_pos Lib.len8tab y.toNat h];rfl
theorem Ls (k:Nat)(m n:Nat)(hk:k<=24)(hm:Ba m<=64)(e:Ba n=k+Ba m):wrap64 ((k:Int)+wrap64 (Ba m:Nat))=(Ba n:Nat):=by
 rw[e,IntWalk.wrap64_in (Ba m:Nat) ⟨by omega,by omega⟩,IntWalk.wrap64_in _ ⟨by omega,by omega⟩];omega
theorem Va (m:Nat)(hm:Ba m<=64):wrap64 (wrap64 (Ba m:Nat))=(Ba m:Nat):=by
 rw[IntWalk.wrap64_in (Ba m:Nat) ⟨by omega,by omega⟩,IntWalk.wrap64_in _ ⟨by omega,by omega⟩]
theorem Zg (x:Int)(w:World)(h0:0<=x)(hx:x<=4294967295) :
  Calls Tryz.prog 209 #[.int .u32 x] w fun e w'=>e=.returned (.int .i64 (Ba x.toNat:Nat))/\w=w':=by
 have hs:Lib.len8tab.size=256:=Lib.len8tab_size;go_enter Tryz.func209,Tryz.ntmps209;rw[Uc];go_wp2
 all_goals first
  | (go_ret;refine⟨congrArg Ending.returned (congrArg (Value.int IntKind.i64) ?_),rfl⟩)
  | (exfalso;omega)
 all_goals first
  | (rw[Nn (x/65536/256) (by omega) (by omega)];exact Ls 24 _ _ (by omega) (Jc (by omega)) (by rw[show (x/65536/256).toNat=x.toNat/2^24 by omega];exact Hj _ _ (by omega)))
  | (rw[Nn (x/65536) (by omega) (by omega)];exact Ls 16 _ _ (by omega) (Jc (by omega)) (by rw[show (x/65536).toNat=x.toNat/2^16 by omega];exact Hj _ _ (by omega)))
  | (rw[Nn (x/256) (by omega) (by omega)];exact Ls 8 _ _ (by omega) (Jc (by omega)) (by rw[show (x/256).toNat=x.toNat/2^8 by omega];exact Hj _ _ (by omega)))
  | (rw[Nn x (by omega) (by omega)];exact Va _ (Jc (by omega)))
theorem Mw (x:Nat)(w:World)(hx:x<4294967296) :
  Calls Tryz.prog 209 #[.int .u32 x] w fun e w'=>e=.returned (.int .i64 (Ba x:Nat))/\w=w':=by
 have:=Zg x w (by omega) (by omega);simpa using this
theorem Xb {ws:List Nat}{x:Nat}(hw:Words (ws++[x]))(hx:x≠0):Ba (val (ws++[x]))=32*ws.length+Ba x:=by
 rw[Cx];have hb:Ao ws.length=2^(32*ws.length):=by unfold Ao;rw[show (4294967296:Nat)=2^32 from rfl,<-Nat.pow_mul]
 have h1:val ws<Ao ws.length:=Words.lt fun y hy=>hw y (by simp[hy])
 have hd:(val ws+Ao ws.length*x)/2^(32*ws.length)=x:=by
  rw[<-hb,Nat.add_mul_div_left _ _ (Ez _),Nat.div_eq_of_lt h1,Nat.zero_add]
 have:=Hj (val ws+Ao ws.length*x) (32*ws.length) (by rw[hd];omega);rw[hd]at this
 exact this
theorem Dj (w:World)(p:Option Addr)(n c N:Nat)(h:Ag w p n c N)(hn:n<1000000) :
  Calls Tryz.prog 177 #[.agg #[.slice p n c]] w fun e w'=>e=.returned (.int .i64 (Ba N:Nat))/\Below w.heap.size w w':=by
 have hbx:=Db.mk1 w (.slice p n c) 36
 by_cases h0:n=0
 .have hN:N=0:=h.zero.1 h0;subst hN;have hd:decide (n=0)=true:=by simpa using h0
  clear h0;go_enter Tryz.func177,Tryz.ntmps177
  go_wp2_with fail
  refine(Cr _ p n c).mono ?_;rintro e w1 ⟨rfl,hb1⟩;go_wp2;go_ret;exact⟨rfl,(hbx.later hb1).bel⟩
 .obtain⟨m,rfl⟩:∃m,n=m+1:=⟨n-1,by omega⟩
  obtain⟨ws,h1,h2,h3,h4⟩:=h.ex;have hl:=h1.len;obtain⟨xs,x,rfl⟩:∃xs x,ws=xs++[x]:=by
   rcases List.eq_nil_or_concat ws with rfl|⟨xs,x,h⟩
   .simp at hl
   .exact⟨xs,x,by simpa using h⟩
  have hxm:xs.length=m:=by simp at hl;omega
  have hx0:x≠0:=by simpa using h3
  have hx1:x<4294967296:=h2 x (by simp);have hbl:=Xb h2 hx0;rw[h4,hxm]at hbl
  have HBL:=Ah hbl;have hxb:Ba x<=32:=by rw[De];exact hx1
  obtain⟨b,off,rfl,hb,hc⟩:=h1.pos (by omega);have hci:∀w',Below w.heap.size w w'->w'.cell? ⟨b,off+m,none⟩=some (.int .u32 (x:Nat)):=fun w' hb'=>by
   rw[(Cc hb').1 _ _ hb];exact hc m x (by rw[<-hxm];simp)
  have hd:decide (m+1=0)=false:=by simp
  clear hc hl h4 hbl hxm;go_enter Tryz.func177,Tryz.ntmps177
  go_wp2_with fail
  refine(Cr _ _ (m+1) c).mono ?_;rintro e w1 ⟨rfl,hb1⟩;have hbx1:=hbx.later hb1;have c0:=hbx1.c0;have hcx:=hci w1 hbx1.bel;clear hci
  go_wp2_with fail
  refine(Mw x _ hx1).mono ?_;rintro e w2 ⟨rfl,rfl⟩;go_wp2;go_ret;refine⟨?_,hbx1.bel⟩;rw[HBL.out];exact congrArg (fun z=>Ending.returned (.int .i64 z)) (by omega)
def Fx (N n:Nat):List Nat:=(List.range n).map fun i=>N/B8 i%256
def Bl (N n:Nat):List Nat:=(Fx N n).reverse
def As (N:Nat):Nat:=(Ba N+7)/8
theorem Fz (N n:Nat):(Fx N n).length=n:=by simp[Fx]
theorem Lz (N n:Nat):Fx N (n+1)=Fx N n++[N/B8 n%256]:=by simp[Fx,List.range_succ]
theorem Jv (N n:Nat):Az (Fx N n):=by
 intro x hx;simp only[Fx,List.mem_map]at hx;obtain⟨j,_,rfl⟩:=hx;exact Nat.mod_lt _ (by omega)
theorem Im (N:Nat):N<B8 (As N):=by
 rw[Kl];refine(De N _).1 ?_;unfold As;omega
theorem Gw {N n:Nat}:As N<=n ↔ N<B8 n:=by
 rw[Kl,<-De];unfold As;omega
theorem bS {N k n:Nat}(h:N<B8 k)(hk:k<=n):Fx N k++List.replicate (n-k) 0=Fx N n:=by
 obtain⟨d,rfl⟩:∃d,n=k+d:=⟨n-k,by omega⟩
 rw[Nat.add_sub_cancel_left];clear hk
 induction d with
 | zero=>simp
 | succ d ih=>
  rw[List.replicate_succ',<-List.append_assoc,ih,<-Nat.add_assoc,Lz]
  congr 2
  have:B8 k<=B8 (k+d):=Ey (by omega);rw[Nat.div_eq_of_lt (by omega)]
theorem Xv (N:Nat):∀n,le (Fx N n)=N%B8 n
 | 0=>by simp[Fx,le,Lq,Nat.mod_one]
 | n+1=>by rw[Lz,Xu,Fz,Xv N n,Hp,Nat.mul_comm 256,Nat.mod_mul]
theorem Tr (l:List Nat)(k x:Nat)(hk:k<l.length):l.reverse.set (l.length-1-k) x=(l.set k x).reverse:=by
 apply List.ext_getElem (by simp);intro i h1 h2;simp only[List.length_set,List.length_reverse]at h1;rw[List.getElem_set,List.getElem_reverse,List.getElem_reverse,List.getElem_set];simp only[List.length_set]
 by_cases h:l.length-1-k=i
 .rw[if_pos h,if_pos (by omega)]
 .rw[if_neg h,if_neg (by omega)]
theorem Sp {N q r:Nat}(hr:r<4):N/Ao q%4294967296/B8 r%256=N/B8 (4*q+r)%256:=by
 have e:(4294967296:Nat)=B8 r*(256*B8 (3-r)):=by
  rw[<-Hp,<-Xm,show r+(3-r+1)=4 by omega];rfl
 rw[e,Nat.mod_mul_right_div_self,Nat.mod_mul_right_mod,Nat.div_div_eq_div_mul,Xm,Jf]
theorem Vk (w:World)(p:Option Addr)(n c N:Nat)(h:Ag w p n c N)(hn:n<1000000)(hN:Ba N<=1000000000) :
  Calls Tryz.prog 131 #[.agg #[.slice p n c]] w fun e w'=>e=.returned (.int .i64 (As N:Nat))/\Below w.heap.size w w':=by
 have hbx:=Db.mk1 w (.slice p n c) 36;obtain⟨k,hk⟩:∃k,Ba N=k:=⟨_,rfl⟩
 have HK:Hid (As N=(k+7)/8):=by rw[<-hk];rfl
 go_enter Tryz.func131,Tryz.ntmps131
 go_wp2_with fail
 refine(Dj _ p n c N (h.below hbx.bel) hn).mono ?_;rintro e w1 ⟨rfl,hb1⟩;rw[hk]at hN
 simp only[hk];clear hk;go_wp2;go_ret;refine⟨?_,(hbx.later hb1).bel⟩;rw[HK.out];exact congrArg (fun z=>Ending.returned (.int .i64 z)) (by omega)
theorem Ra (w:World)(p:Option Addr)(n c N s:Nat)(h:Ag w p n c N)(hn:n<1000000)(hN:Ba N<=1000000000)(hs:(s:Int)<=1000000)(h2:¬(s:Int)<As N) :
  Calls Tryz.prog 130 #[.agg #[.slice p n c],.int .i64 s] w fun e w'=>∃g,e=.returned (.tuple #[.slice (some ⟨g,0,none⟩) s s,.int .i64 0])/\Bd w' g 5 .u8 (Bl N s)/\Below w.heap.size w w'/\w.heap.size<=g:=by
 have hbx:=Db.mk1 w (.slice p n c) 36;have h1:¬(s:Int)<0:=by omega
 obtain⟨m,hm⟩:∃m,As N=m:=⟨_,rfl⟩
 have HM:Hid (∀k,m<=k ↔ N<B8 k):=fun k=>by rw[<-hm];exact Gw
 rw[hm]at h2
 obtain⟨ws,r1,r2,r3,r4⟩:=h.ex;have hmk:=Ry s (by omega);have hms:m<=s:=by omega
 have HR4:=Ah r4;go_enter Tryz.func130,Tryz.ntmps130
 go_wp2_with fail
 refine(Vk _ p n c N (h.below hbx.bel) hn hN).mono ?_;rintro e w1 ⟨rfl,hb1⟩;simp only[hm];clear hm r4;have hbx1:=hbx.later hb1;have hz1:w.heap.size<w1.heap.size:=hbx1.size;go_wp2
 go_loopw [24] (fun i wr=>∃k:Nat,k<=m/\i=.int .i64 k/\Db w wr (.slice p n c)/\w1.heap.size<wr.heap.size/\Below w1.heap.size w1 wr/\Bd wr w1.heap.size 5 .u8 ((Fx N k++List.replicate (s-k) 0).reverse)) (fun i _=>m-(intOf i).toNat)
 case atStart=>
  refine⟨0,by omega,rfl,hbx1.alloc _,by simp,(Bc _ _).alloc (Av _) _,?_⟩;have:=Bd.zeros w1 5 .u8 s;simpa [Fx]using this
 case round=>
  obtain⟨k,hk,rfl,hbr,hsz,hbw,hblk⟩:=hrel;have c0:=hbr.c0
  by_cases hkm:k<m
  .have hkn:k/4<n:=by
    rcases Nat.lt_or_ge (k/4) n with h3|h3
    .exact h3
    .exfalso;have h4:=r2.lt;rw[<-r1.len]at h4
     have h5:N<B8 k:=by
      have:Ao n<=B8 k:=by rw[<-Jf];exact Ey (by omega)
      have:=HR4.out;omega
     have h6:=(HM.out k).2 h5;omega
   obtain⟨b,off,rfl,hb,hc⟩:=r1.pos (by omega);obtain⟨x,hx⟩:∃x,ws.getD (k/4) 0=x:=⟨_,rfl⟩
   have hci:wr.cell? ⟨b,off+k/4,none⟩=some (.int .u32 (x:Nat)):=by
    rw[(Cc hbr.bel).1 _ _ hb];exact hc _ x (by rw[<-hx,Ec];simp[show k/4<ws.length by have:=r1.len;omega])
   have hx1:x<4294967296:=by rw[<-hx];exact r2.get _
   have hlen:(Fx N k++List.replicate (s-k) 0).length=s:=by rw[List.length_append,Fz,List.length_replicate];omega
   have hcl:wr.cell? ⟨w1.heap.size,s-1-k,none⟩=some (.int .u8 (((Fx N k++List.replicate (s-k) 0).reverse.getD (s-1-k) 0:Nat))):=hblk.cell (by
    rw[Ec];have:s-1-k<(Fx N k++List.replicate (s-k) 0).reverse.length:=by rw[List.length_reverse,hlen];omega
    simp only[List.getElem?_eq_getElem this,Option.getD_some])
   have hfr:=hblk.free (s-1-k);have hbyte:x/2^(k%4*8)%256=N/B8 k%256:=by
    have hd:=digit ws r2 (k/4);rw[HR4.out,hx]at hd
    rw[<-hd,Nat.mul_comm (k%4) 8,<-Kl,Sp (Nat.mod_lt _ (by omega))]
    congr 3;omega
   have hset:Hid (Bd (wr.setCell ⟨w1.heap.size,s-1-k,none⟩ (.int .u8 ((N/B8 k%256:Nat)))) w1.heap.size 5 .u8 ((Fx N (k+1)++List.replicate (s-(k+1)) 0).reverse)):=by
    have h5:=hblk.set (s-1-k) (N/B8 k%256);have h6:=Tr (Fx N k++List.replicate (s-k) 0) k (N/B8 k%256) (by rw[hlen];omega);rw[hlen]at h6
    rw[h6]at h5
    have h7:s-k=(s-(k+1))+1:=by omega
    have h8:(Fx N k++List.replicate (s-k) 0).set k (N/B8 k%256)=Fx N (k+1)++List.replicate (s-(k+1)) 0:=by
     rw[h7,Lz];have:=Iw (Fx N k) (s-(k+1)) (N/B8 k%256);rw[Fz]at this
     exact this
    rw[h8]at h5
    exact h5
   have HX:=Ah hx;have HB:=Ah hbyte;have hk3:k%4<4:=Nat.mod_lt _ (by omega);clear hc hx hbyte hlen;go_wp2;go_roundw
   case rel=>
    have e:((x:Int)/2^(k%4*8)%256)=((N/B8 k%256:Nat):Int):=by
     rw[<-HB.out];simp
    rw[e];exact⟨k+1,by omega,by go_num,hbr.below (B:=w.heap.size+1) ((Bc _ _).setCell (by simp;omega) _) (Av _),by simpa using hsz,hbw.setCell (by simp) _,hset.out⟩
   case measure=>simp[intOf];omega
  .have hkm':m<=k:=by omega
   rw[bS ((HM.out k).1 hkm') (by omega)]at hblk
   have HRow:Hid (Bd wr w1.heap.size 5 .u8 (Bl N s)):=hblk;have hbel:=hbr.bel;go_wp2
   go_ret2
   exact⟨_,rfl,HRow.out,hbel,Nat.le_of_lt hz1⟩
open Go Go.RowKit
def cV (x y c:Nat):Nat:=if x<y+c then 1 else 0
theorem gK (x y c:Nat):cV x y c<=1:=by unfold cV;split<;>omega
theorem Ko (n:Nat)(h:n<4294967296):n.testBit 31=decide (2147483648<=n):=by
 rw[Nat.testBit_eq_decide_div_mod_eq];simp only[Nat.reducePow];rw[decide_eq_decide];omega
theorem dX (n:Nat)(h:n<4294967296):n/2147483648=(n.testBit 31).toNat:=by
 rw[Ko n h]
 by_cases h1:2147483648<=n
 .simp[h1];omega
 .simp[h1];omega
theorem Jd {a b:Nat}(h:b<4294967296):a &&& b<4294967296:=Nat.lt_of_le_of_lt Nat.and_le_right h
theorem Iu {a b:Nat}(ha:a<4294967296)(hb:b<4294967296):a ^^^ b<4294967296:=Nat.xor_lt_two_pow (n:=32) ha hb
theorem bG {a b:Nat}(ha:a<4294967296)(hb:b<4294967296):a ||| b<4294967296:=Nat.or_lt_two_pow (n:=32) ha hb
theorem Yg (x y c d:Nat)(hx:x<4294967296)(hy:y<4294967296)(hc:c<=1)(hd:d=(x+8589934592-y-c)%4294967296) :
  (((4294967295 ^^^ x) &&& y) ||| ((4294967295 ^^^ (x ^^^ y)) &&& d))/2147483648=cV x y c:=by
 have hdl:d<4294967296:=by rw[hd];exact Nat.mod_lt _ (by omega)
 rw[dX _ (bG (Jd hy) (Jd hdl))];simp only[Nat.testBit_or,Nat.testBit_and,Nat.testBit_xor];rw[Ko x hx,Ko y hy,Ko d hdl,Ko 4294967295 (by omega)];unfold cV
 by_cases h1:2147483648<=x<;>by_cases h2:2147483648<=y<;>by_cases h3:2147483648<=d<;>by_cases h4:x<y+c<;>simp[h1,h2,h3,h4]<;>omega
theorem Vg (x y c:Nat)(hx:x<4294967296)(hy:y<4294967296)(hc:c<=1) :
  bits BinOp.or IntKind.u32 (bits BinOp.and IntKind.u32 (bits BinOp.xor IntKind.u32 IntKind.u32.max ↑x) ↑y)
        (bits BinOp.and IntKind.u32
         (bits BinOp.xor IntKind.u32 IntKind.u32.max (bits BinOp.xor IntKind.u32 ↑x ↑y))
         (((x:Int)-y-c)%4294967296))/2147483648=(cV x y c:Nat):=by
 have hm:IntKind.u32.max=((4294967295:Nat):Int):=rfl;obtain⟨d,hd⟩:∃d,d=(x+8589934592-y-c)%4294967296:=⟨_,rfl⟩
 have hd':((x:Int)-y-c)%4294967296=(d:Nat):=by omega
 have hdl:d<4294967296:=by omega
 rw[hm,hd',u32_xor_nat _ _ (by omega) hx,u32_xor_nat _ _ hx hy,u32_xor_nat _ _ (by omega) (Iu hx hy),u32_and_nat _ _ (Iu (by omega) hx) hy,
  u32_and_nat _ _ (Iu (by omega) (Iu hx hy)) hdl,u32_or_nat _ _ (Jd hy) (Jd hdl)]
 have:=Yg x y c d hx hy hc hd;omega
theorem Ti (x y c:Nat)(w:World)(hx:x<4294967296)(hy:y<4294967296)(hc:c<=1) :
  Calls Tryz.prog 165 #[.int .u32 x,.int .u32 y,.int .u32 c] w fun e w'=>
   e=.returned (.tuple #[.int .u32 (((x:Int)-y-c)%4294967296),.int .u32 (cV x y c:Nat)])/\w=w':=by
 have hs:IntKind.u32.signed=false:=rfl;have hq:=Ah (Vg x y c hx hy hc);go_enter Tryz.func165,Tryz.ntmps165;go_wp2
 go_ret2
 have e6:(((x:Int)-y)%4294967296-c)%4294967296=((x:Int)-y-c)%4294967296:=by omega
 exact⟨by rw[hq.out];exact congrArg (fun z=>Ending.returned (.tuple #[.int .u32 z,.int .u32 (cV x y c:Nat)])) e6,rfl⟩
structure Lp (A B:List Nat) (k:Nat) (S:List Nat) (bw:Nat):Prop where
 len:S.length=k
 words:Words S
 carry:bw<=1
 eq:val S+val (B.take k)=val (A.take k)+Ao k*bw
theorem Lp.start (A B:List Nat):Lp A B 0 [] 0:=⟨rfl,Words.nil,by omega,by simp[val]⟩
theorem Lp.step {A B:List Nat}{k:Nat}{S:List Nat}{bw d:Nat}(h:Lp A B k S bw)(hA:Words A)(hB:Words B)(hd:(d:Int)=(((A.getD k 0:Nat):Int)-(B.getD k 0:Nat)-bw)%4294967296) :
  Lp A B (k+1) (S++[d]) (cV (A.getD k 0) (B.getD k 0) bw):=by
 have h1:=hA.get k;have h2:=hB.get k;have h3:=h.carry;refine⟨by simp[h.len],h.words.snoc (by omega),gK _ _ _,?_⟩;rw[Cx,h.len,Aw,Aw,Bh];have e:=h.eq;have hb:d+B.getD k 0+bw=A.getD k 0+4294967296*cV (A.getD k 0) (B.getD k 0) bw:=by
  unfold cV;split<;>omega
 generalize A.getD k 0=x at *;generalize B.getD k 0=y at *;generalize cV x y bw=q at *;generalize Ao k=b at *;have e2:b*(d+y+bw)=b*(x+4294967296*q):=by rw[hb]
 have e3:b*(4294967296*q)=4294967296*b*q:=by rw[<-Nat.mul_assoc,Nat.mul_comm b]
 rw[Nat.mul_add,Nat.mul_add,Nat.mul_add,e3]at e2
 omega
theorem Lp.last {A B:List Nat}{k:Nat}{S:List Nat}{bw:Nat}(h:Lp A B k S bw)(hA:A.length=k)(hB:B.length<=k)(hle:val B<=val A):val S=val A-val B:=by
 have e:=h.eq;rw[List.take_of_length_le (l:=A) (by omega),List.take_of_length_le hB]at e
 have h1:=h.words.lt;rw[h.len]at h1
 have h2:=h.carry;rcases Nat.lt_or_ge bw 1 with h3|h3
 .obtain rfl:bw=0:=by omega
  omega
 .obtain rfl:bw=1:=by omega
  omega
def dM (N M:Nat)(w:World)(e:Ending)(w':World):Prop:=∃p n c,e=.returned (.tuple #[.agg #[.slice p n c],.bool (decide (M<=N))])/\Ag w' p n c (N-M)/\Below w.heap.size w w'/\Fj w.heap.size p
theorem Yf (w:World)(pa:Option Addr)(na ca N:Nat)(pb:Option Addr)(nb cb M:Nat)(hA:Ag w pa na ca N)(hB:Ag w pb nb cb M)(hs:na<1000000)(hsb:nb<1000000) :
  Calls Tryz.prog 120 #[.agg #[.slice pa na ca],.agg #[.slice pb nb cb]] w (dM N M w):=by
 have hb0:Below w.heap.size w (((w.alloc (.cells #[.slice pa na ca] 36)).alloc (.cells #[.slice pb nb cb] 36)).alloc (.cells #[.slice none 0 0] 36)) :=
  (((Bc _ w).alloc (Av _) _).alloc (by simp) _).alloc (by simp;omega) _
 by_cases hlt:N<M
 .have hcm:Bm N M = -1:=Dd hlt;go_enter Tryz.func120,Tryz.ntmps120
  go_wp2_with fail
  refine(Fo _ pa pb na ca N nb cb M (hA.below hb0) (hB.below hb0) hs hsb).mono ?_;rintro e w1 ⟨rfl,hb1⟩;obtain⟨hc,hf⟩:=Cc hb1;have hz:=hb1.size;simp only[World.size_alloc]at hz;go_wp2;refine bodyPost_ret (v:=.tuple #[.agg #[.slice none 0 0],.bool false]) (by simp[results,Tryz.results120,go_sem,hc]) rfl ⟨none,0,0,by simp[show ¬M<=N by omega],?_,?_,Fj.none _⟩
  .exact⟨[],Row.nil _ _,Words.nil,by simp,by simp[val];omega⟩
  .exact(hb0.trans (hb1.mono (by simp;omega))).setCell (by simp;omega) _
 .have hcm:¬Bm N M<0:=by
   unfold Bm;rw[if_neg hlt];split<;>omega
  obtain⟨A,a1,a2,a3,rfl⟩:=hA.ex;obtain⟨B,b1,b2,b3,rfl⟩:=hB.ex;have HA:=Ah a1.len;have HB:=Ah b1.len;have hle:nb<=na:=by
   rcases Nat.lt_or_ge na nb with h|h
   .exact absurd (hA.len_lt hB h) hlt
   .exact h
  have hmk:=Fs na (by omega);go_enter Tryz.func120,Tryz.ntmps120
  go_wp2_with fail
  refine(Fo _ pa pb na ca _ nb cb _ (hA.below hb0) (hB.below hb0) hs hsb).mono ?_;rintro e w1 ⟨rfl,hb1⟩;have hbx:=(Ce.mk3 w (.slice pa na ca) (.slice pb nb cb) (.slice none 0 0) 36 36 36).later hb1;have c0:=hbx.c0;have c1:=hbx.c1;have c2:=hbx.c2;have f2:=hbx.f2;have hz0:w.heap.size<w1.heap.size:=by have:=hbx.size;omega
  have hz1:w.heap.size+1<w1.heap.size:=by have:=hbx.size;omega
  have hz2:w.heap.size+1+1<w1.heap.size:=by have:=hbx.size;omega
  have HC:=Ah (show decide (Bm (val A) (val B)<0)=false by simpa using hcm);go_wp2
  go_loopw [7,22] (fun cy i wr=>∃k c:Nat,∃S,k<=na/\i=.int .i64 k/\cy=.int .u32 c/\Ce w wr (.slice pa na ca) (.slice pb nb cb) (.slice none 0 0)/\w1.heap.size<wr.heap.size/\Below w1.heap.size w1 wr/\Lp A B k S c/\Bd wr w1.heap.size 117 .u32 (S++List.replicate (na-k) 0)) (fun _ i _=>na-(intOf i).toNat)
  case atStart=>
   refine⟨0,0,[],by omega,rfl,rfl,hbx.alloc _,by simp,(Bc _ _).alloc (Av _) _,Lp.start A B,?_⟩;exact Bd.zeros _ _ _ _
  case round=>
   obtain⟨k,bw,S,hk,rfl,rfl,hbr,hsr,hbw,hS,hblk⟩:=hrel;clear c0 c1 c2 f2;have d0:=hbr.c0;have d1:=hbr.c1;have d2:=hbr.c2;have g2:=hbr.f2
   by_cases hkn:k<na
   .obtain⟨b,off,rfl,hb,hc⟩:=a1.pos (by omega);obtain⟨x,hx⟩:∃x,A.getD k 0=x:=⟨_,rfl⟩
    obtain⟨y,hy⟩:∃y,B.getD k 0=y:=⟨_,rfl⟩
    have hci:wr.cell? ⟨b,off+k,none⟩=some (.int .u32 (x:Nat)):=by
     rw[(Cc hbr.bel).1 _ _ hb];exact hc k x (by rw[<-hx,Ec];simp[show k<A.length by have:=HA.out;omega])
    have HX:=Ah hx;have HY:=Ah hy;have HSk:=Ah hS.len;clear hc hx hy;have hg0:=hblk.zero_cell HSk.out (by omega);have hgf:=hblk.free k
    go_wp2_with fail
    refine(Ek wr pb nb cb B k y (b1.below hbr.bel) (by omega) HY.out).mono ?_;rintro e w2 ⟨rfl,hb2⟩;have hy:y<4294967296:=by rw[<-HY.out];exact b2.get k
    have hx':x<4294967296:=by rw[<-HX.out];exact a2.get k
    have hcy:=hS.carry;have hg0':=((Cc hb2).1 _ k hblk.lt).trans hg0;have hgf':=((Cc hb2).2 _ k hblk.lt).trans hgf;obtain⟨d,hd⟩:∃d:Nat,(d:Int)=((x:Int)-y-bw)%4294967296:=⟨(((x:Int)-y-bw)%4294967296).toNat,by omega⟩
    have HD:=Ah hd;clear hd
    go_wp2_with fail
    refine(Ti x y bw _ hx' hy hcy).mono ?_;rintro e w3 ⟨rfl,rfl⟩;rw[<-HD.out];go_wp2;go_roundw
    case rel=>
     refine⟨k+1,_,S++[d],by omega,by go_num,rfl,(hbr.later hb2).below (B:=w.heap.size+3) ((Bc _ _).setCell (by simp;omega) _) (Av _),by have:=hb2.size;simp;omega,(hbw.trans (hb2.mono (by omega))).setCell (by simp) _,?_,?_⟩
     .have:=hS.step (d:=d) a2 b2 (by rw[HX.out,HY.out];exact HD.out);rw[HX.out,HY.out]at this
      exact this
     .exact(hblk.below hb2 hblk.lt).next HSk.out (by omega) d
    case measure=>clear HD;simp[intOf];omega
   .have hkn':na<=k:=by omega
    have hrow:=(hblk.row (n:=na) (c:=na) (by have:=hS.len;simp;omega) (Av _) (by omega))
    have hw2:Words (S++List.replicate (na-k) 0):=hS.words.append (Words.zeros _)
    go_wp2_with fail
    refine(Bx _ _ _ _ _ hrow hw2).mono ?_;rintro e w2 ⟨p,n,c,rfl,hn,hb2,hp⟩;have hbx3:=hbr.later hb2;have k2:=hbx3.c2;have e2:=hbx3.f2;have hn':Fj w1.heap.size p:=by
     intro q hq;rcases hp with rfl|rfl
     .cases hq
     .cases hq;simp
    have hv:val (S++List.replicate (na-k) 0)=val A-val B:=by
     rw[val_append,Gk,Nat.mul_zero,Nat.add_zero];exact hS.last (by have:=HA.out;omega) (by have:=HB.out;omega) (by omega)
    have HV:=Ah hv;clear hv;go_wp2;refine bodyPost_ret (v:=.tuple #[.agg #[.slice p n c],.bool true]) (by simp[results,Tryz.results120,go_sem,k2]) rfl ⟨p,n,c,by simp[show val B<=val A by omega],?_,?_,hn'.mono (by omega)⟩
    .rw[<-HV.out];exact hn.setCell (a:=⟨w.heap.size+1+1,0,none⟩) (hn'.ne hz2) (.slice p n c)
    .exact hbx3.bel.setCell (by simp;omega) _
def be (bs:List Nat):Nat:=le bs.reverse
theorem cF {bs:List Nat}{k:Nat}(h:k<bs.length):bs.reverse.getD k 0=bs.getD (bs.length-1-k) 0:=by
 rw[Ec,Ec,List.getElem?_reverse h]
theorem fU {x r:Nat}(hx:x<256)(hr:r<4) :
  IntKind.u32.wrap ((x:Int)*2^(min (((r:Int)*8).toNat) 32))=((x*B8 r:Nat):Int)/\x*B8 r<4294967296:=by
 have e1:((r:Int)*8).toNat=8*r:=by omega
 have e2:min (8*r) 32=8*r:=by omega
 have e3:(2:Int)^(8*r)=((B8 r:Nat):Int):=by rw[Kl];simp
 have h4:x*B8 r<4294967296:=by
  have h1:B8 (r+1)<=B8 4:=Ey (by omega);rw[Hp]at h1
  have h2:x*B8 r<256*B8 r:=(Nat.mul_lt_mul_right (dQ r)).2 hx;have h3:B8 4=4294967296:=rfl;omega
 rw[e1,e2,e3,<-Int.natCast_mul];exact⟨IntWalk.u32_in _ (by omega),h4⟩
theorem gT {W x r:Nat}(hW:W<B8 r)(h4:x*B8 r<4294967296)(hr:r<4):bits BinOp.or IntKind.u32 (W:Int) ((x*B8 r:Nat):Int)=((W+x*B8 r:Nat):Int):=by
 have hW4:W<4294967296:=by
  have h1:B8 r<=B8 4:=Ey (by omega);have h3:B8 4=4294967296:=rfl;omega
 rw[u32_or_nat _ _ hW4 h4,Nat.or_comm];rw[nat_join (8*r) (x*B8 r) W (by rw[<-Kl];exact Nat.mul_mod_left _ _) (by rw[<-Kl];exact hW),Nat.add_comm]
theorem Bt (w:World)(p:Option Addr)(n c:Nat)(bs:List Nat)(h:Bk w .u8 p n c bs)(hb8:Az bs)(hn:n<=128) :
  Calls Tryz.prog 146 #[.slice p n c] w fun e w'=>∃q m d,e=.returned (.tuple #[.agg #[.slice q m d],.int .i64 0])/\Ag w' q m d (be bs)/\Below w.heap.size w w'/\Fj w.heap.size q:=by
 have HL:=Ah h.len;obtain⟨m,hm1,hm2⟩:∃m:Nat,n<=4*m/\4*m<=n+3:=⟨(n+3)/4,by omega,by omega⟩
 have hmk:=Ly (i:=((n:Int)+4-1)/4) m (by omega) (by omega);go_enter Tryz.func146,Tryz.ntmps146;go_wp2
 go_loopw [18] (fun i wr=>∃k:Nat,k<=n/\i=.int .i64 k/\Db w wr (.slice none 0 0)/\w.heap.size+1<wr.heap.size/\Bd wr (w.heap.size+1) 117 .u32 (wordsOf (le (bs.reverse.take k)) m)) (fun i _=>n-(intOf i).toNat)
 case atStart=>
  refine⟨0,by omega,rfl,(Db.mk1 _ _ _).alloc _,by simp,?_⟩;have:=Bd.zeros (w.alloc (.cells #[.slice none 0 0] 36)) 117 .u32 m;rw[List.take_zero,le,Fl];simpa using this
 case round=>
  obtain⟨k,hk,rfl,hbx,hsz,hblk⟩:=hrel
  by_cases hkn:k<n
  .obtain⟨b,off,rfl,hb,hc⟩:=(h.row (by omega)).pos (by omega);obtain⟨j,hj⟩:∃j,n-1-k=j:=⟨_,rfl⟩
   obtain⟨x,hx⟩:∃x,bs.getD j 0=x:=⟨_,rfl⟩
   have hci:∀w',Db w w' (.slice none 0 0)->w'.cell? ⟨b,off+j,none⟩=some (.int .u8 (x:Nat)):=fun w' hb'=>by
    rw[(Cc hb'.bel).1 _ _ hb];exact hc j x (by rw[<-hx,Ec];simp[show j<bs.length by have:=HL.out;omega])
   have hx8:x<256:=by rw[<-hx];exact hb8.get j
   have HJ:=Ah hj;have HX:=Ah hx;clear hc hj hx;go_wp2;obtain⟨V,hV⟩:∃V,le (bs.reverse.take k)=V:=⟨_,rfl⟩
   obtain⟨q,hq⟩:∃q,k/4=q:=⟨_,rfl⟩
   obtain⟨r,hr⟩:∃r,k%4=r:=⟨_,rfl⟩
   obtain⟨d,hd⟩:∃d,V/Ao q%4294967296=d:=⟨_,rfl⟩
   rw[hV]at hblk
   have hVlt:V<B8 k:=by
    have:=(hb8.reverse.take k).lt;rw[hV]at this
    have hl:(bs.reverse.take k).length=k:=by simp;have:=HL.out;omega
    rwa [hl]at this
   have hor:=Vb (n:=m) hVlt hx8;rw[hq,hr,hd]at hor
   obtain⟨ho1,ho2,ho3⟩:=hor;have hr4:r<4:=by omega
   obtain⟨hs1,hs2⟩:=fU hx8 hr4;have hs3:=gT ho2 hs2 hr4;have t1:IntKind.i64.wrap ((k:Int)/4)=(q:Int):=by rw[IntWalk.i64_in _ (by omega)];omega
   have t2:(k:Int).tmod 4=(r:Int):=by rw[Int.tmod_eq_emod_of_nonneg (by omega)];omega
   have ty:IntKind.u32.wrap (x:Int)=x:=IntWalk.u32_in _ (by omega);have hs1':IntKind.u32.wrap ((x:Int)*2^(((r:Int)*8).toNat))=(x:Int)*(B8 r:Nat):=by
    have e:min (((r:Int)*8).toNat) 32=((r:Int)*8).toNat:=by omega
    rw[e]at hs1;rw[hs1,Int.natCast_mul]
   have hs3':bits BinOp.or IntKind.u32 (d:Int) ((x:Int)*(B8 r:Nat))=(d:Int)+(x:Int)*(B8 r:Nat):=by
    rw[<-Int.natCast_mul,hs3,Int.natCast_add]
   have t3:IntKind.i64.wrap ((r:Int)*8)=(r:Int)*8:=IntWalk.i64_in _ (by omega);have t4:IntKind.i64.wrap ((n:Int)-1)=(n:Int)-1:=IntWalk.i64_in _ (by omega);have t5:IntKind.i64.wrap ((n:Int)-1-k)=(j:Nat):=by
    rw[IntWalk.i64_in _ (by omega)];have:=HJ.out;omega
   have t6:(j:Int)<n:=by have:=HJ.out;omega
   have t7:(q:Int)<m:=by omega
   have t9:q<m:=by omega
   refine Ak (by kernel_rfl) (by kernel_rfl)
    [some (.slice (some ⟨w.heap.size+1,0,none⟩) m m),some (.int .i64 k),some (.int .i64 (q:Nat)),some (.pointer (some ⟨w.heap.size+1,q,none⟩)),some (.int .u32 (d:Nat)),some (.slice (some ⟨b,off,none⟩) n c),some (.slice (some ⟨b,off,none⟩) n c),
     some (.int .i64 n),some (.int .i64 ((n:Int)-1)),some (.int .i64 k),some (.int .i64 (j:Nat)),some (.pointer (some ⟨b,off+j,none⟩)),some (.int .u8 (x:Nat)),some (.int .u32 (x:Nat)),some (.int .i64 k),some (.int .i64 (r:Nat)),some (.int .i64 ((r:Int)*8)),
     some (.int .u32 (x*B8 r:Nat)),some (.int .u32 (d+x*B8 r:Nat)),some (.pointer (some ⟨w.heap.size+1,q,none⟩)),none]
    [false,false,false,false,false,false,false,false,false,false,false,false,false,false,false,false,false,false,false,false,true] rfl
    (fun _ _=>True)
    (fun D w'=>Db w w' (.slice none 0 0)/\w.heap.size+1<w'.heap.size/\Bd w' (w.heap.size+1) 117 .u32 (if D 20 then wordsOf (V+B8 k*x) m else wordsOf V m))
    (fun _ _ _=>True)
    (fun _ _ _ _ h _=>h) ⟨hbx.below (Bc _ _).drew (Av _),hsz,hblk⟩ ?_ ?_
   .simp only[Bb,Nat.reduceAdd];refine⟨?_,?_,?_,?_,?_,?_,?_,?_,?_,?_,?_,?_,?_,?_,?_,?_,?_,?_,?_,?_,?_,trivial⟩
    case refine_5=>
     intro D sp w' hD hW hdp ⟨hbx',hsz',hblk'⟩;have h20:D 20=false:=hW 20 (mq (by kernel_rfl));rw[h20]at hblk'
     simp only[Bool.false_eq_true,if_false]at hblk';have hcl:w'.cell? ⟨w.heap.size+1,q,none⟩=some (.int .u32 (d:Nat)):=hblk'.cell (by rw[Cq t9,hd]);simp[asked,Region.wanted,Oper.gives,execOp,Act.eval,Act.put,go_sem,hcl]
    case refine_21=>
     intro D sp w' hD hW hdp ⟨hbx',hsz',hblk'⟩;rw[hD]at hblk'
     simp only[Bool.false_eq_true,if_false]at hblk';have hcl:w'.cell? ⟨w.heap.size+1,q,none⟩=some (.int .u32 (d:Nat)):=hblk'.cell (by rw[Cq t9,hd]);have hfr:=hblk'.free q
     (with_reducible refine An (w1:=w'.setCell ⟨w.heap.size+1,q,none⟩ (.int .u32 (d+x*B8 r:Nat))) ?_ ?_ ?_)
     .simp only[Region.wanted]
     .simp[execOp,Act.eval,Act.put,go_sem,hcl,hfr]
     .refine⟨trivial,trivial,hbx'.below (B:=w.heap.size+1) ((Bc _ _).setCell (by simp) _) (Av _),by simpa using hsz',?_⟩;simp only[decide_true,Bool.or_true,if_true];rw[<-ho1];exact hblk'.set _ _
    all_goals
     intro D sp w' hD hW hdp ⟨hbx',hsz',hblk'⟩;have c1:=hci w' hbx';simp[asked,Region.wanted,Oper.gives,execOp,Act.eval,Act.put,go_sem,c1,t1,t2,t3,t4,t5,t6,t7,ty,hs1',hs3']
   .intro sp w' hsp ⟨hbx',hsz',hblk'⟩;have hblk2:Bd w' (w.heap.size+1) 117 .u32 (wordsOf (V+B8 k*x) m):=hblk';clear hblk' hsp;have HV:Hid (le (bs.reverse.take (k+1))=V+B8 k*x):=by
     have e:=Sa bs.reverse k (by simp;have:=HL.out;omega);rw[hV,cF (by have:=HL.out;omega),<-HL.out,HJ.out,HX.out]at e
     exact e
    clear hV hq hr hd t1 t2 t3 t4 t5 hs1 hs1' hs3 hs3' ty ho1;simp only[Am,Nat.reduceAdd]
    go_simp
    go_wp2;go_roundw
    case rel=>exact⟨k+1,by omega,by go_num,hbx',hsz',by rw[HV.out];exact hblk2⟩
    case measure=>simp[intOf];omega
  .have hkn':n<=k:=by omega
   have hkl:k=bs.length:=by have:=HL.out;omega
   have hrow:=hblk.row (n:=m) (c:=m) (by rw[Ap]) (Av _) (by omega);have hv:val (wordsOf (le (bs.reverse.take k)) m)=be bs:=by
    rw[List.take_of_length_le (by simp;omega)];refine By (Dm hb8.reverse.lt ?_);rw[<-Jf];exact Ey (by simp;omega)
   have HV:=Ah hv;clear hv hkl
   go_wp2_with fail
   refine(Bx _ _ _ _ _ hrow (Ch _ _)).mono ?_;rintro e w2 ⟨q,l,d,rfl,hn2,hb2,hp⟩;have hbx2:=hbx.later hb2;have c0:=hbx2.c0;have f0:=hbx2.f0;have hn':Fj (w.heap.size+1) q:=by
    intro a ha;rcases hp with rfl|rfl
    .cases ha
    .cases ha;simp
   go_wp2;refine bodyPost_ret (v:=.tuple #[.agg #[.slice q l d],.int .i64 0]) (by simp[results,Tryz.results146,go_sem,c0]) rfl ⟨q,l,d,rfl,?_,?_,hn'.mono (by omega)⟩
   .have:=hn2.setCell (a:=⟨w.heap.size,0,none⟩) (hn'.ne (show w.heap.size<w.heap.size+1 by omega)) (.slice q l d);rw[HV.out]at this
    exact this
   .exact hbx2.bel.setCell (Av _) _
def bit (N i:Nat):Bool:=decide (N/2^i%2=1)
theorem eP (N k:Nat):N%2^(k+1)=N%2^k+(if bit N k then 2^k else 0):=by
 rw[Nat.pow_succ,Nat.mod_mul];unfold bit;have:N/2^k%2<2:=Nat.mod_lt _ (by omega)
 by_cases h:N/2^k%2=1
 .simp[h]
 .have:N/2^k%2=0:=by omega
  simp[this]
theorem Nf (N i:Nat):bit N i=N.testBit i:=by
 unfold bit;rw[Nat.testBit_eq_decide_div_mod_eq]
def carry (N M k:Nat):Nat:=(N%2^k+M%2^k)/2^k
theorem bL (N k:Nat):N%2^(k+1)=N%2^k+2^k*(bit N k).toNat:=by
 rw[eP];cases bit N k<;>simp
theorem Bu (M n:Nat):(Bl M n).length=n:=by simp[Bl,Fz]
def Fit (e N:Nat)(v:Value)(w:World):Prop:=∃p n c,v=.agg #[.slice p n c]/\Ag w p n c N/\N<Ao e
theorem Fit.below {e N:Nat}{v:Value}{w w':World}(h:Fit e N v w)(hb:Below w.heap.size w w'):Fit e N v w' :=
 let ⟨p,n,c,h1,h2,h3⟩:=h
 ⟨p,n,c,h1,h2.below hb,h3⟩
theorem Fit.of {e N p n c}{w:World}(h:Ag w p n c N)(hN:N<Ao e):Fit e N (.agg #[.slice p n c]) w:=⟨p,n,c,rfl,h,hN⟩
theorem Fit.cast {e N M:Nat}{v:Value}{w:World}(h:Fit e N v w)(hN:N=M):Fit e M v w:=hN ▸ h
theorem Fit.lim {e N:Nat}{v:Value}{w:World}(h:Fit e N v w):N<Ao e:=let ⟨_,_,_,_,_,h3⟩:=h;h3
theorem eS {e f N M:Nat}(h:N<Ao e)(k:M<Ao f):N+M<Ao (e+f+1):=by
 have h1:Ao e<=Ao (e+f):=Cg (by omega);have h2:Ao f<=Ao (e+f):=Cg (by omega);rw[Bh];omega
theorem eR {e f N M:Nat}(h:N<Ao e)(k:M<Ao f):N*M<Ao (e+f):=by
 rw[Nv];exact Nat.mul_lt_mul'' h k
theorem Je {w:World}{v u:Value}{e f N M:Nat}(h:Fit e N v w)(k:Fit f M u w)(he:e<=900000)(hf:f<=900000) :
  Calls Tryz.prog 107 #[v,u] w fun en w'=>∃x,en=.returned x/\Fit (e+f+1) (N+M) x w'/\Below w.heap.size w w':=by
 obtain⟨p,n,c,rfl,h1,h2⟩:=h;obtain⟨q,m,d,rfl,k1,k2⟩:=k;have l1:=h1.len_le h2;have l2:=k1.len_le k2;refine(Re w p n c N q m d M h1 k1 (by omega) (by omega)).mono ?_;rintro en w' ⟨r,l,g,rfl,hr,hb,_⟩;exact⟨_,rfl,Fit.of hr (eS h2 k2),hb⟩
theorem Iz {w:World}{v u:Value}{e f N M:Nat}(h:Fit e N v w)(k:Fit f M u w)(he:e<=900000)(hf:f<=900000) :
  Calls Tryz.prog 108 #[v,u] w fun en w'=>∃x,en=.returned x/\Fit (e+f) (N*M) x w'/\Below w.heap.size w w':=by
 obtain⟨p,n,c,rfl,h1,h2⟩:=h;obtain⟨q,m,d,rfl,k1,k2⟩:=k;have l1:=h1.len_le h2;have l2:=k1.len_le k2;refine(Yv w p n c N q m d M h1 k1 (by omega) (by omega)).mono ?_;rintro en w' ⟨r,l,g,rfl,hr,hb,_⟩;exact⟨_,rfl,Fit.of hr (eR h2 k2),hb⟩
theorem Nt {w:World}{v u:Value}{e f N M:Nat}(h:Fit e N v w)(k:Fit f M u w)(he:e<=900000)(hf:f<=900000) :
  Calls Tryz.prog 33 #[v,u] w fun en w'=>∃x,en=.returned x/\x=.int .i64 (Bm N M)/\Below w.heap.size w w':=by
 obtain⟨p,n,c,rfl,h1,h2⟩:=h;obtain⟨q,m,d,rfl,k1,k2⟩:=k;have l1:=h1.len_le h2;have l2:=k1.len_le k2;refine(Fo w p q n c N m d M h1 k1 (by omega) (by omega)).mono ?_;rintro en w' ⟨rfl,hb⟩;exact⟨_,rfl,rfl,hb⟩
theorem Rl {w:World}{v u:Value}{e f N M:Nat}(h:Fit e N v w)(k:Fit f M u w)(he:e<=900000)(hf:f<=900000) :
  Calls Tryz.prog 120 #[v,u] w fun en w'=>∃x,en=.returned (.tuple #[x,.bool (decide (M<=N))])/\Fit e (N-M) x w'/\Below w.heap.size w w':=by
 obtain⟨p,n,c,rfl,h1,h2⟩:=h;obtain⟨q,m,d,rfl,k1,k2⟩:=k;have l1:=h1.len_le h2;have l2:=k1.len_le k2;refine(Yf w p n c N q m d M h1 k1 (by omega) (by omega)).mono ?_;rintro en w' ⟨r,l,g,rfl,hr,hb,_⟩;exact⟨_,rfl,Fit.of hr (by omega),hb⟩
theorem Gu (N:Nat):Bm N N=0:=by simp[Bm]
structure Al (B:Nat) (w w':World):Prop where
 bel:Below B w w'
 nat:∀p n c N,Ag w p n c N->Ag w' p n c N
theorem Al.of {B:Nat}{w w':World}(h:Below w.heap.size w w')(hB:B<=w.heap.size):Al B w w':=⟨h.mono hB,fun _ _ _ _ k=>k.below h⟩
theorem Fit.keep {e N B:Nat}{v:Value}{w w':World}(h:Fit e N v w)(k:Al B w w'):Fit e N v w' :=
 let ⟨p,n,c,h1,h2,h3⟩:=h
 ⟨p,n,c,h1,k.nat _ _ _ _ h2,h3⟩
def Ae (w:World)(b:Nat)(u:Value):Prop:=w.heap[b]? = some (.cells #[u] 36 (0,0))
theorem Ae.below {w w':World}{b B:Nat}{u:Value}(h:Ae w b u)(hb:Below B w w')(hB:b<B):Ae w' b u:=by
 unfold Ae at *;rw[hb.block b hB];exact h
theorem Ae.cell {w:World}{b:Nat}{u:Value}(h:Ae w b u):w.cell? ⟨b,0,none⟩=some u:=by
 unfold Ae at h;simp[World.cell?,h]
theorem Ae.free {w:World}{b:Nat}{u:Value}(h:Ae w b u):w.frozen? ⟨b,0,none⟩=false:=by
 unfold Ae at h;simp[World.frozen?,h]
theorem Ae.lt {w:World}{b:Nat}{u:Value}(h:Ae w b u):b<w.heap.size:=(Ll h).1
theorem Ae.set {w:World}{b:Nat}{u:Value}(h:Ae w b u)(v:Value):Ae (w.setCell ⟨b,0,none⟩ v) b v:=by
 unfold Ae at *;simp[World.setCell,Array.getElem?_modify,h]
theorem Ae.made (w:World)(u:Value):Ae (w.alloc (.cells #[u] 36)) w.heap.size u:=by
 show (w.heap.push _)[w.heap.size]? = _;simp
theorem Ag.store {w:World}{p:Option Addr}{n c N b m d:Nat}{q:Option Addr}(h:Ag w p n c N)(hb:Ae w b (.slice q m d))(v:Value):Ag (w.setCell ⟨b,0,none⟩ v) p n c N:=by
 obtain⟨ws,r1,r2,r3,r4⟩:=h.ex;rcases Nat.eq_zero_or_pos n with h0|h0
 .refine⟨ws,⟨r1.len,r1.cap,r1.max,?_⟩,r2,r3,r4⟩;rcases r1.at_ with k|⟨b',off,k1,k2,_⟩
  .exact .inl k
  .refine .inr ⟨b',off,k1,by simpa using k2,fun i x hx=>?_⟩;have:ws=[]:=List.eq_nil_of_length_eq_zero (by rw[<-r1.len];exact h0);rw[this]at hx;cases hx
 .refine h.setCell (a:=⟨b,0,none⟩) ?_ v;intro a ha hab;obtain⟨b',off,k1,k2,k3⟩:=r1.pos h0;rw[k1]at ha;cases ha
  have hbb:b'=b:=hab;subst hbb;have h1:=k3 0 (ws.getD 0 0) (by rw[Ec];simp[show 0<ws.length by rw[<-r1.len];exact h0]);unfold Ae at hb;simp only[World.cell?,hb,Nat.add_zero]at h1
  cases off with
  | zero=>simp at h1
  | succ k=>simp at h1
theorem Al.store {B:Nat}{w:World}{b m d:Nat}{q:Option Addr}(hb:Ae w b (.slice q m d))(hB:B<=b)(v:Value):Al B w (w.setCell ⟨b,0,none⟩ v) :=
 ⟨(Bc _ _).setCell hB _,fun _ _ _ _ k=>k.store hb v⟩
def aG (N:Nat)(w:World)(e:Ending)(w':World):Prop :=
 e=.returned (.tuple #[.int .u64 ((if Ba N<=64 then N else 0:Nat):Int),.bool (decide (Ba N<=64))])/\Below w.heap.size w w'
theorem dW {ws:List Nat}(hw:Words ws)(h:ws.length<=2):val ws=ws.getD 1 0*4294967296+ws.getD 0 0:=by
 match ws,h with
 | [],_=>simp[val]
 | [x],_=>simp[val]
 | [x,y],_=>simp[val];omega
theorem Ha (w:World)(p:Option Addr)(n c N:Nat)(h:Ag w p n c N)(hn:n<1000000) :
  Calls Tryz.prog 201 #[.agg #[.slice p n c]] w (aG N w):=by
 have hbx:=Db.mk1 w (.slice p n c) 36
 by_cases hN:Ba N<=64
 .have hn2:n<=2:=h.len_le (k:=2) (by have:=(De N 64).1 hN;exact this);obtain⟨ws,r1,r2,r3,r4⟩:=h.ex;have hv:=dW r2 (by have:=r1.len;omega);obtain⟨y,hy⟩:∃y,ws.getD 1 0=y:=⟨_,rfl⟩
  obtain⟨x,hx⟩:∃x,ws.getD 0 0=x:=⟨_,rfl⟩
  have hy4:y<4294967296:=by rw[<-hy];exact r2.get 1
  have hx4:x<4294967296:=by rw[<-hx];exact r2.get 0
  rw[hy,hx,r4]at hv
  have HY:=Ah hy;have HX:=Ah hx;have HV:=Ah hv;have HB:Hid (Ba N<=64):=Ah hN;have HI:Hid (¬(64:Int)<(Ba N:Nat)):=Ah (by omega);clear hv hx hy r4 hN;go_enter Tryz.func201,Tryz.ntmps201
  go_wp2_with fail
  refine(Dj _ p n c N (h.below hbx.bel) hn).mono ?_;rintro e w1 ⟨rfl,hb1⟩;have hbx1:=hbx.later hb1;have hI:=HI.out;go_wp2;clear hI;have t1:IntKind.u64.wrap ((y:Int)*4294967296)=(y:Int)*4294967296:=IntWalk.u64_in _ (by omega);have t2:=Kp y x hy4 hx4;have t3:IntKind.u64.wrap (y:Int)=y:=IntWalk.u64_in _ (by omega);have t4:IntKind.u64.wrap (x:Int)=x:=IntWalk.u64_in _ (by omega);refine Ak (by kernel_rfl) (by kernel_rfl)
   [some (.agg #[.slice p n c]),none,some (.int .u64 y),some (.int .u64 ((y:Int)*4294967296)),some (.agg #[.slice p n c]),none,some (.int .u64 x),some (.int .u64 ((y*4294967296+x:Nat):Int)),
    some (.int .u64 ((y*4294967296+x:Nat):Int)),some (.bool true)]
   [false,true,false,false,false,true,false,false,false,false] rfl
   (fun _ _=>True)
   (fun _ w'=>Db w w' (.slice p n c))
   (fun i v w'=>match i with
    | 1=>v=.int .u32 y
    | _=>v=.int .u32 x)
   (fun _ _ _ _ h _=>h) (hbx1.below (Bc _ _).drew (Av _)) ?_ ?_
  .simp only[Bb,Nat.reduceAdd];refine⟨?_,?_,?_,?_,?_,?_,?_,?_,?_,?_,trivial⟩
   case refine_2=>
    intro D sp w' hD hW hdp hbx'
    (with_reducible refine Ab (w1:=w') (f := 158) (args:=#[.agg #[.slice p n c],.int .i64 1]) ?_ ?_ ?_)
    .simp only[Region.wanted]
    .simp[Act.eval,Act.put,go_sem]
    .refine(Ek w' p n c ws 1 y (r1.below hbx'.bel) (by omega) HY.out).mono ?_;rintro e w2 ⟨rfl,hb⟩;exact⟨_,rfl,trivial,rfl,hbx'.later hb⟩
   case refine_6=>
    intro D sp w' hD hW hdp hbx'
    (with_reducible refine Ab (w1:=w') (f := 158) (args:=#[.agg #[.slice p n c],.int .i64 0]) ?_ ?_ ?_)
    .simp only[Region.wanted]
    .simp[Act.eval,Act.put,go_sem]
    .refine(Ek w' p n c ws 0 x (r1.below hbx'.bel) (by omega) HX.out).mono ?_;rintro e w2 ⟨rfl,hb⟩;exact⟨_,rfl,trivial,rfl,hbx'.later hb⟩
   case refine_3=>
    intro D sp w' hD hW hdp hbx';have k1:sp 1=.int .u32 y:=(hdp 1 (mq (by kernel_rfl))).2;simp[asked,Region.wanted,Oper.gives,execOp,Act.eval,Act.put,go_sem,k1,t3]
   case refine_7=>
    intro D sp w' hD hW hdp hbx';have k1:sp 5=.int .u32 x:=(hdp 5 (mq (by kernel_rfl))).2;simp[asked,Region.wanted,Oper.gives,execOp,Act.eval,Act.put,go_sem,k1,t4]
   all_goals
    intro D sp w' hD hW hdp hbx';have c0:=hbx'.c0;simp[asked,Region.wanted,Oper.gives,execOp,Act.eval,Act.put,go_sem,c0,t1,t2]
  .intro sp w' hsp hbx';clear hsp t1 t2 t3 t4;simp only[Am,Nat.reduceAdd];generalize sp 1=u1,sp 5=u5 at *
   go_simp
   go_wp2
   go_ret2
   refine⟨?_,hbx'.bel⟩;have hB:=HB.out;rw[if_pos hB,decide_eq_true hB,HV.out];simp
 .have HB:Hid (¬Ba N<=64):=Ah hN;have HI:Hid ((64:Int)<(Ba N:Nat)):=Ah (by omega);clear hN;go_enter Tryz.func201,Tryz.ntmps201
  go_wp2_with fail
  refine(Dj _ p n c N (h.below hbx.bel) hn).mono ?_;rintro e w1 ⟨rfl,hb1⟩;have hbx1:=hbx.later hb1;have hI:=HI.out;go_wp2
  go_ret2
  refine⟨?_,hbx1.bel⟩;rw[if_neg HB.out,decide_eq_false HB.out];rfl
theorem cY {N i x:Nat}(h:N/Ao (i/32)%4294967296=x):x/2^(i%32)%2=(bit N i).toNat:=by
 have e:Ao (i/32)=2^(32*(i/32)):=by unfold Ao;rw[Nat.pow_mul]
 have h2:bit N i=bit x (i%32):=by
  rw[Nf,Nf,<-h,e,show (4294967296:Nat)=2^32 from rfl,Nat.testBit_mod_two_pow,Nat.testBit_div_two_pow];have:i%32<32:=Nat.mod_lt _ (by omega);rw[Nat.mod_add_div];simp[this]
 rw[h2];unfold bit
 by_cases h3:x/2^(i%32)%2=1
 .simp[h3]
 .have h4:x/2^(i%32)%2<2:=Nat.mod_lt _ (by omega);have:x/2^(i%32)%2=0:=by omega
  simp[this]
def Lk (N:Nat)(i:Int):Nat:=if 0<=i then (bit N i.toNat).toNat else 0
theorem Rc (w:World)(p:Option Addr)(n c N:Nat)(i:Int)(h:Ag w p n c N)(_hn:n<1000000)(hi:-9223372036854775808<=i)(hi2:i<=9223372036854775807) :
  Calls Tryz.prog 194 #[.agg #[.slice p n c],.int .i64 i] w fun e w'=>e=.returned (.int .i64 (Lk N i:Nat))/\Below w.heap.size w w':=by
 have hbx:=Db.mk1 w (.slice p n c) 36
 by_cases h0:i<0
 .have HA:Hid (Lk N i=0):=Ah (by unfold Lk;rw[if_neg (by omega)]);go_enter Tryz.func194,Tryz.ntmps194;go_wp2;go_ret;exact⟨by rw[HA.out];rfl,hbx.bel⟩
 .obtain⟨j,rfl⟩:=Int.eq_ofNat_of_zero_le (show 0<=i by omega);have HA:Hid (Lk N (j:Int)=(bit N j).toNat):=Ah (by unfold Lk;rw[if_pos (by omega),Int.toNat_natCast]);obtain⟨ws,r1,r2,r3,r4⟩:=h.ex;obtain⟨q,hq⟩:∃q,j/32=q:=⟨_,rfl⟩
  obtain⟨r,hr⟩:∃r,j%32=r:=⟨_,rfl⟩
  obtain⟨x,hx⟩:∃x,ws.getD q 0=x:=⟨_,rfl⟩
  have hx4:x<4294967296:=by rw[<-hx];exact r2.get _
  have hd:=digit ws r2 q;rw[hx,r4]at hd
  have hbw:=cY (N:=N) (i:=j) (x:=x) (by rw[hq];exact hd);rw[hr]at hbw
  have hr5:r<32:=by omega
  have HX:=Ah hx;have HW:=Ah hbw;have eq1:Hid ((j:Int)/32=(q:Nat)):=Ah (by omega);have er1:Hid ((j:Int)%32=(r:Nat)):=Ah (by omega);have hq9:q<9223372036854775807:=by omega
  have hz4:x/2^r<4294967296:=Nat.lt_of_le_of_lt (Nat.div_le_self _ _) hx4;have hand:bits BinOp.and IntKind.u32 ((x:Int)/2^r) 1=((x/2^r%2:Nat):Int):=by
   have e1:((x:Int)/2^r)=((x/2^r:Nat):Int):=by simp[Int.natCast_ediv]
   have:=u32_and_nat (x/2^r) 1 hz4 (by omega);rw[e1];exact this.trans (by rw[Nat.and_one_is_mod])
  have HAN:=Ah hand;clear hd hbw hx hq hr r4 hand;go_enter Tryz.func194,Tryz.ntmps194
  go_wp2_with fail
  rw[eq1.out];refine(Ek _ p n c ws q x (r1.below hbx.bel) (by omega) HX.out).mono ?_;rintro e w1 ⟨rfl,hb1⟩;have hbx1:=hbx.later hb1;have hE:=er1.out;go_wp2;clear hE;go_ret;refine⟨?_,hbx1.bel⟩;rw[HAN.out,HW.out,HA.out,IntWalk.wrap64_in _ (by have:(bit N j).toNat<=1:=Bool.toNat_le _;omega)];rfl
end Go.Proofs.YthgoeiegdhphjaaGreatDoor
