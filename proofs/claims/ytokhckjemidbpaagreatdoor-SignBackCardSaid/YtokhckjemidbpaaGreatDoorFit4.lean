/- More contracts as the laws use them: division; boxes that a region makes. -/
import Derived.Test.YtokhckjemidbpaaGreatDoorShaA
import Derived.Laws.BytesArg
import Derived.Laws.BytesString
import Derived.WideShapes
import Derived.Test.YtokhckjemidbpaaGreatDoorDiv
set_option maxRecDepth 1000000
set_option maxHeartbeats 16000000
set_option linter.all false
namespace Go.Proofs.YtokhckjemidbpaaGreatDoor.Flow
open Go
section
variable {P:Program} {ops:Array Oper} {Q:Exit->Act->World->Prop}
def upd (sp:Nat->Value)(i:Nat)(v:Value):Nat->Value:=fun j=>if j=i then v else sp j
theorem Rt {id:Nat}{a0:Act}{w0:World}(hm:P.follows .mixedOrders=true)(hb:Jk ops=true)(hd:Gm ops=true)(hu:Sp ops=true)(hs:Region.noSelect ops=true)(V:Nat->Option Value)(R:World->World->Prop)(G:(Nat->Bool)->(Nat->Value)->World->Prop)(F:Nat->Value->World->Prop)(hF:∀i v w w',V i=none->F i v w->R w w'->F i v w')(h0:G (fun _=>false) (fun _=>undef) { w0 with drawn:=w0.drawn+1 })(plain:∀i o,ops[i]? = some o->∀v,V i=some v->∀(D:Nat->Bool) (sp:Nat->Value) (w:World),D i=false ->
   (∀j p,ops[j]? = some p->(∃e∈p.after,Region.binds .any e=true/\e.on=i)->D j=false) ->
   (∀e∈o.after,Region.binds .any e=true->V e.on=none->D e.on=true)->(∀j,D j=true->F j (sp j) w)->G D sp w ->
   asked P o ops (Hi ops (mix V sp) (List.range i) a0) w fun u w'=>u=v/\w'=w)(special:∀i o,ops[i]? = some o->V i=none->∀(D:Nat->Bool) (sp:Nat->Value) (w:World),D i=false ->
   (∀j p,ops[j]? = some p->(∃e∈p.after,Region.binds .any e=true/\e.on=i)->D j=false) ->
   (∀e∈o.after,Region.binds .any e=true->V e.on=none->D e.on=true)->(∀j,D j=true->F j (sp j) w)->G D sp w ->
   asked P o ops (Hi ops (mix V sp) (List.range i) a0) w fun u w'=>R w w'/\F i u w'/\G (fun j=>D j||decide (j=i)) (upd sp i u) w')(done:∀(sp:Nat->Value) (w:World),(∀j,j<ops.size->V j=none->F j (sp j) w)->G (fun j=>decide (j<ops.size)&&(V j).isNone) sp w ->
   Q .normal (Hi ops (mix V sp) (List.range ops.size) a0) w):(Code.region id ops true).wp P Q a0 w0:=by
 refine wp_region_any hm ?_
 let D':Array Bool->Nat->Bool:=fun listed j=>listed.getD j false&&(V j).isNone
 let Inv:Array Bool->Act->World->Prop:=fun listed a w=>listed.size=ops.size/\(∀j o,listed.getD j false=true->ops[j]? = some o->∀e∈o.after,Region.binds .any e=true->listed.getD e.on false=true) /\
  ∃sp,At ops a0 (fun j=>listed.getD j false) (mix V sp) a/\(∀j,D' listed j=true->F j (sp j) w)/\G (D' listed) sp w
 have hset:∀(listed:Array Bool) (i:Nat),i<listed.size->(fun j=>(listed.setIfInBounds i true).getD j false)=(fun j=>listed.getD j false||decide (j=i)):=by
  intro listed i hi
  funext j
  by_cases hji:j=i
  .subst hji;simp[hi]
  .rw[getD_set_ne false (Ne.symm hji)];simp[hji]
 refine Qb hb Inv ?_ ?_ _ _ _ _ (by simp) ?_ ?_
 .intro listed a w i o ho hl hall ⟨hsz,hcl,sp,hat,hf,hg⟩;have hilt:i<ops.size:=(Kv ho).1;have hil:i<listed.size:=by omega
  have hDi:listed.getD i false=false:=by simp[hil]at hl ⊢;exact hl
  have hsel:=Region.noSelect_spec hs i o;have hrd:=Tc hu hd hat hcl ho hDi hall;have hex:=Rn (ops:=ops) o (fun cs d=>hsel cs d ho) hrd;have hwt:=Qy (ops:=ops) o hrd;have hcl':∀j p,(listed.setIfInBounds i true).getD j false=true->ops[j]? = some p->∀e∈p.after,Region.binds .any e=true->(listed.setIfInBounds i true).getD e.on false=true:=by
   intro j p hj hp e he hbd;refine getD_set_true ?_
   by_cases hji:j=i
   .subst hji;rw[ho]at hp;cases hp;exact hall e he hbd
   .rw[getD_set_ne false (Ne.symm hji)]at hj;exact hcl j p hj hp e he hbd
  have hdeps:∀e∈o.after,Region.binds .any e=true->V e.on=none->D' listed e.on=true:=fun e he hbd hv=>by
   simp only[D',hall e he hbd,hv];rfl
  have hD'i:D' listed i=false:=by simp only[D',hDi];rfl
  have hwait:∀j p,ops[j]? = some p->(∃e∈p.after,Region.binds .any e=true/\e.on=i)->D' listed j=false:=by
   intro j p hp ⟨e,he,hbd,hei⟩
   cases hj:listed.getD j false with
   | false=>simp only[D',hj];rfl
   | true=>have:=hcl j p hj hp e he hbd;rw[hei,hDi]at this;cases this
  have atput:∀v,At ops a0 (fun j=>(listed.setIfInBounds i true).getD j false) (fun j=>if j=i then v else mix V sp j) (a.put o.dst v):=by
   intro v;rw[hset listed i hil];have:=hat.step hd hDi v;rw[ho]at this
   exact this
  -- the next state
  have fin:∀v w',(V i=some v->w'=w)->(V i=none->R w w'/\F i v w'/\G (fun j=>D' listed j||decide (j=i)) (upd sp i v) w')->(∀u,V i=some u->u=v)->Inv (listed.setIfInBounds i true) (a.put o.dst v) w':=by
   intro v w' hp hsn hvu;refine⟨by simpa using hsz,hcl',if (V i).isSome then sp else upd sp i v,?_,?_,?_⟩
   .have e:mix V (if (V i).isSome then sp else upd sp i v)=(fun j=>if j=i then v else mix V sp j):=by
     funext j
     by_cases hji:j=i
     .subst hji
      cases hV:V j with
      | none=>simp[mix,hV,upd]
      | some u=>simp[mix,hV,hvu u hV]
     .cases hV:V i with
      | none=>simp[mix,hji,upd]
      | some u=>simp[mix,hji]
    rw[e];exact atput v
   .intro j hj
    by_cases hji:j=i
    .subst hji;have hV:V j=none:=by simp only[D',Bool.and_eq_true,Option.isNone_iff_eq_none]at hj;exact hj.2
     simpa [hV,upd]using(hsn hV).2.1
    .simp only[D',getD_set_ne false (Ne.symm hji)]at hj;have hspj:(if (V i).isSome then sp else upd sp i v) j=sp j:=by split<;>simp[upd,hji]
     rw[hspj];have hVj:V j=none:=by simp only[Bool.and_eq_true,Option.isNone_iff_eq_none]at hj;exact hj.2
     have h1:=hf j hj
     cases hV:V i with
     | none=>exact hF _ _ _ _ hVj h1 (hsn hV).1
     | some u=>rw[hp (by rw[hV,hvu u hV])];exact h1
   .cases hV:V i with
    | none=>
     have e:D' (listed.setIfInBounds i true)=(fun j=>D' listed j||decide (j=i)):=by
      funext j
      by_cases hji:j=i
      .subst hji;simp[D',hV,hil]
      .simp only[D',getD_set_ne false (Ne.symm hji)];simp[hji]
     rw[e];simpa [hV]using(hsn hV).2.2
    | some u=>
     have e:D' (listed.setIfInBounds i true)=D' listed:=by
      funext j
      by_cases hji:j=i
      .subst hji;simp[D',hV]
      .simp only[D',getD_set_ne false (Ne.symm hji)]
     rw[e,hp (by rw[hV,hvu u hV])];simpa [hV]using hg
  have asked':∀K:Value->World->Prop,asked P o ops (Hi ops (mix V sp) (List.range i) a0) w K->(∀v w',K v w'->Inv (listed.setIfInBounds i true) (a.put o.dst v) w')->wpOp P ops Q i (Inv (listed.setIfInBounds i true)) a w:=by
   intro K hk hn;unfold asked at hk;rw[<-hwt]at hk
   unfold wpOp;simp only[ho];split
   .rename_i hw
    rw[if_pos hw]at hk
    unfold Oper.gives at hk;rw[<-hex]at hk
    exact .inl (Oper.wp_of_gives (R:=K) hk hn)
   .rename_i hw
    rw[if_neg hw]at hk
    exact hn _ _ hk
  cases hV:V i with
  | none=>
   exact asked' _ (special i o ho hV (D' listed) sp w hD'i hwait hdeps hf hg) fun v w' h=>fin v w' (fun e=>by rw[hV]at e;cases e) (fun _=>h) (fun u e=>by rw[hV]at e;cases e)
  | some v=>
   exact asked' _ (plain i o ho v hV (D' listed) sp w hD'i hwait hdeps hf hg) fun u w' h=>fin u w' (fun _=>h.2) (fun e=>by rw[hV]at e;cases e) (fun u' e=>by rw[hV]at e;cases e;exact h.1.symm)
 .intro listed a w hall ⟨hsz,_,sp,hat,hf,hg⟩;have e:(fun j=>listed.getD j false)=(fun j=>decide (j<ops.size)):=by
   funext j
   by_cases hj:j<ops.size
   .simp only[hall j hj];simp[hj]
   .have:¬j<listed.size:=by omega
    simp[this,hj]
  have eD:D' listed=(fun j=>decide (j<ops.size)&&(V j).isNone):=by
   funext j
   have:=congrFun e j;simp only[D',this]
  rw[e]at hat
  rw[eD]at hg
  have h1:At ops a0 (fun _=>false) (mix V sp) a0:=⟨rfl,rfl,fun _ _=>rfl,fun _ _ h=>by simp at h⟩
  have h2:=Kj hd (mix V sp) (List.range ops.size) _ a0 a0 h1 List.nodup_range (fun _ _=>rfl);have e2:(fun j=>false||decide (j∈List.range ops.size))=(fun j=>decide (j<ops.size)):=by funext j;simp[List.mem_range]
  rw[e2]at h2
  rw[hat.unique h2];exact done sp w (fun j hj hV=>hf j (by simp only[eD,hV];simp[hj])) hg
 .unfold Oa;refine Dn (List.length_filter_le _ _) ?_;simp
 .have e:∀j,(Array.replicate ops.size false).getD j false=false:=by
   intro j;simp[Array.getElem?_replicate];split<;>simp
  refine⟨by simp,?_,fun _=>undef,?_,?_,?_⟩
  .intro j o hj;rw[e j]at hj;cases hj
  .exact⟨rfl,rfl,fun _ _=>rfl,fun i t h=>by simp only[e i]at h;cases h⟩
  .intro j hj;simp only[D',e j]at hj;cases hj
  .have e2:D' (Array.replicate ops.size false)=(fun _=>false):=by funext j;simp only[D',e j];rfl
   rw[e2];exact h0
def Bf (P:Program)(ops:Array Oper)(V:List Bool)(R:World->World->Prop)(G:(Nat->Bool)->(Nat->Value)->World->Prop)(F:Nat->Value->World->Prop) :
  Nat->((Nat->Value)->Act)->List Oper->List (Option Value)->Prop
 | k,fr,o::l,some v::L=>(∀(D:Nat->Bool) (sp:Nat->Value) (w:World),D k=false->(∀j∈Gj ops k,D j=false)->(∀j∈Mr V o,D j=true/\F j (sp j) w)->G D sp w->asked P o ops (fr sp) w fun u w'=>u=v/\w'=w) /\
   Bf P ops V R G F (k+1) (fun sp=>(fr sp).put o.dst v) l L
 | k,fr,o::l,none::L=>(∀(D:Nat->Bool) (sp:Nat->Value) (w:World),D k=false->(∀j∈Gj ops k,D j=false)->(∀j∈Mr V o,D j=true/\F j (sp j) w)->G D sp w ->
    asked P o ops (fr sp) w fun u w'=>R w w'/\F k u w'/\G (fun j=>D j||decide (j=k)) (upd sp k u) w') /\
   Bf P ops V R G F (k+1) (fun sp=>(fr sp).put o.dst (sp k)) l L
 | _,_,[],[]=>True
 | _,_,_,_=>False
theorem Lk {P:Program}{all:List Oper}{ms:List Bool}{pl:List (Option Value)}{R:World->World->Prop}{G:(Nat->Bool)->(Nat->Value)->World->Prop}{F:Nat->Value->World->Prop}{a0:Act} :
  ∀(l:List Oper) (L:List (Option Value)) (k:Nat) (fr:(Nat->Value)->Act),(∀i,l[i]? = all[k+i]?)->(∀i,L[i]? = pl[k+i]?) ->
   (∀sp,fr sp=Hi all.toArray (mix (Cs pl) sp) (List.range k) a0)->Bf P all.toArray ms R G F k fr l L ->
   (∀i o,k<=i->all[i]? = some o->∀(D:Nat->Bool) (sp:Nat->Value) (w:World),D i=false->(∀j∈Gj all.toArray i,D j=false)->(∀j∈Mr ms o,D j=true/\F j (sp j) w)->G D sp w ->
    asked P o all.toArray (Hi all.toArray (mix (Cs pl) sp) (List.range i) a0) w fun u w'=>
     match Cs pl i with
     | some v=>u=v/\w'=w
     | none=>R w w'/\F i u w'/\G (fun j=>D j||decide (j=i)) (upd sp i u) w') /\
   (∀sp,An k fr l L sp=Hi all.toArray (mix (Cs pl) sp) (List.range (k+l.length)) a0)
 | [],[],k,fr,hl,_,hfr,_=>by
  refine⟨fun i o hi ho=>?_,fun sp=>by simp only[An,List.length_nil,Nat.add_zero];exact hfr sp⟩;have:=hl (i-k);rw[show k+(i-k)=i by omega,ho]at this
  simp at this
 | o::l,some v::L,k,fr,hl,hL,hfr,hd=>by
  obtain⟨h1,h2⟩:=hd;have ho:all[k]? = some o:=by have:=hl 0;simpa using this.symm
  have hp:Cs pl k=some v:=by have:=hL 0;simp at this;simp[Cs,<-this]
  have hfr':∀sp,(fr sp).put o.dst v=Hi all.toArray (mix (Cs pl) sp) (List.range (k+1)) a0:=fun sp=>by
   rw[List.range_succ,Kk,<-hfr sp];simp[ho,mix,hp]
  have ih:=Lk l L (k+1) (fun sp=>(fr sp).put o.dst v) (fun i=>by have:=hl (i+1);simpa [Nat.add_assoc,Nat.add_comm 1 i]using this) (fun i=>by have:=hL (i+1);simpa [Nat.add_assoc,Nat.add_comm 1 i]using this) hfr' h2;refine⟨fun i p hi hp'=>?_,fun sp=>?_⟩
  .by_cases hik:i=k
   .subst hik;rw[ho]at hp';cases hp'
    intro D sp w hD hwt hdp hG;rw[hp,<-hfr sp];exact h1 D sp w hD hwt hdp hG
   .exact ih.1 i p (by omega) hp'
  .simp only[An,List.length_cons];rw[ih.2 sp];congr 2;omega
 | o::l,none::L,k,fr,hl,hL,hfr,hd=>by
  obtain⟨h1,h2⟩:=hd;have ho:all[k]? = some o:=by have:=hl 0;simpa using this.symm
  have hp:Cs pl k=none:=by have:=hL 0;simp at this;simp[Cs,<-this]
  have hfr':∀sp,(fr sp).put o.dst (sp k)=Hi all.toArray (mix (Cs pl) sp) (List.range (k+1)) a0:=fun sp=>by
   rw[List.range_succ,Kk,<-hfr sp];simp[ho,mix,hp]
  have ih:=Lk l L (k+1) (fun sp=>(fr sp).put o.dst (sp k)) (fun i=>by have:=hl (i+1);simpa [Nat.add_assoc,Nat.add_comm 1 i]using this) (fun i=>by have:=hL (i+1);simpa [Nat.add_assoc,Nat.add_comm 1 i]using this) hfr' h2;refine⟨fun i p hi hp'=>?_,fun sp=>?_⟩
  .by_cases hik:i=k
   .subst hik;rw[ho]at hp';cases hp'
    intro D sp w hD hwt hdp hG;rw[hp,<-hfr sp];exact h1 D sp w hD hwt hdp hG
   .exact ih.1 i p (by omega) hp'
  .simp only[An,List.length_cons];rw[ih.2 sp];congr 2;omega
 | [],_::_,_,_,_,_,_,hd=>by simp[Bf]at hd
 | _::_,[],_,_,_,_,_,hd=>by simp[Bf]at hd
theorem Mo {P:Program}{ops:Array Oper}{ms:List Bool}{R:World->World->Prop}{G:(Nat->Bool)->(Nat->Value)->World->Prop}{F:Nat->Value->World->Prop} :
  ∀(l:List Oper) (L:List (Option Value)) (k:Nat) (fr:(Nat->Value)->Act),Bf P ops ms R G F k fr l L->L.length=l.length
 | [],[],_,_,_=>rfl
 | _::l,some _::L,k,_,h=>by simp[Mo l L (k+1) _ h.2]
 | _::l,none::L,k,_,h=>by simp[Mo l L (k+1) _ h.2]
 | [],_::_,_,_,h=>by simp[Bf]at h
 | _::_,[],_,_,h=>by simp[Bf]at h
theorem Am {id:Nat}{a0:Act}{w0:World}{all:List Oper}(hm:P.follows .mixedOrders=true)(hok:Xj all.toArray=true)(pl:List (Option Value))(ms:List Bool)(hms:pl.map Option.isNone=ms)(R:World->World->Prop)(G:(Nat->Bool)->(Nat->Value)->World->Prop)(F:Nat->Value->World->Prop)(hF:∀i v w w',F i v w->R w w'->F i v w')(h0:G (fun _=>false) (fun _=>undef) { w0 with drawn:=w0.drawn+1 })(hd:Bf P all.toArray ms R G F 0 (fun _=>a0) all pl)(done:∀(sp:Nat->Value) (w:World),(∀j,ms.getD j false=true->F j (sp j) w)->G (fun j=>ms.getD j false) sp w ->
   Q .normal (An 0 (fun _=>a0) all pl sp) w):(Code.region id all.toArray true).wp P Q a0 w0:=by
 simp only[Xj,Bool.and_eq_true]at hok;obtain⟨⟨⟨hb,hda⟩,hu⟩,hs⟩:=hok;obtain⟨h1,h2⟩:=Lk (a0:=a0) (pl:=pl) all pl 0 (fun _=>a0) (fun i=>by simp) (fun i=>by simp) (fun sp=>by simp[Hi]) hd;refine Rt hm hb hda hu hs (Cs pl) R G F (fun i v w w' _=>hF i v w w') h0 ?_ ?_ ?_
 .intro i o ho v hv D sp w hD hwt hdp hf hG;have:=h1 i o (Nat.zero_le _) (by simpa using ho) D sp w hD (fun j hj=>by
   obtain⟨p,hp,hex⟩:=Hq hj;exact hwt j p hp hex) (fun j hj=>by
   obtain⟨e,he,hbd,hV,rfl⟩:=Ld hms hj;exact⟨hdp e he hbd hV,hf _ (hdp e he hbd hV)⟩) hG
  rw[hv]at this
  exact this
 .intro i o ho hv D sp w hD hwt hdp hf hG;have:=h1 i o (Nat.zero_le _) (by simpa using ho) D sp w hD (fun j hj=>by
   obtain⟨p,hp,hex⟩:=Hq hj;exact hwt j p hp hex) (fun j hj=>by
   obtain⟨e,he,hbd,hV,rfl⟩:=Ld hms hj;exact⟨hdp e he hbd hV,hf _ (hdp e he hbd hV)⟩) hG
  rw[hv]at this
  exact this
 .intro sp w hf hG;have e:=h2 sp;rw[Nat.zero_add]at e
  simp only[List.size_toArray]at hf hG ⊢;rw[<-e];have hlen:=Mo _ _ _ _ hd;refine done sp w (fun j hj=>?_) ?_
  .rw[Sb hms,hlen]at hj
   simp only[Bool.and_eq_true,decide_eq_true_eq,Option.isNone_iff_eq_none]at hj;exact hf j hj.1 hj.2
  .have e2:(fun j=>ms.getD j false)=(fun j=>decide (j<all.length)&&(Cs pl j).isNone):=by
    funext j;rw[Sb hms,hlen]
   rw[e2];exact hG
end
end Go.Proofs.YtokhckjemidbpaaGreatDoor.Flow
namespace Go.Proofs.YtokhckjemidbpaaGreatDoor
open Go Go.RowKit
def Qw (m:List Nat)(w:World)(e:Ending)(w':World):Prop:=∃g,e=.returned (.pointer (some ⟨g,0,none⟩))/\w.heap.size<=g/\Below w.heap.size w w'/\Bv w' g m
theorem Bv.new {w:World}{g:Nat}(h:Fn w g Ea (List.replicate 64 0) 0):Bv w g [] :=
 ⟨List.replicate 64 0,by simp,fun x hx=>by have:=(List.mem_replicate.1 hx).2;omega,h,rfl⟩
def Wf:List Value:=Bt (List.replicate 8 0) (List.replicate 64 0) 0
def hlen (L:Nat):List Value:=Bt (List.replicate 8 0) (List.replicate 64 0) L
theorem Zy (L:Nat):(hlen L).length=73:=rfl
theorem Pi:Wf.length=73:=rfl
theorem Vh (w:World):(zeroValue 278).run Tryz.prog w=.ok (.agg Wf.toArray) w:=by
 have h:(Tryz.prog.info? 278).map (·.zero)=some (some (.agg Wf.toArray)):=by kernel_rfl
 cases hi:Tryz.prog.info? 278 with
 | none=>rw[hi]at h;cases h
 | some i=>
  rw[hi]at h
  have hz:i.zero=some (.agg Wf.toArray):=by simpa using h
  simp[zeroValue,typeInfo,hi,hz]
theorem La (w:World)(hT:Tabs w):Calls Tryz.prog 187 #[] w (Qw [] w):=by
 have hz:=Vh;have hzl:=Pi;obtain⟨t0,fr0,hf0⟩:=hT.first
 have hi8:(Tryz.prog.info? 276).map (·.size)=some (Ea.map fun(x:Nat)=>Value.int .u32 x).toArray.size:=by
  rw[show (Ea.map fun(x:Nat)=>Value.int .u32 x).toArray.size=8 by rfl];kernel_rfl
 go_enter Tryz.func187,Tryz.ntmps187
 go_wp2_with (refine wpList_load_row rfl 276 _ rfl 0 rfl t0 (Ea.map fun(x:Nat)=>Value.int .u32 x).toArray fr0 _ hf0 Tryz.underlying276 rfl hi8 ?_)
 have hf:(List.foldl (fun(cs:Array Value) x=>cs.setIfInBounds x.snd x.fst) Wf.toArray (Ea.map fun(x:Nat)=>Value.int .u32 x).zipIdx)=(Bt Ea (List.replicate 64 0) 0).toArray:=by kernel_rfl
 refine bodyPost_ret (v:=.pointer (some ⟨w.heap.size,0,none⟩)) (by simp[results,Tryz.results187,go_sem]) rfl ⟨_,rfl,As _,(Bb _ _).alloc (As _) _,Bv.new ?_⟩;rw[hf];exact heap_alloc_new w _
theorem Yy (w:World)(b off:Nat) :
  (Instr.sliceAt 276 (.pointer (some ⟨b,off,none⟩)) none none none).run Tryz.prog w=.ok (.slice (some ⟨b,off,none⟩) 8 8) w:=by
 have hlen:Tryz.prog.arrayLen 276 = 8:=by kernel_rfl
 rw[run_sliceAt_array_all w 276 ⟨b,off,none⟩ Tryz.underlying276,hlen];have hs:(sizeOf (Tryz.prog.elem 276)).run Tryz.prog w=.ok 1 w:=by
  have:Tryz.prog.elem 276 = 129 := by kernel_rfl
  rw[this];simp[go_sem]
 rw[hs];simp[slicedAt,Addr.add]
theorem Yz (w:World)(b off:Nat) :
  (Instr.sliceAt 272 (.pointer (some ⟨b,off,none⟩)) none none none).run Tryz.prog w=.ok (.slice (some ⟨b,off,none⟩) 64 64) w:=by
 have hlen:Tryz.prog.arrayLen 272 = 64:=by kernel_rfl
 rw[run_sliceAt_array_all w 272 ⟨b,off,none⟩ Tryz.underlying272,hlen];have hs:(sizeOf (Tryz.prog.elem 272)).run Tryz.prog w=.ok 1 w:=by
  have:Tryz.prog.elem 272 = 5 := by kernel_rfl
  rw[this];simp[go_sem]
 rw[hs];simp[slicedAt,Addr.add]
theorem Oo (w:World)(g:Nat)(m:List Nat)(hH:Bv w g m):Calls Tryz.prog 223 #[.pointer (some ⟨g,0,none⟩)] w (Qw m w):=by
 obtain⟨pend,q1,q2,q3,q4⟩:=hH.ex;have hst8:=Cy m (m.length/64);obtain⟨st,hst⟩:∃st,blocks m (m.length/64)=st:=⟨_,rfl⟩
 obtain⟨L,hL⟩:∃L,m.length%18446744073709551616=L:=⟨_,rfl⟩
 have c72:=q3.cell (Li hst8 q1);have HST:=Ag hst;have HL:=Ag hL;rw[hL]at c72 q3
 rw[hst]at q3 hst8
 have hlt:=q3.lt;have hz:=Vh;have hzl:=Pi;have HQ3:=Ag q3;have hcS:∀(j:Nat) (v:Value),(st.map fun(x:Nat)=>Value.int .u32 x)[j]? = some v->w.cell? ((⟨g,0,none⟩:Addr).add j)=some v:=fun j v hv=>by
  rw[List.getElem?_map]at hv
  obtain⟨x,hx,rfl⟩:=Option.map_eq_some_iff.1 hv;have hj:j<8:=by have:=(List.getElem?_eq_some_iff.1 hx).1;omega
  rw[add_plain,Nat.zero_add];refine q3.cell ?_;rw[In hst8 hj,Du,hx];rfl
 have hcP:∀(j:Nat) (v:Value),(pend.map fun(x:Nat)=>Value.int .u8 x)[j]? = some v->w.cell? ((⟨g,8,none⟩:Addr).add j)=some v:=fun j v hv=>by
  rw[List.getElem?_map]at hv
  obtain⟨x,hx,rfl⟩:=Option.map_eq_some_iff.1 hv;have hj:j<64:=by have:=(List.getElem?_eq_some_iff.1 hx).1;omega
  rw[add_plain];refine q3.cell ?_;rw[Rk hst8 q1 hj,Du,hx];rfl
 have HS8:=Ag hst8;have HQ1:=Ag q1;have HCS:=Ag hcS;have HCP:=Ag hcP;have hOne:∀(k:IntKind) (xs:List Nat),∀v∈(xs.map fun(x:Nat)=>Value.int k x),v.oneCell'=true:=fun k xs v hv=>by
  obtain⟨x,_,rfl⟩:=List.mem_map.1 hv;rfl
 have HON:=Ag hOne;have hset:Wf.set 72 (.int .u64 (L:Nat))=hlen L:=Ml (by simp) (by simp);clear hL hst q3 hcS hcP hOne;obtain⟨csS,hcsS⟩:∃cs,(st.map fun(x:Nat)=>Value.int .u32 x)=cs:=⟨_,rfl⟩
 obtain⟨csP,hcsP⟩:∃cs,(pend.map fun(x:Nat)=>Value.int .u8 x)=cs:=⟨_,rfl⟩
 have hlS:csS.length=8:=by rw[<-hcsS,List.length_map];exact hst8
 have hlP:csP.length=64:=by rw[<-hcsP,List.length_map];exact q1
 have HSP1:Hid (splice (hlen L) 0 csS=Bt st (List.replicate 64 0) L):=by rw[<-hcsS];exact Xa (by simp) hst8
 have HSP2:Hid (splice (Bt st (List.replicate 64 0) L) 8 csP=Bt st pend L):=by
  rw[<-hcsP];have h:=Rc (st:=st) (pend:=List.replicate 64 0) (len:=L) (xs:=pend) (r:=0) hst8 (by simp[q1]);refine h.trans ?_
  congr 1
  unfold splice;rw[List.take_zero,List.nil_append,List.drop_of_length_le (by simp[q1]),List.append_nil]
 rw[hcsS]at HCS
 rw[hcsP]at HCP
 have HO1:Hid (∀v∈csS,v.oneCell'=true):=by rw[<-hcsS];exact HON.out _ _
 have HO2:Hid (∀v∈csP,v.oneCell'=true):=by rw[<-hcsP];exact HON.out _ _
 clear hcsS hcsP hst8 q1;go_enter Tryz.func223,Tryz.ntmps223;go_wp2;have hn0:=heap_alloc_new w (.cells (hlen L).toArray 278);have hb0:Below w.heap.size w (w.alloc (.cells (hlen L).toArray 278)):=Bx;have hsz0:w.heap.size<(w.alloc (.cells (hlen L).toArray 278)).heap.size:=by simp
 generalize w.alloc (.cells (hlen L).toArray 278)=w1 at *;have HN0:=Ag hn0;have hcS1:∀(j:Nat) (v:Value),csS[j]? = some v->w1.cell? ((⟨g,0,none⟩:Addr).add j)=some v:=fun j v hv=>by
  have h:=HCS.out j v hv;rw[add_plain]at h ⊢
  rw[(Ca hb0).1 _ _ hlt];exact h
 have HCS1:=Ag hcS1;have HF1:Hid (0+csS.length<=(hlen L).length):=by show 0+csS.length<=(hlen L).length;rw[hlS,Zy];omega
 have HM1:Hid (csS.length=Nat.min 8 8):=hlS;clear hcS1 hn0 hset;have hsl1:=Yy;have hsl2:=Yz
 go_region_law (refine Jy rfl (.tmp 15) (.tmp 19) 35 35 rfl 129 Tryz.underlying35 (by kernel_rfl) (some ⟨w.heap.size,0,none⟩) (some ⟨g,0,none⟩) 8 8 8 8 (by simp[Act.eval,Act.put,go_sem]) (by simp[Act.eval,Act.put,go_sem]) w.heap.size 0 (hlen L) 278 HN0.out csS HM1.out (fun _=>⟨rfl,_,rfl,HCS1.out⟩) HF1.out HO1.out ?_;intro w4 hg4 hb4)
 rw[HSP1.out]at hg4
 have hb5:Below w.heap.size w w4:=hb0.trans ((hb4.of_drew).below (As _) (Nat.le_of_lt hsz0));have hcP1:∀(j:Nat) (v:Value),csP[j]? = some v->w4.cell? ((⟨g,8,none⟩:Addr).add j)=some v:=fun j v hv=>by
  have h:=HCP.out j v hv;rw[add_plain]at h ⊢
  rw[(Ca hb5).1 _ _ hlt];exact h
 have HCP1:=Ag hcP1;have HB5:=Ag hb5;have HF2:Hid (8+csP.length<=(Bt st (List.replicate 64 0) L).length):=by show 8+csP.length<=List.length _;rw[hlP,Nw HS8.out (by simp)];omega
 have HM2:Hid (csP.length=Nat.min 64 64):=hlP;obtain⟨cur,hcur⟩:∃cur,Bt st (List.replicate 64 0) L=cur:=⟨_,rfl⟩
 rw[hcur]at hg4 HF2 HSP2
 have HC4:=hg4;clear hcP1 hb5 hcur hg4 HN0 hb4 hb0 hsz0;go_wp2;have hs4:w.heap.size<w4.heap.size:=(Kv HC4.out).1
 go_region_law (refine Jy rfl (.tmp 24) (.tmp 28) 23 23 rfl 5 Tryz.underlying23 (by kernel_rfl) (some ⟨w.heap.size,8,none⟩) (some ⟨g,8,none⟩) 64 64 64 64 (by simp[Act.eval,Act.put,go_sem]) (by simp[Act.eval,Act.put,go_sem]) w.heap.size 8 cur 278 HC4.out csP HM2.out (fun _=>⟨rfl,_,rfl,HCP1.out⟩) HF2.out HO2.out ?_;intro w6 hg6 hb6)
 rw[HSP2.out]at hg6
 have hb7:Below w.heap.size w w6:=HB5.out.trans ((hb6.of_drew).below (As _) (Nat.le_of_lt hs4));have HB7:=Ag hb7;clear hb6 hb7;go_wp2;go_ret;refine⟨_,rfl,As _,HB7.out,⟨pend,HQ1.out,q2,?_,q4⟩⟩;rw[HST.out,HL.out];exact hg6.out
def My (m:List Nat)(w:World)(e:Ending)(w':World):Prop:=∃q,e=.returned (.slice (some ⟨q,0,none⟩) 32 32)/\w.heap.size<=q/\Below w.heap.size w w'/\Bm w' q 5 .u8 (Ie m)
theorem Lh (w:World)(g:Nat)(m:List Nat)(hT:Tabs w)(hH:Bv w g m):Calls Tryz.prog 190 #[.pointer (some ⟨g,0,none⟩)] w (My m w):=by
 have hlt:=hH.lt;obtain⟨L,hL⟩:∃L,m.length%18446744073709551616=L:=⟨_,rfl⟩
 have hL64:L<18446744073709551616:=by omega
 have HL:=Ag hL;clear hL;go_enter Tryz.func190,Tryz.ntmps190
 go_wp2_with fail
 refine(Oo w g m hH).mono ?_;rintro e w1 ⟨q,rfl,hq,hb1,hh1⟩;have hT1:=hT.below hb1 hT.size;have c72:w1.cell? ⟨g,72,none⟩=some (.int .u64 (L:Nat)):=by
  obtain⟨pend,q1,_,q3,_⟩:=(hH.below hb1 hlt).ex;have h:=q3.cell (Li (Cy m _) q1);rw[HL.out]at h
  exact h
 go_wp2_with fail
 refine(Yf w1 L hL64).mono ?_;rintro e w2 ⟨rfl,hb2,hk2⟩;have hh2:=hh1.below hb2 hh1.lt;have hT2:=hT1.below hb2 hT1.size;have hz12:=hb1.size;have hz22:=hb2.size;have hbl:behind L=behind m.length:=by rw[<-HL.out,dU]
 rw[hbl]at hk2
 have hnl:Bj L+9=(behind m.length).length:=by rw[<-hbl,Hu]
 have hrow:Bd w2 .u8 (some ⟨w1.heap.size,0,none⟩) (Bj L+9) (Bj L+9) (behind m.length) :=
  ⟨hnl,As _,by have:Bj L<64:=Nat.mod_lt _ (by omega);omega,fun _=>hk2.row hnl (As _) (by have:Bj L<64:=Nat.mod_lt _ (by omega);omega)⟩
 have hqlt:=hh1.lt;clear hbl hnl
 go_wp2_with fail
 refine(En w2 q m _ _ _ (behind m.length) hT2 hh2 (by have:=hT.size;omega) hrow (Pt _) (fun _ a ha=>by cases ha;show w1.heap.size≠q;omega)).mono ?_;rintro e w3 ⟨rfl,hb3,hh3⟩;have hb13:Below w.heap.size w w3:=(hb1.trans (hb2.mono hz12)).trans (hb3.below hq (by omega));obtain⟨pend,q1,q2,q3,q4⟩:=hh3.ex;have hz13:=hb13.size
 go_wp2_with fail
 refine(Sz w3 q _ pend _ (Cy _ _) (Ip _ _) q3).mono ?_;rintro e w4 ⟨rfl,hb4,hk4⟩;rw[List.length_append]at hk4
 go_wp2;go_ret;exact⟨_,rfl,hz13,hb13.trans (hb4.mono hz13),hk4⟩
def mD (x y c:Nat):Nat:=if x<y+c then 1 else 0
theorem qI (x y c:Nat):mD x y c<=1:=by unfold mD;split<;>omega
theorem Pa (n:Nat)(h:n<4294967296):n.testBit 31=decide (2147483648<=n):=by
 rw[Nat.testBit_eq_decide_div_mod_eq];simp only[Nat.reducePow];rw[decide_eq_decide];omega
theorem nO (n:Nat)(h:n<4294967296):n/2147483648=(n.testBit 31).toNat:=by
 rw[Pa n h]
 by_cases h1:2147483648<=n
 .simp[h1];omega
 .simp[h1];omega
theorem Nq {a b:Nat}(h:b<4294967296):a &&& b<4294967296:=Nat.lt_of_le_of_lt Nat.and_le_right h
theorem Nb {a b:Nat}(ha:a<4294967296)(hb:b<4294967296):a ^^^ b<4294967296:=Nat.xor_lt_two_pow (n:=32) ha hb
theorem kI {a b:Nat}(ha:a<4294967296)(hb:b<4294967296):a ||| b<4294967296:=Nat.or_lt_two_pow (n:=32) ha hb
theorem fG (x y c d:Nat)(hx:x<4294967296)(hy:y<4294967296)(hc:c<=1)(hd:d=(x+8589934592-y-c)%4294967296) :
  (((4294967295 ^^^ x) &&& y) ||| ((4294967295 ^^^ (x ^^^ y)) &&& d))/2147483648=mD x y c:=by
 have hdl:d<4294967296:=by rw[hd];exact Nat.mod_lt _ (by omega)
 rw[nO _ (kI (Nq hy) (Nq hdl))];simp only[Nat.testBit_or,Nat.testBit_and,Nat.testBit_xor];rw[Pa x hx,Pa y hy,Pa d hdl,Pa 4294967295 (by omega)];unfold mD
 by_cases h1:2147483648<=x<;>by_cases h2:2147483648<=y<;>by_cases h3:2147483648<=d<;>by_cases h4:x<y+c<;>simp[h1,h2,h3,h4]<;>omega
theorem bR (x y c:Nat)(hx:x<4294967296)(hy:y<4294967296)(hc:c<=1) :
  bits BinOp.or IntKind.u32 (bits BinOp.and IntKind.u32 (bits BinOp.xor IntKind.u32 IntKind.u32.max ↑x) ↑y)
        (bits BinOp.and IntKind.u32
         (bits BinOp.xor IntKind.u32 IntKind.u32.max (bits BinOp.xor IntKind.u32 ↑x ↑y))
         (((x:Int)-y-c)%4294967296))/2147483648=(mD x y c:Nat):=by
 have hm:IntKind.u32.max=((4294967295:Nat):Int):=rfl;obtain⟨d,hd⟩:∃d,d=(x+8589934592-y-c)%4294967296:=⟨_,rfl⟩
 have hd':((x:Int)-y-c)%4294967296=(d:Nat):=by omega
 have hdl:d<4294967296:=by omega
 rw[hm,hd',u32_xor_nat _ _ (by omega) hx,u32_xor_nat _ _ hx hy,u32_xor_nat _ _ (by omega) (Nb hx hy),u32_and_nat _ _ (Nb (by omega) hx) hy,
  u32_and_nat _ _ (Nb (by omega) (Nb hx hy)) hdl,u32_or_nat _ _ (Nq hy) (Nq hdl)]
 have:=fG x y c d hx hy hc hd;omega
theorem Yw (x y c:Nat)(w:World)(hx:x<4294967296)(hy:y<4294967296)(hc:c<=1) :
  Calls Tryz.prog 172 #[.int .u32 x,.int .u32 y,.int .u32 c] w fun e w'=>
   e=.returned (.tuple #[.int .u32 (((x:Int)-y-c)%4294967296),.int .u32 (mD x y c:Nat)])/\w=w':=by
 have hs:IntKind.u32.signed=false:=rfl;have hq:=Ag (bR x y c hx hy hc);go_enter Tryz.func172,Tryz.ntmps172;go_wp2
 go_ret2
 have e6:(((x:Int)-y)%4294967296-c)%4294967296=((x:Int)-y-c)%4294967296:=by omega
 exact⟨by rw[hq.out];exact congrArg (fun z=>Ending.returned (.tuple #[.int .u32 z,.int .u32 (mD x y c:Nat)])) e6,rfl⟩
structure Py (A B:List Nat) (k:Nat) (S:List Nat) (bw:Nat):Prop where
 len:S.length=k
 words:Words S
 carry:bw<=1
 eq:val S+val (B.take k)=val (A.take k)+Ar k*bw
theorem Py.start (A B:List Nat):Py A B 0 [] 0:=⟨rfl,Words.nil,by omega,by simp[val]⟩
theorem Py.step {A B:List Nat}{k:Nat}{S:List Nat}{bw d:Nat}(h:Py A B k S bw)(hA:Words A)(hB:Words B)(hd:(d:Int)=(((A.getD k 0:Nat):Int)-(B.getD k 0:Nat)-bw)%4294967296) :
  Py A B (k+1) (S++[d]) (mD (A.getD k 0) (B.getD k 0) bw):=by
 have h1:=hA.get k;have h2:=hB.get k;have h3:=h.carry;refine⟨by simp[h.len],h.words.snoc (by omega),qI _ _ _,?_⟩;rw[Eu,h.len,Be,Be,Bw];have e:=h.eq;have hb:d+B.getD k 0+bw=A.getD k 0+4294967296*mD (A.getD k 0) (B.getD k 0) bw:=by
  unfold mD;split<;>omega
 generalize A.getD k 0=x at *;generalize B.getD k 0=y at *;generalize mD x y bw=q at *;generalize Ar k=b at *;have e2:b*(d+y+bw)=b*(x+4294967296*q):=by rw[hb]
 have e3:b*(4294967296*q)=4294967296*b*q:=by rw[<-Nat.mul_assoc,Nat.mul_comm b]
 rw[Nat.mul_add,Nat.mul_add,Nat.mul_add,e3]at e2
 omega
theorem Py.last {A B:List Nat}{k:Nat}{S:List Nat}{bw:Nat}(h:Py A B k S bw)(hA:A.length=k)(hB:B.length<=k)(hle:val B<=val A):val S=val A-val B:=by
 have e:=h.eq;rw[List.take_of_length_le (l:=A) (by omega),List.take_of_length_le hB]at e
 have h1:=h.words.lt;rw[h.len]at h1
 have h2:=h.carry;rcases Nat.lt_or_ge bw 1 with h3|h3
 .obtain rfl:bw=0:=by omega
  omega
 .obtain rfl:bw=1:=by omega
  omega
def nB (N M:Nat)(w:World)(e:Ending)(w':World):Prop:=∃p n c,e=.returned (.tuple #[.agg #[.slice p n c],.bool (decide (M<=N))])/\Aj w' p n c (N-M)/\Below w.heap.size w w'/\Gd w.heap.size p
theorem fF (w:World)(pa:Option Addr)(na ca N:Nat)(pb:Option Addr)(nb cb M:Nat)(hA:Aj w pa na ca N)(hB:Aj w pb nb cb M)(hs:na<1000000)(hsb:nb<1000000) :
  Calls Tryz.prog 113 #[.agg #[.slice pa na ca],.agg #[.slice pb nb cb]] w (nB N M w):=by
 have hb0:Below w.heap.size w (((w.alloc (.cells #[.slice pa na ca] 37)).alloc (.cells #[.slice pb nb cb] 37)).alloc (.cells #[.slice none 0 0] 37)) :=
  (((Bb _ w).alloc (As _) _).alloc (by simp) _).alloc (by simp;omega) _
 by_cases hlt:N<M
 .have hcm:Bo N M = -1:=Dl hlt;go_enter Tryz.func113,Tryz.ntmps113
  go_wp2_with fail
  refine(Is _ pa pb na ca N nb cb M (hA.below hb0) (hB.below hb0) hs hsb).mono ?_;rintro e w1 ⟨rfl,hb1⟩;obtain⟨hc,hf⟩:=Ca hb1;have hz:=hb1.size;simp only[World.size_alloc]at hz;go_wp2;refine bodyPost_ret (v:=.tuple #[.agg #[.slice none 0 0],.bool false]) (by simp[results,Tryz.results113,go_sem,hc]) rfl ⟨none,0,0,by simp[show ¬M<=N by omega],?_,?_,Gd.none _⟩
  .exact⟨[],Row.nil _ _,Words.nil,by simp,by simp[val];omega⟩
  .exact(hb0.trans (hb1.mono (by simp;omega))).setCell (by simp;omega) _
 .have hcm:¬Bo N M<0:=by
   unfold Bo;rw[if_neg hlt];split<;>omega
  obtain⟨A,a1,a2,a3,rfl⟩:=hA.ex;obtain⟨B,b1,b2,b3,rfl⟩:=hB.ex;have HA:=Ag a1.len;have HB:=Ag b1.len;have hle:nb<=na:=by
   rcases Nat.lt_or_ge na nb with h|h
   .exact absurd (hA.len_lt hB h) hlt
   .exact h
  have hmk:=Iy na (by omega);go_enter Tryz.func113,Tryz.ntmps113
  go_wp2_with fail
  refine(Is _ pa pb na ca _ nb cb _ (hA.below hb0) (hB.below hb0) hs hsb).mono ?_;rintro e w1 ⟨rfl,hb1⟩;have hbx:=(Di.mk3 w (.slice pa na ca) (.slice pb nb cb) (.slice none 0 0) 37 37 37).later hb1;have c0:=hbx.c0;have c1:=hbx.c1;have c2:=hbx.c2;have f2:=hbx.f2;have hz0:w.heap.size<w1.heap.size:=by have:=hbx.size;omega
  have hz1:w.heap.size+1<w1.heap.size:=by have:=hbx.size;omega
  have hz2:w.heap.size+1+1<w1.heap.size:=by have:=hbx.size;omega
  have HC:=Ag (show decide (Bo (val A) (val B)<0)=false by simpa using hcm);go_wp2
  go_loopw [7,22] (fun cy i wr=>∃k c:Nat,∃S,k<=na/\i=.int .i64 k/\cy=.int .u32 c/\Di w wr (.slice pa na ca) (.slice pb nb cb) (.slice none 0 0)/\w1.heap.size<wr.heap.size/\Below w1.heap.size w1 wr/\Py A B k S c/\Bm wr w1.heap.size 129 .u32 (S++List.replicate (na-k) 0)) (fun _ i _=>na-(intOf i).toNat)
  case atStart=>
   refine⟨0,0,[],by omega,rfl,rfl,hbx.alloc _,by simp,(Bb _ _).alloc (As _) _,Py.start A B,?_⟩;exact Bm.zeros _ _ _ _
  case round=>
   obtain⟨k,bw,S,hk,rfl,rfl,hbr,hsr,hbw,hS,hblk⟩:=hrel;clear c0 c1 c2 f2;have d0:=hbr.c0;have d1:=hbr.c1;have d2:=hbr.c2;have g2:=hbr.f2
   by_cases hkn:k<na
   .obtain⟨b,off,rfl,hb,hc⟩:=a1.pos (by omega);obtain⟨x,hx⟩:∃x,A.getD k 0=x:=⟨_,rfl⟩
    obtain⟨y,hy⟩:∃y,B.getD k 0=y:=⟨_,rfl⟩
    have hci:wr.cell? ⟨b,off+k,none⟩=some (.int .u32 (x:Nat)):=by
     rw[(Ca hbr.bel).1 _ _ hb];exact hc k x (by rw[<-hx,Du];simp[show k<A.length by have:=HA.out;omega])
    have HX:=Ag hx;have HY:=Ag hy;have HSk:=Ag hS.len;clear hc hx hy;have hg0:=hblk.zero_cell HSk.out (by omega);have hgf:=hblk.free k
    go_wp2_with fail
    refine(Hg wr pb nb cb B k y (b1.below hbr.bel) (by omega) HY.out).mono ?_;rintro e w2 ⟨rfl,hb2⟩;have hy:y<4294967296:=by rw[<-HY.out];exact b2.get k
    have hx':x<4294967296:=by rw[<-HX.out];exact a2.get k
    have hcy:=hS.carry;have hg0':=((Ca hb2).1 _ k hblk.lt).trans hg0;have hgf':=((Ca hb2).2 _ k hblk.lt).trans hgf;obtain⟨d,hd⟩:∃d:Nat,(d:Int)=((x:Int)-y-bw)%4294967296:=⟨(((x:Int)-y-bw)%4294967296).toNat,by omega⟩
    have HD:=Ag hd;clear hd
    go_wp2_with fail
    refine(Yw x y bw _ hx' hy hcy).mono ?_;rintro e w3 ⟨rfl,rfl⟩;rw[<-HD.out];go_wp2;go_roundw
    case rel=>
     refine⟨k+1,_,S++[d],by omega,by go_num,rfl,(hbr.later hb2).below (B:=w.heap.size+3) ((Bb _ _).setCell (by simp;omega) _) (As _),by have:=hb2.size;simp;omega,(hbw.trans (hb2.mono (by omega))).setCell (by simp) _,?_,?_⟩
     .have:=hS.step (d:=d) a2 b2 (by rw[HX.out,HY.out];exact HD.out);rw[HX.out,HY.out]at this
      exact this
     .exact(hblk.below hb2 hblk.lt).next HSk.out (by omega) d
    case measure=>clear HD;simp[intOf];omega
   .have hkn':na<=k:=by omega
    have hrow:=(hblk.row (n:=na) (c:=na) (by have:=hS.len;simp;omega) (As _) (by omega))
    have hw2:Words (S++List.replicate (na-k) 0):=hS.words.append (Words.zeros _)
    go_wp2_with fail
    refine(Cw _ _ _ _ _ hrow hw2).mono ?_;rintro e w2 ⟨p,n,c,rfl,hn,hb2,hp⟩;have hbx3:=hbr.later hb2;have k2:=hbx3.c2;have e2:=hbx3.f2;have hn':Gd w1.heap.size p:=by
     intro q hq;rcases hp with rfl|rfl
     .cases hq
     .cases hq;simp
    have hv:val (S++List.replicate (na-k) 0)=val A-val B:=by
     rw[val_append,Kh,Nat.mul_zero,Nat.add_zero];exact hS.last (by have:=HA.out;omega) (by have:=HB.out;omega) (by omega)
    have HV:=Ag hv;clear hv;go_wp2;refine bodyPost_ret (v:=.tuple #[.agg #[.slice p n c],.bool true]) (by simp[results,Tryz.results113,go_sem,k2]) rfl ⟨p,n,c,by simp[show val B<=val A by omega],?_,?_,hn'.mono (by omega)⟩
    .rw[<-HV.out];exact hn.setCell (a:=⟨w.heap.size+1+1,0,none⟩) (hn'.ne hz2) (.slice p n c)
    .exact hbx3.bel.setCell (by simp;omega) _
structure Part where
 p:Option Addr
 n:Nat
 c:Nat
 bs:List Nat
structure Ax (w:World) (P:Part):Prop where
 row:Bd w .u8 P.p P.n P.c P.bs
 bytes:Au P.bs
theorem Ax.below {w w':World}{P:Part}(h:Ax w P)(hb:Below w.heap.size w w'):Ax w' P:=⟨h.row.below hb,h.bytes⟩
def whole (L:List Part):List Nat:=L.flatMap (·.bs)
theorem Kw (L:List Part)(P:Part):whole (L++[P])=whole L++P.bs:=by simp[whole]
structure Ck (w:World) (p:Option Addr) (n c:Nat) (L:List Part):Prop where
 len:n=L.length
 cap:n<=c
 max:c<=9223372036854775807
 ok:∀(i:Nat) (P:Part),L[i]? = some P->Ax w P
 cells:0<n->∃b off,p=some ⟨b,off,none⟩/\b<w.heap.size/\∀(i:Nat) (P:Part),L[i]? = some P->w.cell? ⟨b,off+i,none⟩=some (.slice P.p P.n P.c)
theorem Ck.below {w w':World}{p:Option Addr}{n c:Nat}{L:List Part}(h:Ck w p n c L)(hb:Below w.heap.size w w'):Ck w' p n c L :=
 ⟨h.len,h.cap,h.max,fun i P hP=>(h.ok i P hP).below hb,fun h0=>by
  obtain⟨b,off,h1,h2,h3⟩:=h.cells h0;exact⟨b,off,h1,Ej h2 hb.size,fun i P hP=>by rw[hb.cell (p:=⟨b,off+i,none⟩) h2];exact h3 i P hP⟩⟩
theorem fE (w:World)(p:Option Addr)(n c:Nat)(L:List Part)(hT:Tabs w)(hL:Ck w p n c L):Calls Tryz.prog 242 #[.slice p n c] w (My (whole L) w):=by
 have HL:Aa (Ck w p n c L):=⟨hL⟩
 have hlen:Aa (n=L.length):=⟨hL.len⟩
 have hcap:=hL.cap;have hmax:=hL.max;clear hL;go_enter Tryz.func242,Tryz.ntmps242
 go_wp2_with fail
 refine(La w hT).mono ?_;rintro e w1 ⟨g,rfl,hg,hb1,hh1⟩;go_wp2
 go_loopw [9] (fun i wr=>∃k:Nat,k<=n/\i=.int .i64 k/\Below w.heap.size w wr/\Bv wr g (whole (L.take k))) (fun i _=>n-(intOf i).toNat)
 case atStart=>exact⟨0,by omega,rfl,hb1,hh1⟩
 case round=>
  obtain⟨k,hk,rfl,hbel,hash⟩:=hrel;have hTr:=hT.below hbel hT.size;have hsz:=hT.size
  by_cases hkn:k<n
  .obtain⟨b,off,rfl,hb,hc⟩:=HL.out.cells (by omega);obtain⟨P,hP⟩:∃P,L[k]? = some P:=⟨_,List.getElem?_eq_getElem (by have:=hlen.out;omega)⟩
   have hok:=(HL.out.ok k P hP).below hbel;have hblt:0<P.n->∀q,P.p=some q->q.block≠g:=fun h0 q hq=>by
    obtain⟨b',off',e,h2,_⟩:=((HL.out.ok k P hP).row.row h0).pos h0;rw[hq]at e;cases e
    show b'≠g;omega
   have hck:wr.cell? ⟨b,off+k,none⟩=some (.slice P.p P.n P.c):=by
    rw[(Ca hbel).1 _ _ hb];exact hc k P hP
   have htk:Aa (whole (L.take (k+1))=whole (L.take k)++P.bs):=⟨by rw[List.take_add_one,hP];exact Kw _ _⟩
   have HOK:Aa (Ax wr P):=⟨hok⟩
   have HNE:Aa (0<P.n->∀q,P.p=some q->q.block≠g):=⟨hblt⟩
   clear hc hP hok hblt;obtain⟨pp,pn,pc,pb⟩:=P
   dsimp only at *
   go_wp2_with fail
   refine(En wr g _ pp pn pc pb hTr hash (by omega) HOK.out.row HOK.out.bytes HNE.out).mono ?_;rintro e w2 ⟨rfl,hb2,hh2⟩;rw[<-htk.out]at hh2
   have hz:w.heap.size<=wr.heap.size:=hbel.size;have hbel2:=hbel.trans (hb2.below hg hz);go_wp2;go_roundw
   case rel=>exact⟨k+1,by omega,by go_num,hbel2,hh2⟩
   case measure=>simp[intOf];omega
  .obtain rfl:k=n:=by omega
   rw[List.take_of_length_le (by have:=hlen.out;omega)]at hash
   have hz:w.heap.size<=wr.heap.size:=hbel.size
   go_wp2_with fail
   refine(Lh wr g _ hTr hash).mono ?_;rintro e w3 ⟨q,rfl,hq,hb3,hk3⟩;go_wp2;go_ret;exact⟨q,rfl,by omega,hbel.trans (hb3.mono hz),hk3⟩
def strOf (bs:List Nat):ByteArray:=strOfNums (bs.map fun(x:Nat)=>(x:Int))
theorem aV {w:World}{p:Option Addr}{n c:Nat}{bs:List Nat}(h:Row w .u8 p n c bs) :
  (convert 23 9 (.slice p n c)).run Tryz.prog w=.ok (.string (strOf bs)) w:=by
 rcases h.at_ with ⟨rfl,rfl,rfl⟩|⟨b,off,rfl,hb,hc⟩
 .have hl:=h.len;have:bs=[]:=List.eq_nil_of_length_eq_zero hl.symm;subst this;rw[run_convert_bytes_nil w 23 5 (by kernel_rfl) (by kernel_rfl) _ _ _ (by kernel_rfl)];rfl
 .refine run_convert_bytes_arg w 23 5 (by kernel_rfl) (by kernel_rfl) b off n c _ (by simp[h.len]) ?_ _ (by kernel_rfl);intro i hi;have hl:=h.len;rw[hc i (bs.getD i 0) (by rw[Du];simp[show i<bs.length by omega])];simp[Du,show i<bs.length by omega]
theorem Vd (w:World)(p:Option Addr)(c:Nat):(convert 23 9 (.slice p 0 c)).run Tryz.prog w=.ok (.string (strOf [])) w:=by
 rw[run_convert_bytes_string w 23 9 5 p 0 c (by kernel_rfl) (by kernel_rfl) (by kernel_rfl)]
 cases p with
 | none=>rfl
 | some a=>rfl
theorem Fi {w:World}{p:Option Addr}{n c:Nat}{bs:List Nat}(h:Bd w .u8 p n c bs) :
  (convert 23 9 (.slice p n c)).run Tryz.prog w=.ok (.string (strOf bs)) w:=by
 rcases Nat.eq_zero_or_pos n with rfl|h0
 .have:bs=[]:=List.eq_nil_of_length_eq_zero h.len.symm;rw[this];exact Vd w p c
 .exact aV (h.row h0)
theorem whole2 (P Q:Part):whole [P,Q]=P.bs++Q.bs:=by simp[whole]
theorem Xk (w:World)(P Q:Part)(hP:Ax w P)(hQ:Ax w Q):Ck (w.alloc (.cells #[.slice P.p P.n P.c,.slice Q.p Q.n Q.c] 23)) (some ⟨w.heap.size,0,none⟩) 2 2 [P,Q]:=by
 have hb:Below w.heap.size w (w.alloc (.cells #[.slice P.p P.n P.c,.slice Q.p Q.n Q.c] 23)):=Bx;have hn:=heap_alloc_new w (.cells #[.slice P.p P.n P.c,.slice Q.p Q.n Q.c] 23);refine⟨rfl,As _,by omega,fun i X hX=>?_,fun _=>⟨w.heap.size,0,rfl,by simp,fun i X hX=>?_⟩⟩
 .match i,hX with
  | 0,h=>cases h;exact hP.below hb
  | 1,h=>cases h;exact hQ.below hb
 .match i,hX with
  | 0,h=>cases h;unfold World.cell?;dsimp only;rw[hn];rfl
  | 1,h=>cases h;unfold World.cell?;dsimp only;rw[hn];rfl
theorem kG (w:World)(P:Part)(hP:Ax w P):Ck (w.alloc (.cells #[.slice P.p P.n P.c] 23)) (some ⟨w.heap.size,0,none⟩) 1 1 [P]:=by
 have hb:Below w.heap.size w (w.alloc (.cells #[.slice P.p P.n P.c] 23)):=Bx;have hn:=heap_alloc_new w (.cells #[.slice P.p P.n P.c] 23);refine⟨rfl,As _,by omega,fun i X hX=>?_,fun _=>⟨w.heap.size,0,rfl,by simp,fun i X hX=>?_⟩⟩
 .match i,hX with
  | 0,h=>cases h;exact hP.below hb
 .match i,hX with
  | 0,h=>cases h;unfold World.cell?;dsimp only;rw[hn];rfl
theorem Vi (P:Part):whole [P]=P.bs:=by simp[whole]
theorem kF (w:World)(P Q R:Part)(hP:Ax w P)(hQ:Ax w Q)(hR:Ax w R):Ck (w.alloc (.cells #[.slice P.p P.n P.c,.slice Q.p Q.n Q.c,.slice R.p R.n R.c] 23)) (some ⟨w.heap.size,0,none⟩) 3 3 [P,Q,R]:=by
 have hb:Below w.heap.size w (w.alloc (.cells #[.slice P.p P.n P.c,.slice Q.p Q.n Q.c,.slice R.p R.n R.c] 23)):=Bx;have hn:=heap_alloc_new w (.cells #[.slice P.p P.n P.c,.slice Q.p Q.n Q.c,.slice R.p R.n R.c] 23);refine⟨rfl,As _,by omega,fun i X hX=>?_,fun _=>⟨w.heap.size,0,rfl,by simp,fun i X hX=>?_⟩⟩
 .match i,hX with
  | 0,h=>cases h;exact hP.below hb
  | 1,h=>cases h;exact hQ.below hb
  | 2,h=>cases h;exact hR.below hb
 .match i,hX with
  | 0,h=>cases h;unfold World.cell?;dsimp only;rw[hn];rfl
  | 1,h=>cases h;unfold World.cell?;dsimp only;rw[hn];rfl
  | 2,h=>cases h;unfold World.cell?;dsimp only;rw[hn];rfl
open Go Go.RowKit Go.Proofs.YtokhckjemidbpaaGreatDoor.Flow
def iX (N:Nat)(w:World)(e:Ending)(w':World):Prop :=
 e=.returned (.tuple #[.int .u64 ((if Ao N<=64 then N else 0:Nat):Int),.bool (decide (Ao N<=64))])/\Below w.heap.size w w'
theorem nN {ws:List Nat}(hw:Words ws)(h:ws.length<=2):val ws=ws.getD 1 0*4294967296+ws.getD 0 0:=by
 match ws,h with
 | [],_=>simp[val]
 | [x],_=>simp[val]
 | [x,y],_=>simp[val];omega
theorem Kx (w:World)(p:Option Addr)(n c N:Nat)(h:Aj w p n c N)(hn:n<1000000) :
  Calls Tryz.prog 215 #[.agg #[.slice p n c]] w (iX N w):=by
 have hbx:=Ef.mk1 w (.slice p n c) 37
 by_cases hN:Ao N<=64
 .have hn2:n<=2:=h.len_le (k:=2) (by have:=(Bg N 64).1 hN;exact this);obtain⟨ws,r1,r2,r3,r4⟩:=h.ex;have hv:=nN r2 (by have:=r1.len;omega);obtain⟨y,hy⟩:∃y,ws.getD 1 0=y:=⟨_,rfl⟩
  obtain⟨x,hx⟩:∃x,ws.getD 0 0=x:=⟨_,rfl⟩
  have hy4:y<4294967296:=by rw[<-hy];exact r2.get 1
  have hx4:x<4294967296:=by rw[<-hx];exact r2.get 0
  rw[hy,hx,r4]at hv
  have HY:=Ag hy;have HX:=Ag hx;have HV:=Ag hv;have HB:Hid (Ao N<=64):=Ag hN;have HI:Hid (¬(64:Int)<(Ao N:Nat)):=Ag (by omega);clear hv hx hy r4 hN;go_enter Tryz.func215,Tryz.ntmps215
  go_wp2_with fail
  refine(Fj _ p n c N (h.below hbx.bel) hn).mono ?_;rintro e w1 ⟨rfl,hb1⟩;have hbx1:=hbx.later hb1;have hI:=HI.out;go_wp2;clear hI;have t1:IntKind.u64.wrap ((y:Int)*4294967296)=(y:Int)*4294967296:=IntWalk.u64_in _ (by omega);have t2:=Pb y x hy4 hx4;have t3:IntKind.u64.wrap (y:Int)=y:=IntWalk.u64_in _ (by omega);have t4:IntKind.u64.wrap (x:Int)=x:=IntWalk.u64_in _ (by omega);refine Ah (by kernel_rfl) (by kernel_rfl)
   [some (.agg #[.slice p n c]),none,some (.int .u64 y),some (.int .u64 ((y:Int)*4294967296)),some (.agg #[.slice p n c]),none,some (.int .u64 x),some (.int .u64 ((y*4294967296+x:Nat):Int)),
    some (.int .u64 ((y*4294967296+x:Nat):Int)),some (.bool true)]
   [false,true,false,false,false,true,false,false,false,false] rfl
   (fun _ _=>True)
   (fun _ w'=>Ef w w' (.slice p n c))
   (fun i v w'=>match i with
    | 1=>v=.int .u32 y
    | _=>v=.int .u32 x)
   (fun _ _ _ _ h _=>h) (hbx1.below (Bb _ _).drew (As _)) ?_ ?_
  .simp only[Ba,Nat.reduceAdd];refine⟨?_,?_,?_,?_,?_,?_,?_,?_,?_,?_,trivial⟩
   case refine_2=>
    intro D sp w' hD hW hdp hbx'
    (with_reducible refine Ac (w1:=w') (f := 157) (args:=#[.agg #[.slice p n c],.int .i64 1]) ?_ ?_ ?_)
    .simp only[Region.wanted]
    .simp[Act.eval,Act.put,go_sem]
    .refine(Hg w' p n c ws 1 y (r1.below hbx'.bel) (by omega) HY.out).mono ?_;rintro e w2 ⟨rfl,hb⟩;exact⟨_,rfl,trivial,rfl,hbx'.later hb⟩
   case refine_6=>
    intro D sp w' hD hW hdp hbx'
    (with_reducible refine Ac (w1:=w') (f := 157) (args:=#[.agg #[.slice p n c],.int .i64 0]) ?_ ?_ ?_)
    .simp only[Region.wanted]
    .simp[Act.eval,Act.put,go_sem]
    .refine(Hg w' p n c ws 0 x (r1.below hbx'.bel) (by omega) HX.out).mono ?_;rintro e w2 ⟨rfl,hb⟩;exact⟨_,rfl,trivial,rfl,hbx'.later hb⟩
   case refine_3=>
    intro D sp w' hD hW hdp hbx';have k1:sp 1=.int .u32 y:=(hdp 1 (mq (by kernel_rfl))).2;simp[asked,Region.wanted,Oper.gives,execOp,Act.eval,Act.put,go_sem,k1,t3]
   case refine_7=>
    intro D sp w' hD hW hdp hbx';have k1:sp 5=.int .u32 x:=(hdp 5 (mq (by kernel_rfl))).2;simp[asked,Region.wanted,Oper.gives,execOp,Act.eval,Act.put,go_sem,k1,t4]
   all_goals
    intro D sp w' hD hW hdp hbx';have c0:=hbx'.c0;simp[asked,Region.wanted,Oper.gives,execOp,Act.eval,Act.put,go_sem,c0,t1,t2]
  .intro sp w' hsp hbx';clear hsp t1 t2 t3 t4;simp only[An,Nat.reduceAdd];generalize sp 1=u1,sp 5=u5 at *
   go_simp
   go_wp2
   go_ret2
   refine⟨?_,hbx'.bel⟩;have hB:=HB.out;rw[if_pos hB,decide_eq_true hB,HV.out];simp
 .have HB:Hid (¬Ao N<=64):=Ag hN;have HI:Hid ((64:Int)<(Ao N:Nat)):=Ag (by omega);clear hN;go_enter Tryz.func215,Tryz.ntmps215
  go_wp2_with fail
  refine(Fj _ p n c N (h.below hbx.bel) hn).mono ?_;rintro e w1 ⟨rfl,hb1⟩;have hbx1:=hbx.later hb1;have hI:=HI.out;go_wp2
  go_ret2
  refine⟨?_,hbx1.bel⟩;rw[if_neg HB.out,decide_eq_false HB.out];rfl
theorem mI {N i x:Nat}(h:N/Ar (i/32)%4294967296=x):x/2^(i%32)%2=(bit N i).toNat:=by
 have e:Ar (i/32)=2^(32*(i/32)):=by unfold Ar;rw[Nat.pow_mul]
 have h2:bit N i=bit x (i%32):=by
  rw[Fl,Fl,<-h,e,show (4294967296:Nat)=2^32 from rfl,Nat.testBit_mod_two_pow,Nat.testBit_div_two_pow];have:i%32<32:=Nat.mod_lt _ (by omega);rw[Nat.mod_add_div];simp[this]
 rw[h2];unfold bit
 by_cases h3:x/2^(i%32)%2=1
 .simp[h3]
 .have h4:x/2^(i%32)%2<2:=Nat.mod_lt _ (by omega);have:x/2^(i%32)%2=0:=by omega
  simp[this]
def Ps (N:Nat)(i:Int):Nat:=if 0<=i then (bit N i.toNat).toNat else 0
theorem Wo (w:World)(p:Option Addr)(n c N:Nat)(i:Int)(h:Aj w p n c N)(_hn:n<1000000)(hi:-9223372036854775808<=i)(hi2:i<=9223372036854775807) :
  Calls Tryz.prog 195 #[.agg #[.slice p n c],.int .i64 i] w fun e w'=>e=.returned (.int .i64 (Ps N i:Nat))/\Below w.heap.size w w':=by
 have hbx:=Ef.mk1 w (.slice p n c) 37
 by_cases h0:i<0
 .have HA:Hid (Ps N i=0):=Ag (by unfold Ps;rw[if_neg (by omega)]);go_enter Tryz.func195,Tryz.ntmps195;go_wp2;go_ret;exact⟨by rw[HA.out];rfl,hbx.bel⟩
 .obtain⟨j,rfl⟩:=Int.eq_ofNat_of_zero_le (show 0<=i by omega);have HA:Hid (Ps N (j:Int)=(bit N j).toNat):=Ag (by unfold Ps;rw[if_pos (by omega),Int.toNat_natCast]);obtain⟨ws,r1,r2,r3,r4⟩:=h.ex;obtain⟨q,hq⟩:∃q,j/32=q:=⟨_,rfl⟩
  obtain⟨r,hr⟩:∃r,j%32=r:=⟨_,rfl⟩
  obtain⟨x,hx⟩:∃x,ws.getD q 0=x:=⟨_,rfl⟩
  have hx4:x<4294967296:=by rw[<-hx];exact r2.get _
  have hd:=digit ws r2 q;rw[hx,r4]at hd
  have hbw:=mI (N:=N) (i:=j) (x:=x) (by rw[hq];exact hd);rw[hr]at hbw
  have hr5:r<32:=by omega
  have HX:=Ag hx;have HW:=Ag hbw;have eq1:Hid ((j:Int)/32=(q:Nat)):=Ag (by omega);have er1:Hid ((j:Int)%32=(r:Nat)):=Ag (by omega);have hq9:q<9223372036854775807:=by omega
  have hz4:x/2^r<4294967296:=Nat.lt_of_le_of_lt (Nat.div_le_self _ _) hx4;have hand:bits BinOp.and IntKind.u32 ((x:Int)/2^r) 1=((x/2^r%2:Nat):Int):=by
   have e1:((x:Int)/2^r)=((x/2^r:Nat):Int):=by simp[Int.natCast_ediv]
   have:=u32_and_nat (x/2^r) 1 hz4 (by omega);rw[e1];exact this.trans (by rw[Nat.and_one_is_mod])
  have HAN:=Ag hand;clear hd hbw hx hq hr r4 hand;go_enter Tryz.func195,Tryz.ntmps195
  go_wp2_with fail
  rw[eq1.out];refine(Hg _ p n c ws q x (r1.below hbx.bel) (by omega) HX.out).mono ?_;rintro e w1 ⟨rfl,hb1⟩;have hbx1:=hbx.later hb1;have hE:=er1.out;go_wp2;clear hE;go_ret;refine⟨?_,hbx1.bel⟩;rw[HAN.out,HW.out,HA.out,IntWalk.wrap64_in _ (by have:(bit N j).toNat<=1:=Bool.toNat_le _;omega)];rfl
def Fit (e N:Nat)(v:Value)(w:World):Prop:=∃p n c,v=.agg #[.slice p n c]/\Aj w p n c N/\N<Ar e
theorem Fit.below {e N:Nat}{v:Value}{w w':World}(h:Fit e N v w)(hb:Below w.heap.size w w'):Fit e N v w' :=
 let ⟨p,n,c,h1,h2,h3⟩:=h
 ⟨p,n,c,h1,h2.below hb,h3⟩
theorem Fit.of {e N p n c}{w:World}(h:Aj w p n c N)(hN:N<Ar e):Fit e N (.agg #[.slice p n c]) w:=⟨p,n,c,rfl,h,hN⟩
theorem Fit.cast {e N M:Nat}{v:Value}{w:World}(h:Fit e N v w)(hN:N=M):Fit e M v w:=hN ▸ h
theorem Fit.lim {e N:Nat}{v:Value}{w:World}(h:Fit e N v w):N<Ar e:=let ⟨_,_,_,_,_,h3⟩:=h;h3
theorem oJ {e f N M:Nat}(h:N<Ar e)(k:M<Ar f):N+M<Ar (e+f+1):=by
 have h1:Ar e<=Ar (e+f):=Dk (by omega);have h2:Ar f<=Ar (e+f):=Dk (by omega);rw[Bw];omega
theorem oI {e f N M:Nat}(h:N<Ar e)(k:M<Ar f):N*M<Ar (e+f):=by
 rw[Sk];exact Nat.mul_lt_mul'' h k
theorem Nr {w:World}{v u:Value}{e f N M:Nat}(h:Fit e N v w)(k:Fit f M u w)(he:e<=900000)(hf:f<=900000) :
  Calls Tryz.prog 94 #[v,u] w fun en w'=>∃x,en=.returned x/\Fit (e+f+1) (N+M) x w'/\Below w.heap.size w w':=by
 obtain⟨p,n,c,rfl,h1,h2⟩:=h;obtain⟨q,m,d,rfl,k1,k2⟩:=k;have l1:=h1.len_le h2;have l2:=k1.len_le k2;refine(Wq w p n c N q m d M h1 k1 (by omega) (by omega)).mono ?_;rintro en w' ⟨r,l,g,rfl,hr,hb,_⟩;exact⟨_,rfl,Fit.of hr (oJ h2 k2),hb⟩
theorem Ni {w:World}{v u:Value}{e f N M:Nat}(h:Fit e N v w)(k:Fit f M u w)(he:e<=900000)(hf:f<=900000) :
  Calls Tryz.prog 95 #[v,u] w fun en w'=>∃x,en=.returned x/\Fit (e+f) (N*M) x w'/\Below w.heap.size w w':=by
 obtain⟨p,n,c,rfl,h1,h2⟩:=h;obtain⟨q,m,d,rfl,k1,k2⟩:=k;have l1:=h1.len_le h2;have l2:=k1.len_le k2;refine(fY w p n c N q m d M h1 k1 (by omega) (by omega)).mono ?_;rintro en w' ⟨r,l,g,rfl,hr,hb,_⟩;exact⟨_,rfl,Fit.of hr (oI h2 k2),hb⟩
theorem Sg {w:World}{v u:Value}{e f N M:Nat}(h:Fit e N v w)(k:Fit f M u w)(he:e<=900000)(hf:f<=900000) :
  Calls Tryz.prog 24 #[v,u] w fun en w'=>∃x,en=.returned x/\x=.int .i64 (Bo N M)/\Below w.heap.size w w':=by
 obtain⟨p,n,c,rfl,h1,h2⟩:=h;obtain⟨q,m,d,rfl,k1,k2⟩:=k;have l1:=h1.len_le h2;have l2:=k1.len_le k2;refine(Is w p q n c N m d M h1 k1 (by omega) (by omega)).mono ?_;rintro en w' ⟨rfl,hb⟩;exact⟨_,rfl,rfl,hb⟩
theorem Ww {w:World}{v u:Value}{e f N M:Nat}(h:Fit e N v w)(k:Fit f M u w)(he:e<=900000)(hf:f<=900000) :
  Calls Tryz.prog 113 #[v,u] w fun en w'=>∃x,en=.returned (.tuple #[x,.bool (decide (M<=N))])/\Fit e (N-M) x w'/\Below w.heap.size w w':=by
 obtain⟨p,n,c,rfl,h1,h2⟩:=h;obtain⟨q,m,d,rfl,k1,k2⟩:=k;have l1:=h1.len_le h2;have l2:=k1.len_le k2;refine(fF w p n c N q m d M h1 k1 (by omega) (by omega)).mono ?_;rintro en w' ⟨r,l,g,rfl,hr,hb,_⟩;exact⟨_,rfl,Fit.of hr (by omega),hb⟩
theorem Iu (N:Nat):Bo N N=0:=by simp[Bo]
structure Ap (B:Nat) (w w':World):Prop where
 bel:Below B w w'
 nat:∀p n c N,Aj w p n c N->Aj w' p n c N
theorem Ap.of {B:Nat}{w w':World}(h:Below w.heap.size w w')(hB:B<=w.heap.size):Ap B w w':=⟨h.mono hB,fun _ _ _ _ k=>k.below h⟩
theorem Fit.keep {e N B:Nat}{v:Value}{w w':World}(h:Fit e N v w)(k:Ap B w w'):Fit e N v w' :=
 let ⟨p,n,c,h1,h2,h3⟩:=h
 ⟨p,n,c,h1,k.nat _ _ _ _ h2,h3⟩
def Af (w:World)(b:Nat)(u:Value):Prop:=w.heap[b]? = some (.cells #[u] 37 (0,0))
theorem Af.below {w w':World}{b B:Nat}{u:Value}(h:Af w b u)(hb:Below B w w')(hB:b<B):Af w' b u:=by
 unfold Af at *;rw[hb.block b hB];exact h
theorem Af.cell {w:World}{b:Nat}{u:Value}(h:Af w b u):w.cell? ⟨b,0,none⟩=some u:=by
 unfold Af at h;simp[World.cell?,h]
theorem Af.free {w:World}{b:Nat}{u:Value}(h:Af w b u):w.frozen? ⟨b,0,none⟩=false:=by
 unfold Af at h;simp[World.frozen?,h]
theorem Af.lt {w:World}{b:Nat}{u:Value}(h:Af w b u):b<w.heap.size:=(Kv h).1
theorem Af.set {w:World}{b:Nat}{u:Value}(h:Af w b u)(v:Value):Af (w.setCell ⟨b,0,none⟩ v) b v:=by
 unfold Af at *;simp[World.setCell,Array.getElem?_modify,h]
theorem Af.made (w:World)(u:Value):Af (w.alloc (.cells #[u] 37)) w.heap.size u:=by
 show (w.heap.push _)[w.heap.size]? = _;simp
theorem Aj.store {w:World}{p:Option Addr}{n c N b m d:Nat}{q:Option Addr}(h:Aj w p n c N)(hb:Af w b (.slice q m d))(v:Value):Aj (w.setCell ⟨b,0,none⟩ v) p n c N:=by
 obtain⟨ws,r1,r2,r3,r4⟩:=h.ex;rcases Nat.eq_zero_or_pos n with h0|h0
 .refine⟨ws,⟨r1.len,r1.cap,r1.max,?_⟩,r2,r3,r4⟩;rcases r1.at_ with k|⟨b',off,k1,k2,_⟩
  .exact .inl k
  .refine .inr ⟨b',off,k1,by simpa using k2,fun i x hx=>?_⟩;have:ws=[]:=List.eq_nil_of_length_eq_zero (by rw[<-r1.len];exact h0);rw[this]at hx;cases hx
 .refine h.setCell (a:=⟨b,0,none⟩) ?_ v;intro a ha hab;obtain⟨b',off,k1,k2,k3⟩:=r1.pos h0;rw[k1]at ha;cases ha
  have hbb:b'=b:=hab;subst hbb;have h1:=k3 0 (ws.getD 0 0) (by rw[Du];simp[show 0<ws.length by rw[<-r1.len];exact h0]);unfold Af at hb;simp only[World.cell?,hb,Nat.add_zero]at h1
  cases off with
  | zero=>simp at h1
  | succ k=>simp at h1
theorem Ap.store {B:Nat}{w:World}{b m d:Nat}{q:Option Addr}(hb:Af w b (.slice q m d))(hB:B<=b)(v:Value):Ap B w (w.setCell ⟨b,0,none⟩ v) :=
 ⟨(Bb _ _).setCell hB _,fun _ _ _ _ k=>k.store hb v⟩
def mX (N:Nat)(v:Value)(w:World):Prop:=∃q n d,v=.slice q n d/\Row w .u8 q n d (Az N (Ak N))
theorem Yq {w:World}{v:Value}{e N:Nat}(h:Fit e N v w) :
  Calls Tryz.prog 21 #[v] w fun en w'=>∃x,en=.returned x/\x=.bool (decide (N=0))/\Below w.heap.size w w':=by
 obtain⟨p,n,c,rfl,h1,h2⟩:=h;refine(El w p n c).mono ?_;rintro en w' ⟨rfl,hb⟩;exact⟨_,rfl,by rw[decide_eq_decide.2 h1.zero],hb⟩
theorem Fq (w:World) :
  Calls Tryz.prog 17 #[.int .u64 1] w fun en w'=>∃x,en=.returned x/\Fit 1 1 x w'/\Below w.heap.size w w':=by
 refine(Do 1 w (by decide)).mono ?_;rintro en w' ⟨p,n,c,rfl,hn,hb,_⟩;exact⟨_,rfl,Fit.of hn (by decide),hb⟩
theorem gR {w:World}{v:Value}{e N:Nat}(h:Fit e N v w)(he:e<=30000) :
  Calls Tryz.prog 91 #[v] w fun en w'=>∃x,en=.returned x/\mX N x w'/\Below w.heap.size w w':=by
 obtain⟨p,n,c,rfl,h1,h2⟩:=h;have l1:=h1.len_le h2;have hbl:Ao N<=32*e:=(Bg N _).2 (by
  have:Ar e=2^(32*e):=by unfold Ar;rw[Nat.pow_mul]
  rw[<-this];exact h2)
 refine(Zs w p n c N h1 (by omega) (by omega)).mono ?_;rintro en w' ⟨x,rfl,⟨q,m,d,k1,k2,_⟩,hb⟩;exact⟨_,rfl,⟨q,m,d,k1,k2⟩,hb⟩
theorem Ce {x y:Nat}:Bo x y=0 ↔ x=y:=by
 unfold Bo;repeat' split
 all_goals omega
theorem Je {x y:Nat}:0<Bo x y ↔ y<x:=by
 unfold Bo;repeat' split
 all_goals omega
theorem Ae {w w1 w2:World}(h:Below w.heap.size w w1)(k:Below w1.heap.size w1 w2):Below w.heap.size w w2:=h.trans (k.mono h.size)
theorem Gu {e N:Nat}(h:N<Ar e):Ao N<=32*e:=(Bg N _).2 (by
 have:Ar e=2^(32*e):=by unfold Ar;rw[Nat.pow_mul]
 rw[<-this];exact h)
def Al (N:Nat)(v:Value)(w:World):Prop:=∃q m d,v=.slice q m d/\Bi w q m d N
theorem Al.below {N:Nat}{v:Value}{w w':World}(h:Al N v w)(hb:Below w.heap.size w w'):Al N v w' :=
 let ⟨q,m,d,h1,h2⟩:=h
 ⟨q,m,d,h1,h2.below hb⟩
theorem Al.of {N:Nat}{q:Option Addr}{m d:Nat}{w:World}(h:Bi w q m d N):Al N (.slice q m d) w:=⟨q,m,d,rfl,h⟩
theorem Gs {w:World}{v u:Value}{N M:Nat}(h:Al N v w)(k:Al M u w)(hN:Ao N<=1000000)(hM:Ao M<=1000000) :
  Calls Tryz.prog 36 #[v,u] w fun en w'=>∃x,en=.returned x/\x=.int .i64 (Bo N M)/\Below w.heap.size w w':=by
 obtain⟨p,n,c,rfl,h⟩:=h;obtain⟨q,m,d,rfl,k⟩:=k;refine(Od w p n c N q m d M h k (by rw[Ch h];omega) (by rw[Ch k];omega)).mono ?_;rintro en w' ⟨rfl,hb⟩;exact⟨_,rfl,rfl,hb⟩
theorem Zg {w:World}{v u:Value}{N M:Nat}(h:Al N v w)(k:Al M u w)(hN:Ao N<=1000000)(hM:Ao M<=1000000) :
  Calls Tryz.prog 139 #[v,u] w fun en w'=>∃x,en=.returned x/\Al (N+M) x w'/\Below w.heap.size w w':=by
 obtain⟨p,n,c,rfl,h⟩:=h;obtain⟨q,m,d,rfl,k⟩:=k;refine(Tf w p n c N q m d M h k (by rw[Ch h];omega) (by rw[Ch k];omega)).mono ?_;rintro en w' ⟨p,n,c,rfl,hr,hb,_⟩;exact⟨_,rfl,Al.of hr,hb⟩
theorem jW {w:World}{v u:Value}{N M:Nat}(h:Al N v w)(k:Al M u w)(hN:Ao N<=1000000)(hle:M<=N) :
  Calls Tryz.prog 192 #[v,u] w fun en w'=>∃x,en=.returned x/\Al (N-M) x w'/\Below w.heap.size w w':=by
 obtain⟨p,n,c,rfl,h⟩:=h;obtain⟨q,m,d,rfl,k⟩:=k;refine(Ob w p n c N q m d M h k (by rw[Ch h];omega) hle).mono ?_;rintro en w' ⟨p,n,c,rfl,hr,hb,_⟩;exact⟨_,rfl,Al.of hr,hb⟩
theorem Xx {w:World}{v u:Value}{e f N M:Nat}(h:Fit e N v w)(k:Fit f M u w)(he:e<=800000)(hf:f<=800000) :
  Calls Tryz.prog 93 #[v,u] w fun en w'=>∃x,en=.returned x/\(∃q r,x=.tuple #[q,r,.int .i64 (if M=0 then 5 else 0)]/\Fit e (N/M) q w'/\Fit e (if M=0 then 0 else N%M) r w')/\Below w.heap.size w w':=by
 obtain⟨p,n,c,rfl,h1,h2⟩:=h;obtain⟨q,m,d,rfl,k1,k2⟩:=k;have l1:=h1.len_le h2;have l2:=k1.len_le k2;refine(Wi w p n c N q m d M h1 k1 (by omega) (by omega)).mono ?_;rintro en w' ⟨p1,n1,c1,p2,n2,c2,rfl,g1,g2,hb,_,_⟩;refine⟨_,rfl,⟨_,_,rfl,Fit.of g1 (Nat.lt_of_le_of_lt (Nat.div_le_self _ _) h2),Fit.of g2 ?_⟩,hb⟩;split
 .exact Hx e
 .exact Nat.lt_of_le_of_lt (Nat.mod_le _ _) h2
def Lt (v:Value)(B N:Nat)(full:Bool)(w:World):Prop:=∃b,v=.pointer (some ⟨b,0,none⟩)/\B<=b/\∃p n c,Af w b (.slice p n c)/\(full=true->Aj w p n c N)
theorem Lt.later {v:Value}{B N:Nat}{full:Bool}{w w':World}(h:Lt v B N full w)(hb:Below w.heap.size w w'):Lt v B N full w' :=
 let ⟨b,h1,h2,p,n,c,h3,h4⟩:=h
 ⟨b,h1,h2,p,n,c,h3.below hb h3.lt,fun hf=>(h4 hf).below hb⟩
theorem Lt.made (w:World){B:Nat}(hB:B<=w.heap.size)(N:Nat):Lt (.pointer (some ⟨w.heap.size,0,none⟩)) B N false (w.alloc (.cells #[.slice none 0 0] 37)) :=
 ⟨w.heap.size,rfl,hB,none,0,0,Af.made _ _,fun h=>by cases h⟩
theorem Af.other {w:World}{b b':Nat}{u:Value}(h:Af w b u)(hne:b≠b')(v:Value):Af (w.setCell ⟨b',0,none⟩ v) b u:=by
 unfold Af at *;rw[heap_setCell_other w ⟨b',0,none⟩ b v (fun e=>hne e)];exact h
structure Ir (B x y:Nat) (d1 d2 f1 f2:Bool) (v1 v2:Value) (w:World):Prop where
 one:d1=true->Lt v1 B x f1 w
 two:d2=true->Lt v2 B y f2 w
 ne:d1=true->d2=true->v1≠v2
 size:B<=w.heap.size
theorem Ir.start {B x y:Nat}{f1 f2:Bool}{v1 v2:Value}{w:World}(h:B<=w.heap.size):Ir B x y false false f1 f2 v1 v2 w :=
 ⟨(fun h=>by cases h),(fun h=>by cases h),(fun h=>by cases h),h⟩
theorem Ir.swap {B x y:Nat}{d1 d2 f1 f2:Bool}{v1 v2:Value}{w:World}(h:Ir B x y d1 d2 f1 f2 v1 v2 w):Ir B y x d2 d1 f2 f1 v2 v1 w :=
 ⟨h.two,h.one,fun a b e=>h.ne b a e.symm,h.size⟩
theorem Ir.later {B x y:Nat}{d1 d2 f1 f2:Bool}{v1 v2:Value}{w w':World}(h:Ir B x y d1 d2 f1 f2 v1 v2 w)(hb:Below w.heap.size w w'):Ir B x y d1 d2 f1 f2 v1 v2 w' :=
 ⟨fun a=>(h.one a).later hb,fun a=>(h.two a).later hb,h.ne,Dn h.size hb.size⟩
theorem Ir.alloc1 {B x y:Nat}{d2 f1 f2:Bool}{v1 v2:Value}{w:World}(h:Ir B x y false d2 f1 f2 v1 v2 w) :
  Ir B x y true d2 false f2 (.pointer (some ⟨w.heap.size,0,none⟩)) v2 (w.alloc (.cells #[.slice none 0 0] 37)) :=
 ⟨fun _=>Lt.made w h.size x,fun a=>(h.two a).later ((Bb _ _).alloc (As _) _),fun _ a e=>by
  obtain⟨b,h1,_,p,n,c,h3,_⟩:=h.two a;have:=h3.lt;rw[h1]at e
  simp only[Value.pointer.injEq,Option.some.injEq,Addr.mk.injEq]at e;omega,Dn h.size (by simp)⟩
theorem Ir.alloc2 {B x y:Nat}{d1 f1 f2:Bool}{v1 v2:Value}{w:World}(h:Ir B x y d1 false f1 f2 v1 v2 w) :
  Ir B x y d1 true f1 false v1 (.pointer (some ⟨w.heap.size,0,none⟩)) (w.alloc (.cells #[.slice none 0 0] 37)):=h.swap.alloc1.swap
theorem Ir.store1 {B x y:Nat}{d2 f1 f2:Bool}{v1 v2:Value}{w:World}{p:Option Addr}{n c:Nat}(h:Ir B x y true d2 f1 f2 v1 v2 w)(hx:Aj w p n c x) :
  ∃b q m d,v1=.pointer (some ⟨b,0,none⟩)/\B<=b/\Af w b (.slice q m d)/\Ir B x y true d2 true f2 v1 v2 (w.setCell ⟨b,0,none⟩ (.slice p n c)):=by
 obtain⟨b,h1,h2,q,m,d,h3,_⟩:=h.one rfl;refine⟨b,q,m,d,h1,h2,h3,fun _=>⟨b,h1,h2,p,n,c,h3.set _,fun _=>hx.store h3 _⟩,fun a=>?_,h.ne,by simpa using h.size⟩;obtain⟨b',g1,g2,q',m',d',g3,g4⟩:=h.two a;have hne:b'≠b:=fun e=>h.ne rfl a (by rw[h1,g1,e])
 exact⟨b',g1,g2,q',m',d',g3.other hne _,fun hf=>(g4 hf).store h3 _⟩
theorem Ir.store2 {B x y:Nat}{d1 f1 f2:Bool}{v1 v2:Value}{w:World}{p:Option Addr}{n c:Nat}(h:Ir B x y d1 true f1 f2 v1 v2 w)(hy:Aj w p n c y) :
  ∃b q m d,v2=.pointer (some ⟨b,0,none⟩)/\B<=b/\Af w b (.slice q m d)/\Ir B x y d1 true f1 true v1 v2 (w.setCell ⟨b,0,none⟩ (.slice p n c)):=by
 obtain⟨b,q,m,d,h1,h2,h3,h4⟩:=h.swap.store1 hy;exact⟨b,q,m,d,h1,h2,h3,h4.swap⟩
end Go.Proofs.YtokhckjemidbpaaGreatDoor
