/- Chains, of the program. -/
import Derived.Test.YtnbmfaihlefgfaaGreatDoorCpH
import Derived.Laws.OwnMore
import Derived.ArgAppend
import Derived.Laws.CopyOwn
import Derived.Test.YtnbmfaihlefgfaaGreatDoorMacE
set_option maxRecDepth 1000000
set_option maxHeartbeats 16000000
set_option linter.all false
namespace Go.Proofs.YtnbmfaihlefgfaaGreatDoor
open Go Go.RowKit Go.Proofs.YtnbmfaihlefgfaaGreatDoor.Flow
def Vg (w:World)(v v':Value):Prop:=v'.ownBlock=v.ownBlock ∨ ∀g,v'.ownBlock=some g->w.heap.size<=g
theorem eL {w:World}{B n size bytes:Nat}{st e:TypeId}{i:TypeInfo}{z:Value}(hu:Tryz.prog.underlying st=some (.slice e))(hi:Tryz.prog.info? e=some i)(hz:i.zero=some z)(hs:i.size=size)(hb:i.bytes=bytes)(hzs:z.cells.size=size)(h0:0<size){v:Value}{us:List Value}(h:w.ownsRow B e size v n us){a:Addr}{m c:Nat}{news:List Value}(hl:news.length=m*size)(hcell:∀j u,news[j]? = some u->w.cell? (a.add j)=some u)(hone:∀u∈news,u.oneCell'=true)(hmax:n+m<=maxLen)(hbytes:(n+m)*bytes<=140737488355328)(hB:B<=w.heap.size)(ty:TypeId) :
  ∃v' w',(Builtin.append_ #[st,st] ty #[v,.slice (some a) m c]).run Tryz.prog w=.ok v' w'/\w'.ownsRow B e size v' (n+m) (us++news)/\w.grownBy w' v.ownBlock/\Vg w v v':=by
 obtain⟨v',w',h1,h2,h3,_⟩:=run_append_own (P:=Tryz.prog) w B st ty e i z size bytes hu hi hz hs hb hzs h0 v n us h a m c news hl hcell hone hmax hbytes hB;refine⟨v',w',h1,h2,h3,?_⟩;rcases h.2 with ⟨rfl,hn0⟩|⟨g,cap,cur,rfl,hbg,hg,hnc,hcm,hcs,ht⟩
 .obtain⟨v2,w2,k1,k2,_,_⟩:=run_append_own (P:=Tryz.prog) w w.heap.size st ty e i z size bytes hu hi hz hs hb hzs h0 (.slice none 0 0) 0 [] (World.ownsRow_nil w _ _ _) a m c news hl hcell hone (by omega) (Fo (Nat.mul_le_mul_right _ (by omega)) hbytes) (Av _);rw[h1]at k1
  injection k1 with k3 k4
  subst k3;refine .inr fun g hg=>?_
  rcases k2.2 with ⟨e',_⟩|⟨g',cap,cur,e',hb',_⟩
  .rw[e']at hg;cases hg
  .rw[e']at hg
   obtain rfl:g'=g:=by simpa [Value.ownBlock]using hg
   exact hb'
 .by_cases hroom:n+m<=cap
  .have hfit:n*i.size+news.length<=cur.size:=by rw[hs,hcs,hl,<-Nat.add_mul];exact Nat.mul_le_mul_right _ hroom
   have k1:=run_append_room (P:=Tryz.prog) w st ty e i hu hi g n cap cur hg a m c news (by rw[hs];exact hl) hcell hone hroom hfit;rw[h1]at k1
   injection k1 with k2 _
   exact .inl (by rw[k2];rfl)
  .obtain⟨v2,w2,k1,k2,_⟩:=run_append_arg_grows (P:=Tryz.prog) w st ty e i z size bytes hu hi hz hs hb hzs h0 ⟨g,0,none⟩ n cap us h.1
    (fun j u hj=>World.ownsRow.cells h rfl j u hj) a m c news hl hcell (by omega) hmax hbytes
   rw[h1]at k1
   injection k1 with k3 k4
   subst k3;refine .inr fun g hg=>?_
   rcases k2.2 with ⟨e',_⟩|⟨g',cap,cur,e',hb',_⟩
   .rw[e']at hg;cases hg
   .rw[e']at hg
    obtain rfl:g'=g:=by simpa [Value.ownBlock]using hg
    exact hb'
structure Agree (bad:Nat->Prop) (w w':World):Prop where
 size:w.heap.size<=w'.heap.size
 block:∀b,b<w.heap.size->¬bad b->w'.heap[b]? = w.heap[b]?
theorem Agree.trans {bad:Nat->Prop}{a b c:World}(h:Agree bad a b)(k:Agree bad b c):Agree bad a c :=
 ⟨Fo h.size k.size,fun x hx hn=>by rw[k.block x (Dj hx h.size) hn,h.block x hx hn]⟩
theorem Agree.of {bad:Nat->Prop}{w w':World}(h:Below w.heap.size w w'):Agree bad w w':=⟨h.size,fun b hb _=>h.block b hb⟩
theorem Agree.grown {bad:Nat->Prop}{w w':World}{row:Option Nat}(h:w.grownBy w' row)(hr:∀g,row=some g->bad g):Agree bad w w' :=
 ⟨h.size,fun b hb hn=>h.block b hb fun e=>hn (hr b e.symm)⟩
theorem Agree.set {bad:Nat->Prop}(w:World)(g o:Nat)(u:Value)(hg:bad g):Agree bad w (w.setCell ⟨g,o,none⟩ u) :=
 ⟨by simp,fun b _ hn=>Below.heap_setCell _ _ _ _ fun e=>hn (by rw[show b=g from e];exact hg)⟩
def Ic (F:World->Prop)(bad:Nat->Prop)(w:World):Prop:=∀w',Agree bad w w'->F w'
theorem Ic.out {F:World->Prop}{bad:Nat->Prop}{w:World}(h:Ic F bad w):F w:=h w ⟨Av _,fun _ _ _=>rfl⟩
theorem Ic.step {F:World->Prop}{bad:Nat->Prop}{w w':World}(h:Ic F bad w)(a:Agree bad w w'):Ic F bad w':=fun w2 k=>h w2 (a.trans k)
theorem Ic.more {F:World->Prop}{bad bad':Nat->Prop}{w:World}(h:Ic F bad w)(hb:∀b,b<w.heap.size->bad' b->bad b):Ic F bad' w :=
 fun w2 k=>h w2 ⟨k.size,fun b hlt hn=>k.block b hlt fun e=>hn (hb b hlt e)⟩
structure Gh (At:World->Option Addr->Nat->Nat->Nat->Prop):Prop where
 stay:∀ {w w' p n c N},At w p n c N->w.heap.size<=w'.heap.size->(∀q,p=some q->∀o,w'.cell? ⟨q.block,o,none⟩=w.cell? ⟨q.block,o,none⟩)->At w' p n c N
 lt:∀ {w p n c N},At w p n c N->∀q,p=some q->q.block<w.heap.size
theorem Fe:Gh Ah:=⟨fun {w w' p n c N} h hz hc=>by
 obtain⟨ws,r1,r2,r3,r4⟩:=h.ex;refine⟨ws,⟨r1.len,r1.cap,r1.max,?_⟩,r2,r3,r4⟩;rcases r1.at_ with k|⟨b,off,k1,k2,k3⟩
 .exact .inl k
 .exact .inr ⟨b,off,k1,Dj k2 hz,fun i x hx=>by rw[hc _ k1];exact k3 i x hx⟩,fun {w p n c N} h q hq=>by
 obtain⟨ws,r1,_⟩:=h.ex;rcases r1.at_ with k|⟨b,off,k1,k2,k3⟩
 .rw[k.1]at hq;cases hq
 .rw[k1]at hq;cases hq;exact k2⟩
theorem Lr:Gh Ay:=⟨fun {w w' p n c N} h hz hc=>by
 refine⟨h.len,h.cap,h.max,?_⟩;rcases h.at_ with k|⟨b,off,k1,k2,k3⟩
 .exact .inl k
 .exact .inr ⟨b,off,k1,Dj k2 hz,fun i x hx=>by rw[hc _ k1];exact k3 i x hx⟩,fun {w p n c N} h q hq=>by
 rcases h.at_ with k|⟨b,off,k1,k2,k3⟩
 .rw[k.1]at hq;cases hq
 .rw[k1]at hq;cases hq;exact k2⟩
theorem Gh.firm {At:World->Option Addr->Nat->Nat->Nat->Prop}(S:Gh At){w:World}{p:Option Addr}{n c N:Nat}(h:At w p n c N){bad:Nat->Prop}(hb:∀q,p=some q->¬bad q.block):Ic (fun w=>At w p n c N) bad w :=
 fun _ k=>S.stay h k.size fun q hq o=>World.cell?_of_block (a:=⟨q.block,o,none⟩) (k.block q.block (S.lt h q hq) (hb q hq))
theorem Gh.fresh {At:World->Option Addr->Nat->Nat->Nat->Prop}(S:Gh At){w:World}{p:Option Addr}{n c N B:Nat}(h:At w p n c N)(hn:Dv B p){bad:Nat->Prop}(hb:∀b,bad b->b<B):Ic (fun w=>At w p n c N) bad w :=
 S.firm h fun q hq e=>by have:=hb _ e;have:=hn q hq;omega
structure Dy (At:World->Option Addr->Nat->Nat->Nat->Prop) (e:TypeId) (B:Nat) (bad:Nat->Prop) (w:World) (v:Value) (Ns:List Nat):Prop where
 ex:∃vs:List Value,w.ownsRow B e 1 v Ns.length vs/\vs.length=Ns.length/\∀(i N:Nat),Ns[i]? = some N->∃x:Option Addr×Nat×Nat,vs[i]? = some (.slice x.1 x.2.1 x.2.2)/\Ic (fun w=>At w x.1 x.2.1 x.2.2 N) bad w
section
variable {At:World->Option Addr->Nat->Nat->Nat->Prop} {e:TypeId} {B:Nat} {bad:Nat->Prop} {w:World} {v:Value} {Ns:List Nat}
theorem Dy.nil:Dy At e B bad w (.slice none 0 0) []:=⟨[],World.ownsRow_nil w B e 1,rfl,fun i N h=>by simp at h⟩
theorem Ub {w':World}{n size:Nat}{us:List Value}(h:w.ownsRow B e size v n us)(hk:∀g,v.ownBlock=some g->w'.heap[g]? = w.heap[g]?):w'.ownsRow B e size v n us:=by
 refine⟨h.1,?_⟩;rcases h.2 with h4|⟨g,cap,cur,e',hbg,hg,h5⟩
 .exact .inl h4
 .exact .inr ⟨g,cap,cur,e',hbg,by rw[hk g (by rw[e'];rfl)];exact hg,h5⟩
theorem Rn {n size:Nat}{us:List Value}(h:w.ownsRow B e size v n us):∀g,v.ownBlock=some g->B<=g/\g<w.heap.size:=by
 intro g hg;rcases h.2 with ⟨rfl,_⟩|⟨g',cap,cur,rfl,hbg,hg',_⟩
 .cases hg
 .obtain rfl:g'=g:=by simpa [Value.ownBlock]using hg
  exact⟨hbg,(Mv hg').1⟩
theorem Dy.block (h:Dy At e B bad w v Ns):∀g,v.ownBlock=some g->B<=g/\g<w.heap.size:=by obtain⟨_,h1,_⟩:=h.ex;exact Rn h1
theorem Dy.step {w':World}(h:Dy At e B bad w v Ns)(a:Agree bad w w')(hk:∀g,v.ownBlock=some g->w'.heap[g]? = w.heap[g]?):Dy At e B bad w' v Ns:=by
 obtain⟨vs,h1,h2,h3⟩:=h.ex;refine⟨vs,Ub h1 hk,h2,fun i N hN=>?_⟩;obtain⟨x,k1,k2⟩:=h3 i N hN;exact⟨x,k1,k2.step a⟩
theorem Dy.below {w':World}(h:Dy At e B bad w v Ns)(hb:Below w.heap.size w w'):Dy At e B bad w' v Ns:=h.step (.of hb) fun g hg=>hb.block g (h.block g hg).2
theorem Dy.more {bad':Nat->Prop}(h:Dy At e B bad w v Ns)(hb:∀b,b<w.heap.size->bad' b->bad b):Dy At e B bad' w v Ns:=by
 obtain⟨vs,h1,h2,h3⟩:=h.ex;refine⟨vs,h1,h2,fun i N hN=>?_⟩;obtain⟨x,k1,k2⟩:=h3 i N hN;exact⟨x,k1,k2.more hb⟩
theorem Dy.app {st:TypeId}{bytes:Nat}{i:TypeInfo}(hu:Tryz.prog.underlying st=some (.slice e))(hi:Tryz.prog.info? e=some i){z:Value}(hz:i.zero=some z)(hs:i.size=1)(hb:i.bytes=bytes)(hzs:z.cells.size=1)(hby:bytes<=1000)(h:Dy At e B bad w v Ns)(hB:B<=w.heap.size){a:Addr}{c N:Nat}{x:Option Addr×Nat×Nat}(hc:w.cell? a=some (.slice x.1 x.2.1 x.2.2))(hN:Ic (fun w=>At w x.1 x.2.1 x.2.2 N) bad w)(hv:∀g,v.ownBlock=some g->bad g)(hl:Ns.length<=1000000)(ty:TypeId) :
  ∃v' w',(Builtin.append_ #[st,st] ty #[v,.slice (some a) 1 c]).run Tryz.prog w=.ok v' w'/\Dy At e B bad w' v' (Ns++[N])/\w.grownBy w' v.ownBlock/\Vg w v v':=by
 obtain⟨vs,h1,h2,h3⟩:=h.ex;have ha0:a.add 0=a:=by obtain⟨b,o,s⟩:=a;simp[Addr.add]
 obtain⟨v',w',k1,k2,k3,k4⟩:=eL hu hi hz hs hb hzs (by decide) h1 (a:=a) (m:=1) (c:=c) (news:=[.slice x.1 x.2.1 x.2.2]) rfl
  (fun j u hj=>by
   cases j with
   | zero=>simp at hj;subst hj;rw[ha0];exact hc
   | succ j=>simp at hj)
  (fun u hj=>by simp at hj;subst hj;rfl) (by simp only[maxLen];omega) (Fo (Nat.mul_le_mul (Nat.add_le_add_right hl 1) hby) (by decide)) hB ty
 have ag:Agree bad w w':=.grown k3 hv;refine⟨v',w',k1,⟨vs++[.slice x.1 x.2.1 x.2.2],by rw[List.length_append];exact k2,by simp[h2],fun j M hM=>?_⟩,k3,k4⟩;rcases Nat.lt_or_ge j Ns.length with hj|hj
 .rw[List.getElem?_append_left hj]at hM
  obtain⟨y,g1,g2⟩:=h3 j M hM;exact⟨y,by rw[List.getElem?_append_left (by omega)];exact g1,g2.step ag⟩
 .rw[List.getElem?_append_right hj]at hM
  obtain⟨t,ht⟩:∃t,j-Ns.length=t:=⟨_,rfl⟩
  rw[ht]at hM
  cases t with
  | zero=>
   simp at hM;subst hM;exact⟨x,by rw[List.getElem?_append_right (by omega),h2,ht];rfl,hN.step ag⟩
  | succ t=>simp at hM
theorem Dy.elim (h:Dy At e B bad w v Ns):∃p c,v=.slice p Ns.length c/\Ns.length<=c/\c<=9223372036854775807/\(p=none->c=0) /\
  (0<Ns.length->∃b off,p=some ⟨b,off,none⟩/\b<w.heap.size/\∀(i N:Nat),Ns[i]? = some N->∃q m d,w.cell? ⟨b,off+i,none⟩=some (.slice q m d)/\At w q m d N):=by
 obtain⟨vs,h1,h2,h3⟩:=h.ex;rcases h1.2 with ⟨rfl,h0⟩|⟨g,cap,cur,rfl,hb,hg,hnc,hcm,hcs,ht⟩
 .exact⟨none,0,by rw[h0],by omega,by omega,fun _=>rfl,fun h=>by omega⟩
 .have hlt:g<w.heap.size:=(Mv hg).1;refine⟨some ⟨g,0,none⟩,cap,rfl,hnc,by simpa [maxLen]using hcm,(fun h=>by cases h),fun _=>⟨g,0,rfl,hlt,fun i N hN=>?_⟩⟩;obtain⟨x,h4,h5⟩:=h3 i N hN;refine⟨x.1,x.2.1,x.2.2,?_,h5.out⟩;have hi:i<Ns.length:=(List.getElem?_eq_some_iff.1 hN).1;have h6:(cur.toList.take (Ns.length*1))[i]? = some (.slice x.1 x.2.1 x.2.2):=by rw[ht];exact h4
  rw[List.getElem?_take,if_pos (by omega)]at h6
  unfold World.cell?
  dsimp only
  rw[hg];simp only[Nat.zero_add];rw[Array.getElem?_toList]at h6
  exact h6
end
theorem Dy.plist {t:TypeId}{B e:Nat}{bad:Nat->Prop}{w:World}{v:Value}{Ns:List Nat}(h:Dy Ah t B bad w v Ns)(hl:∀N∈Ns,N<Am e):∃p c,v=.slice p Ns.length c/\Bd w e p Ns.length c Ns:=by
 obtain⟨p,c,h1,h2,h3,h4,h5⟩:=h.elim;refine⟨p,c,h1,rfl,h2,h3,h4,fun h0=>?_⟩;obtain⟨b,off,g1,g2,g3⟩:=h5 h0;exact⟨b,off,g1,g2,fun i N hN=>let ⟨q,m,d,k1,k2⟩:=g3 i N hN;⟨q,m,d,k1,k2,hl N (List.mem_of_getElem? hN)⟩⟩
theorem Dy.nlist {t:TypeId}{B:Nat}{bad:Nat->Prop}{w:World}{v:Value}{Ns:List Nat}(h:Dy Ay t B bad w v Ns):∃p c,v=.slice p Ns.length c/\Em w p Ns.length c Ns:=by
 obtain⟨p,c,h1,h2,h3,_,h5⟩:=h.elim;exact⟨p,c,h1,rfl,h2,h3,fun h0=>h5 h0⟩
section
variable {At:World->Option Addr->Nat->Nat->Nat->Prop} {e:TypeId} {B:Nat} {bad:Nat->Prop} {w:World} {v:Value} {Ns:List Nat}
theorem Dy.app2 {st:TypeId}{bytes:Nat}{i:TypeInfo}(hu:Tryz.prog.underlying st=some (.slice e))(hi:Tryz.prog.info? e=some i){z:Value}(hz:i.zero=some z)(hs:i.size=1)(hb:i.bytes=bytes)(hzs:z.cells.size=1)(hby:bytes<=1000)(h:Dy At e B bad w v Ns)(hB:B<=w.heap.size){a:Addr}{c N:Nat}{x:Option Addr×Nat×Nat}(hc:w.cell? a=some (.slice x.1 x.2.1 x.2.2))(hN:Ic (fun w=>At w x.1 x.2.1 x.2.2 N) bad w)(hv:∀g,v.ownBlock=some g->bad g)(hlt:∀g,bad g->g<w.heap.size)(hl:Ns.length<=1000000)(ty:TypeId){C:Prop}(k:∀v' w' bad',(Builtin.append_ #[st,st] ty #[v,.slice (some a) 1 c]).run Tryz.prog w=.ok v' w'->Dy At e B bad' w' v' (Ns++[N])->w.grownBy w' v.ownBlock ->
   (∀g,bad g->bad' g)->(∀g,g<w.heap.size->bad' g->bad g)->(∀g,v'.ownBlock=some g->bad' g)->(∀g,bad' g->g<w'.heap.size)->C):C:=by
 obtain⟨v',w',k1,_,k3,k4⟩:=h.app hu hi hz hs hb hzs hby hB hc hN hv hl ty;have hsub:∀g,g<w.heap.size->(bad g ∨ v'.ownBlock=some g)->bad g:=by
  intro g hg hx;rcases hx with hx|hx
  .exact hx
  .rcases k4 with k4|k4
   .exact hv g (by rw[<-k4];exact hx)
   .have:=k4 g hx;omega
 obtain⟨v2,w2,g1,g2,_,_⟩:=(h.more (bad':=fun g=>bad g ∨ v'.ownBlock=some g) hsub).app hu hi hz hs hb hzs hby hB hc (hN.more hsub) (fun g hg=>.inl (hv g hg)) hl ty;rw[k1]at g1
 injection g1 with e1 e2
 subst e1 e2;exact k v' w' _ k1 g2 k3 (fun g hg=>.inl hg) hsub (fun g hg=>.inr hg) (fun g hg=>by
  rcases hg with hg|hg
  .exact Dj (hlt g hg) k3.size
  .exact(g2.block g hg).2)
end
section
variable {At:World->Option Addr->Nat->Nat->Nat->Prop} {t e:TypeId} {B:Nat} {bad bad':Nat->Prop} {b M0 M1:Nat} {Ns:List Nat} {x y:Option Addr×Nat×Nat} {v:Value} {w0 w:World}
end
section
variable {At:World->Option Addr->Nat->Nat->Nat->Prop} {mk:Option Addr->Nat->Nat->Value} {t e:TypeId} {wE w0:World} {bad:Nat->Prop} {b:Nat} {q0 q1 v:Value} {Ns:List Nat} {N:Nat} {d3 d4 d5 d7:Bool} {v3 v4 v5:Value} {w:World}
end
def Jg (P:Nat):Nat->List (Nat×Nat)->Nat
 | x,[]=>x
 | x,(b,e)::l=>Jg P (x*(b^e%P)%P) l
theorem Ql {P:Nat}(hP:2<=P):∀(l:List (Nat×Nat)) (x:Nat),x<P->Jg P x l<P
 | [],_,h=>h
 | (_,_)::l,_,_=>Ql hP l _ (Nat.mod_lt _ (by omega))
theorem Sl {P Q g:Nat}(h:g^Q%P=1%P)(a:Nat):g^a%P=g^(a%Q)%P:=by
 have h1:a=Q*(a/Q)+a%Q:=(Nat.div_add_mod a Q).symm;have h2:g^(Q*(a/Q))%P=1%P:=by
  rw[Nat.pow_mul,Nat.pow_mod,h,<-Nat.pow_mod,Nat.one_pow]
 rw[show g^a=g^(Q*(a/Q))*g^(a%Q) by rw[<-Nat.pow_add,<-h1],Nat.mul_mod,h2,<-Nat.mul_mod,Nat.one_mul]
theorem Tryz.info_Nat:(Tryz.prog.info? 36).map (fun i=>(i.zero,i.size,i.bytes))=some (some (.agg #[.slice none 0 0]),1,24):=by kernel_rfl
structure lM (e:Nat) (s:Bk) (x y z:Option Addr×Nat×Nat) (w:World):Prop where
 n:Ah w x.1 x.2.1 x.2.2 s.n
 base:Ah w y.1 y.2.1 y.2.2 s.base
 ps:Bd w e z.1 z.2.1 z.2.2 s.ps
abbrev trip (x y z:Option Addr×Nat×Nat):Value:=.agg #[.slice x.1 x.2.1 x.2.2,.slice y.1 y.2.1 y.2.2,.slice z.1 z.2.1 z.2.2]
section
variable {F:Bk->Option Addr×Nat×Nat->Option Addr×Nat×Nat->Option Addr×Nat×Nat->World->Prop} {e:TypeId} {B:Nat} {bad:Nat->Prop} {w:World} {v:Value} {l:List Bk}
end
theorem Cp {α:Type}{l:List α}{k:Nat}{N:α}(h:l[k]? = some N):l.take (k+1)=l.take k++[N]:=by
 obtain⟨hi,e⟩:=List.getElem?_eq_some_iff.1 h;rw[List.take_succ_eq_append_getElem hi,e]
def Iz (P Q G H s r:Nat):Nat:=G^(s%Q)%P*(H^(r%Q)%P)%P
theorem Zb (P Q G H s r:Nat):Jg P 1 ([G,H].zip [s%Q,r%Q])=Iz P Q G H s r:=by
 show 1*(G^(s%Q)%P)%P*(H^(r%Q)%P)%P=G^(s%Q)%P*(H^(r%Q)%P)%P;rw[Nat.one_mul,Nat.mod_mod]
theorem iV {P Q G H s r:Nat}(hP:0<P):Iz P Q G H s r<P:=Nat.mod_lt _ hP
theorem Wa {P Q G H:Nat}(hG:G^Q%P=1%P)(hH:H^Q%P=1%P)(s r:Nat):Iz P Q G H s r=G^s%P*(H^r%P)%P:=by
 unfold Iz;rw[<-Sl hG,<-Sl hH]
theorem bR {P Q G H:Nat}(hG:G^Q%P=1%P)(hH:H^Q%P=1%P)(s r:Nat):Iz P Q G H s r=G^s*H^r%P:=by rw[Wa hG hH,<-Nat.mul_mod]
theorem Sm {P Q G H:Nat}(s:Nat):Iz P Q G H s 0=G^(s%Q)%P:=by
 unfold Iz;rw[Nat.zero_mod,Nat.pow_zero,<-Nat.mul_mod,Nat.mul_one]
theorem bQ {P Q G H:Nat}(hP:2<=P):Iz P Q G H 0 0=1:=by
 rw[Sm,Nat.zero_mod,Nat.pow_zero,Nat.mod_eq_of_lt (by omega)]
theorem eU {P Q G H:Nat}(hQ:2<=Q)(hG:G<P):Iz P Q G H 1 0=G:=by
 rw[Sm,Nat.mod_eq_of_lt (show 1<Q by omega),Nat.pow_one,Nat.mod_eq_of_lt hG]
def bS (n:Nat)(l:List Nat):List Nat:=l++List.replicate (n-l.length) 0
theorem Ol {n:Nat}{l:List Nat}(h:l.length<=n):(bS n l).length=n:=by simp[bS];omega
theorem Wc {n i:Nat}{l:List Nat}(h:i<n):(bS n l)[i]? = some (l.getD i 0):=by
 unfold bS
 by_cases hi:i<l.length
 .rw[List.getElem?_append_left hi,De,List.getElem?_eq_getElem hi];rfl
 .rw[List.getElem?_append_right (by omega),List.getElem?_replicate,if_pos (by omega),De,List.getElem?_eq_none (by omega)];rfl
def Fa (P Q G H:Nat)(xs bs:List Nat):List Nat:=((bS (max xs.length bs.length) xs).zip (bS (max xs.length bs.length) bs)).map fun p=>Iz P Q G H p.1 p.2
theorem Ii (P Q G H:Nat)(xs bs:List Nat):(Fa P Q G H xs bs).length=max xs.length bs.length:=by
 unfold Fa;rw[List.length_map,List.length_zip,Ol (by omega),Ol (by omega),Nat.min_self]
theorem Ni (P Q G H:Nat)(xs bs:List Nat)(i:Nat)(h:i<max xs.length bs.length):(Fa P Q G H xs bs)[i]? = some (Iz P Q G H (xs.getD i 0) (bs.getD i 0)):=by
 unfold Fa;rw[List.getElem?_map,List.getElem?_zip_eq_some.2 (show _=some ((xs.getD i 0,bs.getD i 0):Nat×Nat).1/\_=some ((xs.getD i 0,bs.getD i 0):Nat×Nat).2 from ⟨Wc h,Wc h⟩)];rfl
def Bg (P:Nat):List Nat->List Nat->List Nat
 | acc,[]=>acc
 | [],a::row=>1*a%P::Bg P [] row
 | c::acc,a::row=>c*a%P::Bg P acc row
theorem Ik (P:Nat)(acc:List Nat):Bg P acc []=acc:=by cases acc<;>rfl
theorem Dz (P:Nat):∀row acc,(Bg P acc row).length=max acc.length row.length
 | [],acc=>by rw[Ik];simp
 | a::row,[]=>by simp[Bg,Dz P row]
 | a::row,c::acc=>by simp only[Bg,List.length_cons,Dz P row];omega
theorem Nj (P:Nat):∀(row acc:List Nat) (i:Nat),i<row.length->(Bg P acc row)[i]? = some (acc.getD i 1*row.getD i 0%P)
 | [],_,_,h=>by simp at h
 | a::row,[],0,_=>by simp[Bg]
 | a::row,[],i+1,h=>by
  have:=Nj P row [] i (by simpa using h);simpa [Bg]using this
 | a::row,c::acc,0,_=>by simp[Bg]
 | a::row,c::acc,i+1,h=>by
  have:=Nj P row acc i (by simpa using h);simpa [Bg]using this
theorem Hc (P:Nat):∀(row acc:List Nat) (i:Nat),row.length<=i->(Bg P acc row)[i]? = acc[i]?
 | [],acc,i,_=>by rw[Ik]
 | a::row,[],i+1,h=>by
  have:=Hc P row [] i (by simpa using h);simpa [Bg]using this
 | a::row,c::acc,i+1,h=>by
  have:=Hc P row acc i (by simpa using h);simpa [Bg]using this
theorem Lj (P:Nat):∀(row acc:List Nat) (i a:Nat),acc.length<=i->row[i]? = some a->Bg P acc (row.take (i+1))=Bg P acc (row.take i)++[1*a%P]
 | [],_,_,_,_,h=>by simp at h
 | b::row,[],0,a,_,h=>by
  simp at h;subst h;simp[Bg]
 | b::row,[],i+1,a,_,h=>by
  have:=Lj P row [] i a (by simp) (by simpa using h);simpa [Bg]using this
 | b::row,c::acc,0,a,hl,h=>by simp at hl
 | b::row,c::acc,i+1,a,hl,h=>by
  have:=Lj P row acc i a (by simpa using hl) (by simpa using h);simpa [Bg]using this
theorem Qk (P:Nat):∀(row acc:List Nat) (i a c:Nat),acc[i]? = some c->row[i]? = some a->Bg P acc (row.take (i+1))=(Bg P acc (row.take i)).set i (c*a%P)
 | [],_,_,_,_,_,h=>by simp at h
 | b::row,[],i,a,c,hl,h=>by simp at hl
 | b::row,d::acc,0,a,c,hl,h=>by
  simp at h hl;subst h hl;simp[Bg,Ik]
 | b::row,d::acc,i+1,a,c,hl,h=>by
  have:=Qk P row acc i a c (by simpa using hl) (by simpa using h);simpa [Bg]using this
def By (P:Nat):List (List Nat)->List Nat->List Nat
 | [],acc=>acc
 | row::l,acc=>By P l (Bg P acc row)
theorem Mh (P:Nat):∀(l:List (List Nat)) (acc row:List Nat),By P (l++[row]) acc=Bg P (By P l acc) row
 | [],_,_=>rfl
 | _::l,_,_=>Mh P l _ _
theorem Ji {w:World}{v:Value}{e N:Nat}(h:Fit e N v w)(he:e<=900000) :
  Calls Tryz.prog 239 #[v] w fun en w'=>en=.returned (.bool (decide (1024<Aj N)))/\Below w.heap.size w w':=by
 obtain⟨p,n,c,rfl,h1,h2⟩:=h;have hn:n<1000000:=by have:=h1.len_le h2;omega
 have hbx:=Cu.mk1 w (.slice p n c) 36;have H1:=Ac (h1.below hbx.bel);have HBX:=Ac hbx.bel;clear h1 h2 hbx;go_enter Tryz.func239,Tryz.ntmps239
 go_wp2_with fail
 refine(Eg _ p n c N H1.out hn).mono ?_;rintro en w1 ⟨rfl,hb1⟩;have HB1:=Ac (Ae HBX.out hb1);clear hb1;obtain⟨L,hL⟩:∃L,Aj N=L:=⟨_,rfl⟩
 rw[hL];have HL:=Ac hL;clear hL
 by_cases hl:1024<L
 .have HD:Ab (decide (1024<L)=true):=⟨decide_eq_true hl⟩
  have hl':(1024:Int)<L:=by omega
  clear hl;go_wp2;go_ret;exact⟨by rw[HL.out,HD.out];rfl,HB1.out⟩
 .have HD:Ab (decide (1024<L)=false):=⟨decide_eq_false hl⟩
  have hl':¬(1024:Int)<L:=by omega
  clear hl;go_wp2;go_ret;exact⟨by rw[HL.out,HD.out,<-(decide_eq_false (by have:=of_decide_eq_false HD.out;omega):decide ((1024:Int)<(L:Nat))=false)];rfl,HB1.out⟩
theorem cJ (w:World)(e:Nat)(Ns:List Nat)(he:e<=900000):Asks 239 #[] w e Ns (fun p=>decide (1024<Aj p)):=by
 refine⟨fun W M u _ _ hu=>?_⟩;rw[Array.append_empty];exact Ji hu he
structure aV (e:Nat) (s:Bk) (v:Value) (w:World):Prop where
 ex:∃q0 m0 d0 q1 m1 d1 q2 m2 d2,v=.agg #[.slice q0 m0 d0,.slice q1 m1 d1,.slice q2 m2 d2]/\Ah w q0 m0 d0 s.n/\s.n<Am e/\Ah w q1 m1 d1 s.base/\s.base<Am e/\Bd w e q2 m2 d2 s.ps
open Classical in
theorem Zg {w:World}{v:Value}{e:Nat}{s:Bk}(h:aV e s v w)(he:e<=900000) :
  Calls Tryz.prog 221 #[v] w fun en w'=>en=.returned (.bool (decide (Dt s)))/\Below w.heap.size w w':=by
 obtain⟨q0,m0,d0,q1,m1,d1,q2,m2,d2,rfl,h0,l0,h1,l1,h2⟩:=h.ex;have hbx:Below w.heap.size w (w.alloc (.cells #[.slice q0 m0 d0,.slice q1 m1 d1,.slice q2 m2 d2] 182)):=Co;have HBX3:=Ac (Oa.made 182 w (.slice q0 m0 d0) (.slice q1 m1 d1) (.slice q2 m2 d2));obtain⟨wa,hwa⟩:∃wa,w.alloc (.cells #[.slice q0 m0 d0,.slice q1 m1 d1,.slice q2 m2 d2] 182)=wa:=⟨_,rfl⟩
 rw[hwa]at hbx HBX3
 have HNF:=Ac ((Fit.of h0 l0).below hbx);have HBF:=Ac ((Fit.of h1 l1).below hbx);have HP:=Ac (h2.below hbx);have HX:=Ac hbx;obtain⟨ANS,hANS⟩:∃X,decide (Dt s)=X:=⟨_,rfl⟩
 have HANS:=Ac hANS;rw[hANS];have hca:=HBX3.out.cells.1;clear hANS h h0 l0 h1 l1 h2 hbx;obtain⟨S0,hS0⟩:∃X,decide (1024<Aj s.n)=X:=⟨_,rfl⟩
 have HS0:=Ac hS0;clear hS0;go_enter Tryz.func221,Tryz.ntmps221
 go_wp2_with fail
 refine(Ji HNF.out he).mono ?_;rintro en w1 ⟨rfl,hb1⟩;rw[HS0.out];have HX1:=Ac (HBX3.out.below hb1 HBX3.out.lt);have HB1:=Ac hb1;clear hb1 hca
 cases S0 with
 | true=>
  have HF:Ab (ANS=true):=⟨by rw[<-HANS.out];exact decide_eq_true (.inl (of_decide_eq_true HS0.out))⟩
  have HE:=Ac (Ae HX.out HB1.out);go_wp2;go_ret;exact⟨by rw[HF.out];rfl,HE.out⟩
 | false=>
  obtain⟨S1,hS1⟩:∃X,decide (1024<Aj s.base)=X:=⟨_,rfl⟩
  have HS1:=Ac hS1;have hca:=HX1.out.cells.2.1;clear hS1
  go_wp2_with fail
  refine(Ji (HBF.out.below HB1.out) he).mono ?_;rintro en w2 ⟨rfl,hb2⟩;rw[HS1.out];have HX2:=Ac (HX1.out.below hb2 HX1.out.lt);have HB2:=Ac (Ae HB1.out hb2);clear hb2 hca
  cases S1 with
  | true=>
   have HF:Ab (ANS=true):=⟨by rw[<-HANS.out];exact decide_eq_true (.inr (.inl (of_decide_eq_true HS1.out)))⟩
   have HE:=Ac (Ae HX.out HB2.out);go_wp2;go_ret;exact⟨by rw[HF.out];rfl,HE.out⟩
  | false=>
   obtain⟨S2,hS2⟩:∃X,s.ps.any (fun p=>decide (1024<Aj p))=X:=⟨_,rfl⟩
   have HS2:=Ac hS2;have HF:Ab (ANS=S2):=⟨by
    rw[<-HANS.out,<-hS2];have n0:=of_decide_eq_false HS0.out;have n1:=of_decide_eq_false HS1.out
    by_cases hx:∃p∈s.ps,1024<Aj p
    .obtain⟨p,hp,hl⟩:=hx;rw[decide_eq_true (show Dt s from .inr (.inr ⟨p,hp,hl⟩))];exact(List.any_eq_true.2 ⟨p,hp,decide_eq_true hl⟩).symm
    .have:¬Dt s:=fun ht=>by
      rcases ht with ht|ht|ht
      .exact n0 ht
      .exact n1 ht
      .exact hx ht
     rw[decide_eq_false this];refine Eq.symm ?_;rw[List.any_eq_false];exact fun p hp hc=>hx ⟨p,hp,of_decide_eq_true hc⟩⟩
   have hca:=HX2.out.cells.2.2;clear hS2
   go_wp2_with fail
   refine(Li _ e q2 m2 d2 s.ps _ _ (enters_of Tryz.func239 (by kernel_rfl) rfl) (fun p=>decide (1024<Aj p)) (HP.out.below HB2.out) (cJ _ e s.ps he)).mono ?_;rintro en w3 ⟨rfl,hb3⟩;rw[HS2.out];have HE:=Ac (Ae HX.out (Ae HB2.out hb3));clear hb3 hca;go_wp2;go_ret;exact⟨by rw[HF.out];rfl,HE.out⟩
structure aY (g:Nat) (lb:Array Value) (w:World) (e:Nat) (l:List Bk) (p:Bk->Bool):Prop where
 out:∀(W:World) (s:Bk) (v:Value),Below w.heap.size w W->s∈l->aV e s v W->Calls Tryz.prog g (#[v]++lb) W fun en w'=>en=.returned (.bool (p s))/\Below W.heap.size W w'
theorem gS {l:List Bk}{p:Bk->Bool}{k:Nat}{X:Bk}(h:l[k]? = some X)(hp:p X=true):l.any p=true :=
 List.any_eq_true.2 ⟨X,List.mem_of_getElem? h,hp⟩
theorem dS {l:List Bk}{p:Bk->Bool}(h:∀(i:Nat) (X:Bk),l[i]? = some X->p X=false):l.any p=false:=by
 rw[List.any_eq_false];intro x hx;obtain⟨i,hi⟩:=List.getElem?_of_mem hx;rw[h i x hi];exact Bool.false_ne_true
theorem Vu (w:World)(e:Nat)(p0:Option Addr)(n c:Nat)(l:List Bk)(g:Nat)(lb:Array Value)(eg:∀args w,(callFunc g args).run Tryz.prog w=.ok (.enter g args) w)(p:Bk->Bool)(h:Dx w e p0 n c l)(hp:aY g lb w e l p) :
  Calls Tryz.prog 220 #[.slice p0 n c,.func (.func g) #[] lb] w fun en w'=>∃K:Int,en=.returned (.int .i64 K)/\decide (0<=K)=l.any p/\Below w.heap.size w w':=by
 have HH:=Ac h;have hn:=h.len;have hmax:n<=9223372036854775807:=Fo h.cap h.max;have HLN:=Ac hn;clear h hn;go_enter Tryz.func220,Tryz.ntmps220;go_wp2
 go_loopw [5,8] (fun _ iv wr=>∃k:Nat,k<=n/\iv=.int .i64 k/\Ab (∀i X,i<k->l[i]? = some X->p X=false)/\Ab (Below w.heap.size w wr)) (fun _ iv _=>n-(intOf iv).toNat)
 case atStart=>exact⟨0,by omega,rfl,⟨fun i X h=>by omega⟩,⟨Be _ _⟩⟩
 case round=>
  obtain⟨k,hk,rfl,HJ,HB⟩:=hrel
  by_cases hkn:k<n
  .obtain⟨X,hXk⟩:∃X,l[k]? = some X:=⟨l[k]'(by rw[<-HLN.out];exact hkn),List.getElem?_eq_getElem _⟩
   obtain⟨b,off,rfl,hb,hc⟩:=(HH.out.below HB.out).at_ (by omega)
   obtain⟨q0,m0,d0,q1,m1,d1,q2,m2,d2,x0,x1,x2,x3⟩:=hc k X hXk;have HC:=Ac (hp.out wr X _ HB.out (List.mem_of_getElem? hXk) ⟨q0,m0,d0,q1,m1,d1,q2,m2,d2,rfl,x3⟩);have HX:=Ac hXk;have hkn':(k:Int)<n:=by omega
   clear hc x3 hXk hp;obtain⟨P,hP⟩:∃P,p X=P:=⟨_,rfl⟩
   rw[hP]at HC
   have HP:=Ac hP;clear hP
   cases P with
   | true=>
    go_wp2_with (go_at_fn g;refine HC.out.mono ?_;rintro en w1 ⟨rfl,hb1⟩)
    go_ret;exact⟨_,rfl,by rw[gS HX.out HP.out];exact decide_eq_true (by omega),Ae HB.out hb1⟩
   | false=>
    have HJ':Ab (∀i Y,i<k+1->l[i]? = some Y->p Y=false):=⟨fun i Y hi hY=>by
     rcases(by omega:i<k ∨ i=k) with h|rfl
     .exact HJ.out i Y h hY
     .have:=HX.out;rw[hY]at this
      cases this;exact HP.out⟩
    go_wp2_with (go_at_fn g;refine HC.out.mono ?_;rintro en w1 ⟨rfl,hb1⟩)
    go_roundw
    case rel=>exact⟨k+1,by omega,by go_num,HJ',⟨Ae HB.out hb1⟩⟩
    case measure=>simp[intOf];omega
  .obtain rfl:k=n:=by omega
   have hkn':¬(k:Int)<k:=by omega
   go_wp2;go_ret;refine⟨_,rfl,?_,HB.out⟩;rw[dS fun i X hX=>HJ.out i X (by rw[HLN.out];exact(List.getElem?_eq_some_iff.1 hX).1) hX];rfl
theorem Pz (w:World)(e:Nat)(p0:Option Addr)(n c:Nat)(l:List Bk)(g:Nat)(lb:Array Value)(eg:∀args w,(callFunc g args).run Tryz.prog w=.ok (.enter g args) w)(p:Bk->Bool)(h:Dx w e p0 n c l)(hp:aY g lb w e l p) :
  Calls Tryz.prog 192 #[.slice p0 n c,.func (.func g) #[] lb] w fun en w'=>en=.returned (.bool (l.any p))/\Below w.heap.size w w':=by
 go_enter Tryz.func192,Tryz.ntmps192
 go_wp2_with fail
 refine(Vu w e p0 n c l g lb eg p h hp).mono ?_;rintro en w1 ⟨K,rfl,hK,hb⟩;have HB:=Ac hb;have HK:=Ac hK;clear hK hb;go_wp2;go_ret;exact⟨by rw[<-HK.out];rfl,HB.out⟩
theorem Bd.tight {w:World}{e f:Nat}{p:Option Addr}{n c:Nat}{Ns:List Nat}(h:Bd w e p n c Ns)(hl:∀N∈Ns,N<Am f):Bd w f p n c Ns:=by
 refine⟨h.len,h.cap,h.max,h.nil,fun h0=>?_⟩;obtain⟨b,off,h1,h2,h3⟩:=h.at_ h0
 exact⟨b,off,h1,h2,fun i N hN=>let ⟨q,m,d,k1,k2,_⟩:=h3 i N hN;⟨q,m,d,k1,k2,hl N (List.mem_of_getElem? hN)⟩⟩
theorem Bd.wide {w:World}{e f:Nat}{p:Option Addr}{n c:Nat}{Ns:List Nat}(h:Bd w e p n c Ns)(hf:e<=f):Bd w f p n c Ns:=by
 refine⟨h.len,h.cap,h.max,h.nil,fun h0=>?_⟩;obtain⟨b,off,h1,h2,h3⟩:=h.at_ h0
 exact⟨b,off,h1,h2,fun i N hN=>let ⟨q,m,d,k1,k2,k3⟩:=h3 i N hN;⟨q,m,d,k1,k2,Dj k3 (Cf hf)⟩⟩
theorem Dx.wide {w:World}{e f:Nat}{p:Option Addr}{n c:Nat}{l:List Bk}(h:Dx w e p n c l)(hf:e<=f):Dx w f p n c l:=by
 refine⟨h.len,h.cap,h.max,h.nil,fun h0=>?_⟩;obtain⟨b,off,h1,h2,h3⟩:=h.at_ h0
 refine⟨b,off,h1,h2,fun i s hs=>?_⟩;obtain⟨q0,m0,d0,q1,m1,d1,q2,m2,d2,k0,k1,k2,k3,k4,k5,k6,k7⟩:=h3 i s hs;exact⟨q0,m0,d0,q1,m1,d1,q2,m2,d2,k0,k1,k2,k3,Dj k4 (Cf hf),k5,Dj k6 (Cf hf),k7.wide hf⟩
theorem Zh (w:World)(e:Nat)(l:List Bk)(he:e<=900000):aY 221 #[] w e l (fun s=>@decide (Dt s) (Classical.propDecidable _)):=by
 refine⟨fun W M u _ _ hu=>?_⟩;rw[Array.append_empty];exact Zg hu he
theorem cH (n:Nat)(h:n<=1000000)(w:World):(Instr.makeSlice 32 (.int .i64 0) (.int .i64 (n:Nat))).run Tryz.prog w =
  .ok (.slice (some ⟨w.heap.size,0,none⟩) 0 n) (w.alloc (.cells (madeCells #[.slice none 0 0] n) 36)):=by
 obtain⟨i,hi,hz,hs,hb⟩:=info_parts Tryz.info_Nat;have:=run_make (P:=Tryz.prog) w 32 36 i (.agg #[.slice none 0 0]) Tryz.underlying32 hi hz .i64 .i64 0 n (by omega) (by omega) (by rw[hb];omega) (by omega);simp only[Int.toNat_natCast,hs,Nat.mul_one]at this;rw[this];rfl
theorem Dy.made (w:World)(B n:Nat)(hn:n<=1000000)(hB:B<=w.heap.size)(bad:Nat->Prop):Dy Ah 36 B bad (w.alloc (.cells (madeCells #[.slice Option.none 0 0] n) 36)) (.slice (some ⟨w.heap.size,0,Option.none⟩) 0 n) [] :=
 ⟨[],World.ownsRow_made w _ n hB (by simp only[maxLen];omega) (by rw[size_madeCells,Nat.mul_one]),rfl,fun i N h=>by simp at h⟩
theorem Qz {l:List Bk}{k:Nat}{s:Bk}(h:l[k]? = some s):Bw [] (l.take (k+1)) ↔ Bw [] (l.take k)/\Fw s.n s.base s.ps ((l.take k).map (·.n)):=by
 rw[Cp h,Ra,List.nil_append]
theorem dE {l:List Bk}(k:Nat)(h:Bw [] l):Bw [] (l.take k):=by
 rw[<-List.take_append_drop k l]at h
 exact((Mp _ _ _).1 h).1
open Classical in
theorem jI (f:Nat)(hf:f<=100):∀(w:World) (p:Option Addr) (n c:Nat) (l:List Bk),Dx w 200 p n c l->n<=60->(∀s∈l,s.ps.length<=1000)->(∀s∈l,¬Dt s->s.n<Am f/\s.base<Am f/\∀q∈s.ps,q<Am f) ->
  Calls Tryz.prog 193 #[.slice p n c] w fun en w'=>en=.returned (.int .i64 (if ∃s∈l,Dt s then 4 else if Bw [] l then 0 else 8))/\Below w.heap.size w w':=by
 intro w p n c l h hn hps hlim;have HH:=Ac h;have HLN:=Ac h.len;have HPS:=Ac hps;have HLIM:=Ac hlim;obtain⟨ANS,hANS⟩:∃X:Int,(if ∃s∈l,Dt s then 4 else if Bw [] l then 0 else 8)=X:=⟨_,rfl⟩
 have HANS:=Ac hANS;rw[hANS];clear h hps hlim hANS;have hn64:¬(64:Int)<n:=by omega
 obtain⟨S0,hS0⟩:∃X,l.any (fun s=>decide (Dt s))=X:=⟨_,rfl⟩
 have HS0:=Ac hS0;clear hS0;go_enter Tryz.func193,Tryz.ntmps193
 go_wp2_with fail
 refine(Pz w 200 p n c l _ _ (enters_of Tryz.func221 (by kernel_rfl) rfl) (fun s=>decide (Dt s)) HH.out (Zh _ 200 l (by decide))).mono ?_;rintro en w1 ⟨rfl,hb1⟩;rw[HS0.out];have HB1:=Ac hb1;clear hb1
 cases S0 with
 | true=>
  have HF:Ab (ANS=4):=⟨by
   rw[<-HANS.out];obtain⟨s,hs,ht⟩:=List.any_eq_true.1 HS0.out;exact if_pos ⟨s,hs,of_decide_eq_true ht⟩⟩
  go_wp2;go_ret;exact⟨by rw[HF.out];rfl,HB1.out⟩
 | false=>
  have hnl:∀s∈l,¬Dt s:=fun s hs ht=>by
   have:=List.any_eq_false.1 HS0.out s hs;exact this (decide_eq_true ht)
  have HNL:=Ac hnl;have HANS2:Ab ((if Bw [] l then 0 else 8:Int)=ANS):=⟨by
   rw[<-HANS.out];exact(if_neg (fun h=>by obtain⟨s,hs,ht⟩:=h;exact hnl s hs ht)).symm⟩
  have HLT:Ab (∀s∈l,s.n<Am f/\s.base<Am f/\∀q∈s.ps,q<Am f):=⟨fun s hs=>HLIM.out s hs (hnl s hs)⟩
  clear hnl;have hmk:=fun wx=>cH n (by omega) wx
  have HOV:=Ac (Dy.made w1 w.heap.size n (by omega) HB1.out.size (fun g=>w.heap.size<=g));have hbm:Below w1.heap.size w1 (w1.alloc (.cells (madeCells #[.slice none 0 0] n) 36)):=Co;have HBM:=Ac (Ae HB1.out hbm);clear hbm;go_wp2
  go_loopw [3,5,18] (fun vv _ iv wr=>∃k:Nat,k<=n/\iv=.int .i64 k/\Ab (Below w.heap.size w wr)/\Ab (Dy Ah 36 w.heap.size (fun g=>w.heap.size<=g) wr vv ((l.take k).map (·.n)))/\Ab (Bw [] (l.take k))) (fun _ _ iv _=>n-(intOf iv).toNat)
  case atStart=>exact⟨0,by omega,rfl,HBM,HOV,⟨trivial⟩⟩
  case round=>
   obtain⟨k,hk,rfl,HB,HO,HC⟩:=hrel
   by_cases hkn:k<n
   .obtain⟨S,hSk⟩:∃s,l[k]? = some s:=⟨l[k]'(by rw[<-HLN.out];exact hkn),List.getElem?_eq_getElem _⟩
    have HSk:=Ac hSk;have HM:=Ac (List.mem_of_getElem? hSk);obtain⟨b,off,rfl,hb,hc⟩:=HH.out.at_ (by omega)
    obtain⟨q0,m0,d0,q1,m1,d1,q2,m2,d2,y0,y1,y2,y3,y4,y5,y6,y7⟩:=hc k S hSk;have HNA:=Ac y3;have HNB:=Ac y5;have HNP:=Ac (y7.tight (HLT.out S HM.out).2.2);have hcl:∀o,wr.cell? ⟨b,o,none⟩=w.cell? ⟨b,o,none⟩:=fun o=>HB.out.cell (p:=⟨b,o,none⟩) hb
    have x0:wr.cell? ⟨b,off+k*3,none⟩=some (.slice q0 m0 d0):=by rw[hcl];exact y0
    have x1:wr.cell? ⟨b,off+k*3+1,none⟩=some (.slice q1 m1 d1):=by rw[hcl];exact y1
    have x2:wr.cell? ⟨b,off+k*3+2,none⟩=some (.slice q2 m2 d2):=by rw[hcl];exact y2
    have hkn':(k:Int)<n:=by omega
    have hbx:Below wr.heap.size wr (wr.alloc (.cells #[.slice q0 m0 d0,.slice q1 m1 d1,.slice q2 m2 d2] 182)):=Co;have HBX3:=Ac (Oa.made 182 wr (.slice q0 m0 d0) (.slice q1 m1 d1) (.slice q2 m2 d2));obtain⟨wa,hwa⟩:∃wa,wr.alloc (.cells #[.slice q0 m0 d0,.slice q1 m1 d1,.slice q2 m2 d2] 182)=wa:=⟨_,rfl⟩
    rw[hwa]at hbx HBX3
    have HBa:=Ac (Ae HB.out hbx);have HOa:=Ac (HO.out.below hbx);have hmem:∀N∈(l.take k).map (·.n),N<Am f:=fun N hN=>by
     obtain⟨s,hs,rfl⟩:=List.mem_map.1 hN;exact(HLT.out s (List.mem_of_mem_take hs)).1
    have HL60:Ab (((l.take k).map (·.n)).length<=1000):=⟨by rw[List.length_map,List.length_take];omega⟩
    obtain⟨Ks,hKs⟩:∃Ks,(l.take k).map (·.n)=Ks:=⟨_,rfl⟩
    have HKs:=Ac hKs;rw[hKs]at hmem HL60 HOa HO
    clear hKs;obtain⟨nk,hnk⟩:∃nk,Ks.length=nk:=⟨_,rfl⟩
    obtain⟨p1,c1,rfl,hp1⟩:=HOa.out.plist hmem;have HNk:=Ac hnk;rw[hnk]at hp1 HL60 HOa HO
    rw[hnk];clear hnk;have HP1:=Ac hp1;have z0:=HBX3.out.cells.1;have z1:=HBX3.out.cells.2.1;have z2:=HBX3.out.cells.2.2;clear hc hcl y0 y1 y2 y3 y4 y5 y6 y7 hbx hmem hp1 hSk;obtain⟨D,hD⟩:∃X,decide (Fw S.n S.base S.ps Ks)=X:=⟨_,rfl⟩
    have HD:=Ac hD;clear hD
    go_wp2_with fail
    refine(jB f hf wa S.n S.base q0 m0 d0 q1 m1 d1 q2 m2 d2 S.ps _ _ _ _ (HNA.out.below HBa.out) (HLT.out S HM.out).1 (HNB.out.below HBa.out) (HLT.out S HM.out).2.1 (HNP.out.below HBa.out) HP1.out (by rw[HNP.out.len];exact HPS.out S HM.out) HL60.out).mono ?_;rintro en w3 ⟨rfl,hb3⟩;rw[HD.out];have HB3:=Ac (Ae HBa.out hb3);have HO3:=Ac (HOa.out.below hb3);have HX3:=Ac (HBX3.out.below hb3 HBX3.out.lt);clear hb3 x0 x1 x2 z0 z1 z2
    cases D with
    | false=>
     have HF:Ab (ANS=8):=⟨by
      rw[<-HANS2.out,if_neg];intro hh;exact of_decide_eq_false HD.out (by rw[<-HKs.out];exact((Qz HSk.out).1 (dE (k+1) hh)).2)⟩
     go_wp2;go_ret;exact⟨by rw[HF.out];rfl,HB3.out⟩
    | true=>
     have HC':Ab (Bw [] (l.take (k+1))):=⟨(Qz HSk.out).2 ⟨HC.out,by rw[HKs.out];exact of_decide_eq_true HD.out⟩⟩
     have HTk:Ab ((l.take (k+1)).map (·.n)=Ks++[S.n]):=⟨by rw[Cp HSk.out,List.map_append,HKs.out];rfl⟩
     have hb4:Below w3.heap.size w3 (w3.alloc (.cells #[.slice q0 m0 d0] 36)):=Co;have hx4:(w3.alloc (.cells #[.slice q0 m0 d0] 36)).cell? ⟨w3.heap.size,0,none⟩=some (.slice q0 m0 d0):=(Af.made w3 (.slice q0 m0 d0)).cell;obtain⟨w4,hw4⟩:∃w4,w3.alloc (.cells #[.slice q0 m0 d0] 36)=w4:=⟨_,rfl⟩
     rw[hw4]at hb4 hx4
     have hB4:=Ae HB3.out hb4;have hfirm:Ic (fun w=>Ah w q0 m0 d0 S.n) (fun g=>w.heap.size<=g) w4:=Fe.firm (HNA.out.below hB4) fun q hq hle=>by
      have:=Fe.lt HNA.out q hq;omega
     obtain⟨i1,hi1,hz1,hs1,hbb1⟩:=info_parts Tryz.info_Nat;obtain⟨v9,w9,happ,ho9,hg9,_⟩:=(HO3.out.below hb4).app Tryz.underlying32 hi1 hz1 hs1 hbb1 rfl (by decide) hB4.size (a:=⟨w3.heap.size,0,none⟩) (c:=1) (x:=(q0,m0,d0)) hx4 hfirm (fun g hg=>(HO3.out.block g hg).1) (by rw[HNk.out];exact Fo HL60.out (by decide)) 32;have HO9:=Ac ho9;have HB9:Ab (Below w.heap.size w w9):=⟨hB4.grown hg9 hB4.size fun g hg=>(HO3.out.block g hg).1⟩
     have z0:=HX3.out.cells.1;clear hb4 hx4 hB4 hfirm hi1 hz1 hs1 hbb1 ho9 hg9
     go_wp2_with (at_builtin;refine Lib.wpList_append_run _ rfl _ _ _ _ rfl _ _ rfl rfl _ _ happ ?_;refine Lw.out ?_)
     refine⟨?_⟩;clear happ z0;go_wp2;go_roundw
     case rel=>exact⟨k+1,by omega,by go_num,HB9,⟨by rw[HTk.out];exact HO9.out⟩,HC'⟩
     case measure=>simp[intOf];omega
   .obtain rfl:k=n:=by omega
    have hkn':¬(k:Int)<k:=by omega
    have htk:l.take k=l:=List.take_of_length_le (by rw[<-HLN.out];exact Av _);rw[htk]at HC
    have HF:Ab (ANS=0):=⟨by rw[<-HANS2.out,if_pos HC.out]⟩
    clear htk;go_wp2;go_ret;exact⟨by rw[HF.out];rfl,HB.out⟩
end Go.Proofs.YtnbmfaihlefgfaaGreatDoor
