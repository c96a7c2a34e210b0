/- Whether a step has too long a number, of the program; a function that is handed to the library, over steps. -/
import Derived.Test.YtnbmfaihlefgfaaGreatDoorCpH
import Derived.Laws.OwnMore
import Derived.ArgAppend
import Derived.Laws.CopyOwn
set_option maxRecDepth 1000000
set_option maxHeartbeats 16000000
set_option linter.all false
namespace Go.Proofs.YtnbmfaihlefgfaaGreatDoor
open Go Go.RowKit Go.Proofs.YtnbmfaihlefgfaaGreatDoor.Flow
def mW (w:World)(v v':Value):Prop:=v'.ownBlock=v.ownBlock ∨ ∀g,v'.ownBlock=some g->w.heap.size<=g
theorem jN {w:World}{B n size bytes:Nat}{st e:TypeId}{i:TypeInfo}{z:Value}(hu:Tryz.prog.underlying st=some (.slice e))(hi:Tryz.prog.info? e=some i)(hz:i.zero=some z)(hs:i.size=size)(hb:i.bytes=bytes)(hzs:z.cells.size=size)(h0:0<size){v:Value}{us:List Value}(h:w.ownsRow B e size v n us){a:Addr}{m c:Nat}{news:List Value}(hl:news.length=m*size)(hcell:∀j u,news[j]? = some u->w.cell? (a.add j)=some u)(hone:∀u∈news,u.oneCell'=true)(hmax:n+m<=maxLen)(hbytes:(n+m)*bytes<=140737488355328)(hB:B<=w.heap.size)(ty:TypeId) :
  ∃v' w',(Builtin.append_ #[st,st] ty #[v,.slice (some a) m c]).run Tryz.prog w=.ok v' w'/\w'.ownsRow B e size v' (n+m) (us++news)/\w.grownBy w' v.ownBlock/\mW w v v':=by
 obtain⟨v',w',h1,h2,h3,_⟩:=run_append_own (P:=Tryz.prog) w B st ty e i z size bytes hu hi hz hs hb hzs h0 v n us h a m c news hl hcell hone hmax hbytes hB;refine⟨v',w',h1,h2,h3,?_⟩;rcases h.2 with ⟨rfl,hn0⟩|⟨g,cap,cur,rfl,hbg,hg,hnc,hcm,hcs,ht⟩
 .obtain⟨v2,w2,k1,k2,_,_⟩:=run_append_own (P:=Tryz.prog) w w.heap.size st ty e i z size bytes hu hi hz hs hb hzs h0 (.slice none 0 0) 0 [] (World.ownsRow_nil w _ _ _) a m c news hl hcell hone (by omega) (Dm (Nat.mul_le_mul_right _ (by omega)) hbytes) (Av _);rw[h1]at k1
  injection k1 with k3 k4
  subst k3;refine .inr fun g hg=>?_
  rcases k2.2 with ⟨e',_⟩|⟨g',cap,cur,e',hb',_⟩
  .rw[e']at hg;cases hg
  .rw[e']at hg
   obtain rfl:g'=g:=by simpa [Value.ownBlock]using hg
   exact hb'
 .by_cases hroom:n+m<=cap
  .have hfit:n*i.size+news.length<=cur.size:=by rw[hs,hcs,hl,<-Nat.add_mul];exact Nat.mul_le_mul_right _ hroom
   have k1:=run_append_room (P:=Tryz.prog) w st ty e i hu hi g n cap cur hg a m c news (by rw[hs];exact hl) hcell hone hroom hfit;rw[h1]at k1
   injection k1 with k2 _
   exact .inl (by rw[k2];rfl)
  .obtain⟨v2,w2,k1,k2,_⟩:=run_append_arg_grows (P:=Tryz.prog) w st ty e i z size bytes hu hi hz hs hb hzs h0 ⟨g,0,none⟩ n cap us h.1
    (fun j u hj=>World.ownsRow.cells h rfl j u hj) a m c news hl hcell (by omega) hmax hbytes
   rw[h1]at k1
   injection k1 with k3 k4
   subst k3;refine .inr fun g hg=>?_
   rcases k2.2 with ⟨e',_⟩|⟨g',cap,cur,e',hb',_⟩
   .rw[e']at hg;cases hg
   .rw[e']at hg
    obtain rfl:g'=g:=by simpa [Value.ownBlock]using hg
    exact hb'
structure Agree (bad:Nat->Prop) (w w':World):Prop where
 size:w.heap.size<=w'.heap.size
 block:∀b,b<w.heap.size->¬bad b->w'.heap[b]? = w.heap[b]?
theorem Agree.trans {bad:Nat->Prop}{a b c:World}(h:Agree bad a b)(k:Agree bad b c):Agree bad a c :=
 ⟨Dm h.size k.size,fun x hx hn=>by rw[k.block x (Eh hx h.size) hn,h.block x hx hn]⟩
theorem Agree.of {bad:Nat->Prop}{w w':World}(h:Below w.heap.size w w'):Agree bad w w':=⟨h.size,fun b hb _=>h.block b hb⟩
theorem Agree.grown {bad:Nat->Prop}{w w':World}{row:Option Nat}(h:w.grownBy w' row)(hr:∀g,row=some g->bad g):Agree bad w w' :=
 ⟨h.size,fun b hb hn=>h.block b hb fun e=>hn (hr b e.symm)⟩
theorem Agree.set {bad:Nat->Prop}(w:World)(g o:Nat)(u:Value)(hg:bad g):Agree bad w (w.setCell ⟨g,o,none⟩ u) :=
 ⟨by simp,fun b _ hn=>Below.heap_setCell _ _ _ _ fun e=>hn (by rw[show b=g from e];exact hg)⟩
def Jo (F:World->Prop)(bad:Nat->Prop)(w:World):Prop:=∀w',Agree bad w w'->F w'
theorem Jo.out {F:World->Prop}{bad:Nat->Prop}{w:World}(h:Jo F bad w):F w:=h w ⟨Av _,fun _ _ _=>rfl⟩
theorem Jo.step {F:World->Prop}{bad:Nat->Prop}{w w':World}(h:Jo F bad w)(a:Agree bad w w'):Jo F bad w':=fun w2 k=>h w2 (a.trans k)
theorem Jo.more {F:World->Prop}{bad bad':Nat->Prop}{w:World}(h:Jo F bad w)(hb:∀b,b<w.heap.size->bad' b->bad b):Jo F bad' w :=
 fun w2 k=>h w2 ⟨k.size,fun b hlt hn=>k.block b hlt fun e=>hn (hb b hlt e)⟩
structure Hj (At:World->Option Addr->Nat->Nat->Nat->Prop):Prop where
 stay:∀ {w w' p n c N},At w p n c N->w.heap.size<=w'.heap.size->(∀q,p=some q->∀o,w'.cell? ⟨q.block,o,none⟩=w.cell? ⟨q.block,o,none⟩)->At w' p n c N
 lt:∀ {w p n c N},At w p n c N->∀q,p=some q->q.block<w.heap.size
theorem Je:Hj Ai:=⟨fun {w w' p n c N} h hz hc=>by
 obtain⟨ws,r1,r2,r3,r4⟩:=h.ex;refine⟨ws,⟨r1.len,r1.cap,r1.max,?_⟩,r2,r3,r4⟩;rcases r1.at_ with k|⟨b,off,k1,k2,k3⟩
 .exact .inl k
 .exact .inr ⟨b,off,k1,Eh k2 hz,fun i x hx=>by rw[hc _ k1];exact k3 i x hx⟩,fun {w p n c N} h q hq=>by
 obtain⟨ws,r1,_⟩:=h.ex;rcases r1.at_ with k|⟨b,off,k1,k2,k3⟩
 .rw[k.1]at hq;cases hq
 .rw[k1]at hq;cases hq;exact k2⟩
theorem dL:Hj Bt:=⟨fun {w w' p n c N} h hz hc=>by
 refine⟨h.len,h.cap,h.max,?_⟩;rcases h.at_ with k|⟨b,off,k1,k2,k3⟩
 .exact .inl k
 .exact .inr ⟨b,off,k1,Eh k2 hz,fun i x hx=>by rw[hc _ k1];exact k3 i x hx⟩,fun {w p n c N} h q hq=>by
 rcases h.at_ with k|⟨b,off,k1,k2,k3⟩
 .rw[k.1]at hq;cases hq
 .rw[k1]at hq;cases hq;exact k2⟩
theorem Hj.firm {At:World->Option Addr->Nat->Nat->Nat->Prop}(S:Hj At){w:World}{p:Option Addr}{n c N:Nat}(h:At w p n c N){bad:Nat->Prop}(hb:∀q,p=some q->¬bad q.block):Jo (fun w=>At w p n c N) bad w :=
 fun _ k=>S.stay h k.size fun q hq o=>World.cell?_of_block (a:=⟨q.block,o,none⟩) (k.block q.block (S.lt h q hq) (hb q hq))
theorem Hj.fresh {At:World->Option Addr->Nat->Nat->Nat->Prop}(S:Hj At){w:World}{p:Option Addr}{n c N B:Nat}(h:At w p n c N)(hn:Ey B p){bad:Nat->Prop}(hb:∀b,bad b->b<B):Jo (fun w=>At w p n c N) bad w :=
 S.firm h fun q hq e=>by have:=hb _ e;have:=hn q hq;omega
structure Fb (At:World->Option Addr->Nat->Nat->Nat->Prop) (e:TypeId) (B:Nat) (bad:Nat->Prop) (w:World) (v:Value) (Ns:List Nat):Prop where
 ex:∃vs:List Value,w.ownsRow B e 1 v Ns.length vs/\vs.length=Ns.length/\∀(i N:Nat),Ns[i]? = some N->∃x:Option Addr×Nat×Nat,vs[i]? = some (.slice x.1 x.2.1 x.2.2)/\Jo (fun w=>At w x.1 x.2.1 x.2.2 N) bad w
section
variable {At:World->Option Addr->Nat->Nat->Nat->Prop} {e:TypeId} {B:Nat} {bad:Nat->Prop} {w:World} {v:Value} {Ns:List Nat}
theorem Fb.nil:Fb At e B bad w (.slice none 0 0) []:=⟨[],World.ownsRow_nil w B e 1,rfl,fun i N h=>by simp at h⟩
theorem Wh {w':World}{n size:Nat}{us:List Value}(h:w.ownsRow B e size v n us)(hk:∀g,v.ownBlock=some g->w'.heap[g]? = w.heap[g]?):w'.ownsRow B e size v n us:=by
 refine⟨h.1,?_⟩;rcases h.2 with h4|⟨g,cap,cur,e',hbg,hg,h5⟩
 .exact .inl h4
 .exact .inr ⟨g,cap,cur,e',hbg,by rw[hk g (by rw[e'];rfl)];exact hg,h5⟩
theorem Ty {n size:Nat}{us:List Value}(h:w.ownsRow B e size v n us):∀g,v.ownBlock=some g->B<=g/\g<w.heap.size:=by
 intro g hg;rcases h.2 with ⟨rfl,_⟩|⟨g',cap,cur,rfl,hbg,hg',_⟩
 .cases hg
 .obtain rfl:g'=g:=by simpa [Value.ownBlock]using hg
  exact⟨hbg,(Hy hg').1⟩
theorem Fb.block (h:Fb At e B bad w v Ns):∀g,v.ownBlock=some g->B<=g/\g<w.heap.size:=by obtain⟨_,h1,_⟩:=h.ex;exact Ty h1
theorem Fb.step {w':World}(h:Fb At e B bad w v Ns)(a:Agree bad w w')(hk:∀g,v.ownBlock=some g->w'.heap[g]? = w.heap[g]?):Fb At e B bad w' v Ns:=by
 obtain⟨vs,h1,h2,h3⟩:=h.ex;refine⟨vs,Wh h1 hk,h2,fun i N hN=>?_⟩;obtain⟨x,k1,k2⟩:=h3 i N hN;exact⟨x,k1,k2.step a⟩
theorem Fb.below {w':World}(h:Fb At e B bad w v Ns)(hb:Below w.heap.size w w'):Fb At e B bad w' v Ns:=h.step (.of hb) fun g hg=>hb.block g (h.block g hg).2
theorem Fb.more {bad':Nat->Prop}(h:Fb At e B bad w v Ns)(hb:∀b,b<w.heap.size->bad' b->bad b):Fb At e B bad' w v Ns:=by
 obtain⟨vs,h1,h2,h3⟩:=h.ex;refine⟨vs,h1,h2,fun i N hN=>?_⟩;obtain⟨x,k1,k2⟩:=h3 i N hN;exact⟨x,k1,k2.more hb⟩
theorem Fb.app {st:TypeId}{bytes:Nat}{i:TypeInfo}(hu:Tryz.prog.underlying st=some (.slice e))(hi:Tryz.prog.info? e=some i){z:Value}(hz:i.zero=some z)(hs:i.size=1)(hb:i.bytes=bytes)(hzs:z.cells.size=1)(hby:bytes<=1000)(h:Fb At e B bad w v Ns)(hB:B<=w.heap.size){a:Addr}{c N:Nat}{x:Option Addr×Nat×Nat}(hc:w.cell? a=some (.slice x.1 x.2.1 x.2.2))(hN:Jo (fun w=>At w x.1 x.2.1 x.2.2 N) bad w)(hv:∀g,v.ownBlock=some g->bad g)(hl:Ns.length<=1000000)(ty:TypeId) :
  ∃v' w',(Builtin.append_ #[st,st] ty #[v,.slice (some a) 1 c]).run Tryz.prog w=.ok v' w'/\Fb At e B bad w' v' (Ns++[N])/\w.grownBy w' v.ownBlock/\mW w v v':=by
 obtain⟨vs,h1,h2,h3⟩:=h.ex;have ha0:a.add 0=a:=by obtain⟨b,o,s⟩:=a;simp[Addr.add]
 obtain⟨v',w',k1,k2,k3,k4⟩:=jN hu hi hz hs hb hzs (by decide) h1 (a:=a) (m:=1) (c:=c) (news:=[.slice x.1 x.2.1 x.2.2]) rfl
  (fun j u hj=>by
   cases j with
   | zero=>simp at hj;subst hj;rw[ha0];exact hc
   | succ j=>simp at hj)
  (fun u hj=>by simp at hj;subst hj;rfl) (by simp only[maxLen];omega) (Dm (Nat.mul_le_mul (Nat.add_le_add_right hl 1) hby) (by decide)) hB ty
 have ag:Agree bad w w':=.grown k3 hv;refine⟨v',w',k1,⟨vs++[.slice x.1 x.2.1 x.2.2],by rw[List.length_append];exact k2,by simp[h2],fun j M hM=>?_⟩,k3,k4⟩;rcases Nat.lt_or_ge j Ns.length with hj|hj
 .rw[List.getElem?_append_left hj]at hM
  obtain⟨y,g1,g2⟩:=h3 j M hM;exact⟨y,by rw[List.getElem?_append_left (by omega)];exact g1,g2.step ag⟩
 .rw[List.getElem?_append_right hj]at hM
  obtain⟨t,ht⟩:∃t,j-Ns.length=t:=⟨_,rfl⟩
  rw[ht]at hM
  cases t with
  | zero=>
   simp at hM;subst hM;exact⟨x,by rw[List.getElem?_append_right (by omega),h2,ht];rfl,hN.step ag⟩
  | succ t=>simp at hM
theorem Fb.elim (h:Fb At e B bad w v Ns):∃p c,v=.slice p Ns.length c/\Ns.length<=c/\c<=9223372036854775807/\(p=none->c=0) /\
  (0<Ns.length->∃b off,p=some ⟨b,off,none⟩/\b<w.heap.size/\∀(i N:Nat),Ns[i]? = some N->∃q m d,w.cell? ⟨b,off+i,none⟩=some (.slice q m d)/\At w q m d N):=by
 obtain⟨vs,h1,h2,h3⟩:=h.ex;rcases h1.2 with ⟨rfl,h0⟩|⟨g,cap,cur,rfl,hb,hg,hnc,hcm,hcs,ht⟩
 .exact⟨none,0,by rw[h0],by omega,by omega,fun _=>rfl,fun h=>by omega⟩
 .have hlt:g<w.heap.size:=(Hy hg).1;refine⟨some ⟨g,0,none⟩,cap,rfl,hnc,by simpa [maxLen]using hcm,(fun h=>by cases h),fun _=>⟨g,0,rfl,hlt,fun i N hN=>?_⟩⟩;obtain⟨x,h4,h5⟩:=h3 i N hN;refine⟨x.1,x.2.1,x.2.2,?_,h5.out⟩;have hi:i<Ns.length:=(List.getElem?_eq_some_iff.1 hN).1;have h6:(cur.toList.take (Ns.length*1))[i]? = some (.slice x.1 x.2.1 x.2.2):=by rw[ht];exact h4
  rw[List.getElem?_take,if_pos (by omega)]at h6
  unfold World.cell?
  dsimp only
  rw[hg];simp only[Nat.zero_add];rw[Array.getElem?_toList]at h6
  exact h6
end
theorem Fb.plist {t:TypeId}{B e:Nat}{bad:Nat->Prop}{w:World}{v:Value}{Ns:List Nat}(h:Fb Ai t B bad w v Ns)(hl:∀N∈Ns,N<Ao e):∃p c,v=.slice p Ns.length c/\Aw w e p Ns.length c Ns:=by
 obtain⟨p,c,h1,h2,h3,h4,h5⟩:=h.elim;refine⟨p,c,h1,rfl,h2,h3,h4,fun h0=>?_⟩;obtain⟨b,off,g1,g2,g3⟩:=h5 h0;exact⟨b,off,g1,g2,fun i N hN=>let ⟨q,m,d,k1,k2⟩:=g3 i N hN;⟨q,m,d,k1,k2,hl N (List.mem_of_getElem? hN)⟩⟩
theorem Fb.nlist {t:TypeId}{B:Nat}{bad:Nat->Prop}{w:World}{v:Value}{Ns:List Nat}(h:Fb Bt t B bad w v Ns):∃p c,v=.slice p Ns.length c/\Jm w p Ns.length c Ns:=by
 obtain⟨p,c,h1,h2,h3,_,h5⟩:=h.elim;exact⟨p,c,h1,rfl,h2,h3,fun h0=>h5 h0⟩
section
variable {At:World->Option Addr->Nat->Nat->Nat->Prop} {e:TypeId} {B:Nat} {bad:Nat->Prop} {w:World} {v:Value} {Ns:List Nat}
theorem Fb.app2 {st:TypeId}{bytes:Nat}{i:TypeInfo}(hu:Tryz.prog.underlying st=some (.slice e))(hi:Tryz.prog.info? e=some i){z:Value}(hz:i.zero=some z)(hs:i.size=1)(hb:i.bytes=bytes)(hzs:z.cells.size=1)(hby:bytes<=1000)(h:Fb At e B bad w v Ns)(hB:B<=w.heap.size){a:Addr}{c N:Nat}{x:Option Addr×Nat×Nat}(hc:w.cell? a=some (.slice x.1 x.2.1 x.2.2))(hN:Jo (fun w=>At w x.1 x.2.1 x.2.2 N) bad w)(hv:∀g,v.ownBlock=some g->bad g)(hlt:∀g,bad g->g<w.heap.size)(hl:Ns.length<=1000000)(ty:TypeId){C:Prop}(k:∀v' w' bad',(Builtin.append_ #[st,st] ty #[v,.slice (some a) 1 c]).run Tryz.prog w=.ok v' w'->Fb At e B bad' w' v' (Ns++[N])->w.grownBy w' v.ownBlock ->
   (∀g,bad g->bad' g)->(∀g,g<w.heap.size->bad' g->bad g)->(∀g,v'.ownBlock=some g->bad' g)->(∀g,bad' g->g<w'.heap.size)->C):C:=by
 obtain⟨v',w',k1,_,k3,k4⟩:=h.app hu hi hz hs hb hzs hby hB hc hN hv hl ty;have hsub:∀g,g<w.heap.size->(bad g ∨ v'.ownBlock=some g)->bad g:=by
  intro g hg hx;rcases hx with hx|hx
  .exact hx
  .rcases k4 with k4|k4
   .exact hv g (by rw[<-k4];exact hx)
   .have:=k4 g hx;omega
 obtain⟨v2,w2,g1,g2,_,_⟩:=(h.more (bad':=fun g=>bad g ∨ v'.ownBlock=some g) hsub).app hu hi hz hs hb hzs hby hB hc (hN.more hsub) (fun g hg=>.inl (hv g hg)) hl ty;rw[k1]at g1
 injection g1 with e1 e2
 subst e1 e2;exact k v' w' _ k1 g2 k3 (fun g hg=>.inl hg) hsub (fun g hg=>.inr hg) (fun g hg=>by
  rcases hg with hg|hg
  .exact Eh (hlt g hg) k3.size
  .exact(g2.block g hg).2)
end
section
variable {At:World->Option Addr->Nat->Nat->Nat->Prop} {t e:TypeId} {B:Nat} {bad bad':Nat->Prop} {b M0 M1:Nat} {Ns:List Nat} {x y:Option Addr×Nat×Nat} {v:Value} {w0 w:World}
end
section
variable {At:World->Option Addr->Nat->Nat->Nat->Prop} {mk:Option Addr->Nat->Nat->Value} {t e:TypeId} {wE w0:World} {bad:Nat->Prop} {b:Nat} {q0 q1 v:Value} {Ns:List Nat} {N:Nat} {d3 d4 d5 d7:Bool} {v3 v4 v5:Value} {w:World}
end
theorem Tryz.info_Nat:(Tryz.prog.info? 36).map (fun i=>(i.zero,i.size,i.bytes))=some (some (.agg #[.slice none 0 0]),1,24):=by kernel_rfl
structure qZ (e:Nat) (s:Ce) (x y z:Option Addr×Nat×Nat) (w:World):Prop where
 n:Ai w x.1 x.2.1 x.2.2 s.n
 base:Ai w y.1 y.2.1 y.2.2 s.base
 ps:Aw w e z.1 z.2.1 z.2.2 s.ps
abbrev trip (x y z:Option Addr×Nat×Nat):Value:=.agg #[.slice x.1 x.2.1 x.2.2,.slice y.1 y.2.1 y.2.2,.slice z.1 z.2.1 z.2.2]
section
variable {F:Ce->Option Addr×Nat×Nat->Option Addr×Nat×Nat->Option Addr×Nat×Nat->World->Prop} {e:TypeId} {B:Nat} {bad:Nat->Prop} {w:World} {v:Value} {l:List Ce}
end
theorem Dx {α:Type}{l:List α}{k:Nat}{N:α}(h:l[k]? = some N):l.take (k+1)=l.take k++[N]:=by
 obtain⟨hi,e⟩:=List.getElem?_eq_some_iff.1 h;rw[List.take_succ_eq_append_getElem hi,e]
theorem Lc {w:World}{v:Value}{e N:Nat}(h:Fit e N v w)(he:e<=900000) :
  Calls Tryz.prog 239 #[v] w fun en w'=>en=.returned (.bool (decide (1024<Ak N)))/\Below w.heap.size w w':=by
 obtain⟨p,n,c,rfl,h1,h2⟩:=h;have hn:n<1000000:=by have:=h1.len_le h2;omega
 have hbx:=Dq.mk1 w (.slice p n c) 36;have H1:=Aa (h1.below hbx.bel);have HBX:=Aa hbx.bel;clear h1 h2 hbx;go_enter Tryz.func239,Tryz.ntmps239
 go_wp2_with fail
 refine(Gh _ p n c N H1.out hn).mono ?_;rintro en w1 ⟨rfl,hb1⟩;have HB1:=Aa (Ae HBX.out hb1);clear hb1;obtain⟨L,hL⟩:∃L,Ak N=L:=⟨_,rfl⟩
 rw[hL];have HL:=Aa hL;clear hL
 by_cases hl:1024<L
 .have HD:Ab (decide (1024<L)=true):=⟨decide_eq_true hl⟩
  have hl':(1024:Int)<L:=by omega
  clear hl;go_wp2;go_ret;exact⟨by rw[HL.out,HD.out];rfl,HB1.out⟩
 .have HD:Ab (decide (1024<L)=false):=⟨decide_eq_false hl⟩
  have hl':¬(1024:Int)<L:=by omega
  clear hl;go_wp2;go_ret;exact⟨by rw[HL.out,HD.out,<-(decide_eq_false (by have:=of_decide_eq_false HD.out;omega):decide ((1024:Int)<(L:Nat))=false)];rfl,HB1.out⟩
theorem gC (w:World)(e:Nat)(Ns:List Nat)(he:e<=900000):Asks 239 #[] w e Ns (fun p=>decide (1024<Ak p)):=by
 refine⟨fun W M u _ _ hu=>?_⟩;rw[Array.append_empty];exact Lc hu he
structure eU (e:Nat) (s:Ce) (v:Value) (w:World):Prop where
 ex:∃q0 m0 d0 q1 m1 d1 q2 m2 d2,v=.agg #[.slice q0 m0 d0,.slice q1 m1 d1,.slice q2 m2 d2]/\Ai w q0 m0 d0 s.n/\s.n<Ao e/\Ai w q1 m1 d1 s.base/\s.base<Ao e/\Aw w e q2 m2 d2 s.ps
open Classical in
theorem cO {w:World}{v:Value}{e:Nat}{s:Ce}(h:eU e s v w)(he:e<=900000) :
  Calls Tryz.prog 221 #[v] w fun en w'=>en=.returned (.bool (decide (Ew s)))/\Below w.heap.size w w':=by
 obtain⟨q0,m0,d0,q1,m1,d1,q2,m2,d2,rfl,h0,l0,h1,l1,h2⟩:=h.ex;have hbx:Below w.heap.size w (w.alloc (.cells #[.slice q0 m0 d0,.slice q1 m1 d1,.slice q2 m2 d2] 182)):=Dl;have HBX3:=Aa (Qf.made 182 w (.slice q0 m0 d0) (.slice q1 m1 d1) (.slice q2 m2 d2));obtain⟨wa,hwa⟩:∃wa,w.alloc (.cells #[.slice q0 m0 d0,.slice q1 m1 d1,.slice q2 m2 d2] 182)=wa:=⟨_,rfl⟩
 rw[hwa]at hbx HBX3
 have HNF:=Aa ((Fit.of h0 l0).below hbx);have HBF:=Aa ((Fit.of h1 l1).below hbx);have HP:=Aa (h2.below hbx);have HX:=Aa hbx;obtain⟨ANS,hANS⟩:∃X,decide (Ew s)=X:=⟨_,rfl⟩
 have HANS:=Aa hANS;rw[hANS];have hca:=HBX3.out.cells.1;clear hANS h h0 l0 h1 l1 h2 hbx;obtain⟨S0,hS0⟩:∃X,decide (1024<Ak s.n)=X:=⟨_,rfl⟩
 have HS0:=Aa hS0;clear hS0;go_enter Tryz.func221,Tryz.ntmps221
 go_wp2_with fail
 refine(Lc HNF.out he).mono ?_;rintro en w1 ⟨rfl,hb1⟩;rw[HS0.out];have HX1:=Aa (HBX3.out.below hb1 HBX3.out.lt);have HB1:=Aa hb1;clear hb1 hca
 cases S0 with
 | true=>
  have HF:Ab (ANS=true):=⟨by rw[<-HANS.out];exact decide_eq_true (.inl (of_decide_eq_true HS0.out))⟩
  have HE:=Aa (Ae HX.out HB1.out);go_wp2;go_ret;exact⟨by rw[HF.out];rfl,HE.out⟩
 | false=>
  obtain⟨S1,hS1⟩:∃X,decide (1024<Ak s.base)=X:=⟨_,rfl⟩
  have HS1:=Aa hS1;have hca:=HX1.out.cells.2.1;clear hS1
  go_wp2_with fail
  refine(Lc (HBF.out.below HB1.out) he).mono ?_;rintro en w2 ⟨rfl,hb2⟩;rw[HS1.out];have HX2:=Aa (HX1.out.below hb2 HX1.out.lt);have HB2:=Aa (Ae HB1.out hb2);clear hb2 hca
  cases S1 with
  | true=>
   have HF:Ab (ANS=true):=⟨by rw[<-HANS.out];exact decide_eq_true (.inr (.inl (of_decide_eq_true HS1.out)))⟩
   have HE:=Aa (Ae HX.out HB2.out);go_wp2;go_ret;exact⟨by rw[HF.out];rfl,HE.out⟩
  | false=>
   obtain⟨S2,hS2⟩:∃X,s.ps.any (fun p=>decide (1024<Ak p))=X:=⟨_,rfl⟩
   have HS2:=Aa hS2;have HF:Ab (ANS=S2):=⟨by
    rw[<-HANS.out,<-hS2];have n0:=of_decide_eq_false HS0.out;have n1:=of_decide_eq_false HS1.out
    by_cases hx:∃p∈s.ps,1024<Ak p
    .obtain⟨p,hp,hl⟩:=hx;rw[decide_eq_true (show Ew s from .inr (.inr ⟨p,hp,hl⟩))];exact(List.any_eq_true.2 ⟨p,hp,decide_eq_true hl⟩).symm
    .have:¬Ew s:=fun ht=>by
      rcases ht with ht|ht|ht
      .exact n0 ht
      .exact n1 ht
      .exact hx ht
     rw[decide_eq_false this];refine Eq.symm ?_;rw[List.any_eq_false];exact fun p hp hc=>hx ⟨p,hp,of_decide_eq_true hc⟩⟩
   have hca:=HX2.out.cells.2.2;clear hS2
   go_wp2_with fail
   refine(Nn _ e q2 m2 d2 s.ps _ _ (enters_of Tryz.func239 (by kernel_rfl) rfl) (fun p=>decide (1024<Ak p)) (HP.out.below HB2.out) (gC _ e s.ps he)).mono ?_;rintro en w3 ⟨rfl,hb3⟩;rw[HS2.out];have HE:=Aa (Ae HX.out (Ae HB2.out hb3));clear hb3 hca;go_wp2;go_ret;exact⟨by rw[HF.out];rfl,HE.out⟩
structure eY (g:Nat) (lb:Array Value) (w:World) (e:Nat) (l:List Ce) (p:Ce->Bool):Prop where
 out:∀(W:World) (s:Ce) (v:Value),Below w.heap.size w W->s∈l->eU e s v W->Calls Tryz.prog g (#[v]++lb) W fun en w'=>en=.returned (.bool (p s))/\Below W.heap.size W w'
theorem mO {l:List Ce}{p:Ce->Bool}{k:Nat}{X:Ce}(h:l[k]? = some X)(hp:p X=true):l.any p=true :=
 List.any_eq_true.2 ⟨X,List.mem_of_getElem? h,hp⟩
theorem iQ {l:List Ce}{p:Ce->Bool}(h:∀(i:Nat) (X:Ce),l[i]? = some X->p X=false):l.any p=false:=by
 rw[List.any_eq_false];intro x hx;obtain⟨i,hi⟩:=List.getElem?_of_mem hx;rw[h i x hi];exact Bool.false_ne_true
theorem Yn (w:World)(e:Nat)(p0:Option Addr)(n c:Nat)(l:List Ce)(g:Nat)(lb:Array Value)(eg:∀args w,(callFunc g args).run Tryz.prog w=.ok (.enter g args) w)(p:Ce->Bool)(h:Fa w e p0 n c l)(hp:eY g lb w e l p) :
  Calls Tryz.prog 220 #[.slice p0 n c,.func (.func g) #[] lb] w fun en w'=>∃K:Int,en=.returned (.int .i64 K)/\decide (0<=K)=l.any p/\Below w.heap.size w w':=by
 have HH:=Aa h;have hn:=h.len;have hmax:n<=9223372036854775807:=Dm h.cap h.max;have HLN:=Aa hn;clear h hn;go_enter Tryz.func220,Tryz.ntmps220;go_wp2
 go_loopw [5,8] (fun _ iv wr=>∃k:Nat,k<=n/\iv=.int .i64 k/\Ab (∀i X,i<k->l[i]? = some X->p X=false)/\Ab (Below w.heap.size w wr)) (fun _ iv _=>n-(intOf iv).toNat)
 case atStart=>exact⟨0,by omega,rfl,⟨fun i X h=>by omega⟩,⟨Br _ _⟩⟩
 case round=>
  obtain⟨k,hk,rfl,HJ,HB⟩:=hrel
  by_cases hkn:k<n
  .obtain⟨X,hXk⟩:∃X,l[k]? = some X:=⟨l[k]'(by rw[<-HLN.out];exact hkn),List.getElem?_eq_getElem _⟩
   obtain⟨b,off,rfl,hb,hc⟩:=(HH.out.below HB.out).at_ (by omega)
   obtain⟨q0,m0,d0,q1,m1,d1,q2,m2,d2,x0,x1,x2,x3⟩:=hc k X hXk;have HC:=Aa (hp.out wr X _ HB.out (List.mem_of_getElem? hXk) ⟨q0,m0,d0,q1,m1,d1,q2,m2,d2,rfl,x3⟩);have HX:=Aa hXk;have hkn':(k:Int)<n:=by omega
   clear hc x3 hXk hp;obtain⟨P,hP⟩:∃P,p X=P:=⟨_,rfl⟩
   rw[hP]at HC
   have HP:=Aa hP;clear hP
   cases P with
   | true=>
    go_wp2_with (go_at_fn g;refine HC.out.mono ?_;rintro en w1 ⟨rfl,hb1⟩)
    go_ret;exact⟨_,rfl,by rw[mO HX.out HP.out];exact decide_eq_true (by omega),Ae HB.out hb1⟩
   | false=>
    have HJ':Ab (∀i Y,i<k+1->l[i]? = some Y->p Y=false):=⟨fun i Y hi hY=>by
     rcases(by omega:i<k ∨ i=k) with h|rfl
     .exact HJ.out i Y h hY
     .have:=HX.out;rw[hY]at this
      cases this;exact HP.out⟩
    go_wp2_with (go_at_fn g;refine HC.out.mono ?_;rintro en w1 ⟨rfl,hb1⟩)
    go_roundw
    case rel=>exact⟨k+1,by omega,by go_num,HJ',⟨Ae HB.out hb1⟩⟩
    case measure=>simp[intOf];omega
  .obtain rfl:k=n:=by omega
   have hkn':¬(k:Int)<k:=by omega
   go_wp2;go_ret;refine⟨_,rfl,?_,HB.out⟩;rw[iQ fun i X hX=>HJ.out i X (by rw[HLN.out];exact(List.getElem?_eq_some_iff.1 hX).1) hX];rfl
theorem Se (w:World)(e:Nat)(p0:Option Addr)(n c:Nat)(l:List Ce)(g:Nat)(lb:Array Value)(eg:∀args w,(callFunc g args).run Tryz.prog w=.ok (.enter g args) w)(p:Ce->Bool)(h:Fa w e p0 n c l)(hp:eY g lb w e l p) :
  Calls Tryz.prog 192 #[.slice p0 n c,.func (.func g) #[] lb] w fun en w'=>en=.returned (.bool (l.any p))/\Below w.heap.size w w':=by
 go_enter Tryz.func192,Tryz.ntmps192
 go_wp2_with fail
 refine(Yn w e p0 n c l g lb eg p h hp).mono ?_;rintro en w1 ⟨K,rfl,hK,hb⟩;have HB:=Aa hb;have HK:=Aa hK;clear hK hb;go_wp2;go_ret;exact⟨by rw[<-HK.out];rfl,HB.out⟩
end Go.Proofs.YtnbmfaihlefgfaaGreatDoor
