/- The three groups' numbers, as the laws make them. -/
import Derived.Test.YthgoeiegdhphjaaGreatDoorGrpM
import Derived.Laws.OwnMore
import Derived.ArgAppend
import Derived.Laws.CopyOwn
set_option maxRecDepth 1000000
set_option maxHeartbeats 16000000
set_option linter.all false
namespace Go.Proofs.YthgoeiegdhphjaaGreatDoor
open Go Go.RowKit Go.Proofs.YthgoeiegdhphjaaGreatDoor.Flow
def iE (n:Nat):Prop:=n<18446744073709551616
structure Mk (t:TypeId) (w:World) (b:Nat) (v0 v1 v2:Value):Prop where
 at_:w.heap[b]? = some (.cells #[v0,v1,v2] t (0,0))
theorem Mk.lt {t:TypeId}{w:World}{b:Nat}{v0 v1 v2:Value}(h:Mk t w b v0 v1 v2):b<w.heap.size:=(Ll h.at_).1
theorem Mk.below {t:TypeId}{w w':World}{B b:Nat}{v0 v1 v2:Value}(h:Mk t w b v0 v1 v2)(hb:Below B w w')(hB:b<B):Mk t w' b v0 v1 v2:=⟨by rw[hb.block b hB];exact h.at_⟩
theorem Mk.cells {t:TypeId}{w:World}{b:Nat}{v0 v1 v2:Value}(h:Mk t w b v0 v1 v2):w.cell? ⟨b,0,none⟩=some v0/\w.cell? ⟨b,1,none⟩=some v1/\w.cell? ⟨b,2,none⟩=some v2:=by
 have:=h.at_
 simp[World.cell?,this]
theorem Mk.made (t:TypeId)(w:World)(v0 v1 v2:Value):Mk t (w.alloc (.cells #[v0,v1,v2] t)) w.heap.size v0 v1 v2:=⟨heap_alloc_new w _⟩
section
variable {At:World->Option Addr->Nat->Nat->Nat->Prop} {mk:Option Addr->Nat->Nat->Value} {t:TypeId} {w0:World} {N B:Nat} {d2 d5 d6 d7:Bool} {v2 v5 v6 v7:Value} {w:World}
end
def dH (w:World)(v v':Value):Prop:=v'.ownBlock=v.ownBlock ∨ ∀g,v'.ownBlock=some g->w.heap.size<=g
theorem aW {w:World}{B n size bytes:Nat}{st e:TypeId}{i:TypeInfo}{z:Value}(hu:Tryz.prog.underlying st=some (.slice e))(hi:Tryz.prog.info? e=some i)(hz:i.zero=some z)(hs:i.size=size)(hb:i.bytes=bytes)(hzs:z.cells.size=size)(h0:0<size){v:Value}{us:List Value}(h:w.ownsRow B e size v n us){a:Addr}{m c:Nat}{news:List Value}(hl:news.length=m*size)(hcell:∀j u,news[j]? = some u->w.cell? (a.add j)=some u)(hone:∀u∈news,u.oneCell'=true)(hmax:n+m<=maxLen)(hbytes:(n+m)*bytes<=140737488355328)(hB:B<=w.heap.size)(ty:TypeId) :
  ∃v' w',(Builtin.append_ #[st,st] ty #[v,.slice (some a) m c]).run Tryz.prog w=.ok v' w'/\w'.ownsRow B e size v' (n+m) (us++news)/\w.grownBy w' v.ownBlock/\dH w v v':=by
 obtain⟨v',w',h1,h2,h3,_⟩:=run_append_own (P:=Tryz.prog) w B st ty e i z size bytes hu hi hz hs hb hzs h0 v n us h a m c news hl hcell hone hmax hbytes hB;refine⟨v',w',h1,h2,h3,?_⟩;rcases h.2 with ⟨rfl,hn0⟩|⟨g,cap,cur,rfl,hbg,hg,hnc,hcm,hcs,ht⟩
 .obtain⟨v2,w2,k1,k2,_,_⟩:=run_append_own (P:=Tryz.prog) w w.heap.size st ty e i z size bytes hu hi hz hs hb hzs h0 (.slice none 0 0) 0 [] (World.ownsRow_nil w _ _ _) a m c news hl hcell hone (by omega) (Ep (Nat.mul_le_mul_right _ (by omega)) hbytes) (Av _);rw[h1]at k1
  injection k1 with k3 k4
  subst k3;refine .inr fun g hg=>?_
  rcases k2.2 with ⟨e',_⟩|⟨g',cap,cur,e',hb',_⟩
  .rw[e']at hg;cases hg
  .rw[e']at hg
   obtain rfl:g'=g:=by simpa [Value.ownBlock]using hg
   exact hb'
 .by_cases hroom:n+m<=cap
  .have hfit:n*i.size+news.length<=cur.size:=by rw[hs,hcs,hl,<-Nat.add_mul];exact Nat.mul_le_mul_right _ hroom
   have k1:=run_append_room (P:=Tryz.prog) w st ty e i hu hi g n cap cur hg a m c news (by rw[hs];exact hl) hcell hone hroom hfit;rw[h1]at k1
   injection k1 with k2 _
   exact .inl (by rw[k2];rfl)
  .obtain⟨v2,w2,k1,k2,_⟩:=run_append_arg_grows (P:=Tryz.prog) w st ty e i z size bytes hu hi hz hs hb hzs h0 ⟨g,0,none⟩ n cap us h.1
    (fun j u hj=>World.ownsRow.cells h rfl j u hj) a m c news hl hcell (by omega) hmax hbytes
   rw[h1]at k1
   injection k1 with k3 k4
   subst k3;refine .inr fun g hg=>?_
   rcases k2.2 with ⟨e',_⟩|⟨g',cap,cur,e',hb',_⟩
   .rw[e']at hg;cases hg
   .rw[e']at hg
    obtain rfl:g'=g:=by simpa [Value.ownBlock]using hg
    exact hb'
structure Agree (bad:Nat->Prop) (w w':World):Prop where
 size:w.heap.size<=w'.heap.size
 block:∀b,b<w.heap.size->¬bad b->w'.heap[b]? = w.heap[b]?
theorem Agree.trans {bad:Nat->Prop}{a b c:World}(h:Agree bad a b)(k:Agree bad b c):Agree bad a c :=
 ⟨Ep h.size k.size,fun x hx hn=>by rw[k.block x (Dm hx h.size) hn,h.block x hx hn]⟩
theorem Agree.of {bad:Nat->Prop}{w w':World}(h:Below w.heap.size w w'):Agree bad w w':=⟨h.size,fun b hb _=>h.block b hb⟩
theorem Agree.grown {bad:Nat->Prop}{w w':World}{row:Option Nat}(h:w.grownBy w' row)(hr:∀g,row=some g->bad g):Agree bad w w' :=
 ⟨h.size,fun b hb hn=>h.block b hb fun e=>hn (hr b e.symm)⟩
theorem Agree.set {bad:Nat->Prop}(w:World)(g o:Nat)(u:Value)(hg:bad g):Agree bad w (w.setCell ⟨g,o,none⟩ u) :=
 ⟨by simp,fun b _ hn=>Below.heap_setCell _ _ _ _ fun e=>hn (by rw[show b=g from e];exact hg)⟩
def Ln (F:World->Prop)(bad:Nat->Prop)(w:World):Prop:=∀w',Agree bad w w'->F w'
theorem Ln.out {F:World->Prop}{bad:Nat->Prop}{w:World}(h:Ln F bad w):F w:=h w ⟨Av _,fun _ _ _=>rfl⟩
theorem Ln.step {F:World->Prop}{bad:Nat->Prop}{w w':World}(h:Ln F bad w)(a:Agree bad w w'):Ln F bad w':=fun w2 k=>h w2 (a.trans k)
structure Gy (At:World->Option Addr->Nat->Nat->Nat->Prop):Prop where
 stay:∀ {w w' p n c N},At w p n c N->w.heap.size<=w'.heap.size->(∀q,p=some q->∀o,w'.cell? ⟨q.block,o,none⟩=w.cell? ⟨q.block,o,none⟩)->At w' p n c N
 lt:∀ {w p n c N},At w p n c N->∀q,p=some q->q.block<w.heap.size
theorem Eo:Gy Ag:=⟨fun {w w' p n c N} h hz hc=>by
 obtain⟨ws,r1,r2,r3,r4⟩:=h.ex;refine⟨ws,⟨r1.len,r1.cap,r1.max,?_⟩,r2,r3,r4⟩;rcases r1.at_ with k|⟨b,off,k1,k2,k3⟩
 .exact .inl k
 .exact .inr ⟨b,off,k1,Dm k2 hz,fun i x hx=>by rw[hc _ k1];exact k3 i x hx⟩,fun {w p n c N} h q hq=>by
 obtain⟨ws,r1,_⟩:=h.ex;rcases r1.at_ with k|⟨b,off,k1,k2,k3⟩
 .rw[k.1]at hq;cases hq
 .rw[k1]at hq;cases hq;exact k2⟩
theorem Gy.firm {At:World->Option Addr->Nat->Nat->Nat->Prop}(S:Gy At){w:World}{p:Option Addr}{n c N:Nat}(h:At w p n c N){bad:Nat->Prop}(hb:∀q,p=some q->¬bad q.block):Ln (fun w=>At w p n c N) bad w :=
 fun _ k=>S.stay h k.size fun q hq o=>World.cell?_of_block (a:=⟨q.block,o,none⟩) (k.block q.block (S.lt h q hq) (hb q hq))
theorem Gy.fresh {At:World->Option Addr->Nat->Nat->Nat->Prop}(S:Gy At){w:World}{p:Option Addr}{n c N B:Nat}(h:At w p n c N)(hn:Fj B p){bad:Nat->Prop}(hb:∀b,bad b->b<B):Ln (fun w=>At w p n c N) bad w :=
 S.firm h fun q hq e=>by have:=hb _ e;have:=hn q hq;omega
structure Hm (At:World->Option Addr->Nat->Nat->Nat->Prop) (e:TypeId) (B:Nat) (bad:Nat->Prop) (w:World) (v:Value) (Ns:List Nat):Prop where
 ex:∃vs:List Value,w.ownsRow B e 1 v Ns.length vs/\vs.length=Ns.length/\∀(i N:Nat),Ns[i]? = some N->∃x:Option Addr×Nat×Nat,vs[i]? = some (.slice x.1 x.2.1 x.2.2)/\Ln (fun w=>At w x.1 x.2.1 x.2.2 N) bad w
section
variable {At:World->Option Addr->Nat->Nat->Nat->Prop} {e:TypeId} {B:Nat} {bad:Nat->Prop} {w:World} {v:Value} {Ns:List Nat}
theorem Rt {w':World}{n size:Nat}{us:List Value}(h:w.ownsRow B e size v n us)(hk:∀g,v.ownBlock=some g->w'.heap[g]? = w.heap[g]?):w'.ownsRow B e size v n us:=by
 refine⟨h.1,?_⟩;rcases h.2 with h4|⟨g,cap,cur,e',hbg,hg,h5⟩
 .exact .inl h4
 .exact .inr ⟨g,cap,cur,e',hbg,by rw[hk g (by rw[e'];rfl)];exact hg,h5⟩
theorem Pw {n size:Nat}{us:List Value}(h:w.ownsRow B e size v n us):∀g,v.ownBlock=some g->B<=g/\g<w.heap.size:=by
 intro g hg;rcases h.2 with ⟨rfl,_⟩|⟨g',cap,cur,rfl,hbg,hg',_⟩
 .cases hg
 .obtain rfl:g'=g:=by simpa [Value.ownBlock]using hg
  exact⟨hbg,(Ll hg').1⟩
theorem Hm.block (h:Hm At e B bad w v Ns):∀g,v.ownBlock=some g->B<=g/\g<w.heap.size:=by obtain⟨_,h1,_⟩:=h.ex;exact Pw h1
theorem Hm.step {w':World}(h:Hm At e B bad w v Ns)(a:Agree bad w w')(hk:∀g,v.ownBlock=some g->w'.heap[g]? = w.heap[g]?):Hm At e B bad w' v Ns:=by
 obtain⟨vs,h1,h2,h3⟩:=h.ex;refine⟨vs,Rt h1 hk,h2,fun i N hN=>?_⟩;obtain⟨x,k1,k2⟩:=h3 i N hN;exact⟨x,k1,k2.step a⟩
theorem Hm.below {w':World}(h:Hm At e B bad w v Ns)(hb:Below w.heap.size w w'):Hm At e B bad w' v Ns:=h.step (.of hb) fun g hg=>hb.block g (h.block g hg).2
theorem Hm.app {st:TypeId}{bytes:Nat}{i:TypeInfo}(hu:Tryz.prog.underlying st=some (.slice e))(hi:Tryz.prog.info? e=some i){z:Value}(hz:i.zero=some z)(hs:i.size=1)(hb:i.bytes=bytes)(hzs:z.cells.size=1)(hby:bytes<=1000)(h:Hm At e B bad w v Ns)(hB:B<=w.heap.size){a:Addr}{c N:Nat}{x:Option Addr×Nat×Nat}(hc:w.cell? a=some (.slice x.1 x.2.1 x.2.2))(hN:Ln (fun w=>At w x.1 x.2.1 x.2.2 N) bad w)(hv:∀g,v.ownBlock=some g->bad g)(hl:Ns.length<=1000000)(ty:TypeId) :
  ∃v' w',(Builtin.append_ #[st,st] ty #[v,.slice (some a) 1 c]).run Tryz.prog w=.ok v' w'/\Hm At e B bad w' v' (Ns++[N])/\w.grownBy w' v.ownBlock/\dH w v v':=by
 obtain⟨vs,h1,h2,h3⟩:=h.ex;have ha0:a.add 0=a:=by obtain⟨b,o,s⟩:=a;simp[Addr.add]
 obtain⟨v',w',k1,k2,k3,k4⟩:=aW hu hi hz hs hb hzs (by decide) h1 (a:=a) (m:=1) (c:=c) (news:=[.slice x.1 x.2.1 x.2.2]) rfl
  (fun j u hj=>by
   cases j with
   | zero=>simp at hj;subst hj;rw[ha0];exact hc
   | succ j=>simp at hj)
  (fun u hj=>by simp at hj;subst hj;rfl) (by simp only[maxLen];omega) (Ep (Nat.mul_le_mul (Nat.add_le_add_right hl 1) hby) (by decide)) hB ty
 have ag:Agree bad w w':=.grown k3 hv;refine⟨v',w',k1,⟨vs++[.slice x.1 x.2.1 x.2.2],by rw[List.length_append];exact k2,by simp[h2],fun j M hM=>?_⟩,k3,k4⟩;rcases Nat.lt_or_ge j Ns.length with hj|hj
 .rw[List.getElem?_append_left hj]at hM
  obtain⟨y,g1,g2⟩:=h3 j M hM;exact⟨y,by rw[List.getElem?_append_left (by omega)];exact g1,g2.step ag⟩
 .rw[List.getElem?_append_right hj]at hM
  obtain⟨t,ht⟩:∃t,j-Ns.length=t:=⟨_,rfl⟩
  rw[ht]at hM
  cases t with
  | zero=>
   simp at hM;subst hM;exact⟨x,by rw[List.getElem?_append_right (by omega),h2,ht];rfl,hN.step ag⟩
  | succ t=>simp at hM
theorem Hm.elim (h:Hm At e B bad w v Ns):∃p c,v=.slice p Ns.length c/\Ns.length<=c/\c<=9223372036854775807/\(p=none->c=0) /\
  (0<Ns.length->∃b off,p=some ⟨b,off,none⟩/\b<w.heap.size/\∀(i N:Nat),Ns[i]? = some N->∃q m d,w.cell? ⟨b,off+i,none⟩=some (.slice q m d)/\At w q m d N):=by
 obtain⟨vs,h1,h2,h3⟩:=h.ex;rcases h1.2 with ⟨rfl,h0⟩|⟨g,cap,cur,rfl,hb,hg,hnc,hcm,hcs,ht⟩
 .exact⟨none,0,by rw[h0],by omega,by omega,fun _=>rfl,fun h=>by omega⟩
 .have hlt:g<w.heap.size:=(Ll hg).1;refine⟨some ⟨g,0,none⟩,cap,rfl,hnc,by simpa [maxLen]using hcm,(fun h=>by cases h),fun _=>⟨g,0,rfl,hlt,fun i N hN=>?_⟩⟩;obtain⟨x,h4,h5⟩:=h3 i N hN;refine⟨x.1,x.2.1,x.2.2,?_,h5.out⟩;have hi:i<Ns.length:=(List.getElem?_eq_some_iff.1 hN).1;have h6:(cur.toList.take (Ns.length*1))[i]? = some (.slice x.1 x.2.1 x.2.2):=by rw[ht];exact h4
  rw[List.getElem?_take,if_pos (by omega)]at h6
  unfold World.cell?
  dsimp only
  rw[hg];simp only[Nat.zero_add];rw[Array.getElem?_toList]at h6
  exact h6
end
theorem Hm.plist {t:TypeId}{B e:Nat}{bad:Nat->Prop}{w:World}{v:Value}{Ns:List Nat}(h:Hm Ag t B bad w v Ns)(hl:∀N∈Ns,N<Ao e):∃p c,v=.slice p Ns.length c/\Bq w e p Ns.length c Ns:=by
 obtain⟨p,c,h1,h2,h3,h4,h5⟩:=h.elim;refine⟨p,c,h1,rfl,h2,h3,h4,fun h0=>?_⟩;obtain⟨b,off,g1,g2,g3⟩:=h5 h0;exact⟨b,off,g1,g2,fun i N hN=>let ⟨q,m,d,k1,k2⟩:=g3 i N hN;⟨q,m,d,k1,k2,hl N (List.mem_of_getElem? hN)⟩⟩
theorem Tryz.info_Nat:(Tryz.prog.info? 36).map (fun i=>(i.zero,i.size,i.bytes))=some (some (.agg #[.slice none 0 0]),1,24):=by kernel_rfl
structure iC (e:Nat) (s:Bj) (x y z:Option Addr×Nat×Nat) (w:World):Prop where
 n:Ag w x.1 x.2.1 x.2.2 s.n
 base:Ag w y.1 y.2.1 y.2.2 s.base
 ps:Bq w e z.1 z.2.1 z.2.2 s.ps
abbrev trip (x y z:Option Addr×Nat×Nat):Value:=.agg #[.slice x.1 x.2.1 x.2.2,.slice y.1 y.2.1 y.2.2,.slice z.1 z.2.1 z.2.2]
section
variable {F:Bj->Option Addr×Nat×Nat->Option Addr×Nat×Nat->Option Addr×Nat×Nat->World->Prop} {e:TypeId} {B:Nat} {bad:Nat->Prop} {w:World} {v:Value} {l:List Bj}
end
theorem Gl {α:Type}{l:List α}{k:Nat}{N:α}(h:l[k]? = some N):l.take (k+1)=l.take k++[N]:=by
 obtain⟨hi,e⟩:=List.getElem?_eq_some_iff.1 h;rw[List.take_succ_eq_append_getElem hi,e]
theorem Hw {w:World}{v:Value}{e N:Nat}(h:Fit e N v w)(he:e<=900000) :
  Calls Tryz.prog 220 #[v] w fun en w'=>en=.returned (.bool (decide (1024<Ba N)))/\Below w.heap.size w w':=by
 obtain⟨p,n,c,rfl,h1,h2⟩:=h;have hn:n<1000000:=by have:=h1.len_le h2;omega
 have hbx:=Db.mk1 w (.slice p n c) 36;have H1:=Aa (h1.below hbx.bel);have HBX:=Aa hbx.bel;clear h1 h2 hbx;go_enter Tryz.func220,Tryz.ntmps220
 go_wp2_with fail
 refine(Dj _ p n c N H1.out hn).mono ?_;rintro en w1 ⟨rfl,hb1⟩;have HB1:=Aa (Af HBX.out hb1);clear hb1;obtain⟨L,hL⟩:∃L,Ba N=L:=⟨_,rfl⟩
 rw[hL];have HL:=Aa hL;clear hL
 by_cases hl:1024<L
 .have HD:Ad (decide (1024<L)=true):=⟨decide_eq_true hl⟩
  have hl':(1024:Int)<L:=by omega
  clear hl;go_wp2;go_ret;exact⟨by rw[HL.out,HD.out];rfl,HB1.out⟩
 .have HD:Ad (decide (1024<L)=false):=⟨decide_eq_false hl⟩
  have hl':¬(1024:Int)<L:=by omega
  clear hl;go_wp2;go_ret;exact⟨by rw[HL.out,HD.out,<-(decide_eq_false (by have:=of_decide_eq_false HD.out;omega):decide ((1024:Int)<(L:Nat))=false)];rfl,HB1.out⟩
theorem Ze (w:World)(e:Nat)(Ns:List Nat)(he:e<=900000):Asks 220 #[] w e Ns (fun p=>decide (1024<Ba p)):=by
 refine⟨fun W M u _ _ hu=>?_⟩;rw[Array.append_empty];exact Hw hu he
structure Xy (e:Nat) (s:Bj) (v:Value) (w:World):Prop where
 ex:∃q0 m0 d0 q1 m1 d1 q2 m2 d2,v=.agg #[.slice q0 m0 d0,.slice q1 m1 d1,.slice q2 m2 d2]/\Ag w q0 m0 d0 s.n/\s.n<Ao e/\Ag w q1 m1 d1 s.base/\s.base<Ao e/\Bq w e q2 m2 d2 s.ps
open Classical in
theorem Wc {w:World}{v:Value}{e:Nat}{s:Bj}(h:Xy e s v w)(he:e<=900000) :
  Calls Tryz.prog 203 #[v] w fun en w'=>en=.returned (.bool (decide (Dn s)))/\Below w.heap.size w w':=by
 obtain⟨q0,m0,d0,q1,m1,d1,q2,m2,d2,rfl,h0,l0,h1,l1,h2⟩:=h.ex;have hbx:Below w.heap.size w (w.alloc (.cells #[.slice q0 m0 d0,.slice q1 m1 d1,.slice q2 m2 d2] 168)):=Cf;have HBX3:=Aa (Mk.made 168 w (.slice q0 m0 d0) (.slice q1 m1 d1) (.slice q2 m2 d2));obtain⟨wa,hwa⟩:∃wa,w.alloc (.cells #[.slice q0 m0 d0,.slice q1 m1 d1,.slice q2 m2 d2] 168)=wa:=⟨_,rfl⟩
 rw[hwa]at hbx HBX3
 have HNF:=Aa ((Fit.of h0 l0).below hbx);have HBF:=Aa ((Fit.of h1 l1).below hbx);have HP:=Aa (h2.below hbx);have HX:=Aa hbx;obtain⟨ANS,hANS⟩:∃X,decide (Dn s)=X:=⟨_,rfl⟩
 have HANS:=Aa hANS;rw[hANS];have hca:=HBX3.out.cells.1;clear hANS h h0 l0 h1 l1 h2 hbx;obtain⟨S0,hS0⟩:∃X,decide (1024<Ba s.n)=X:=⟨_,rfl⟩
 have HS0:=Aa hS0;clear hS0;go_enter Tryz.func203,Tryz.ntmps203
 go_wp2_with fail
 refine(Hw HNF.out he).mono ?_;rintro en w1 ⟨rfl,hb1⟩;rw[HS0.out];have HX1:=Aa (HBX3.out.below hb1 HBX3.out.lt);have HB1:=Aa hb1;clear hb1 hca
 cases S0 with
 | true=>
  have HF:Ad (ANS=true):=⟨by rw[<-HANS.out];exact decide_eq_true (.inl (of_decide_eq_true HS0.out))⟩
  have HE:=Aa (Af HX.out HB1.out);go_wp2;go_ret;exact⟨by rw[HF.out];rfl,HE.out⟩
 | false=>
  obtain⟨S1,hS1⟩:∃X,decide (1024<Ba s.base)=X:=⟨_,rfl⟩
  have HS1:=Aa hS1;have hca:=HX1.out.cells.2.1;clear hS1
  go_wp2_with fail
  refine(Hw (HBF.out.below HB1.out) he).mono ?_;rintro en w2 ⟨rfl,hb2⟩;rw[HS1.out];have HX2:=Aa (HX1.out.below hb2 HX1.out.lt);have HB2:=Aa (Af HB1.out hb2);clear hb2 hca
  cases S1 with
  | true=>
   have HF:Ad (ANS=true):=⟨by rw[<-HANS.out];exact decide_eq_true (.inr (.inl (of_decide_eq_true HS1.out)))⟩
   have HE:=Aa (Af HX.out HB2.out);go_wp2;go_ret;exact⟨by rw[HF.out];rfl,HE.out⟩
  | false=>
   obtain⟨S2,hS2⟩:∃X,s.ps.any (fun p=>decide (1024<Ba p))=X:=⟨_,rfl⟩
   have HS2:=Aa hS2;have HF:Ad (ANS=S2):=⟨by
    rw[<-HANS.out,<-hS2];have n0:=of_decide_eq_false HS0.out;have n1:=of_decide_eq_false HS1.out
    by_cases hx:∃p∈s.ps,1024<Ba p
    .obtain⟨p,hp,hl⟩:=hx;rw[decide_eq_true (show Dn s from .inr (.inr ⟨p,hp,hl⟩))];exact(List.any_eq_true.2 ⟨p,hp,decide_eq_true hl⟩).symm
    .have:¬Dn s:=fun ht=>by
      rcases ht with ht|ht|ht
      .exact n0 ht
      .exact n1 ht
      .exact hx ht
     rw[decide_eq_false this];refine Eq.symm ?_;rw[List.any_eq_false];exact fun p hp hc=>hx ⟨p,hp,of_decide_eq_true hc⟩⟩
   have hca:=HX2.out.cells.2.2;clear hS2
   go_wp2_with fail
   refine(Ju _ e q2 m2 d2 s.ps _ _ (enters_of Tryz.func220 (by kernel_rfl) rfl) (fun p=>decide (1024<Ba p)) (HP.out.below HB2.out) (Ze _ e s.ps he)).mono ?_;rintro en w3 ⟨rfl,hb3⟩;rw[HS2.out];have HE:=Aa (Af HX.out (Af HB2.out hb3));clear hb3 hca;go_wp2;go_ret;exact⟨by rw[HF.out];rfl,HE.out⟩
structure Ya (g:Nat) (lb:Array Value) (w:World) (e:Nat) (l:List Bj) (p:Bj->Bool):Prop where
 out:∀(W:World) (s:Bj) (v:Value),Below w.heap.size w W->s∈l->Xy e s v W->Calls Tryz.prog g (#[v]++lb) W fun en w'=>en=.returned (.bool (p s))/\Below W.heap.size W w'
theorem dA {l:List Bj}{p:Bj->Bool}{k:Nat}{X:Bj}(h:l[k]? = some X)(hp:p X=true):l.any p=true :=
 List.any_eq_true.2 ⟨X,List.mem_of_getElem? h,hp⟩
theorem aD {l:List Bj}{p:Bj->Bool}(h:∀(i:Nat) (X:Bj),l[i]? = some X->p X=false):l.any p=false:=by
 rw[List.any_eq_false];intro x hx;obtain⟨i,hi⟩:=List.getElem?_of_mem hx;rw[h i x hi];exact Bool.false_ne_true
theorem Tq (w:World)(e:Nat)(p0:Option Addr)(n c:Nat)(l:List Bj)(g:Nat)(lb:Array Value)(eg:∀args w,(callFunc g args).run Tryz.prog w=.ok (.enter g args) w)(p:Bj->Bool)(h:Dp w e p0 n c l)(hp:Ya g lb w e l p) :
  Calls Tryz.prog 202 #[.slice p0 n c,.func (.func g) #[] lb] w fun en w'=>∃K:Int,en=.returned (.int .i64 K)/\decide (0<=K)=l.any p/\Below w.heap.size w w':=by
 have HH:=Aa h;have hn:=h.len;have hmax:n<=9223372036854775807:=Ep h.cap h.max;have HLN:=Aa hn;clear h hn;go_enter Tryz.func202,Tryz.ntmps202;go_wp2
 go_loopw [5,8] (fun _ iv wr=>∃k:Nat,k<=n/\iv=.int .i64 k/\Ad (∀i X,i<k->l[i]? = some X->p X=false)/\Ad (Below w.heap.size w wr)) (fun _ iv _=>n-(intOf iv).toNat)
 case atStart=>exact⟨0,by omega,rfl,⟨fun i X h=>by omega⟩,⟨Bc _ _⟩⟩
 case round=>
  obtain⟨k,hk,rfl,HJ,HB⟩:=hrel
  by_cases hkn:k<n
  .obtain⟨X,hXk⟩:∃X,l[k]? = some X:=⟨l[k]'(by rw[<-HLN.out];exact hkn),List.getElem?_eq_getElem _⟩
   obtain⟨b,off,rfl,hb,hc⟩:=(HH.out.below HB.out).at_ (by omega)
   obtain⟨q0,m0,d0,q1,m1,d1,q2,m2,d2,x0,x1,x2,x3⟩:=hc k X hXk;have HC:=Aa (hp.out wr X _ HB.out (List.mem_of_getElem? hXk) ⟨q0,m0,d0,q1,m1,d1,q2,m2,d2,rfl,x3⟩);have HX:=Aa hXk;have hkn':(k:Int)<n:=by omega
   clear hc x3 hXk hp;obtain⟨P,hP⟩:∃P,p X=P:=⟨_,rfl⟩
   rw[hP]at HC
   have HP:=Aa hP;clear hP
   cases P with
   | true=>
    go_wp2_with (go_at_fn g;refine HC.out.mono ?_;rintro en w1 ⟨rfl,hb1⟩)
    go_ret;exact⟨_,rfl,by rw[dA HX.out HP.out];exact decide_eq_true (by omega),Af HB.out hb1⟩
   | false=>
    have HJ':Ad (∀i Y,i<k+1->l[i]? = some Y->p Y=false):=⟨fun i Y hi hY=>by
     rcases(by omega:i<k ∨ i=k) with h|rfl
     .exact HJ.out i Y h hY
     .have:=HX.out;rw[hY]at this
      cases this;exact HP.out⟩
    go_wp2_with (go_at_fn g;refine HC.out.mono ?_;rintro en w1 ⟨rfl,hb1⟩)
    go_roundw
    case rel=>exact⟨k+1,by omega,by go_num,HJ',⟨Af HB.out hb1⟩⟩
    case measure=>simp[intOf];omega
  .obtain rfl:k=n:=by omega
   have hkn':¬(k:Int)<k:=by omega
   go_wp2;go_ret;refine⟨_,rfl,?_,HB.out⟩;rw[aD fun i X hX=>HJ.out i X (by rw[HLN.out];exact(List.getElem?_eq_some_iff.1 hX).1) hX];rfl
theorem Ok (w:World)(e:Nat)(p0:Option Addr)(n c:Nat)(l:List Bj)(g:Nat)(lb:Array Value)(eg:∀args w,(callFunc g args).run Tryz.prog w=.ok (.enter g args) w)(p:Bj->Bool)(h:Dp w e p0 n c l)(hp:Ya g lb w e l p) :
  Calls Tryz.prog 170 #[.slice p0 n c,.func (.func g) #[] lb] w fun en w'=>en=.returned (.bool (l.any p))/\Below w.heap.size w w':=by
 go_enter Tryz.func170,Tryz.ntmps170
 go_wp2_with fail
 refine(Tq w e p0 n c l g lb eg p h hp).mono ?_;rintro en w1 ⟨K,rfl,hK,hb⟩;have HB:=Aa hb;have HK:=Aa hK;clear hK hb;go_wp2;go_ret;exact⟨by rw[<-HK.out];rfl,HB.out⟩
structure Cy (t:TypeId) (w:World) (b:Nat) (v0 v1 v2 v3:Value):Prop where
 at_:w.heap[b]? = some (.cells #[v0,v1,v2,v3] t (0,0))
theorem Cy.lt {t:TypeId}{w:World}{b:Nat}{v0 v1 v2 v3:Value}(h:Cy t w b v0 v1 v2 v3):b<w.heap.size:=(Ll h.at_).1
theorem Cy.below {t:TypeId}{w w':World}{B b:Nat}{v0 v1 v2 v3:Value}(h:Cy t w b v0 v1 v2 v3)(hb:Below B w w')(hB:b<B):Cy t w' b v0 v1 v2 v3:=⟨by rw[hb.block b hB];exact h.at_⟩
theorem Cy.cells {t:TypeId}{w:World}{b:Nat}{v0 v1 v2 v3:Value}(h:Cy t w b v0 v1 v2 v3):w.cell? ⟨b,0,none⟩=some v0/\w.cell? ⟨b,1,none⟩=some v1/\w.cell? ⟨b,2,none⟩=some v2/\w.cell? ⟨b,3,none⟩=some v3:=by
 have:=h.at_
 simp[World.cell?,this]
theorem Cy.free {t:TypeId}{w:World}{b:Nat}{v0 v1 v2 v3:Value}(h:Cy t w b v0 v1 v2 v3)(j:Nat):w.frozen? ⟨b,j,none⟩=false:=by
 have:=h.at_
 simp[World.frozen?,this]
theorem Cy.made (t:TypeId)(w:World)(v0 v1 v2 v3:Value):Cy t (w.alloc (.cells #[v0,v1,v2,v3] t)) w.heap.size v0 v1 v2 v3:=⟨heap_alloc_new w _⟩
theorem Ie {t:TypeId}{w wf:World}{b:Nat}{v0 v1 v2 v3 u0 u1 u2 u3:Value}(h:Cy t w b v0 v1 v2 v3)(hf:wf=(((w.setCell ⟨b,0,none⟩ u0).setCell ⟨b,1,none⟩ u1).setCell ⟨b,2,none⟩ u2).setCell ⟨b,3,none⟩ u3) :
  Cy t wf b u0 u1 u2 u3/\Agree (fun g=>g=b) w wf/\∀(B:Nat) (w0:World),Below B w0 w->B<=b->Below B w0 wf:=by
 subst hf;have a1:∀(W:World) (o:Nat) (u:Value),Agree (fun g=>g=b) W (W.setCell ⟨b,o,none⟩ u):=fun W o u=>.set _ _ _ _ rfl
 refine⟨⟨?_⟩,(((a1 w 0 u0).trans (a1 _ 1 u1)).trans (a1 _ 2 u2)).trans (a1 _ 3 u3),fun B w0 hb h1=>(((hb.setCell h1 _).setCell h1 _).setCell h1 _).setCell h1 _⟩;have:=h.at_
 simp[World.setCell,Array.getElem?_modify,this]
abbrev Eb (w:World)(x:Option Addr×Nat×Nat)(N:Nat):Prop:=Ag w x.1 x.2.1 x.2.2 N
abbrev Fk (b:Nat)(N:Nat)(x:Option Addr×Nat×Nat)(w:World):Prop:=Ln (fun w=>Eb w x N) (fun g=>g=b) w
theorem Ht (N b:Nat)(w:World)(h:N<18446744073709551616)(hb:b<w.heap.size) :
  Calls Tryz.prog 20 #[.int .u64 N] w fun en w'=>∃x:Option Addr×Nat×Nat,en=.returned (.agg #[.slice x.1 x.2.1 x.2.2])/\Fk b N x w'/\Below w.heap.size w w':=by
 refine(Cj N w h).mono ?_;rintro en w' ⟨p,n,c,rfl,hn,hb',hnew⟩;exact⟨(p,n,c),rfl,Eo.fresh (B:=w.heap.size) hn hnew (fun g hg=>by rw[hg];exact hb),hb'⟩
theorem aB (w:World)(h l:Nat)(hh:h<18446744073709551616)(hl:l<18446744073709551616) :
  Calls Tryz.prog 125 #[.int .u64 h,.int .u64 l] w fun en w'=>∃x:Option Addr×Nat×Nat,en=.returned (.agg #[.slice x.1 x.2.1 x.2.2])/\Eb w' x (h*4294967296+l)/\Fj w.heap.size x.1/\Below w.heap.size w w':=by
 have HH:=Aa hh;have HL:=Aa hl;have hx:=Ae.made w (.slice none 0 0);have HX:=Aa hx;have HB:Ad (Below w.heap.size w (w.alloc (.cells #[.slice none 0 0] 36))):=⟨(Bc _ _).alloc (Av _) _⟩
 clear hh hl hx;go_enter Tryz.func125,Tryz.ntmps125
 go_wp2_with fail
 refine(Cj h _ HH.out).mono ?_;rintro en w1 ⟨p1,n1,c1,rfl,h1,b1,_⟩;have H1:=Aa (Fit.of (e:=2) h1 HH.out);have B1:=Aa b1;clear h1 b1
 go_wp2_with fail
 refine(Cj 4294967296 w1 (by decide)).mono ?_;rintro en w2 ⟨p2,n2,c2,rfl,h2,b2,_⟩;have H2:=Aa (Fit.of (e:=2) h2 (by decide));have H12:=Aa (H1.out.below b2);have B2:=Aa (Af B1.out b2);clear h2 b2 H1
 go_wp2_with fail
 refine(Iz H12.out H2.out (by decide) (by decide)).mono ?_;rintro en w3 ⟨_,rfl,⟨p3,n3,c3,rfl,h3,l3⟩,b3⟩;have H3:=Aa (Fit.of h3 l3);have B3:=Aa (Af B2.out b3);clear h3 l3 b3
 go_wp2_with fail
 refine(Cj l w3 HL.out).mono ?_;rintro en w4 ⟨p4,n4,c4,rfl,h4,b4,_⟩;have H4:=Aa (Fit.of (e:=2) h4 HL.out);have H34:=Aa (H3.out.below b4);have B4:=Aa (Af B3.out b4);clear h4 b4 H3
 go_wp2_with fail
 have l3:=(Ex H34.out).len_le H34.out.lim;have l4:=(Ex H4.out).len_le H4.out.lim;refine(Re w4 p3 n3 c3 (h*4294967296) p4 n4 c4 l (Ex H34.out) (Ex H4.out) (by omega) (by omega)).mono ?_;rintro en w5 ⟨p5,n5,c5,rfl,h5,b5,nw5⟩;have B5:=Af B4.out b5;have hx5:=HX.out.below B5 HX.out.lt;have c0:=hx5.cell;have f0:=hx5.free;have k0:=(hx5.set (.slice p5 n5 c5)).cell;have HN:Ad (Eb (w5.setCell ⟨w.heap.size,0,none⟩ (.slice p5 n5 c5)) (p5,n5,c5) (h*4294967296+l)):=⟨h5.store hx5 _⟩
 have HBf:Ad (Below w.heap.size w (w5.setCell ⟨w.heap.size,0,none⟩ (.slice p5 n5 c5))):=⟨(Af HB.out B5).setCell (Av _) _⟩
 have HNw:=Aa (nw5.mono (show w.heap.size<=w4.heap.size from (Af HB.out B4.out).size));clear h5 b5 B5 hx5 nw5 l3 l4;go_wp2;refine bodyPost_ret (v:=.agg #[.slice p5 n5 c5]) (by simp[results,Tryz.results125,go_sem,k0]) rfl ⟨(p5,n5,c5),rfl,HN.out,HNw.out,HBf.out⟩
abbrev Ng (b:Nat)(Ns:List Nat)(z:Option Addr×Nat×Nat)(w:World):Prop:=Ln (fun w=>Bq w 3 z.1 z.2.1 z.2.2 Ns) (fun g=>g=b) w
abbrev Xz (b:Nat)(s:Bj)(x y z:Option Addr×Nat×Nat)(w:World):Prop:=Ln (iC 3 s x y z) (fun g=>g=b) w
abbrev Pp (b:Nat)(l:List Bj)(z:Option Addr×Nat×Nat)(w:World):Prop:=Ln (fun w=>Dp w 3 z.1 z.2.1 z.2.2 l) (fun g=>g=b) w
theorem Ng.made {b:Nat}{w:World}(xs:List (Option Addr×Nat×Nat))(Ns:List Nat)(hl:xs.length=Ns.length)(hb:b<w.heap.size)(hx:∀(i:Nat) (x:Option Addr×Nat×Nat) (N:Nat),xs[i]? = some x->Ns[i]? = some N->Fk b N x w)(hN:∀N∈Ns,N<Ao 3)(hmx:Ns.length<=1000) :
  Ng b Ns (some ⟨w.heap.size,0,none⟩,Ns.length,Ns.length) (w.alloc (.cells ((xs.map fun x=>Value.slice x.1 x.2.1 x.2.2).toArray) 36)):=by
 have hbel:Agree (fun g=>g=b) w (w.alloc (.cells ((xs.map fun x=>Value.slice x.1 x.2.1 x.2.2).toArray) 36)):=.of ((Bc _ _).alloc (Av _) _);have hnew:=heap_alloc_new w (.cells ((xs.map fun x=>Value.slice x.1 x.2.1 x.2.2).toArray) 36);intro w2 a;have hlt:w.heap.size<(w.alloc (.cells ((xs.map fun x=>Value.slice x.1 x.2.1 x.2.2).toArray) 36)).heap.size:=by simp
 refine⟨rfl,Av _,(show Ns.length<=9223372036854775807 by omega),(fun e=>by cases e),fun _=>⟨w.heap.size,0,rfl,Dm hlt a.size,fun i N hi=>?_⟩⟩;have hil:i<xs.length:=by rw[hl];exact(List.getElem?_eq_some_iff.1 hi).1
 refine⟨_,_,_,?_,(hx i xs[i] N (List.getElem?_eq_getElem hil) hi) w2 (hbel.trans a),hN N (List.mem_of_getElem? hi)⟩;have hblk:=a.block w.heap.size hlt (by omega);rw[hnew]at hblk
 simp[World.cell?,hblk,hil]
theorem Pp.made {b:Nat}{w:World}(xs:List ((Option Addr×Nat×Nat)×(Option Addr×Nat×Nat)×(Option Addr×Nat×Nat)))(l:List Bj)(cs:Array Value)(hl:xs.length=l.length)(hb:b<w.heap.size)(hcs:∀(i:Nat) (x:(Option Addr×Nat×Nat)×(Option Addr×Nat×Nat)×(Option Addr×Nat×Nat)),xs[i]? = some x->cs[i*3]? = some (.slice x.1.1 x.1.2.1 x.1.2.2)/\cs[i*3+1]? = some (.slice x.2.1.1 x.2.1.2.1 x.2.1.2.2)/\cs[i*3+2]? = some (.slice x.2.2.1 x.2.2.2.1 x.2.2.2.2))(hx:∀(i:Nat) (x:(Option Addr×Nat×Nat)×(Option Addr×Nat×Nat)×(Option Addr×Nat×Nat)) (s:Bj),xs[i]? = some x->l[i]? = some s->Xz b s x.1 x.2.1 x.2.2 w)(hN:∀s∈l,s.n<Ao 3/\s.base<Ao 3)(hmx:l.length<=1000) :
  Pp b l (some ⟨w.heap.size,0,none⟩,l.length,l.length) (w.alloc (.cells cs 168)):=by
 have hbel:Agree (fun g=>g=b) w (w.alloc (.cells cs 168)):=.of ((Bc _ _).alloc (Av _) _);have hnew:=heap_alloc_new w (.cells cs 168);intro w2 a;have hlt:w.heap.size<(w.alloc (.cells cs 168)).heap.size:=by simp
 refine⟨rfl,Av _,(show l.length<=9223372036854775807 by omega),(fun e=>by cases e),fun _=>⟨w.heap.size,0,rfl,Dm hlt a.size,fun i s hi=>?_⟩⟩;have hil:i<xs.length:=by rw[hl];exact(List.getElem?_eq_some_iff.1 hi).1
 have hp:=(hx i xs[i] s (List.getElem?_eq_getElem hil) hi) w2 (hbel.trans a);have hm:=hN s (List.mem_of_getElem? hi);obtain⟨e0,e1,e2⟩:=hcs i xs[i] (List.getElem?_eq_getElem hil);have hblk:=a.block w.heap.size hlt (by omega);rw[hnew]at hblk
 have hc:∀o u,cs[o]? = some u->w2.cell? ⟨w.heap.size,0+o,none⟩=some u:=fun o u hu=>by
  simp only[World.cell?,hblk,Nat.zero_add];simpa using hu
 exact⟨_,_,_,_,_,_,_,_,_,hc _ _ e0,hc _ _ e1,hc _ _ e2,hp.n,hm.1,hp.base,hm.2,hp.ps⟩
def Nu (i:Nat)(w:World)(ps:Option Addr)(ns cs:Nat)(e:Ending)(w':World):Prop :=
 ∃(x y z:Option Addr×Nat×Nat) (pc:Option Addr) (nc cc:Nat),e=.returned (.tuple #[.agg #[.slice x.1 x.2.1 x.2.2,.slice y.1 y.2.1 y.2.2,.slice z.1 z.2.1 z.2.2,.slice ps ns cs],.slice pc nc cc]) /\
  Eb w' x (gP i)/\Eb w' y (gQ i)/\Eb w' z (gG i)/\Dp w' 3 pc nc cc (Do i)/\Below w.heap.size w w'
theorem Op (w:World)(A:Int)(ps:Option Addr)(ns cs:Nat)(hA:(IntKind.u64.wrap A).tmod 3=0) :
  Calls Tryz.prog 66 #[.int .i64 A,.slice ps ns cs] w (Nu 0 w ps ns cs):=by
 have HX:=Aa (Cy.made 105 w (.slice none 0 0) (.slice none 0 0) (.slice none 0 0) (.slice none 0 0));have HB:Ad (Below w.heap.size w (w.alloc (.cells #[.slice none 0 0,.slice none 0 0,.slice none 0 0,.slice none 0 0] 105))):=⟨(Bc _ _).alloc (Av _) _⟩
 have hs:w.heap.size<(w.alloc (.cells #[.slice none 0 0,.slice none 0 0,.slice none 0 0,.slice none 0 0] 105)).heap.size:=HX.out.lt;have S0:=Aa hs;have B0:Ad (Below (w.alloc (.cells #[.slice none 0 0,.slice none 0 0,.slice none 0 0,.slice none 0 0] 105)).heap.size (w.alloc (.cells #[.slice none 0 0,.slice none 0 0,.slice none 0 0,.slice none 0 0] 105)) (w.alloc (.cells #[.slice none 0 0,.slice none 0 0,.slice none 0 0,.slice none 0 0] 105))):=⟨Bc _ _⟩
 clear hs;go_enter Tryz.func66,Tryz.ntmps66
 go_wp2_with fail
 refine(Ht 607 w.heap.size _ (by decide) S0.out).mono ?_;rintro en w1 ⟨x1,rfl,f1,b1⟩;have F1:=Aa f1;have S1:=Aa (Dm S0.out b1.size);have B1:=Aa (Af B0.out b1);clear f1 b1
 go_wp2_with fail
 refine(Ht 101 w.heap.size _ (by decide) S1.out).mono ?_;rintro en w2 ⟨x2,rfl,f2,b2⟩;have F2:=Aa f2;have S2:=Aa (Dm S1.out b2.size);have B2:=Aa (Af B1.out b2);have F1:=F1.out.step (.of b2);have F1:=Aa F1;clear f2 b2
 go_wp2_with fail
 refine(Ht 64 w.heap.size _ (by decide) S2.out).mono ?_;rintro en w3 ⟨x3,rfl,f3,b3⟩;have F3:=Aa f3;have S3:=Aa (Dm S2.out b3.size);have B3:=Aa (Af B2.out b3);have F1:=F1.out.step (.of b3);have F1:=Aa F1;have F2:=F2.out.step (.of b3);have F2:=Aa F2;clear f3 b3;have BL:=B3;have kx:=HX.out.below BL.out HX.out.lt;have c0:=kx.cells.1;have c1:=kx.cells.2.1;have c2:=kx.cells.2.2.1;have c3:=kx.cells.2.2.2;have f0:=kx.free 0;have f1:=kx.free 1;have f2:=kx.free 2;have f3:=kx.free 3;obtain⟨wf,hwf⟩:∃W,W=((((w3).setCell ⟨w.heap.size,0,none⟩ (.slice x1.1 x1.2.1 x1.2.2)).setCell ⟨w.heap.size,1,none⟩ (.slice x2.1 x2.2.1 x2.2.2)).setCell ⟨w.heap.size,2,none⟩ (.slice x3.1 x3.2.1 x3.2.2)).setCell ⟨w.heap.size,3,none⟩ (.slice ps ns cs):=⟨_,rfl⟩
 have hst:=Ie kx hwf;have e0:=hst.1.cells.1;have e1:=hst.1.cells.2.1;have e2:=hst.1.cells.2.2.1;have e3:=hst.1.cells.2.2.2;have HAG:=Aa hst.2.1;have HBF:=Aa (hst.2.2 w.heap.size w (Af HB.out BL.out) (Av _));have HWF:=Aa hwf;clear kx hst hwf;go_wp2;rw[<-HWF.out];clear c0 c1 c2 c3 f0 f1 f2 f3 HWF;refine bodyPost_ret (v:=.tuple #[.agg #[.slice x1.1 x1.2.1 x1.2.2,.slice x2.1 x2.2.1 x2.2.2,.slice x3.1 x3.2.1 x3.2.2,.slice ps ns cs],.slice none 0 0]) (by simp[results,Tryz.results66,go_sem,e0,e1,e2,e3]) rfl
  ⟨x1,x2,x3,none,0,0,rfl,F1.out wf HAG.out,F2.out wf HAG.out,F3.out wf HAG.out,⟨rfl,Av _,by omega,fun _=>rfl,fun h=>by omega⟩,HBF.out⟩
theorem Oo (w:World)(A:Int)(ps:Option Addr)(ns cs:Nat)(hA:(IntKind.u64.wrap A).tmod 3=1) :
  Calls Tryz.prog 66 #[.int .i64 A,.slice ps ns cs] w (Nu 1 w ps ns cs):=by
 have HX:=Aa (Cy.made 105 w (.slice none 0 0) (.slice none 0 0) (.slice none 0 0) (.slice none 0 0));have HB:Ad (Below w.heap.size w (w.alloc (.cells #[.slice none 0 0,.slice none 0 0,.slice none 0 0,.slice none 0 0] 105))):=⟨(Bc _ _).alloc (Av _) _⟩
 have hs:w.heap.size<(w.alloc (.cells #[.slice none 0 0,.slice none 0 0,.slice none 0 0,.slice none 0 0] 105)).heap.size:=HX.out.lt;have S0:=Aa hs;have B0:Ad (Below (w.alloc (.cells #[.slice none 0 0,.slice none 0 0,.slice none 0 0,.slice none 0 0] 105)).heap.size (w.alloc (.cells #[.slice none 0 0,.slice none 0 0,.slice none 0 0,.slice none 0 0] 105)) (w.alloc (.cells #[.slice none 0 0,.slice none 0 0,.slice none 0 0,.slice none 0 0] 105))):=⟨Bc _ _⟩
 clear hs;go_enter Tryz.func66,Tryz.ntmps66
 go_wp2_with fail
 refine(Ht 655211 w.heap.size _ (by decide) S0.out).mono ?_;rintro en w1 ⟨x1,rfl,f1,b1⟩;have F1:=Aa f1;have S1:=Aa (Dm S0.out b1.size);have B1:=Aa (Af B0.out b1);clear f1 b1
 go_wp2_with fail
 refine(Ht 65521 w.heap.size _ (by decide) S1.out).mono ?_;rintro en w2 ⟨x2,rfl,f2,b2⟩;have F2:=Aa f2;have S2:=Aa (Dm S1.out b2.size);have B2:=Aa (Af B1.out b2);have F1:=F1.out.step (.of b2);have F1:=Aa F1;clear f2 b2
 go_wp2_with fail
 refine(Ht 1024 w.heap.size _ (by decide) S2.out).mono ?_;rintro en w3 ⟨x3,rfl,f3,b3⟩;have F3:=Aa f3;have S3:=Aa (Dm S2.out b3.size);have B3:=Aa (Af B2.out b3);have F1:=F1.out.step (.of b3);have F1:=Aa F1;have F2:=F2.out.step (.of b3);have F2:=Aa F2;clear f3 b3
 go_wp2_with fail
 refine(Ht 655211 w.heap.size _ (by decide) S3.out).mono ?_;rintro en w4 ⟨x4,rfl,f4,b4⟩;have F4:=Aa f4;have S4:=Aa (Dm S3.out b4.size);have B4:=Aa (Af B3.out b4);have F1:=F1.out.step (.of b4);have F1:=Aa F1;have F2:=F2.out.step (.of b4);have F2:=Aa F2;have F3:=F3.out.step (.of b4);have F3:=Aa F3;clear f4 b4
 go_wp2_with fail
 refine(Ht 2 w.heap.size _ (by decide) S4.out).mono ?_;rintro en w5 ⟨x5,rfl,f5,b5⟩;have F5:=Aa f5;have S5:=Aa (Dm S4.out b5.size);have B5:=Aa (Af B4.out b5);have F1:=F1.out.step (.of b5);have F1:=Aa F1;have F2:=F2.out.step (.of b5);have F2:=Aa F2;have F3:=F3.out.step (.of b5);have F3:=Aa F3;have F4:=F4.out.step (.of b5);have F4:=Aa F4;clear f5 b5
 go_wp2_with fail
 refine(Ht 65521 w.heap.size _ (by decide) S5.out).mono ?_;rintro en w6 ⟨x6,rfl,f6,b6⟩;have F6:=Aa f6;have S6:=Aa (Dm S5.out b6.size);have B6:=Aa (Af B5.out b6);have F1:=F1.out.step (.of b6);have F1:=Aa F1;have F2:=F2.out.step (.of b6);have F2:=Aa F2;have F3:=F3.out.step (.of b6);have F3:=Aa F3;have F4:=F4.out.step (.of b6);have F4:=Aa F4;have F5:=F5.out.step (.of b6);have F5:=Aa F5;clear f6 b6;have fl:=Ng.made (b:=w.heap.size) (w:=w6) [x6] [65521] rfl S6.out (fun i x N h1 h2=>by
  cases i with
  | zero=>simp at h1 h2;subst h1 h2;exact F6.out
  | succ i=>simp at h1) (fun N hN=>by rw[List.mem_singleton.1 hN];decide) (by decide)
 have bA:Below w6.heap.size w6 (w6.alloc (.cells #[.slice x6.1 x6.2.1 x6.2.2] 36)):=Cf;have bB:Below ((w6.alloc (.cells #[.slice x6.1 x6.2.1 x6.2.2] 36))).heap.size (w6.alloc (.cells #[.slice x6.1 x6.2.1 x6.2.2] 36)) ((w6.alloc (.cells #[.slice x6.1 x6.2.1 x6.2.2] 36)).alloc (.cells #[.slice x4.1 x4.2.1 x4.2.2,.slice x5.1 x5.2.1 x5.2.2,.slice (some ⟨w6.heap.size,0,none⟩) 1 1] 168)):=Cf;have hA1:((w6.alloc (.cells #[.slice x6.1 x6.2.1 x6.2.2] 36))).heap.size=w6.heap.size+1:=by simp
 have fc:=Pp.made (b:=w.heap.size) (w:=(w6.alloc (.cells #[.slice x6.1 x6.2.1 x6.2.2] 36))) [(x4,x5,(some ⟨w6.heap.size,0,none⟩,1,1))] [⟨655211,2,[65521]⟩] #[.slice x4.1 x4.2.1 x4.2.2,.slice x5.1 x5.2.1 x5.2.2,.slice (some ⟨w6.heap.size,0,none⟩) 1 1] rfl (Dm S6.out bA.size)
  (fun i x h=>by
   cases i with
   | zero=>simp at h;subst h;exact⟨rfl,rfl,rfl⟩
   | succ i=>simp at h)
  (fun i x s h1 h2=>by
   cases i with
   | zero=>simp at h1 h2;subst h1 h2;exact fun w2 a=>⟨F4.out.step (.of bA) w2 a,F5.out.step (.of bA) w2 a,fl w2 a⟩
   | succ i=>simp at h1)
  (fun s hs=>by rw[List.mem_singleton.1 hs];exact⟨by decide,by decide⟩) (by decide)
 rw[hA1]at fc
 have BL:Ad (Below (w.alloc (.cells #[.slice none 0 0,.slice none 0 0,.slice none 0 0,.slice none 0 0] 105)).heap.size (w.alloc (.cells #[.slice none 0 0,.slice none 0 0,.slice none 0 0,.slice none 0 0] 105)) ((w6.alloc (.cells #[.slice x6.1 x6.2.1 x6.2.2] 36)).alloc (.cells #[.slice x4.1 x4.2.1 x4.2.2,.slice x5.1 x5.2.1 x5.2.2,.slice (some ⟨w6.heap.size,0,none⟩) 1 1] 168))):=⟨Af (Af B6.out bA) bB⟩
 have bAB:=Af bA bB;have G1:=Aa (F1.out.step (.of bAB));have G2:=Aa (F2.out.step (.of bAB));have G3:=Aa (F3.out.step (.of bAB));have GC:=Aa fc;clear fl bA bB hA1 fc bAB F1 F2 F3 F4 F5 F6;have kx:=HX.out.below BL.out HX.out.lt;have c0:=kx.cells.1;have c1:=kx.cells.2.1;have c2:=kx.cells.2.2.1;have c3:=kx.cells.2.2.2;have f0:=kx.free 0;have f1:=kx.free 1;have f2:=kx.free 2;have f3:=kx.free 3;obtain⟨wf,hwf⟩:∃W,W=((((((w6.alloc (.cells #[.slice x6.1 x6.2.1 x6.2.2] 36)).alloc (.cells #[.slice x4.1 x4.2.1 x4.2.2,.slice x5.1 x5.2.1 x5.2.2,.slice (some ⟨w6.heap.size,0,none⟩) 1 1] 168))).setCell ⟨w.heap.size,0,none⟩ (.slice x1.1 x1.2.1 x1.2.2)).setCell ⟨w.heap.size,1,none⟩ (.slice x2.1 x2.2.1 x2.2.2)).setCell ⟨w.heap.size,2,none⟩ (.slice x3.1 x3.2.1 x3.2.2)).setCell ⟨w.heap.size,3,none⟩ (.slice ps ns cs):=⟨_,rfl⟩
 have hst:=Ie kx hwf;have e0:=hst.1.cells.1;have e1:=hst.1.cells.2.1;have e2:=hst.1.cells.2.2.1;have e3:=hst.1.cells.2.2.2;have HAG:=Aa hst.2.1;have HBF:=Aa (hst.2.2 w.heap.size w (Af HB.out BL.out) (Av _));have HWF:=Aa hwf;clear kx hst hwf;go_wp2;rw[<-HWF.out];clear c0 c1 c2 c3 f0 f1 f2 f3 HWF;refine bodyPost_ret (v:=.tuple #[.agg #[.slice x1.1 x1.2.1 x1.2.2,.slice x2.1 x2.2.1 x2.2.2,.slice x3.1 x3.2.1 x3.2.2,.slice ps ns cs],.slice (some ⟨w6.heap.size+1,0,none⟩) 1 1]) (by simp[results,Tryz.results66,go_sem,e0,e1,e2,e3]) rfl
  ⟨x1,x2,x3,some ⟨w6.heap.size+1,0,none⟩,1,1,rfl,G1.out wf HAG.out,G2.out wf HAG.out,G3.out wf HAG.out,GC.out wf HAG.out,HBF.out⟩
abbrev NF (b N:Nat)(v:Value)(w:World):Prop:=∃x:Option Addr×Nat×Nat,v=.agg #[.slice x.1 x.2.1 x.2.2]/\Fk b N x w
abbrev LF (b:Nat)(Ns:List Nat)(v:Value)(w:World):Prop:=∃z:Option Addr×Nat×Nat,v=.slice z.1 z.2.1 z.2.2/\Ng b Ns z w
abbrev SF (b:Nat)(s:Bj)(v:Value)(w:World):Prop:=∃x:(Option Addr×Nat×Nat)×(Option Addr×Nat×Nat)×(Option Addr×Nat×Nat),v=trip x.1 x.2.1 x.2.2/\Xz b s x.1 x.2.1 x.2.2 w
abbrev CF (b:Nat)(l:List Bj)(v:Value)(w:World):Prop:=∃z:Option Addr×Nat×Nat,v=.slice z.1 z.2.1 z.2.2/\Pp b l z w
abbrev PF (b:Nat)(xp xq s:Option Addr×Nat×Nat)(v:Value)(w:World):Prop:=∃z:Option Addr×Nat×Nat,v=.agg #[.slice xp.1 xp.2.1 xp.2.2,.slice xq.1 xq.2.1 xq.2.2,.slice z.1 z.2.1 z.2.2,.slice s.1 s.2.1 s.2.2]/\Fk b 262144 z w
def Rg (b:Nat)(xp xq s:Option Addr×Nat×Nat)(i:Nat)(v:Value)(w:World):Prop:=match i with
 | 2=>NF b 262144 v w
 | 4=>PF b xp xq s v w
 | 6=>NF b 13 v w
 | 7=>NF b 2 v w
 | 8=>NF b 3 v w
 | 9=>NF b 11 v w
 | 10=>NF b 683 v w
 | 11=>NF b 2971 v w
 | 12=>LF b [2,3,11,683,2971] v w
 | 13=>SF b ⟨1152921504606847009,13,[2,3,11,683,2971]⟩ v w
 | 15=>NF b 2 v w
 | 17=>LF b [1152921504606847009] v w
 | 18=>SF b ⟨20752587082923246163,2,[1152921504606847009]⟩ v w
 | 19=>CF b (Do 2) v w
 | 21=>CF b (Do 2) v w
 | _=>True
theorem NF.ag {b N:Nat}{v:Value}{w w':World}(h:NF b N v w)(a:Agree (fun g=>g=b) w w'):NF b N v w':=let ⟨x,h1,h2⟩:=h;⟨x,h1,h2.step a⟩
theorem LF.ag {b:Nat}{Ns:List Nat}{v:Value}{w w':World}(h:LF b Ns v w)(a:Agree (fun g=>g=b) w w'):LF b Ns v w':=let ⟨x,h1,h2⟩:=h;⟨x,h1,h2.step a⟩
theorem SF.ag {b:Nat}{s:Bj}{v:Value}{w w':World}(h:SF b s v w)(a:Agree (fun g=>g=b) w w'):SF b s v w':=let ⟨x,h1,h2⟩:=h;⟨x,h1,h2.step a⟩
theorem CF.ag {b:Nat}{l:List Bj}{v:Value}{w w':World}(h:CF b l v w)(a:Agree (fun g=>g=b) w w'):CF b l v w':=let ⟨x,h1,h2⟩:=h;⟨x,h1,h2.step a⟩
theorem PF.ag {b:Nat}{xp xq s:Option Addr×Nat×Nat}{v:Value}{w w':World}(h:PF b xp xq s v w)(a:Agree (fun g=>g=b) w w'):PF b xp xq s v w':=let ⟨x,h1,h2⟩:=h;⟨x,h1,h2.step a⟩
theorem Rg.ag {b:Nat}{xp xq s:Option Addr×Nat×Nat}(i:Nat)(v:Value)(w w':World)(h:Rg b xp xq s i v w)(a:Agree (fun g=>g=b) w w'):Rg b xp xq s i v w':=by
 unfold Rg at *;split
 all_goals first|exact NF.ag h a|exact LF.ag h a|exact SF.ag h a|exact CF.ag h a|exact PF.ag h a|trivial
structure Lm (t:TypeId) (wE w0:World) (b:Nat) (xp xq s:Option Addr×Nat×Nat) (d:Bool) (v4:Value) (w:World):Prop where
 ag:Agree (fun g=>g=b) w0 w
 bel:Below wE.heap.size wE w
 lt:b<w.heap.size
 z0:d=false->Cy t w b (.slice none 0 0) (.slice none 0 0) (.slice none 0 0) (.slice none 0 0)
 z1:d=true->∃z:Option Addr×Nat×Nat,v4=.agg #[.slice xp.1 xp.2.1 xp.2.2,.slice xq.1 xq.2.1 xq.2.2,.slice z.1 z.2.1 z.2.2,.slice s.1 s.2.1 s.2.2]/\Cy t w b (.slice xp.1 xp.2.1 xp.2.2) (.slice xq.1 xq.2.1 xq.2.2) (.slice z.1 z.2.1 z.2.2) (.slice s.1 s.2.1 s.2.2)
theorem Lm.later {t:TypeId}{wE w0:World}{b:Nat}{xp xq s:Option Addr×Nat×Nat}{d:Bool}{v4:Value}{w w':World}(h:Lm t wE w0 b xp xq s d v4 w)(hb:Below w.heap.size w w'):Lm t wE w0 b xp xq s d v4 w' :=
 ⟨h.ag.trans (.of hb),Di h.bel hb,Dm h.lt hb.size,fun e=>(h.z0 e).below hb h.lt,fun e=>let ⟨z,k1,k2⟩:=h.z1 e;⟨z,k1,k2.below hb h.lt⟩⟩
theorem Lm.put4 {t:TypeId}{wE w0:World}{b:Nat}{xp xq s:Option Addr×Nat×Nat}{v4 v:Value}{w:World}(h:Lm t wE w0 b xp xq s false v4 w):Lm t wE w0 b xp xq s false v w :=
 ⟨h.ag,h.bel,h.lt,h.z0,(fun e=>by cases e)⟩
theorem On (w:World)(A:Int)(ps:Option Addr)(ns cs:Nat)(hA:(IntKind.u64.wrap A).tmod 3=2) :
  Calls Tryz.prog 66 #[.int .i64 A,.slice ps ns cs] w (Nu 2 w ps ns cs):=by
 have HX:=Aa (Cy.made 105 w (.slice none 0 0) (.slice none 0 0) (.slice none 0 0) (.slice none 0 0));have HB:Ad (Below w.heap.size w (w.alloc (.cells #[.slice none 0 0,.slice none 0 0,.slice none 0 0,.slice none 0 0] 105))):=⟨(Bc _ _).alloc (Av _) _⟩
 have hs:w.heap.size<(w.alloc (.cells #[.slice none 0 0,.slice none 0 0,.slice none 0 0,.slice none 0 0] 105)).heap.size:=HX.out.lt;have S0:=Aa hs;have B0:Ad (Below (w.alloc (.cells #[.slice none 0 0,.slice none 0 0,.slice none 0 0,.slice none 0 0] 105)).heap.size (w.alloc (.cells #[.slice none 0 0,.slice none 0 0,.slice none 0 0,.slice none 0 0] 105)) (w.alloc (.cells #[.slice none 0 0,.slice none 0 0,.slice none 0 0,.slice none 0 0] 105))):=⟨Bc _ _⟩
 clear hs;go_enter Tryz.func66,Tryz.ntmps66
 go_wp2_with fail
 refine(Ht 1152921504606847009 w.heap.size _ (by decide) S0.out).mono ?_;rintro en w6 ⟨xq,rfl,fq,bq⟩;have F1:=Aa fq;have B1:=Aa bq;clear fq bq
 go_wp2_with fail
 refine(aB _ 4831838208 595 (by decide) (by decide)).mono ?_;rintro en w7 ⟨xp,rfl,hp,np,bp⟩;have bA:Below w6.heap.size w6 (w6.alloc (.cells #[.slice xq.1 xq.2.1 xq.2.2] 36)):=Cf;have bB:Below w7.heap.size w7 (w7.alloc (.cells #[.slice xp.1 xp.2.1 xp.2.2] 36)):=Cf;have m6:=((Ae.made w6 (.slice xq.1 xq.2.1 xq.2.2)).below bp (by simp))
 have m6':=m6.below bB m6.lt;have m7:=Ae.made w7 (.slice xp.1 xp.2.1 xp.2.2);have hs1:=S0.out;have hs2:=B1.out.size;have hs3:(w6.alloc (.cells #[.slice xq.1 xq.2.1 xq.2.2] 36)).heap.size=w6.heap.size+1:=by simp
 have hs4:=bp.size;have bAll:=Af (Af (Af B1.out bA) bp) bB;have FQ':Fk w.heap.size 1152921504606847009 xq (w7.alloc (.cells #[.slice xp.1 xp.2.1 xp.2.2] 36)):=F1.out.step (.of (Af (Af bA bp) bB));have FP':Fk w.heap.size 20752587082923246163 xp (w7.alloc (.cells #[.slice xp.1 xp.2.1 xp.2.2] 36)) :=
  (Eo.fresh (bad:=fun g=>g=w.heap.size) hp np (fun g hg=>by rw[hg];omega)).step (.of bB)
 obtain⟨w0,hw0⟩:∃W,w7.alloc (.cells #[.slice xp.1 xp.2.1 xp.2.2] 36)=W:=⟨_,rfl⟩
 have hs5:w0.heap.size=w7.heap.size+1:=by rw[<-hw0];simp
 rw[hw0]at m6' m7 bAll FQ' FP'
 have HW0:=Aa hw0;have FQ:=Aa FQ';have FP:=Aa FP';have hx0:=HX.out.below bAll HX.out.lt;have HG0:Ad (Lm 105 w w0 w.heap.size xp xq (ps,ns,cs) false undef w0):=⟨⟨⟨Av _,fun _ _ _=>rfl⟩,Af HB.out bAll,by omega,fun _=>hx0,(fun e=>by cases e)⟩⟩
 have n6:w6.heap.size≠w.heap.size:=by omega
 have n7:w7.heap.size≠w.heap.size:=by omega
 have hl6:w6.heap.size<w0.heap.size:=by omega
 have hl7:w7.heap.size<w0.heap.size:=by omega
 obtain⟨b7,hb7⟩:∃b,w7.heap.size=b:=⟨_,rfl⟩
 rw[hb7]at m7 n7 hl7
 have K6:Ad (∀w',Agree (fun g=>g=w.heap.size) w0 w'->Ae w' w6.heap.size (.slice xq.1 xq.2.1 xq.2.2)):=⟨fun w' a=>by unfold Ae;rw[a.block _ hl6 n6];exact m6'⟩
 have K7:Ad (∀w',Agree (fun g=>g=w.heap.size) w0 w'->Ae w' b7 (.slice xp.1 xp.2.1 xp.2.2)):=⟨fun w' a=>by unfold Ae;rw[a.block _ hl7 n7];exact m7⟩
 clear bA bB m6 m6' m7 hs1 hs2 hs3 hs4 hs5 bAll FQ' FP' hw0 hx0 n6 n7 hl6 hl7 hp np bp;go_wp2;rw[HW0.out]
 try simp only[hb7]
 clear HW0 hb7;refine Aj (by kernel_rfl) (by kernel_rfl)
  [some (.agg #[.slice xp.1 xp.2.1 xp.2.2]),some (.agg #[.slice xq.1 xq.2.1 xq.2.2]),none,some (.slice ps ns cs),none,some (.agg #[.slice xq.1 xq.2.1 xq.2.2]),none,none,none,none,none,none,none,none,some (.agg #[.slice xp.1 xp.2.1 xp.2.2]),none,some (.agg #[.slice xq.1 xq.2.1 xq.2.2]),none,none,none,none,none]
  [false,false,true,false,true,false,true,true,true,true,true,true,true,true,false,true,false,true,true,true,true,true] rfl
  (fun w1 w2=>Agree (fun g=>g=w.heap.size) w1 w2) (fun D sp w'=>Lm 105 w w0 w.heap.size xp xq (ps,ns,cs) (D 20) (sp 4) w') (fun i v w'=>Rg w.heap.size xp xq (ps,ns,cs) i v w')
  (fun i v w1 w2 h a=>Rg.ag i v w1 w2 h a)
  (HG0.out.later ((Bc _ _).drew)) ?_ ?_
 .simp only[Ax,Nat.reduceAdd];refine⟨?_,?_,?_,?_,?_,?_,?_,?_,?_,?_,?_,?_,?_,?_,?_,?_,?_,?_,?_,?_,?_,?_,trivial⟩
  case refine_1=>
   intro D sp w' hD hW hdp hG;have hc:w'.cell? ⟨b7,0,none⟩=some (.slice xp.1 xp.2.1 xp.2.2):=(K7.out w' hG.ag).cell;simp[asked,Region.wanted,Oper.gives,execOp,Act.eval,go_sem,hc]
  case refine_2=>
   intro D sp w' hD hW hdp hG;have hc:w'.cell? ⟨w6.heap.size,0,none⟩=some (.slice xq.1 xq.2.1 xq.2.2):=(K6.out w' hG.ag).cell;simp[asked,Region.wanted,Oper.gives,execOp,Act.eval,Act.put,go_sem,hc]
  case refine_6=>
   intro D sp w' hD hW hdp hG;have hc:w'.cell? ⟨w6.heap.size,0,none⟩=some (.slice xq.1 xq.2.1 xq.2.2):=(K6.out w' hG.ag).cell;simp[asked,Region.wanted,Oper.gives,execOp,Act.eval,Act.put,go_sem,hc]
  case refine_15=>
   intro D sp w' hD hW hdp hG;have hc:w'.cell? ⟨b7,0,none⟩=some (.slice xp.1 xp.2.1 xp.2.2):=(K7.out w' hG.ag).cell;simp[asked,Region.wanted,Oper.gives,execOp,Act.eval,Act.put,go_sem,hc]
  case refine_17=>
   intro D sp w' hD hW hdp hG;have hc:w'.cell? ⟨w6.heap.size,0,none⟩=some (.slice xq.1 xq.2.1 xq.2.2):=(K6.out w' hG.ag).cell;simp[asked,Region.wanted,Oper.gives,execOp,Act.eval,Act.put,go_sem,hc]
  case refine_3=>
   intro D sp w' hD hW hdp hG
   (with_reducible refine Ab (w1:=w') (f := 20) (args:=#[.int .u64 262144]) ?_ ?_ ?_)
   .simp only[Region.wanted]
   .simp[Act.eval,Act.put,go_sem]
   .refine(Ht 262144 w.heap.size w' (by decide) hG.lt).mono ?_;rintro en w5 ⟨x,rfl,hF,hb⟩;exact⟨_,rfl,.of hb,⟨x,rfl,hF⟩,by simpa [upd]using hG.later hb⟩
  case refine_7=>
   intro D sp w' hD hW hdp hG
   (with_reducible refine Ab (w1:=w') (f := 20) (args:=#[.int .u64 13]) ?_ ?_ ?_)
   .simp only[Region.wanted]
   .simp[Act.eval,Act.put,go_sem]
   .refine(Ht 13 w.heap.size w' (by decide) hG.lt).mono ?_;rintro en w5 ⟨x,rfl,hF,hb⟩;exact⟨_,rfl,.of hb,⟨x,rfl,hF⟩,by simpa [upd]using hG.later hb⟩
  case refine_8=>
   intro D sp w' hD hW hdp hG
   (with_reducible refine Ab (w1:=w') (f := 20) (args:=#[.int .u64 2]) ?_ ?_ ?_)
   .simp only[Region.wanted]
   .simp[Act.eval,Act.put,go_sem]
   .refine(Ht 2 w.heap.size w' (by decide) hG.lt).mono ?_;rintro en w5 ⟨x,rfl,hF,hb⟩;exact⟨_,rfl,.of hb,⟨x,rfl,hF⟩,by simpa [upd]using hG.later hb⟩
  case refine_9=>
   intro D sp w' hD hW hdp hG
   (with_reducible refine Ab (w1:=w') (f := 20) (args:=#[.int .u64 3]) ?_ ?_ ?_)
   .simp only[Region.wanted]
   .simp[Act.eval,Act.put,go_sem]
   .refine(Ht 3 w.heap.size w' (by decide) hG.lt).mono ?_;rintro en w5 ⟨x,rfl,hF,hb⟩;exact⟨_,rfl,.of hb,⟨x,rfl,hF⟩,by simpa [upd]using hG.later hb⟩
  case refine_10=>
   intro D sp w' hD hW hdp hG
   (with_reducible refine Ab (w1:=w') (f := 20) (args:=#[.int .u64 11]) ?_ ?_ ?_)
   .simp only[Region.wanted]
   .simp[Act.eval,Act.put,go_sem]
   .refine(Ht 11 w.heap.size w' (by decide) hG.lt).mono ?_;rintro en w5 ⟨x,rfl,hF,hb⟩;exact⟨_,rfl,.of hb,⟨x,rfl,hF⟩,by simpa [upd]using hG.later hb⟩
  case refine_11=>
   intro D sp w' hD hW hdp hG
   (with_reducible refine Ab (w1:=w') (f := 20) (args:=#[.int .u64 683]) ?_ ?_ ?_)
   .simp only[Region.wanted]
   .simp[Act.eval,Act.put,go_sem]
   .refine(Ht 683 w.heap.size w' (by decide) hG.lt).mono ?_;rintro en w5 ⟨x,rfl,hF,hb⟩;exact⟨_,rfl,.of hb,⟨x,rfl,hF⟩,by simpa [upd]using hG.later hb⟩
  case refine_12=>
   intro D sp w' hD hW hdp hG
   (with_reducible refine Ab (w1:=w') (f := 20) (args:=#[.int .u64 2971]) ?_ ?_ ?_)
   .simp only[Region.wanted]
   .simp[Act.eval,Act.put,go_sem]
   .refine(Ht 2971 w.heap.size w' (by decide) hG.lt).mono ?_;rintro en w5 ⟨x,rfl,hF,hb⟩;exact⟨_,rfl,.of hb,⟨x,rfl,hF⟩,by simpa [upd]using hG.later hb⟩
  case refine_16=>
   intro D sp w' hD hW hdp hG
   (with_reducible refine Ab (w1:=w') (f := 20) (args:=#[.int .u64 2]) ?_ ?_ ?_)
   .simp only[Region.wanted]
   .simp[Act.eval,Act.put,go_sem]
   .refine(Ht 2 w.heap.size w' (by decide) hG.lt).mono ?_;rintro en w5 ⟨x,rfl,hF,hb⟩;exact⟨_,rfl,.of hb,⟨x,rfl,hF⟩,by simpa [upd]using hG.later hb⟩
  case refine_5=>
   intro D sp w' hD hW hdp hG;have d20:D 20=false:=hW 20 (mq (by kernel_rfl));rw[d20]at hG
   have hf2:∃x:Option Addr×Nat×Nat,sp 2=.agg #[.slice x.1 x.2.1 x.2.2]/\Fk w.heap.size 262144 x w':=(hdp 2 (mq (by kernel_rfl))).2
   (with_reducible refine Au hf2 fun z g2=>?_)
   have e2:=g2.1
   (with_reducible refine Ai (w1:=w') (v:=.agg #[.slice xp.1 xp.2.1 xp.2.2,.slice xq.1 xq.2.1 xq.2.2,.slice z.1 z.2.1 z.2.2,.slice ps ns cs]) ?_ ?_ ?_)
   .simp only[Region.wanted]
   .simp[execOp,Act.eval,Act.put,go_sem,e2]
   .exact⟨⟨Av _,fun _ _ _=>rfl⟩,⟨z,rfl,g2.2⟩,by simpa [upd,d20]using hG.put4⟩
  case refine_13=>
   intro D sp w' hD hW hdp hG;have hf7:∃x:Option Addr×Nat×Nat,sp 7=.agg #[.slice x.1 x.2.1 x.2.2]/\Fk w.heap.size 2 x w':=(hdp 7 (mq (by kernel_rfl))).2
   (with_reducible refine Au hf7 fun y7 g7=>?_)
   have e7:=g7.1;have hf8:∃x:Option Addr×Nat×Nat,sp 8=.agg #[.slice x.1 x.2.1 x.2.2]/\Fk w.heap.size 3 x w':=(hdp 8 (mq (by kernel_rfl))).2
   (with_reducible refine Au hf8 fun y8 g8=>?_)
   have e8:=g8.1;have hf9:∃x:Option Addr×Nat×Nat,sp 9=.agg #[.slice x.1 x.2.1 x.2.2]/\Fk w.heap.size 11 x w':=(hdp 9 (mq (by kernel_rfl))).2
   (with_reducible refine Au hf9 fun y9 g9=>?_)
   have e9:=g9.1;have hf10:∃x:Option Addr×Nat×Nat,sp 10=.agg #[.slice x.1 x.2.1 x.2.2]/\Fk w.heap.size 683 x w':=(hdp 10 (mq (by kernel_rfl))).2
   (with_reducible refine Au hf10 fun y10 g10=>?_)
   have e10:=g10.1;have hf11:∃x:Option Addr×Nat×Nat,sp 11=.agg #[.slice x.1 x.2.1 x.2.2]/\Fk w.heap.size 2971 x w':=(hdp 11 (mq (by kernel_rfl))).2
   (with_reducible refine Au hf11 fun y11 g11=>?_)
   have e11:=g11.1;have hb:Below w'.heap.size w' (w'.alloc (.cells #[.slice y7.1 y7.2.1 y7.2.2,.slice y8.1 y8.2.1 y8.2.2,.slice y9.1 y9.2.1 y9.2.2,.slice y10.1 y10.2.1 y10.2.2,.slice y11.1 y11.2.1 y11.2.2] 36)):=Cf;have fl:=Ng.made (b:=w.heap.size) (w:=w') [y7,y8,y9,y10,y11] [2,3,11,683,2971] rfl hG.lt (fun i x N h1 h2=>by
    match i,h1,h2 with
    | 0,h1,h2=>simp at h1 h2;subst h1 h2;exact g7.2
    | 1,h1,h2=>simp at h1 h2;subst h1 h2;exact g8.2
    | 2,h1,h2=>simp at h1 h2;subst h1 h2;exact g9.2
    | 3,h1,h2=>simp at h1 h2;subst h1 h2;exact g10.2
    | 4,h1,h2=>simp at h1 h2;subst h1 h2;exact g11.2
    | i+5,h1,h2=>simp at h1) (by decide) (by decide)
   (with_reducible refine Ai (w1:=w'.alloc (.cells #[.slice y7.1 y7.2.1 y7.2.2,.slice y8.1 y8.2.1 y8.2.2,.slice y9.1 y9.2.1 y9.2.2,.slice y10.1 y10.2.1 y10.2.2,.slice y11.1 y11.2.1 y11.2.2] 36)) (v:=.slice (some ⟨w'.heap.size,0,none⟩) 5 5) ?_ ?_ ?_)
   .simp only[Region.wanted]
   .simp[execOp,Act.eval,Act.put,go_sem,e7,e8,e9,e10,e11]
   .exact⟨.of hb,⟨(some ⟨w'.heap.size,0,none⟩,5,5),rfl,fl⟩,by simpa [upd]using hG.later hb⟩
  case refine_14=>
   intro D sp w' hD hW hdp hG;have hf6:∃x:Option Addr×Nat×Nat,sp 6=.agg #[.slice x.1 x.2.1 x.2.2]/\Fk w.heap.size 13 x w':=(hdp 6 (mq (by kernel_rfl))).2
   (with_reducible refine Au hf6 fun y g6=>?_)
   have e6:=g6.1;have hf12:∃z:Option Addr×Nat×Nat,sp 12=.slice z.1 z.2.1 z.2.2/\Ng w.heap.size [2,3,11,683,2971] z w':=(hdp 12 (mq (by kernel_rfl))).2
   (with_reducible refine Au hf12 fun z g12=>?_)
   have e12:=g12.1
   (with_reducible refine Ai (w1:=w') (v:=trip xq y z) ?_ ?_ ?_)
   .simp only[Region.wanted]
   .simp[execOp,Act.eval,Act.put,go_sem,e6,e12]
   .exact⟨⟨Av _,fun _ _ _=>rfl⟩,⟨(xq,y,z),rfl,fun w2 a=>⟨FQ.out w2 (hG.ag.trans a),g6.2 w2 a,g12.2 w2 a⟩⟩,by simpa [upd]using hG⟩
  case refine_19=>
   intro D sp w' hD hW hdp hG;have hf15:∃x:Option Addr×Nat×Nat,sp 15=.agg #[.slice x.1 x.2.1 x.2.2]/\Fk w.heap.size 2 x w':=(hdp 15 (mq (by kernel_rfl))).2
   (with_reducible refine Au hf15 fun y g15=>?_)
   have e15:=g15.1;have hf17:∃z:Option Addr×Nat×Nat,sp 17=.slice z.1 z.2.1 z.2.2/\Ng w.heap.size [1152921504606847009] z w':=(hdp 17 (mq (by kernel_rfl))).2
   (with_reducible refine Au hf17 fun z g17=>?_)
   have e17:=g17.1
   (with_reducible refine Ai (w1:=w') (v:=trip xp y z) ?_ ?_ ?_)
   .simp only[Region.wanted]
   .simp[execOp,Act.eval,Act.put,go_sem,e15,e17]
   .exact⟨⟨Av _,fun _ _ _=>rfl⟩,⟨(xp,y,z),rfl,fun w2 a=>⟨FP.out w2 (hG.ag.trans a),g15.2 w2 a,g17.2 w2 a⟩⟩,by simpa [upd]using hG⟩
  case refine_18=>
   intro D sp w' hD hW hdp hG;have hb:Below w'.heap.size w' (w'.alloc (.cells #[.slice xq.1 xq.2.1 xq.2.2] 36)):=Cf;have fl:=Ng.made (b:=w.heap.size) (w:=w') [xq] [1152921504606847009] rfl hG.lt (fun i x N h1 h2=>by
    match i,h1,h2 with
    | 0,h1,h2=>simp at h1 h2;subst h1 h2;exact FQ.out.step hG.ag
    | i+1,h1,h2=>simp at h1) (by decide) (by decide)
   (with_reducible refine Ai (w1:=w'.alloc (.cells #[.slice xq.1 xq.2.1 xq.2.2] 36)) (v:=.slice (some ⟨w'.heap.size,0,none⟩) 1 1) ?_ ?_ ?_)
   .simp only[Region.wanted]
   .simp[execOp,Act.eval,Act.put,go_sem]
   .exact⟨.of hb,⟨(some ⟨w'.heap.size,0,none⟩,1,1),rfl,fl⟩,by simpa [upd]using hG.later hb⟩
  case refine_20=>
   intro D sp w' hD hW hdp hG;have hf13:∃x:(Option Addr×Nat×Nat)×(Option Addr×Nat×Nat)×(Option Addr×Nat×Nat),sp 13=trip x.1 x.2.1 x.2.2/\Xz w.heap.size ⟨1152921504606847009,13,[2,3,11,683,2971]⟩ x.1 x.2.1 x.2.2 w':=(hdp 13 (mq (by kernel_rfl))).2
   (with_reducible refine Au hf13 fun u g13=>?_)
   have e13:=g13.1;have hf18:∃x:(Option Addr×Nat×Nat)×(Option Addr×Nat×Nat)×(Option Addr×Nat×Nat),sp 18=trip x.1 x.2.1 x.2.2/\Xz w.heap.size ⟨20752587082923246163,2,[1152921504606847009]⟩ x.1 x.2.1 x.2.2 w':=(hdp 18 (mq (by kernel_rfl))).2
   (with_reducible refine Au hf18 fun v g18=>?_)
   have e18:=g18.1;have hb:Below w'.heap.size w' (w'.alloc (.cells #[.slice u.1.1 u.1.2.1 u.1.2.2,.slice u.2.1.1 u.2.1.2.1 u.2.1.2.2,.slice u.2.2.1 u.2.2.2.1 u.2.2.2.2,.slice v.1.1 v.1.2.1 v.1.2.2,.slice v.2.1.1 v.2.1.2.1 v.2.1.2.2,.slice v.2.2.1 v.2.2.2.1 v.2.2.2.2] 168)):=Cf;have fc:=Pp.made (b:=w.heap.size) (w:=w') [u,v] (Do 2) #[.slice u.1.1 u.1.2.1 u.1.2.2,.slice u.2.1.1 u.2.1.2.1 u.2.1.2.2,.slice u.2.2.1 u.2.2.2.1 u.2.2.2.2,.slice v.1.1 v.1.2.1 v.1.2.2,.slice v.2.1.1 v.2.1.2.1 v.2.1.2.2,.slice v.2.2.1 v.2.2.2.1 v.2.2.2.2] rfl hG.lt
    (fun i x h=>by
     match i,h with
     | 0,h=>simp at h;subst h;exact⟨rfl,rfl,rfl⟩
     | 1,h=>simp at h;subst h;exact⟨rfl,rfl,rfl⟩
     | i+2,h=>simp at h)
    (fun i x s h1 h2=>by
     match i,h1,h2 with
     | 0,h1,h2=>simp[Do]at h1 h2;subst h1 h2;exact g13.2
     | 1,h1,h2=>simp[Do]at h1 h2;subst h1 h2;exact g18.2
     | i+2,h1,h2=>simp at h1)
    (fun s hs=>by
     simp only[Do,List.mem_cons,List.not_mem_nil,or_false]at hs;rcases hs with rfl|rfl<;>exact⟨by decide,by decide⟩) (by decide)
   (with_reducible refine Ai (w1:=w'.alloc (.cells #[.slice u.1.1 u.1.2.1 u.1.2.2,.slice u.2.1.1 u.2.1.2.1 u.2.1.2.2,.slice u.2.2.1 u.2.2.2.1 u.2.2.2.2,.slice v.1.1 v.1.2.1 v.1.2.2,.slice v.2.1.1 v.2.1.2.1 v.2.1.2.2,.slice v.2.2.1 v.2.2.2.1 v.2.2.2.2] 168)) (v:=.slice (some ⟨w'.heap.size,0,none⟩) 2 2) ?_ ?_ ?_)
   .simp only[Region.wanted]
   .simp[execOp,Act.eval,Act.put,go_sem,e13,e18]
   .exact⟨.of hb,⟨(some ⟨w'.heap.size,0,none⟩,2,2),rfl,fc⟩,by simpa [upd]using hG.later hb⟩
  case refine_21=>
   intro D sp w' hD hW hdp hG;rw[hD]at hG
   have hf4:∃z:Option Addr×Nat×Nat,sp 4=.agg #[.slice xp.1 xp.2.1 xp.2.2,.slice xq.1 xq.2.1 xq.2.2,.slice z.1 z.2.1 z.2.2,.slice ps ns cs]/\Fk w.heap.size 262144 z w':=(hdp 4 (mq (by kernel_rfl))).2
   (with_reducible refine Au hf4 fun z g4=>?_)
   have e4:=g4.1;have hz:=hG.z0 rfl;have c0:=hz.cells.1;have c1:=hz.cells.2.1;have c2:=hz.cells.2.2.1;have c3:=hz.cells.2.2.2;have f0:=hz.free 0;have f1:=hz.free 1;have f2:=hz.free 2;have f3:=hz.free 3;have hst:=Ie hz (u0:=.slice xp.1 xp.2.1 xp.2.2) (u1:=.slice xq.1 xq.2.1 xq.2.2) (u2:=.slice z.1 z.2.1 z.2.2) (u3:=.slice ps ns cs) rfl;have hN:Lm 105 w w0 w.heap.size xp xq (ps,ns,cs) true (sp 4) _:=⟨hG.ag.trans hst.2.1,hst.2.2 _ _ hG.bel (Av _),Dm hG.lt hst.2.1.size,(fun e=>by cases e),fun _=>⟨z,e4,hst.1⟩⟩
   (with_reducible refine An (w1:=(((w'.setCell ⟨w.heap.size,0,none⟩ (.slice xp.1 xp.2.1 xp.2.2)).setCell ⟨w.heap.size,1,none⟩ (.slice xq.1 xq.2.1 xq.2.2)).setCell ⟨w.heap.size,2,none⟩ (.slice z.1 z.2.1 z.2.2)).setCell ⟨w.heap.size,3,none⟩ (.slice ps ns cs)) ?_ ?_ ?_)
   .simp only[Region.wanted]
   .simp[execOp,Act.eval,Act.put,go_sem,e4,c0,c1,c2,c3,f0,f1,f2,f3]
   .exact⟨hst.2.1,trivial,by simpa [upd]using hN⟩
  case refine_22=>
   intro D sp w' hD hW hdp hG;have hf19:∃z:Option Addr×Nat×Nat,sp 19=.slice z.1 z.2.1 z.2.2/\Pp w.heap.size (Do 2) z w':=(hdp 19 (mq (by kernel_rfl))).2
   (with_reducible refine Au hf19 fun z g19=>?_)
   have e19:=g19.1
   (with_reducible refine Ai (w1:=w') (v:=.slice z.1 z.2.1 z.2.2) ?_ ?_ ?_)
   .simp only[Region.wanted]
   .simp[execOp,Act.eval,Act.put,go_sem,e19]
   .exact⟨⟨Av _,fun _ _ _=>rfl⟩,⟨z,rfl,g19.2⟩,by simpa [upd]using hG⟩
  all_goals
   intro D sp w' hD hW hdp hG;simp[asked,Region.wanted,Oper.gives,execOp,Act.eval,Act.put,go_sem]
 .intro sp wf hsp hG;simp only[Am,Nat.reduceAdd];have h21:∃z:Option Addr×Nat×Nat,sp 21=.slice z.1 z.2.1 z.2.2/\Pp w.heap.size (Do 2) z wf:=hsp 21 rfl;have h4:∃z:Option Addr×Nat×Nat,sp 4=.agg #[.slice xp.1 xp.2.1 xp.2.2,.slice xq.1 xq.2.1 xq.2.2,.slice z.1 z.2.1 z.2.2,.slice ps ns cs]/\Fk w.heap.size 262144 z wf:=hsp 4 rfl;obtain⟨zc,ez,hzc⟩:=h21;obtain⟨z,e4,hz⟩:=h4;obtain⟨z',e4',hbx⟩:=hG.z1 rfl;have hzz:z'=z:=by
   rw[e4]at e4'
   simp at e4';obtain⟨h1,h2,h3⟩:=e4';exact Prod.ext h1.symm (Prod.ext h2.symm h3.symm)
  subst hzz;have e0:=hbx.cells.1;have e1:=hbx.cells.2.1;have e2:=hbx.cells.2.2.1;have e3:=hbx.cells.2.2.2;have HP:=Aa (FP.out wf hG.ag);have HQ:=Aa (FQ.out wf hG.ag);have HZ:=Aa hz.out;have HC:=Aa hzc.out;have HBf:=Aa hG.bel;rw[ez];clear hsp hG hbx hz hzc e4 e4' ez;generalize sp 2=s2;generalize sp 4=s4;generalize sp 6=s6;generalize sp 7=s7;generalize sp 8=s8;generalize sp 9=s9;generalize sp 10=s10;generalize sp 11=s11;generalize sp 12=s12;generalize sp 13=s13;generalize sp 15=s15;generalize sp 17=s17;generalize sp 18=s18;generalize sp 19=s19
  go_simp
  go_wp2;refine bodyPost_ret (v:=.tuple #[.agg #[.slice xp.1 xp.2.1 xp.2.2,.slice xq.1 xq.2.1 xq.2.2,.slice z'.1 z'.2.1 z'.2.2,.slice ps ns cs],.slice zc.1 zc.2.1 zc.2.2]) (by simp[results,Tryz.results66,go_sem,e0,e1,e2,e3]) rfl
   ⟨xp,xq,z',zc.1,zc.2.1,zc.2.2,rfl,HP.out,HQ.out,HZ.out,HC.out,HBf.out⟩
theorem Px (w:World)(A:Int)(ps:Option Addr)(ns cs:Nat) :
  Calls Tryz.prog 66 #[.int .i64 A,.slice ps ns cs] w (Nu ((IntKind.u64.wrap A)%3).toNat w ps ns cs):=by
 have hU:0<=IntKind.u64.wrap A:=Int.emod_nonneg _ (by decide);have ht:=Int.tmod_eq_emod_of_nonneg (b:=3) hU;rcases(by omega:IntKind.u64.wrap A%3=0 ∨ IntKind.u64.wrap A%3=1 ∨ IntKind.u64.wrap A%3=2) with h|h|h
 .rw[h];exact Op w A ps ns cs (by rw[ht,h])
 .rw[h];exact Oo w A ps ns cs (by rw[ht,h])
 .rw[h];exact On w A ps ns cs (by rw[ht,h])
end Go.Proofs.YthgoeiegdhphjaaGreatDoor
