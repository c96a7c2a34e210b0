/- Rows of the call's own all of whose cells are integers or slices: they grow, and no number is harmed. Rows of pieces such. -/
import Derived.Test.YtokhckjemidbpaaGreatDoorPlA
import Derived.Lib.SmallJoins
import Derived.Lib.AppendZeros
import Derived.Lib.Walk
import Derived.BigRegion
import Derived.Laws.Rows
import Derived.Laws.OwnMore
set_option maxRecDepth 1000000
set_option maxHeartbeats 16000000
set_option linter.all false
namespace Go.Proofs.YtokhckjemidbpaaGreatDoor
open Go Go.RowKit Go.Proofs.YtokhckjemidbpaaGreatDoor.Flow
theorem jV {w:World}{b P Q GG HH e ex n c X N:Nat}{p:Option Addr}{As:List Nat}{v:Value}(hG:Au w b P Q GG HH)(hA:Aq w e p n c As)(hX:Fit ex X v w)(he:e<=200)(hex:ex<=200)(hn:n<=1000000)(hN:Md P (X%Q) As=N) :
  Calls Tryz.prog 211 #[.pointer (some ⟨b,0,none⟩),.slice p n c,v] w fun en w'=>∃x,en=.returned x/\Fit 33 N x w'/\Below w.heap.size w w':=by
 obtain⟨px,nx,cx,rfl,x1,x2⟩:=Ao hX;have hbx:=bH.mk2 w (.slice px nx cx) (.slice none 0 0);have HE:=Ab (iA (hG.below hbx.bel) (hA.below hbx.bel) ((Fit.of x1 x2).below hbx.bel) he hex hn hN);have HBX:=Ab hbx;have c0:=hbx.b0.cell;clear hG hA hX x1 hbx;go_enter Tryz.func211,Tryz.ntmps211
 go_wp2_with fail
 refine HE.out.mono ?_;rintro en w1 ⟨_,rfl,⟨p1,n1,c1,rfl,h1,l1⟩,hb1⟩;have hx3:=HBX.out.later hb1;have k1:=hx3.b1.cell;have f1:=hx3.b1.free;have HF:=Ab (Fit.of (h1.store hx3.b1 (.slice p1 n1 c1)) l1);have HBF:Aa (Below w.heap.size w (w1.setCell ⟨w.heap.size+1,0,none⟩ (.slice p1 n1 c1))):=⟨hx3.bel.setCell (by simp) _⟩
 clear h1 hx3 hb1 HE HBX c0;go_wp2;exact bodyPost_ret (v:=.agg #[.slice p1 n1 c1]) (by simp[results,Tryz.results211,go_sem,k1]) rfl ⟨_,rfl,HF.out,HBF.out⟩
theorem fX {w:World}{b P Q GG HH e es er ex n c S R X NL NE:Nat}{p:Option Addr}{Cs:List Nat}{vx vs vr:Value}{ANS:Bool}(hg:Au w b P Q GG HH)(hC:Aq w e p n c Cs)(hx:Fit ex X vx w)(hs:Fit es S vs w)(hr:Fit er R vr w)(he:e<=200)(hex:ex<=200)(hes:es<=200)(her:er<=200)(hn:n<=1000000)(hNL:Du P Q GG HH S R=NL)(hNE:Md P (X%Q) Cs=NE)(hA:decide (NL=NE)=ANS) :
  Calls Tryz.prog 171 #[.pointer (some ⟨b,0,none⟩),.slice p n c,vx,vs,vr] w fun en w'=>∃x,en=.returned x/\x=.bool ANS/\Below w.heap.size w w':=by
 obtain⟨px,nx,cx,rfl,h5,h6⟩:=Ao hx;obtain⟨ps,ns,cs,rfl,h1,h2⟩:=Ao hs;obtain⟨pr,nr,cr,rfl,h3,h4⟩:=Ao hr;have hbx:=Xz.mk3 w (.slice px nx cx) (.slice ps ns cs) (.slice pr nr cr);have q0:=hbx.b0;have q1:=hbx.b1;have q2:=hbx.b2;have hbl:=hbx.bel;obtain⟨wa,hwa⟩:∃wa,(((w.alloc (.cells #[.slice px nx cx] 37)).alloc (.cells #[.slice ps ns cs] 37)).alloc (.cells #[.slice pr nr cr] 37))=wa:=⟨_,rfl⟩
 rw[hwa]at q0 q1 q2 hbl
 have HXV:=Ab q0;have HXS:=Ab q1;have HXR:=Ab q2;have HB0:=Ab hbl;have HV:=Ab ((Fit.of h5 h6).below hbl);have HS:=Ab ((Fit.of h1 h2).below hbl);have HR:=Ab ((Fit.of h3 h4).below hbl);have HG:=Ab (hg.below hbl);have HC:=Ab (hC.below hbl);obtain⟨KC,hKC⟩:∃K,Bm NL NE=K:=⟨_,rfl⟩
 have hE:((KC:Int)==0)=ANS:=by
  rw[<-hA,<-hKC,Bool.eq_iff_iff,beq_iff_eq,decide_eq_true_eq];exact Bv
 have HKC:=Ab hKC;have HNL:=Ab hNL;have HNE:=Ab hNE;clear hKC hNL hNE hA h1 h2 h3 h4 h5 h6 hbx q0 q1 q2 hbl hg hs hr hx hC;go_enter Tryz.func171,Tryz.ntmps171;go_wp2;refine Ak (by kernel_rfl) (by kernel_rfl)
  [some (.pointer (some ⟨b,0,none⟩)),some (.bool true),some (.bool true),some (.pointer (some ⟨b,0,none⟩)),some (.agg #[.slice ps ns cs]),some (.agg #[.slice pr nr cr]),none,some (.pointer (some ⟨b,0,none⟩)),some (.slice p n c),some (.agg #[.slice px nx cx]),none,none,some (.bool ANS),some (.bool ANS),some (.bool ANS)]
  [false,false,false,false,false,false,true,false,false,false,true,true,false,false,false] rfl
  (fun w1 w2=>Below w1.heap.size w1 w2)
  (fun _ w'=>Below wa.heap.size wa w')
  (fun i v w'=>match i with
   | 6=>Fit 33 (NL) v w'
   | 10=>Fit 33 (NE) v w'
   | 11=>v=.int .i64 KC
   | _=>True)
  ?_ (Ba _ _).drew ?_ ?_
 .intro i v w1 w2 hf hb;split at hf
  .exact hf.below hb
  .exact hf.below hb
  .exact hf
  .trivial
 .simp only[Bb,Nat.reduceAdd];refine⟨?_,?_,?_,?_,?_,?_,?_,?_,?_,?_,?_,?_,?_,?_,?_,trivial⟩
  all_goals intro D sp w' hD hW hdp hbx'
  case refine_5=>
   have c0:=(HXS.out.below hbx' HXS.out.lt).cell
   with_reducible refine Ad ?_ ?_
   all_goals simp[Region.wanted,yielded,execOp,Act.eval,Act.put,go_sem,c0]
  case refine_6=>
   have c0:=(HXR.out.below hbx' HXR.out.lt).cell
   with_reducible refine Ad ?_ ?_
   all_goals simp[Region.wanted,yielded,execOp,Act.eval,Act.put,go_sem,c0]
  case refine_7=>
   (with_reducible refine Ac (w1:=w') (f := 162) (args:=#[.pointer (some ⟨b,0,none⟩),.agg #[.slice ps ns cs],.agg #[.slice pr nr cr]]) ?_ ?_ ?_)
   .simp[Region.wanted,yielded,Act.put,go_sem]
   .simp[Act.eval,Act.put,go_sem]
   .refine(Zc (HG.out.below hbx') (HS.out.below hbx') (HR.out.below hbx') (by omega) (by omega)).mono ?_;rintro en w9 ⟨u,rfl,hu,hb⟩;rw[HNL.out]at hu
    exact⟨u,rfl,hb,hu,Af hbx' hb⟩
  case refine_10=>
   have c0:=(HXV.out.below hbx' HXV.out.lt).cell
   with_reducible refine Ad ?_ ?_
   all_goals simp[Region.wanted,yielded,execOp,Act.eval,Act.put,go_sem,c0]
  case refine_11=>
   (with_reducible refine Ac (w1:=w') (f := 211) (args:=#[.pointer (some ⟨b,0,none⟩),.slice p n c,.agg #[.slice px nx cx]]) ?_ ?_ ?_)
   .simp[Region.wanted,yielded,Act.put,go_sem]
   .simp[Act.eval,Act.put,go_sem]
   .refine(jV (HG.out.below hbx') (HC.out.below hbx') (HV.out.below hbx') (by omega) (by omega) (by omega) HNE.out).mono ?_;rintro en w9 ⟨u,rfl,hu,hb⟩;exact⟨u,rfl,hb,hu,Af hbx' hb⟩
  case refine_12=>
   have k6:Fit 33 (NL) (sp 6) w':=(hdp 6 (mq (by kernel_rfl))).2;have k10:Fit 33 (NE) (sp 10) w':=(hdp 10 (mq (by kernel_rfl))).2
   (with_reducible refine Ac (w1:=w') (f := 24) (args:=#[sp 6,sp 10]) ?_ ?_ ?_)
   .simp[Region.wanted,yielded,Act.put,go_sem]
   .simp[Act.eval,Act.put,go_sem]
   .refine(Bf k6 k10 (by decide) (by decide) HKC.out).mono ?_;rintro en w9 ⟨_,rfl,rfl,hb⟩;exact⟨_,rfl,hb,rfl,Af hbx' hb⟩
  case refine_13=>
   have k11:(sp 11)=.int .i64 KC:=(hdp 11 (mq (by kernel_rfl))).2
   with_reducible refine Ad ?_ ?_
   all_goals simp[Region.wanted,yielded,execOp,Act.eval,Act.put,go_sem,k11,hE]
  all_goals ((with_reducible refine Ad ?_ ?_);all_goals first|(simp only[Region.wanted];done)|simp[Region.wanted,yielded,execOp,Act.eval,Act.put,go_sem])
 .intro sp w9 hsp hbx';have HB9:=Ab (Af HB0.out hbx');clear hsp hbx' hE;simp only[Al,Nat.reduceAdd];generalize sp 6=y6,sp 10=y10,sp 11=y11 at *
  go_simp
  go_wp2;go_ret;exact⟨_,rfl,rfl,HB9.out⟩
structure KC (B:Nat) (w w':World):Prop where
 bel:Below B w w'
 cell:∀p v,w.cell? p=some v->w'.cell? p=some v
 shape:∀g s,w.shape? g=some s->w'.shape? g=some s
def Qw (P Q N:Nat):Bool:=decide (0<N/\N<P/\N^Q%P=1)
theorem Qq (p:Nat->Bool):∀l:List Nat,(!l.any fun x=>!p x)=l.all p
 | []=>rfl
 | a::l=>by
  have:=Qq p l;simp only[List.any_cons,List.all_cons];rw[<-this];cases p a<;>simp
theorem Zb {w:World}{bg P Q G H:Nat}(b:Nat)(e:Nat)(Ns:List Nat)(hb:b<w.heap.size)(hc:w.cell? ⟨b,0,none⟩=some (.pointer (some ⟨bg,0,none⟩)))(hg:Au w bg P Q G H)(he:e<=30000) :
  Asks 208 #[.pointer (some ⟨b,0,none⟩)] w e Ns (fun N=>!Qw P Q N):=by
 refine⟨fun W N u hbw _ hu=>?_⟩;have hc':W.cell? ⟨b,0,none⟩=some (.pointer (some ⟨bg,0,none⟩)):=(hbw.cell (p:=⟨b,0,none⟩) hb).trans hc;obtain⟨pu,nu,cu,rfl,hu1,hu2⟩:=hu;have hbx:=Dw.mk1 W (.slice pu nu cu) 37;have hbW:b<W.heap.size:=Da hb hbw.size;have hc2:(W.alloc (.cells #[.slice pu nu cu] 37)).cell? ⟨b,0,none⟩=some (.pointer (some ⟨bg,0,none⟩)):=(hbx.bel.cell (p:=⟨b,0,none⟩) hbW).trans hc';have HA:=Ab ((Fit.of hu1 hu2).below hbx.bel);have HG:=Ab ((hg.below hbw).below hbx.bel);have HBX:=Ab hbx.bel;clear hu1 hu2 hbx hc' hc hg;go_enter Tryz.func208,Tryz.ntmps208
 go_wp2_with fail
 refine(aD HG.out HA.out he).mono ?_;rintro en w1 ⟨rfl,hb1⟩;obtain⟨X,hX⟩:∃X,decide (0<N/\N<P/\N^Q%P=1)=X:=⟨_,rfl⟩
 have HE:Aa (Qw P Q N=X):=⟨hX⟩
 rw[hX];have HB1:=Ab (Af HBX.out hb1);clear hb1 hc2 hX;go_wp2;go_ret;exact⟨by rw[HE.out];rfl,HB1.out⟩
theorem Wq {w:World}{bg P Q G H e n c:Nat}{p:Option Addr}{Ns:List Nat}(hg:Au w bg P Q G H)(h:Aq w e p n c Ns)(he:e<=30000) :
  Calls Tryz.prog 164 #[.pointer (some ⟨bg,0,none⟩),.slice p n c] w fun en w'=>en=.returned (.bool (Ns.all (Qw P Q)))/\Below w.heap.size w w':=by
 have hbx:=Dw.mk1 w (.pointer (some ⟨bg,0,none⟩)) 25;have HP:=Ab (h.below hbx.bel);have HA:=Ab (Zb (w:=w.alloc (.cells #[.pointer (some ⟨bg,0,none⟩)] 25)) w.heap.size e Ns (by simp) hbx.c0 (hg.below hbx.bel) he);have HBX:=Ab hbx.bel;obtain⟨X,hX⟩:∃X,(Ns.any fun N=>!Qw P Q N)=X:=⟨_,rfl⟩
 have HE:Aa (Ns.all (Qw P Q) = !X):=⟨by rw[<-hX,Qq]⟩
 have HX:=Ab hX;clear h hbx hg hX;go_enter Tryz.func164,Tryz.ntmps164
 go_wp2_with fail
 refine(Ji _ e p n c Ns _ _ (enters_of Tryz.func208 (by kernel_rfl) rfl) _ HP.out HA.out).mono ?_;rintro en w1 ⟨rfl,hb1⟩;rw[HX.out];have HB1:=Ab (Af HBX.out hb1);clear hb1;go_wp2;go_ret;exact⟨by rw[HE.out];rfl,HB1.out⟩
def Fl (u:Value):Prop:=(∃x:Int,u=.int .i64 x) ∨ ∃(q:Option Addr) (k d:Nat),u=.slice q k d
theorem Fl.int (x:Int):Fl (.int .i64 x):=.inl ⟨x,rfl⟩
theorem Fl.slice (q:Option Addr)(k d:Nat):Fl (.slice q k d):=.inr ⟨q,k,d,rfl⟩
theorem Fl.one {u:Value}(h:Fl u):u.oneCell'=true:=by
 rcases h with ⟨x,rfl⟩|⟨q,k,d,rfl⟩<;>rfl
structure Ix (e:TypeId) (sz:Nat) (w:World) (B:Nat) (v:Value) (n:Nat) (us:List Value):Prop where
 own:w.ownsRow B e sz v n us
 soft:∀(g:Nat) (cur:Array Value),v.ownBlock=some g->w.heap[g]? = some (.cells cur e (0,0))->∀u∈cur.toList,Fl u
section
variable {e:TypeId} {sz:Nat} {w:World} {B:Nat} {v:Value} {n:Nat} {us:List Value}
theorem Ix.nil:Ix e sz w B (.slice none 0 0) 0 []:=⟨World.ownsRow_nil w B e sz,fun g _ h=>by cases h⟩
theorem Ix.block (h:Ix e sz w B v n us):∀g,v.ownBlock=some g->B<=g/\g<w.heap.size:=Hx h.own
theorem Ix.keep {w':World}(h:Ix e sz w B v n us)(hk:∀g,v.ownBlock=some g->w'.heap[g]? = w.heap[g]?):Ix e sz w' B v n us :=
 ⟨Jh h.own hk,fun g cur hg hc=>h.soft g cur hg (by rw[<-hk g hg];exact hc)⟩
theorem Ix.below {w':World}(h:Ix e sz w B v n us)(hb:Below w.heap.size w w'):Ix e sz w' B v n us:=h.keep fun g hg=>hb.block g (h.block g hg).2
theorem Us {z:Array Value}(hz:∀u∈z.toList,Fl u)(h0:0<z.size)(m:Nat):∀u∈(Builtin.zeroCells z m).toList,Fl u:=fun u hu=>by
 unfold Builtin.zeroCells at hu;rw[Array.toList_map]at hu
 obtain⟨i,_,rfl⟩:=List.mem_map.1 hu;have hi:i%z.size<z.size:=Nat.mod_lt _ h0;rw[getElem!_pos z (i%z.size) hi];exact hz _ (by rw[<-Array.getElem_toList];exact List.getElem_mem _)
theorem Ix.app {st:TypeId}{bytes:Nat}{i:TypeInfo}(hu:Tryz.prog.underlying st=some (.slice e))(hi:Tryz.prog.info? e=some i){z0:Value}(hz:i.zero=some z0)(hs:i.size=sz)(hb:i.bytes=bytes)(hzs:z0.cells.size=sz)(hsz:0<sz)(hby:bytes<=1000)(hzo:∀u∈z0.cells.toList,Fl u)(h:Ix e sz w B v n us)(hB:B<=w.heap.size){a:Addr}{c:Nat}{news:List Value}(hl:news.length=sz)(hc:∀j u,news[j]? = some u->w.cell? (a.add j)=some u)(hn:∀u∈news,Fl u)(hm:n<=1000000)(ty:TypeId) :
  ∃v' w',(Builtin.append_ #[st,st] ty #[v,.slice (some a) 1 c]).run Tryz.prog w=.ok v' w'/\Ix e sz w' B v' (n+1) (us++news)/\w.grownBy w' v.ownBlock/\Po w v v':=by
 have hfit:(n+1)*bytes<=140737488355328:=Er (Nat.mul_le_mul (Nat.add_le_add_right hm 1) hby) (by decide);obtain⟨v',w',k1,k2,k3,k4⟩:=Ry hu hi hz hs hb hzs hsz h.own (a:=a) (m:=1) (c:=c) (news:=news) (by rw[hl,Nat.one_mul]) hc (fun u hu=>(hn u hu).one) (by simp only[maxLen];omega) hfit hB ty;refine⟨v',w',k1,⟨k2,fun g cur hg hcur=>?_⟩,k3,k4⟩;rcases h.own.2 with ⟨rfl,rfl⟩|⟨g0,cap,cur0,rfl,hbg,hg0,hnc,hcm,hcs,ht⟩
 .have hr:=run_append_nil (P:=Tryz.prog) (w:=w) st ty e i z0 hu hi hz a 1 c news (by rw[hs,hl,Nat.one_mul]) hc (by decide) (by decide) (by rw[hb,Nat.one_mul];omega);rw[k1]at hr
  injection hr with e1 e2
  subst e1 e2;obtain rfl:w.heap.size=g:=by simpa [Value.ownBlock]using hg
  have hx:=heap_alloc_new w.drew (.cells (news.toArray++Builtin.zeroCells z0.cells (grownCap w 1 0 e-1)) e);rw[show w.drew.heap.size=w.heap.size from rfl]at hx
  rw[hx]at hcur
  injection hcur with h1
  injection h1 with h2
  subst h2;intro u hmem;rw[Array.toList_append]at hmem
  rcases List.mem_append.1 hmem with h3|h3
  .exact hn u (by simpa using h3)
  .exact Us hzo (by omega) _ u h3
 .have hold:∀u∈cur0.toList,Fl u:=h.soft g0 cur0 rfl hg0
  by_cases hroom:n+1<=cap
  .have hr:=run_append_room (P:=Tryz.prog) w st ty e i hu hi g0 n cap cur0 hg0 a 1 c news (by rw[hs,hl,Nat.one_mul]) hc (fun u hu=>(hn u hu).one) hroom (by rw[hs,hl,hcs,<-Nat.succ_mul];exact Nat.mul_le_mul_right _ hroom);rw[k1]at hr
   injection hr with e1 e2
   subst e1 e2;obtain rfl:g0=g:=by simpa [Value.ownBlock]using hg
   rw[setRow_heap w g0 _ _ _ _ hg0]at hcur
   injection hcur with h1
   injection h1 with h2
   subst h2;intro u hmem;rcases List.mem_append.1 hmem with h3|h3
   .rcases List.mem_append.1 h3 with h4|h4
    .exact hold u (List.mem_of_mem_take h4)
    .exact hn u h4
   .exact hold u (List.mem_of_mem_drop h3)
  .have hgg:cap<n+1:=by omega
   have hr:=run_append_grow (P:=Tryz.prog) (w:=w) st ty e i z0 hu hi hz ⟨g0,0,none⟩ n cap us (by rw[hs];exact h.own.1) (fun j u hj=>World.ownsRow.cells h.own rfl j u hj) a 1 c news (by rw[hs,hl,Nat.one_mul]) hc hgg (by omega) (growslice_fits hgg (by rw[hb];exact hfit));rw[k1]at hr
   injection hr with e1 e2
   subst e1 e2;obtain rfl:w.heap.size=g:=by simpa [Value.ownBlock]using hg
   have hx:=heap_alloc_new w.drew (.cells (us.toArray++news.toArray++Builtin.zeroCells z0.cells (grownCap w (n+1) cap e-(n+1))) e);rw[show w.drew.heap.size=w.heap.size from rfl]at hx
   rw[hx]at hcur
   injection hcur with h1
   injection h1 with h2
   subst h2;intro u hmem;rw[Array.toList_append,Array.toList_append]at hmem
   rcases List.mem_append.1 hmem with h3|h3
   .rcases List.mem_append.1 h3 with h4|h4
    .refine hold u ?_;rw[<-ht]at h4
     exact List.mem_of_mem_take (by simpa using h4)
    .exact hn u (by simpa using h4)
   .exact Us hzo (by omega) _ u h3
theorem Ix.apart (h:Ix e sz w B v n us){g:Nat}(hg:v.ownBlock=some g){off:Nat}{u:Value}(hc:w.cell? ⟨g,off,none⟩=some u):Fl u:=by
 rcases h.own.2 with ⟨rfl,_⟩|⟨g0,cap,cur0,rfl,_,hg0,_⟩
 .cases hg
 .obtain rfl:g0=g:=by simpa [Value.ownBlock]using hg
  simp only[World.cell?,hg0]at hc;exact h.soft g0 cur0 rfl hg0 u (by
   obtain⟨hi,hx⟩:=Gs hc;rw[<-hx];exact Array.getElem_mem_toList hi)
theorem Sg {w':World}{p:Option Addr}{m c N:Nat}(hr:Ix e sz w B v n us)(hg:w.grownBy w' v.ownBlock)(h:Ag w p m c N):Ag w' p m c N:=by
 rcases Nat.eq_zero_or_pos m with rfl|h0
 .obtain⟨ws,r1,r2,r3,r4⟩:=h.ex;refine⟨ws,⟨r1.len,r1.cap,r1.max,?_⟩,r2,r3,r4⟩;rcases r1.at_ with k|⟨b,off,k1,k2,k3⟩
  .exact .inl k
  .refine .inr ⟨b,off,k1,Da k2 hg.size,fun i x hx=>?_⟩;have:ws=[]:=List.eq_nil_of_length_eq_zero r1.len.symm;rw[this]at hx;cases hx
 .refine Cj.stay h hg.size fun q hq o=>World.cell?_of_block (a:=⟨q.block,o,none⟩) (hg.block q.block (Cj.lt h q hq) fun e=>?_)
  obtain⟨ws,r1,r2,r3,r4⟩:=h.ex;obtain⟨b',off,k1,k2,k3⟩:=r1.pos h0;rw[k1]at hq;cases hq
  have h1:=k3 0 (ws.getD 0 0) (by rw[Dn];simp[show 0<ws.length by rw[<-r1.len];exact h0]);rw[Nat.add_zero]at h1
  rcases hr.apart e.symm h1 with ⟨x,hx⟩|⟨q,k,d,hx⟩
  .cases hx
  .cases hx
end
structure Iz (F:Fi->Option Addr×Nat×Nat->Option Addr×Nat×Nat->World->Prop) (e:TypeId) (B:Nat) (w:World) (v:Value) (l:List Fi):Prop where
 ex:∃vs:List Value,Ix e 3 w B v l.length vs/\∀(i:Nat) (s:Fi),l[i]? = some s->∃x y:Option Addr×Nat×Nat,
  vs[i*3]? = some (.int .i64 s.1)/\vs[i*3+1]? = some (.slice x.1 x.2.1 x.2.2)/\vs[i*3+2]? = some (.slice y.1 y.2.1 y.2.2)/\F s x y w
section
variable {F:Fi->Option Addr×Nat×Nat->Option Addr×Nat×Nat->World->Prop} {e:TypeId} {B:Nat} {w:World} {v:Value} {l:List Fi}
theorem Iz.nil:Iz F e B w (.slice none 0 0) []:=⟨[],Ix.nil,fun i s h=>by simp at h⟩
theorem Iz.block (h:Iz F e B w v l):∀g,v.ownBlock=some g->B<=g/\g<w.heap.size:=by obtain⟨_,h1,_⟩:=h.ex;exact h1.block
theorem Iz.below {w':World}(h:Iz F e B w v l)(hb:Below w.heap.size w w')(hF:∀s x y,F s x y w->F s x y w'):Iz F e B w' v l:=by
 obtain⟨vs,h1,h2⟩:=h.ex;exact⟨vs,h1.below hb,fun i s hs=>let ⟨x,y,k1,k2,k3,k4⟩:=h2 i s hs;⟨x,y,k1,k2,k3,hF _ _ _ k4⟩⟩
theorem Iz.len (h:Iz F e B w v l):∃vs,Ix e 3 w B v l.length vs:=let ⟨vs,h1,_⟩:=h.ex;⟨vs,h1⟩
theorem Iz.app {st:TypeId}{bytes:Nat}{i:TypeInfo}(hu:Tryz.prog.underlying st=some (.slice e))(hi:Tryz.prog.info? e=some i){z0:Value}(hz:i.zero=some z0)(hs:i.size=3)(hb:i.bytes=bytes)(hzs:z0.cells.size=3)(hby:bytes<=1000)(hzo:∀u∈z0.cells.toList,Fl u)(h:Iz F e B w v l)(hB:B<=w.heap.size){g c:Nat}{s:Fi}{x y:Option Addr×Nat×Nat}(hc0:w.cell? ⟨g,0,none⟩=some (.int .i64 s.1))(hc1:w.cell? ⟨g,1,none⟩=some (.slice x.1 x.2.1 x.2.2))(hc2:w.cell? ⟨g,2,none⟩=some (.slice y.1 y.2.1 y.2.2))(hF:∀(w':World) (s:Fi) (x y:Option Addr×Nat×Nat),w.grownBy w' v.ownBlock->F s x y w->F s x y w')(hN:F s x y w)(hl:l.length<=1000000)(ty:TypeId) :
  ∃v' w',(Builtin.append_ #[st,st] ty #[v,.slice (some ⟨g,0,none⟩) 1 c]).run Tryz.prog w=.ok v' w'/\Iz F e B w' v' (l++[s])/\w.grownBy w' v.ownBlock:=by
 obtain⟨vs,h1,h3⟩:=h.ex;have h2:=h1.own.1;obtain⟨v',w',k1,k2,k3,k4⟩:=h1.app hu hi hz hs hb hzs (by decide) hby hzo hB (a:=⟨g,0,none⟩) (c:=c) (news:=[.int .i64 s.1,.slice x.1 x.2.1 x.2.2,.slice y.1 y.2.1 y.2.2]) rfl
  (fun j u hj=>by
   match j,hj with
   | 0,hj=>simp at hj;subst hj;exact hc0
   | 1,hj=>simp at hj;subst hj;exact hc1
   | 2,hj=>simp at hj;subst hj;exact hc2
   | j+3,hj=>simp at hj)
  (fun u hj=>by simp at hj;rcases hj with rfl|rfl|rfl<;>first|exact Fl.int _|exact Fl.slice _ _ _) hl ty
 refine⟨v',w',k1,⟨vs++[.int .i64 s.1,.slice x.1 x.2.1 x.2.2,.slice y.1 y.2.1 y.2.2],by rw[List.length_append];exact k2,fun j M hM=>?_⟩,k3⟩;rcases Nat.lt_or_ge j l.length with hj|hj
 .rw[List.getElem?_append_left hj]at hM
  obtain⟨x',y',g0,g1,g2,g3⟩:=h3 j M hM;exact⟨x',y',by rw[List.getElem?_append_left (by omega)];exact g0,by rw[List.getElem?_append_left (by omega)];exact g1,by rw[List.getElem?_append_left (by omega)];exact g2,hF _ _ _ _ k3 g3⟩
 .rw[List.getElem?_append_right hj]at hM
  obtain⟨t,ht⟩:∃t,j-l.length=t:=⟨_,rfl⟩
  rw[ht]at hM
  cases t with
  | zero=>
   simp at hM;subst hM;have e0:j*3-vs.length=0:=by omega
   have e1:j*3+1-vs.length=1:=by omega
   have e2:j*3+2-vs.length=2:=by omega
   exact⟨x,y,by rw[List.getElem?_append_right (by omega),e0];rfl,by rw[List.getElem?_append_right (by omega),e1];rfl,by rw[List.getElem?_append_right (by omega),e2];rfl,hF _ _ _ _ k3 hN⟩
  | succ t=>simp at hM
theorem Iz.elim (h:Iz F e B w v l):∃p c,v=.slice p l.length c/\l.length<=c/\c<=9223372036854775807/\(p=none->c=0) /\
  (0<l.length->∃b off,p=some ⟨b,off,none⟩/\b<w.heap.size/\∀(i:Nat) (s:Fi),l[i]? = some s->∃x y:Option Addr×Nat×Nat,
   w.cell? ⟨b,off+i*3,none⟩=some (.int .i64 s.1)/\w.cell? ⟨b,off+i*3+1,none⟩=some (.slice x.1 x.2.1 x.2.2)/\w.cell? ⟨b,off+i*3+2,none⟩=some (.slice y.1 y.2.1 y.2.2)/\F s x y w):=by
 obtain⟨vs,h1,h3⟩:=h.ex;have h2:=h1.own.1;rcases h1.own.2 with ⟨rfl,h0⟩|⟨g,cap,cur,rfl,hb,hg,hnc,hcm,hcs,ht⟩
 .exact⟨none,0,by rw[h0],by omega,by omega,fun _=>rfl,fun h=>by omega⟩
 .have hlt:g<w.heap.size:=(Gs hg).1;have hcell:∀(o:Nat) (u:Value),vs[o]? = some u->w.cell? ⟨g,0+o,none⟩=some u:=by
   intro o u hu;have h6:(cur.toList.take (l.length*3))[o]? = some u:=by rw[ht];exact hu
   have ho:o<l.length*3:=by rw[<-h2];exact(List.getElem?_eq_some_iff.1 hu).1
   rw[List.getElem?_take,if_pos ho]at h6
   unfold World.cell?
   dsimp only
   rw[hg];simp only[Nat.zero_add];rw[Array.getElem?_toList]at h6
   exact h6
  refine⟨some ⟨g,0,none⟩,cap,rfl,hnc,by simpa [maxLen]using hcm,(fun h=>by cases h),fun _=>⟨g,0,rfl,hlt,fun i s hs=>?_⟩⟩;obtain⟨x,y,k0,k1,k2,k3⟩:=h3 i s hs;exact⟨x,y,hcell _ _ k0,hcell _ _ k1,hcell _ _ k2,k3⟩
end
theorem Iz.ppcs {t:TypeId}{B e:Nat}{w:World}{v:Value}{l:List Fi}(h:Iz (Pn e) t B w v l):∃p c,v=.slice p l.length c/\Ua w e p l.length c l:=by
 obtain⟨p,c,h1,h2,h3,h4,h5⟩:=h.elim;exact⟨p,c,h1,rfl,h2,h3,h4,h5⟩
theorem Pn.grown {e:Nat}{s:Fi}{x y:Option Addr×Nat×Nat}{w w':World}{t:TypeId}{sz B n:Nat}{v:Value}{us:List Value}(hr:Ix t sz w B v n us)(hg:w.grownBy w' v.ownBlock)(h:Pn e s x y w):Pn e s x y w':=⟨Sg hr hg h.n,Sg hr hg h.r,h.ln,h.lr⟩
end Go.Proofs.YtokhckjemidbpaaGreatDoor
