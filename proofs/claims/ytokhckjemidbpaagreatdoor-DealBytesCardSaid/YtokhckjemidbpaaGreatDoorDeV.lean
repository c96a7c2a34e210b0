/- A share as the document's, and its bytes (law14's of, the document's Bytes). -/
import Derived.Lib.SlBytesConst
import Derived.Test.YtokhckjemidbpaaGreatDoorDeC
import Derived.Lib.AppendZeros
import Derived.Lib.Walk
import Derived.BigRegion
import Derived.Laws.Rows
import Derived.Laws.OwnMore
import Derived.Lib.SmallJoins
set_option maxRecDepth 1000000
set_option maxHeartbeats 16000000
set_option linter.all false
namespace Go.Proofs.YtokhckjemidbpaaGreatDoor
open Go Go.RowKit
def pp:Nat:=2^130-5
open Go Go.RowKit Go.Proofs.YtokhckjemidbpaaGreatDoor.Flow
theorem Rx {w:World}{g n:Nat}{xs:List Nat}(hx:Bi w g 5 .u8 xs)(hl:n=xs.length){p:Option Addr}{m c:Nat}{bs:List Nat}(hr:Bb w .u8 p m c bs)(hm:0<m)(hmax:n+m<=140737488355328)(ty:TypeId){C:Prop}(k:∀v' w',(Builtin.append_ #[23, 23] ty #[.slice (some ⟨g,0,none⟩) n n,.slice p m c]).run Tryz.prog w=.ok v' w'->Own w' w.heap.size v' (xs++bs)->Below w.heap.size w w'->C):C:=by
 obtain⟨i,hi,hz,hs,hb⟩:=info_parts Tryz.info_u8;have hbl:=hr.len;obtain⟨b,off,e,h2,h3⟩:=(hr.row hm).pos hm;subst e;obtain⟨v',w',h1,h4,h5⟩:=run_append_arg_grows (P:=Tryz.prog) w 23 ty 5 i (.int .u8 0) 1 1 Tryz.underlying23 hi hz hs hb rfl (by decide) ⟨g,0,none⟩ n n (xs.map fun(x:Nat)=>Value.int .u8 (x:Int)) (by simp[hl])
  (fun j u hu=>by
   rw[List.getElem?_map]at hu
   obtain⟨x,hx',rfl⟩:=Option.map_eq_some_iff.1 hu;rw[add_plain,Nat.zero_add];exact hx.cell hx')
  ⟨b,off,none⟩ m c (bs.map fun(x:Nat)=>Value.int .u8 (x:Int)) (by simp[hbl])
  (fun j u hu=>by
   rw[List.getElem?_map]at hu
   obtain⟨x,hx,rfl⟩:=Option.map_eq_some_iff.1 hu;rw[add_plain];exact h3 j x hx) (by omega) (by simp only[maxLen];omega) (by omega)
 refine k v' w' h1 ⟨?_⟩ ⟨h5.os,h5.tape,h5.output,h5.size,fun k hk=>h5.block k hk (by simp)⟩;rw[List.length_append,List.map_append,<-hl,<-hbl];exact h4
theorem dH {w w':World}{p:Option Addr}{n c N b:Nat}{vs:Array Value}{T:TypeId}{m:Nat×Nat}(h:Bj w p n c N)(hb:w.heap[b]? = some (.cells vs T m))(hs:∀(j:Nat) (u:Value),vs[j]? = some u->∃q k d,u=.slice q k d)(hz:w.heap.size<=w'.heap.size)(ho:∀g,g≠b->w'.heap[g]? = w.heap[g]?):Bj w' p n c N:=by
 rcases Nat.eq_zero_or_pos n with rfl|h0
 .refine⟨h.len,h.cap,h.max,?_⟩;rcases h.at_ with k|⟨g,off,k1,k2,k3⟩
  .exact .inl k
  .refine .inr ⟨g,off,k1,Dk k2 hz,fun i x hx=>?_⟩;have:bitsOf N=[]:=List.eq_nil_of_length_eq_zero h.len.symm;rw[this]at hx;cases hx
 .refine Xr.stay h hz fun q hq o=>World.cell?_of_block (a:=⟨q.block,o,none⟩) (ho q.block fun e=>?_)
  obtain⟨b',off,k1,k2,k3⟩:=Ir.pos h h0;rw[k1]at hq;cases hq
  have hbb:b'=b:=e;subst hbb;have hl:n=(bitsOf N).length:=h.len;have h1:=k3 0 ((bitsOf N)[0]'(by omega)) (List.getElem?_eq_getElem _);rw[Nat.add_zero]at h1
  simp only[World.cell?,hb]at h1;obtain⟨q,k,d,hu⟩:=hs _ _ h1;cases hu
theorem Rm {w:World}{b N:Nat}{q:P3}{T:TypeId}{x y:P3}{u v:Value}(h:Bj w q.1 q.2.1 q.2.2 N)(hb:w.heap[b]? = some (.cells #[.slice x.1 x.2.1 x.2.2,.slice y.1 y.2.1 y.2.2] T (0,0))):Bj (set2 w b u v) q.1 q.2.1 q.2.2 N:=by
 have hk:=put2 (u0:=u) (u1:=v) hb;exact dH h hb (Rv x y) (Nat.le_of_eq hk.size.symm) hk.old
def eE (S R:Nat)(v:Value)(w:World):Prop:=∃x y:P3,v=.agg #[.slice x.1 x.2.1 x.2.2,.slice y.1 y.2.1 y.2.2]/\Bj w x.1 x.2.1 x.2.2 S/\Bj w y.1 y.2.1 y.2.2 R
theorem eE.below {S R:Nat}{v:Value}{w w':World}(h:eE S R v w)(hb:Below w.heap.size w w'):eE S R v w':=let ⟨x,y,h1,h2,h3⟩:=h;⟨x,y,h1,h2.below hb,h3.below hb⟩
theorem Vg {w:World}{S R es er:Nat}{x y:P3}(hx:Br w x S)(lx:S<Al es)(hy:Br w y R)(ly:R<Al er)(he1:es<=200)(he2:er<=200) :
  Calls Tryz.prog 49 #[.agg #[.slice x.1 x.2.1 x.2.2,.slice y.1 y.2.1 y.2.2]] w fun en w'=>∃u,en=.returned u/\eE S R u w'/\Below w.heap.size w w':=by
 have h1:=Bo.made 75 w (.slice x.1 x.2.1 x.2.2) (.slice y.1 y.2.1 y.2.2);have hz:(w.alloc (.cells #[.slice x.1 x.2.1 x.2.2,.slice y.1 y.2.1 y.2.2] 75)).heap.size=w.heap.size+1:=by simp
 have hb0:Below w.heap.size w (w.alloc (.cells #[.slice x.1 x.2.1 x.2.2,.slice y.1 y.2.1 y.2.2] 75)):=By;have h2:=Bo.made 82 (w.alloc (.cells #[.slice x.1 x.2.1 x.2.2,.slice y.1 y.2.1 y.2.2] 75)) (.slice none 0 0) (.slice none 0 0);have hb2:Below (w.alloc (.cells #[.slice x.1 x.2.1 x.2.2,.slice y.1 y.2.1 y.2.2] 75)).heap.size (w.alloc (.cells #[.slice x.1 x.2.1 x.2.2,.slice y.1 y.2.1 y.2.2] 75)) ((w.alloc (.cells #[.slice x.1 x.2.1 x.2.2,.slice y.1 y.2.1 y.2.2] 75)).alloc (.cells #[.slice none 0 0,.slice none 0 0] 82)):=By;have h12:=h1.later hb2;have hba:=Ab hb0 hb2;rw[hz]at h2
 obtain⟨wa,hwa⟩:∃zz,((w.alloc (.cells #[.slice x.1 x.2.1 x.2.2,.slice y.1 y.2.1 y.2.2] 75)).alloc (.cells #[.slice none 0 0,.slice none 0 0] 82))=zz:=⟨_,rfl⟩
 rw[hwa]at h2 h12 hba
 have HXA:=Ac h12;have HXB:=Ac h2;have HB:=Ac hba;have HS:=Ac ((Fit.of hx lx).below hba);have HR:=Ac ((Fit.of hy ly).below hba);clear hx lx hy ly h1 hz hb0 h2 hb2 h12 hba;go_enter Tryz.func49,Tryz.ntmps49;go_wp2;refine Am (by kernel_rfl) (by kernel_rfl)
  [some (.pointer (some ⟨w.heap.size,0,none⟩)),some (.agg #[.slice x.1 x.2.1 x.2.2]),none,some (.pointer (some ⟨w.heap.size,1,none⟩)),some (.agg #[.slice y.1 y.2.1 y.2.2]),none,none,none]
  [false,false,true,false,false,true,true,true] rfl
  (fun _ _=>True) (fun D sp w'=>S2 wa (fun x=>.slice x.1 x.2.1 x.2.2) (fun x w=>Bj w x.1 x.2.1 x.2.2 S) (fun x w=>Bj w x.1 x.2.1 x.2.2 R) (w.heap.size+1) (D 2) (D 5) (D 6) (D 7) (sp 2) (sp 5) (sp 6) w') (fun _ _ _=>True) (fun _ _ _ _ _ _=>trivial)
  S2.start ?_ ?_
 .simp only[Bg,Nat.reduceAdd];refine⟨?_,?_,?_,?_,?_,?_,?_,?_,trivial⟩
  case refine_2=>
   intro D sp w' hD hW hdp hg;have dc:D 2=false:=hW 2 (mq (by kernel_rfl));rw[dc]at hg
   have d4:=hg.n1;rw[d4]at hg
   have hp:=hg.pre rfl;have c0:=(HXA.out.below hp HXA.out.lt).cells.1
   (with_reducible refine Ai (w1:=w') (v:=.agg #[.slice x.1 x.2.1 x.2.2]) ?_ ?_ ?_)
   .simp[Region.wanted,yielded,Act.put,go_sem]
   .simp[execOp,Act.eval,Act.put,go_sem,c0]
   .exact⟨rfl,rfl⟩
  case refine_3=>
   intro D sp w' hD hW hdp hg;rw[hD]at hg
   have d4:=hg.n1;rw[d4]at hg
   have hp:=hg.pre rfl
   (with_reducible refine Ad (w1:=w') (f := 29) (args:=#[.agg #[.slice x.1 x.2.1 x.2.2]]) ?_ ?_ ?_)
   .simp[Region.wanted,yielded,Act.put,go_sem]
   .simp[Act.eval,Act.put,go_sem]
   .refine(Es (HS.out.below hp) he1).mono ?_;rintro en w9 ⟨_,rfl,⟨p9,n9,c9,rfl,u1⟩,hb⟩;have hu:(fun x:P3=>Bj w9 x.1 x.2.1 x.2.2 S) (p9,n9,c9):=u1;exact⟨_,rfl,trivial,trivial,by simpa [upd,d4]using(hg.later hb (fun x k=>Bj.below k hb) (fun x k=>Bj.below k hb)).put1 hu⟩
  case refine_5=>
   intro D sp w' hD hW hdp hg;have dc:D 5=false:=hW 5 (mq (by kernel_rfl));rw[dc]at hg
   have d4:=hg.n2;rw[d4]at hg
   have hp:=hg.pre rfl;have c0:=(HXA.out.below hp HXA.out.lt).cells.2
   (with_reducible refine Ai (w1:=w') (v:=.agg #[.slice y.1 y.2.1 y.2.2]) ?_ ?_ ?_)
   .simp[Region.wanted,yielded,Act.put,go_sem]
   .simp[execOp,Act.eval,Act.put,go_sem,c0]
   .exact⟨rfl,rfl⟩
  case refine_6=>
   intro D sp w' hD hW hdp hg;rw[hD]at hg
   have d4:=hg.n2;rw[d4]at hg
   have hp:=hg.pre rfl
   (with_reducible refine Ad (w1:=w') (f := 29) (args:=#[.agg #[.slice y.1 y.2.1 y.2.2]]) ?_ ?_ ?_)
   .simp[Region.wanted,yielded,Act.put,go_sem]
   .simp[Act.eval,Act.put,go_sem]
   .refine(Es (HR.out.below hp) he2).mono ?_;rintro en w9 ⟨_,rfl,⟨p9,n9,c9,rfl,u1⟩,hb⟩;have hu:(fun x:P3=>Bj w9 x.1 x.2.1 x.2.2 R) (p9,n9,c9):=u1;exact⟨_,rfl,trivial,trivial,by simpa [upd,d4]using(hg.later hb (fun x k=>Bj.below k hb) (fun x k=>Bj.below k hb)).put2 hu⟩
  case refine_7=>
   intro D sp w' hD hW hdp hg;have d1:D 2=true:=(hdp 2 (mq (by kernel_rfl))).1;have d2:D 5=true:=(hdp 5 (mq (by kernel_rfl))).1;rw[hD,d1,d2]at hg
   have d4:=hg.n3;rw[d4]at hg
   (with_reducible refine Bc (hg.p1 rfl rfl) fun x hx=>Bc (hg.p2 rfl rfl) fun y hy=>?_)
   have h1:=hx.1;have h2:=hy.1
   (with_reducible refine Ai (w1:=w') (v:=.agg #[.slice x.1 x.2.1 x.2.2,.slice y.1 y.2.1 y.2.2]) ?_ ?_ ?_)
   .simp only[Region.wanted]
   .simp[execOp,Act.eval,Act.put,go_sem,h1,h2]
   .exact⟨trivial,trivial,by simpa [upd,d1,d2,d4]using hg.put3 hx.2 hy.2⟩
  case refine_8=>
   intro D sp w' hD hW hdp hg;have d3:D 6=true:=(hdp 6 (mq (by kernel_rfl))).1;rw[hD,d3]at hg
   (with_reducible refine Bc (hg.p3 rfl rfl) fun x hx=>Bc hx fun y hy=>?_)
   have h1:=hy.1;have g0:=Sz (HXB.out.below (hg.pre rfl) HXB.out.lt).at_
   (with_reducible refine Aq (w1:=set2 w' (w.heap.size+1) (.slice x.1 x.2.1 x.2.2) (.slice y.1 y.2.1 y.2.2)) ?_ ?_ ?_)
   .simp only[Region.wanted]
   .simp[execOp,Act.eval,Act.put,go_sem,h1,g0.1.1,g0.1.2,g0.2.1,g0.2.2,set2]
   .exact⟨trivial,trivial,by simpa [upd,d3]using hg.put4 hy.2.1 hy.2.2⟩
  all_goals
   intro D sp w' hD hW hdp hg;simp[asked,Region.wanted,Oper.gives,execOp,Act.eval,Act.put,go_sem]
 .intro sp w9 hsp hg;obtain⟨w5,x5,y5,k1,k2,k3,k4⟩:=hg.fin rfl;have hbx5:=HXB.out.below k1 HXB.out.lt;have hbz:Bo 82 w9 (w.heap.size+1) (.slice x5.1 x5.2.1 x5.2.2) (.slice y5.1 y5.2.1 y5.2.2):=by rw[k4];exact hbx5.set _ _
  have HN1:Aa (Bj w9 x5.1 x5.2.1 x5.2.2 S):=⟨by rw[k4];exact Rm (x:=(none,0,0)) (y:=(none,0,0)) k2 hbx5.at_⟩
  have HN2:Aa (Bj w9 y5.1 y5.2.1 y5.2.2 R):=⟨by rw[k4];exact Rm (x:=(none,0,0)) (y:=(none,0,0)) k3 hbx5.at_⟩
  have HBF:Aa (Below w.heap.size w w9):=⟨by rw[k4];exact(Ab HB.out k1).trans ((put2 hbx5.at_).bel _ (by omega))⟩
  obtain⟨k0,k5⟩:=hbz.cells;clear hsp hg k1 k2 k3 k4 hbx5 hbz;simp only[Ak,Nat.reduceAdd];generalize sp 2=y2 at *;generalize sp 5=y5',sp 6=y6,sp 7=y7 at *
  go_simp
  go_wp2;exact bodyPost_ret (v:=.agg #[.slice x5.1 x5.2.1 x5.2.2,.slice y5.1 y5.2.1 y5.2.2]) (by simp[results,Tryz.results49,go_sem,k0,k5]) rfl ⟨_,rfl,⟨x5,y5,rfl,HN1.out,HN2.out⟩,HBF.out⟩
def iL (L S:Nat)(v:Value)(w:World):Prop:=∃g,v=.slice (some ⟨g,0,none⟩) L L/\Bi w g 5 .u8 (Bf S L)
theorem iL.below {L S:Nat}{v:Value}{w w':World}(h:iL L S v w)(hb:Below w.heap.size w w'):iL L S v w':=let ⟨g,h1,h2⟩:=h;⟨g,h1,h2.below hb h2.lt⟩
theorem Pl {w:World}{v:Value}{P Q GG HH S R L:Nat}{x y:P3}(h:If P Q GG HH v w)(hx:Bj w x.1 x.2.1 x.2.2 S)(hy:Bj w y.1 y.2.1 y.2.2 R)(hL:Ao Q=L)(hs:L<=16)(hs1:0<L)(hl:Ay Q<=100000)(hS:S<B8 L)(hR:R<B8 L) :
  Calls Tryz.prog 60 #[v,.agg #[.slice x.1 x.2.1 x.2.2,.slice y.1 y.2.1 y.2.2]] w fun en w'=>∃u,en=.returned u/\Db 0 (Bf S L++Bf R L) u w'/\Below w.heap.size w w':=by
 have HV0:=Ac h;obtain⟨p0,n0,c0,p1,n1,c1,p2,n2,c2,p3,n3,c3,rfl,-⟩:=h.ex;have h1:=Cr.made 30 w (.slice p0 n0 c0) (.slice p1 n1 c1) (.slice p2 n2 c2) (.slice p3 n3 c3);have hz:(w.alloc (.cells #[.slice p0 n0 c0,.slice p1 n1 c1,.slice p2 n2 c2,.slice p3 n3 c3] 30)).heap.size=w.heap.size+1:=by simp
 have hb0:Below w.heap.size w (w.alloc (.cells #[.slice p0 n0 c0,.slice p1 n1 c1,.slice p2 n2 c2,.slice p3 n3 c3] 30)):=By;have h2:=Bo.made 82 (w.alloc (.cells #[.slice p0 n0 c0,.slice p1 n1 c1,.slice p2 n2 c2,.slice p3 n3 c3] 30)) (.slice x.1 x.2.1 x.2.2) (.slice y.1 y.2.1 y.2.2);have hb2:Below (w.alloc (.cells #[.slice p0 n0 c0,.slice p1 n1 c1,.slice p2 n2 c2,.slice p3 n3 c3] 30)).heap.size (w.alloc (.cells #[.slice p0 n0 c0,.slice p1 n1 c1,.slice p2 n2 c2,.slice p3 n3 c3] 30)) ((w.alloc (.cells #[.slice p0 n0 c0,.slice p1 n1 c1,.slice p2 n2 c2,.slice p3 n3 c3] 30)).alloc (.cells #[.slice x.1 x.2.1 x.2.2,.slice y.1 y.2.1 y.2.2] 82)):=By;have h12:=h1.below hb2 h1.lt;have hba:=Ab hb0 hb2;rw[hz]at h2
 obtain⟨wa,hwa⟩:∃zz,((w.alloc (.cells #[.slice p0 n0 c0,.slice p1 n1 c1,.slice p2 n2 c2,.slice p3 n3 c3] 30)).alloc (.cells #[.slice x.1 x.2.1 x.2.2,.slice y.1 y.2.1 y.2.2] 82))=zz:=⟨_,rfl⟩
 rw[hwa]at h2 h12 hba
 have HG4:=Ac h12;have HXB:=Ac h2;have HB:=Ac hba;have HV:=Ac (HV0.out.below hba);have HS:Aa (Bj wa x.1 x.2.1 x.2.2 S):=⟨hx.below hba⟩
 have HR:Aa (Bj wa y.1 y.2.1 y.2.2 R):=⟨hy.below hba⟩
 have HQl:=Ac hl;have HQf:Aa (Ao Q<=16):=⟨by rw[hL];exact hs⟩
 have HSl:Aa (S<B8 (Ao Q)):=⟨by rw[hL];exact hS⟩
 have HRl:Aa (R<B8 (Ao Q)):=⟨by rw[hL];exact hR⟩
 have HL:=Ac hL;have HLk:Aa (L<=1000):=⟨by omega⟩
 have HLp:=Ac hs1;clear h hx hy hL hs hs1 hl hS hR h1 hz hb0 h2 hb2 h12 hba HV0;go_enter Tryz.func60,Tryz.ntmps60;go_wp2;refine Aj (by kernel_rfl) (by kernel_rfl)
  [some (.agg #[.slice p0 n0 c0,.slice p1 n1 c1,.slice p2 n2 c2,.slice p3 n3 c3]),some (.pointer (some ⟨w.heap.size+1,0,none⟩)),some (.slice x.1 x.2.1 x.2.2),none,some (.agg #[.slice p0 n0 c0,.slice p1 n1 c1,.slice p2 n2 c2,.slice p3 n3 c3]),some (.pointer (some ⟨w.heap.size+1,1,none⟩)),some (.slice y.1 y.2.1 y.2.2),none,none,none]
  [false,false,false,true,false,false,false,true,true,true] rfl
  (fun w1 w2=>Below w1.heap.size w1 w2)
  (fun _ w'=>Below wa.heap.size wa w')
  (fun i v w'=>match i with
   | 3=>iL L S v w'
   | 7=>iL L R v w'
   | 8=>Db 0 (Bf S L++Bf R L) v w'
   | 9=>Db 0 (Bf S L++Bf R L) v w'
   | _=>True)
  ?_ (Bd _ _).drew ?_ ?_
 .intro i v w1 w2 hf hb;split at hf
  .exact hf.below hb
  .exact hf.below hb
  .exact hf.below hb
  .exact hf.below hb
  .trivial
 .simp only[Bh,Nat.reduceAdd];refine⟨?_,?_,?_,?_,?_,?_,?_,?_,?_,?_,trivial⟩
  all_goals intro D sp w' hD hW hdp hbx'
  case refine_1|refine_5=>
   have cz0:=(HG4.out.below hbx' HG4.out.lt).cells.1;have ca1:=(HG4.out.below hbx' HG4.out.lt).cells.2.1;have ca2:=(HG4.out.below hbx' HG4.out.lt).cells.2.2.1;have ca3:=(HG4.out.below hbx' HG4.out.lt).cells.2.2.2
   with_reducible refine Ag ?_ ?_
   all_goals simp[Region.wanted,yielded,execOp,Act.eval,Act.put,go_sem,cz0,ca1,ca2,ca3]
  case refine_3=>
   have cz0:=(HXB.out.below hbx' HXB.out.lt).cells.1
   with_reducible refine Ag ?_ ?_
   all_goals simp[Region.wanted,yielded,execOp,Act.eval,Act.put,go_sem,cz0]
  case refine_4=>
   (with_reducible refine Ad (w1:=w') (f := 34) (args:=#[.agg #[.slice p0 n0 c0,.slice p1 n1 c1,.slice p2 n2 c2,.slice p3 n3 c3],.slice x.1 x.2.1 x.2.2]) ?_ ?_ ?_)
   .simp[Region.wanted,yielded,Act.put,go_sem]
   .simp[Act.eval,Act.put,go_sem]
   .refine(Lu (HV.out.below hbx') (Il.of (Bj.below HS.out hbx')) HQl.out HQf.out HSl.out).mono ?_;rintro en w9 ⟨g9,rfl,hu,_,hb⟩;rw[HL.out]at hu ⊢
    exact⟨_,rfl,hb,⟨g9,rfl,hu⟩,Ab hbx' hb⟩
  case refine_7=>
   have cz0:=(HXB.out.below hbx' HXB.out.lt).cells.2
   with_reducible refine Ag ?_ ?_
   all_goals simp[Region.wanted,yielded,execOp,Act.eval,Act.put,go_sem,cz0]
  case refine_8=>
   (with_reducible refine Ad (w1:=w') (f := 34) (args:=#[.agg #[.slice p0 n0 c0,.slice p1 n1 c1,.slice p2 n2 c2,.slice p3 n3 c3],.slice y.1 y.2.1 y.2.2]) ?_ ?_ ?_)
   .simp[Region.wanted,yielded,Act.put,go_sem]
   .simp[Act.eval,Act.put,go_sem]
   .refine(Lu (HV.out.below hbx') (Il.of (Bj.below HR.out hbx')) HQl.out HQf.out HRl.out).mono ?_;rintro en w9 ⟨g9,rfl,hu,_,hb⟩;rw[HL.out]at hu ⊢
    exact⟨_,rfl,hb,⟨g9,rfl,hu⟩,Ab hbx' hb⟩
  case refine_9=>
   have hxa:∃g,sp 3=.slice (some ⟨g,0,none⟩) L L/\Bi w' g 5 .u8 (Bf S L):=(hdp 3 (mq (by kernel_rfl))).2
   (with_reducible refine Bc hxa fun ga ha1=>?_)
   have ea:=ha1.1;have hxb:∃g,sp 7=.slice (some ⟨g,0,none⟩) L L/\Bi w' g 5 .u8 (Bf R L):=(hdp 7 (mq (by kernel_rfl))).2
   (with_reducible refine Bc hxb fun gb hb1=>?_)
   have eb:=hb1.1
   (with_reducible refine Rx (n:=L) ha1.2 (Cl _ _).symm (Vo hb1.2 HLk.out).row HLp.out (show L+L<=140737488355328 by have:=HLk.out;omega) 23 (fun v' w5 hr ho hb=>?_))
   (with_reducible refine Ai (v:=v') (w1:=w5) ?_ ?_ ?_)
   .simp only[Region.wanted]
   .simp[execOp,resolve,invoke,builtin,Act.eval,Act.put,ea,eb,hr,Result.andThen]
   .exact⟨hb,(Db.mk ho).zero,Ab hbx' hb⟩
  case refine_10=>
   have k8:Db 0 (Bf S L++Bf R L) (sp 8) w':=(hdp 8 (mq (by kernel_rfl))).2
   (with_reducible refine Ai (w1:=w') (v:=sp 8) ?_ ?_ ?_)
   .simp only[Region.wanted]
   .simp[execOp,Act.eval,Act.put,go_sem]
   .exact⟨Bd _ _,k8,hbx'⟩
  all_goals ((with_reducible refine Ag ?_ ?_);all_goals first|(simp only[Region.wanted];done)|simp[Region.wanted,yielded,execOp,Act.eval,Act.put,go_sem])
 .intro sp w6 hsp hb;have HO:Aa (Db 0 (Bf S L++Bf R L) (sp 9) w6):=⟨hsp 9 rfl⟩
  have HBf:=Ac (Ab HB.out hb);clear hsp hb;simp only[Ak,Nat.reduceAdd];generalize sp 3=y3,sp 7=y7,sp 8=y8,sp 9=y9 at *
  go_simp
  go_wp2;go_ret;exact⟨_,rfl,HO.out,HBf.out⟩
end Go.Proofs.YtokhckjemidbpaaGreatDoor
