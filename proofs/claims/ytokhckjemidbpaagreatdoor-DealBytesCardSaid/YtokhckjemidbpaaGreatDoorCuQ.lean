/- Rows of the call's own all of whose cells are slices: they grow, and no number is harmed. -/
import Derived.Test.YtokhckjemidbpaaGreatDoorCuK
import Derived.Test.YtokhckjemidbpaaGreatDoorGqG
import Derived.Deep.Slices
import Derived.ChangeSame
import Derived.ChangeSlices
import Derived.ChangeArms
set_option maxRecDepth 1000000
set_option maxHeartbeats 16000000
set_option linter.all false
namespace Go.Proofs.YtokhckjemidbpaaGreatDoor
open Go Go.RowKit Go.Proofs.YtokhckjemidbpaaGreatDoor.Flow
theorem cX {w:World}{r q e ex n c X:Nat}{p:Option Addr}{As:List Nat}{v:Value}(hR:Ring w r q 33)(hA:Ba w e p n c As)(hX:Fit ex X v w)(he:e<=200)(hex:ex<=200)(hn:n<=1000000) :
  Calls Tryz.prog 102 #[.pointer (some ⟨r,0,none⟩),.slice p n c,v] w fun en w'=>∃x,en=.returned x/\Fit 33 (Mn q X As) x w'/\Below w.heap.size w w':=by
 obtain⟨px,nx,cx,rfl,x1,x2⟩:=Aw hX;have hbx:=dW.mk2 w (.slice px nx cx) (.slice none 0 0);have HR:=Ac (hR.below hbx.bel);have HA:=Ac (hA.below hbx.bel);have HX:=Ac ((Fit.of x1 x2).below hbx.bel);have HBX:=Ac hbx;have c0:=hbx.b0.cell;clear hR hA hX x1 hbx;go_enter Tryz.func102,Tryz.ntmps102
 go_wp2_with fail
 refine(Eh HR.out HX.out (by omega)).mono ?_;rintro en w1 ⟨_,rfl,⟨p1,n1,c1,rfl,h1,l1⟩,hb1⟩;have HF1:=Ac (Fit.of h1 l1);have HB1:=Ac hb1;clear h1 hb1 c0
 go_wp2_with fail
 refine(Cm (n:=0) w1 (by omega)).mono ?_;rintro en w2 ⟨_,rfl,⟨p2,n2,c2,rfl,h2,l2⟩,hb2⟩;have hb12:=Ab HB1.out hb2;have HV:=Ac (callsIn_wide.1 (bG w2 (enters_of Tryz.func32 (by kernel_rfl) rfl) (enters_of Tryz.func33 (by kernel_rfl) rfl) (gB (HR.out.below hb12)) (gA (HR.out.below hb12)) (HA.out.below hb12) (HF1.out.below hb2) ((Fit.of h2 l2).wide (by decide:2<=33)) he (by decide) hn));have HX2:=Ac (HBX.out.later hb12);clear h2 hb2 hb12 HB1 HBX HR HA HF1
 go_wp2_with fail
 refine HV.out.mono ?_;rintro en w3 ⟨_,rfl,⟨p3,n3,c3,rfl,h3,l3⟩,hb3⟩;rw[Tn,Uo]at h3 l3
 have hx3:=HX2.out.later hb3;have k1:=hx3.b1.cell;have f1:=hx3.b1.free;have HF:=Ac (Fit.of (h3.store hx3.b1 (.slice p3 n3 c3)) l3);have HBF:Aa (Below w.heap.size w (w3.setCell ⟨w.heap.size+1,0,none⟩ (.slice p3 n3 c3))):=⟨hx3.bel.setCell (by simp) _⟩
 clear h3 hx3 hb3 HV HX2;go_wp2;exact bodyPost_ret (v:=.agg #[.slice p3 n3 c3]) (by simp[results,Tryz.results102,go_sem,k1]) rfl ⟨_,rfl,HF.out,HBF.out⟩
theorem gF (i:Nat)(hi:i<3):gP i<Al 3/\gQ i<Al 3/\gG i<Al 3:=by
 have h:=Lr i hi;have h1:gP i<Al 3:=Dk h.2.2.2.2.2 (by decide);have h2:=Rg i hi;refine⟨h1,?_,by omega⟩;rcases Nat.eq_zero_or_pos (Ku i) with h0|h0
 .rw[h0,Nat.mul_zero]at h2;omega
 .have:=Nat.le_mul_of_pos_right (gQ i) h0;omega
theorem Xh:∀i,i<3->(Dr i).length<=60
 | 0,_=>by decide
 | 1,_=>by decide
 | 2,_=>by decide
 | _+3,h=>by omega
theorem eJ {x:Nat}(h:fQ x):x<Al 2:=by
 unfold fQ at h;exact Dk h (by decide)
theorem Wv (w:World)(p:Option Addr)(n c:Nat)(xs:List Nat)(h:Bb w .u64 p n c xs)(h64:∀x∈xs,fQ x)(hn:n<=1000) :
  Calls Tryz.prog 39 #[.slice p n c] w fun e w'=>∃q d,e=.returned (.slice q n d)/\Ba w' 2 q n d xs/\Below w.heap.size w w':=by
 have HX:=Ac h;have H6:=Ac h64;have HLn:=Ac h.len;clear h h64;go_enter Tryz.func39,Tryz.ntmps39;go_wp2
 go_loopw [3,5,8] (fun vv _ iv wr=>∃(k:Nat) (bad:Nat->Prop),k<=n/\iv=.int .i64 k/\Aa (Below w.heap.size w wr)/\Aa (∀g,bad g->g<wr.heap.size)/\Aa (Ej Ah 37 w.heap.size bad wr vv (xs.take k))/\Aa (∀g,vv.ownBlock=some g->bad g)) (fun _ _ iv _=>n-(intOf iv).toNat)
 case atStart=>exact⟨0,fun _=>False,by omega,rfl,⟨Bd _ _⟩,⟨fun _ h=>h.elim⟩,⟨Ej.nil⟩,⟨fun g h=>by cases h⟩⟩
 case round=>
  obtain⟨k,bad,hk,rfl,HB,HLT,HO,HV⟩:=hrel
  by_cases hkn:k<n
  .obtain⟨S,hSk⟩:∃s,xs[k]? = some s:=⟨xs[k]'(by rw[<-HLn.out];exact hkn),List.getElem?_eq_getElem _⟩
   obtain⟨bb,off,rfl,hb,hc⟩:=(HX.out.row (by omega)).pos (by omega);have hx:wr.cell? ⟨bb,off+k,none⟩=some (.int .u64 (S:Nat)):=(HB.out.cell (p:=⟨bb,off+k,none⟩) hb).trans (hc k S hSk);have HTk:Aa (xs.take (k+1)=xs.take k++[S]):=⟨Ju hSk⟩
   have HTl:Aa ((xs.take k).length<=1000000):=⟨by rw[List.length_take];omega⟩
   have HSU:Aa (S<18446744073709551616):=⟨H6.out S (List.mem_of_getElem? hSk)⟩
   have hkn':(k:Int)<n:=by omega
   clear hc hSk hb
   go_wp2_with fail
   refine(Cp S wr HSU.out).mono ?_;rintro en w3 ⟨q,m,d,rfl,hn3,b3,hnew⟩;have hb4:Below w3.heap.size w3 (w3.alloc (.cells #[.slice q m d] 37)):=By;have hx4:(w3.alloc (.cells #[.slice q m d] 37)).cell? ⟨w3.heap.size,0,none⟩=some (.slice q m d):=(Ae.made w3 (.slice q m d)).cell;obtain⟨w4,hw4⟩:∃w4,w3.alloc (.cells #[.slice q m d] 37)=w4:=⟨_,rfl⟩
   rw[hw4]at hb4 hx4
   have hb34:=Ab b3 hb4;have hB4:=Ab HB.out hb34;have hfirm:Ih (fun w=>Ah w q m d S) bad w4:=Eb.fresh (hn3.below hb4) hnew HLT.out;obtain⟨i1,hi1,hz1,hs1,hbb1⟩:=info_parts Tryz.info_Nat;refine(HO.out.below hb34).app2 (x:=(q,m,d)) Tryz.underlying62 hi1 hz1 hs1 hbb1 rfl (by decide) hB4.size hx4 hfirm HV.out (fun g hg=>Dk (HLT.out g hg) hb34.size) HTl.out 62 (c:=1) ?_;intro v9 w9 bad9 happ ho9 hg9 m1 m2 m3 m4;have HO9:=Ac ho9;have HB9:Aa (Below w.heap.size w w9):=⟨hB4.grown hg9 hB4.size fun g hg=>(HO.out.block g hg).1⟩
   have HLT9:=Ac m4;have HV9:=Ac m3;clear hb4 hx4 hb34 hB4 hfirm hi1 hz1 hs1 hbb1 ho9 hg9 m1 m2 m3 m4 b3 hn3 hnew
   go_wp2_with (at_builtin;refine Lib.wpList_append_run _ rfl _ _ _ _ rfl _ _ rfl rfl _ _ happ ?_;refine Pv.out ?_)
   refine⟨?_⟩;clear happ;go_wp2;go_roundw
   case rel=>exact⟨k+1,bad9,by omega,by go_num,HB9,HLT9,⟨by rw[HTk.out];exact HO9.out⟩,HV9⟩
   case measure=>simp[intOf];omega
  .obtain rfl:k=n:=by omega
   have hkn':¬(k:Int)<k:=by omega
   have htk:xs.take k=xs:=List.take_of_length_le (by rw[<-HLn.out];exact Av _);rw[htk]at HO
   obtain⟨q,d,rfl,hp⟩:=HO.out.plist (e:=2) (fun N hN=>eJ (H6.out N hN));have HP:Aa (Ba wr 2 q k d xs):=⟨by have e:=HLn.out;rw[<-e]at hp;exact hp⟩
   have e9:xs.length=k:=HLn.out.symm;rw[e9];clear htk hp e9;go_wp2;go_ret;exact⟨q,d,rfl,HP.out,HB.out⟩
theorem cO (A:Int):((IntKind.u64.wrap A)%3).toNat<3:=by
 have h1:=Int.emod_nonneg (IntKind.u64.wrap A) (show (3:Int)≠0 by decide);have h2:=Int.emod_lt_of_pos (IntKind.u64.wrap A) (show (0:Int)<3 by decide);omega
theorem cR {w:World}{i:Nat}{x y z:Option Addr×Nat×Nat}{pc:Option Addr}{nc cc:Nat}(hi:i<3)(hr:Tabs w)(hx:Br w x (gP i))(hy:Br w y (gQ i))(hz:Br w z (gG i))(hc:Ds w 3 pc nc cc (Dr i)) :
  Calls Tryz.prog 62 #[.agg #[.slice x.1 x.2.1 x.2.2,.slice y.1 y.2.1 y.2.2,.slice z.1 z.2.1 z.2.2,.slice none 0 0],.slice pc nc cc] w fun e w'=>
   ∃b,e=.returned (.tuple #[.pointer (some ⟨b,0,none⟩),.int .i64 0])/\Bq w' b (gP i) (gQ i) (gG i) (gH i)/\Below w.heap.size w w':=by
 obtain⟨l1,l2,l3⟩:=gF i hi;refine(cS (e:=3) (seed:=[]) hr hx l1 hy l2 hz l3 (Uf w) hc (by rw[hc.len];exact Xh i hi) (Xi i hi) (by decide)).mono ?_;rintro en w' ⟨_,h0,_,hbl⟩;rw[Zg i hi]at h0
 obtain⟨b,rfl,hg⟩:=h0 (by decide) rfl;exact⟨b,rfl,hg,hbl⟩
theorem Kl (w:World)(A:Int)(hr:Tabs w) :
  Calls Tryz.prog 14 #[.int .i64 A,.slice none 0 0] w fun e w'=>∃b,e=.returned (.pointer (some ⟨b,0,none⟩))/\Bq w' b (gP ((IntKind.u64.wrap A)%3).toNat) (gQ ((IntKind.u64.wrap A)%3).toNat) (gG ((IntKind.u64.wrap A)%3).toNat) (gH ((IntKind.u64.wrap A)%3).toNat)/\Below w.heap.size w w':=by
 have HR:=Ac hr;have hi:=cO A;obtain⟨i,ei⟩:∃i,((IntKind.u64.wrap A)%3).toNat=i:=⟨_,rfl⟩
 have HN:=Ac (Qe w A none 0 0);rw[ei]at hi HN ⊢
 have HI:=Ac hi;clear hr hi ei;go_enter Tryz.func14,Tryz.ntmps14
 go_wp2_with fail
 refine HN.out.mono ?_;rintro en w1 ⟨x,y,z,pc,nc,cc,rfl,h1,h2,h3,h4,b1⟩;have HH:=Ac (cR HI.out (HR.out.below b1 HR.out.size) h1 h2 h3 h4);have B1:=Ac b1;clear h1 h2 h3 h4 b1 HN
 go_wp2_with fail
 refine HH.out.mono ?_;rintro en w2 ⟨b,rfl,hg,b2⟩;have HG:=Ac hg;have B2:=Ac (Ab B1.out b2);clear hg b2 HH B1;go_wp2;go_ret;exact⟨b,rfl,HG.out,B2.out⟩
structure Jp (w:World) (B:Nat) (v:Value) (us:List (Option Addr×Nat×Nat)):Prop where
 ex:(v=.slice none 0 0/\us=[]) ∨ ∃(g cap:Nat) (rest:List (Option Addr×Nat×Nat)),v=.slice (some ⟨g,0,none⟩) us.length cap/\B<=g/\Iq w g us (rest.map sv)/\us.length+rest.length=cap/\cap<=9223372036854775807
theorem Jp.own {w:World}{B g:Nat}{v:Value}{us:List (Option Addr×Nat×Nat)}(h:Jp w B v us)(hg:v.ownBlock=some g):B<=g/\g<w.heap.size:=by
 rcases h.ex with ⟨rfl,_⟩|⟨g',cap,rest,rfl,h1,h2,_⟩
 .cases hg
 .obtain rfl:g'=g:=by simpa [Value.ownBlock]using hg
  exact⟨h1,h2.lt⟩
theorem Jp.keep {w w':World}{B:Nat}{v:Value}{us:List (Option Addr×Nat×Nat)}(h:Jp w B v us)(hk:∀g,v.ownBlock=some g->w'.heap[g]? = w.heap[g]?):Jp w' B v us:=by
 rcases h.ex with h1|⟨g,cap,rest,rfl,h1,h2,h3⟩
 .exact⟨.inl h1⟩
 .exact⟨.inr ⟨g,cap,rest,rfl,h1,by unfold Iq at *;rw[hk g rfl];exact h2,h3⟩⟩
theorem Jp.below {w w':World}{B:Nat}{v:Value}{us:List (Option Addr×Nat×Nat)}(h:Jp w B v us)(hb:Below w.heap.size w w'):Jp w' B v us:=h.keep fun g hg=>hb.block g (h.own hg).2
theorem Iq.all {w:World}{g j:Nat}{us rest:List (Option Addr×Nat×Nat)}{u:Value}(h:Iq w g us (rest.map sv))(hc:w.cell? ⟨g,j,none⟩=some u):∃x:Option Addr×Nat×Nat,u=sv x:=by
 unfold Iq at h;rw[<-List.map_append]at h
 simp only[World.cell?,h,List.getElem?_toArray,List.getElem?_map]at hc
 cases hx:(us++rest)[j]? with
 | none=>rw[hx]at hc;simp at hc
 | some x=>rw[hx]at hc;simp at hc;exact⟨x,hc.symm⟩
theorem Iq.apart {w:World}{p:Option Addr}{n c N g:Nat}{us rest:List (Option Addr×Nat×Nat)}(hr:Iq w g us (rest.map sv))(h:Ah w p n c N)(h0:0<n):∀q,p=some q->q.block≠g:=by
 obtain⟨ws,r1,r2,r3,r4⟩:=h.ex;intro a ha hab;obtain⟨b',off,k1,k2,k3⟩:=r1.pos h0;rw[k1]at ha;cases ha
 have hbb:b'=g:=hab;subst hbb;have h1:=k3 0 (ws.getD 0 0) (by rw[Dv];simp[show 0<ws.length by rw[<-r1.len];exact h0]);rw[Nat.add_zero]at h1
 obtain⟨x,hx⟩:=hr.all h1;unfold sv at hx;cases hx
theorem Ra {w w':World}{p:Option Addr}{n c N:Nat}{v:Value}{us:List (Option Addr×Nat×Nat)}{B:Nat}(hr:Jp w B v us)(hg:w.grownBy w' v.ownBlock)(h:Ah w p n c N):Ah w' p n c N:=by
 rcases Nat.eq_zero_or_pos n with rfl|h0
 .obtain⟨ws,r1,r2,r3,r4⟩:=h.ex;refine⟨ws,⟨r1.len,r1.cap,r1.max,?_⟩,r2,r3,r4⟩;rcases r1.at_ with k|⟨b,off,k1,k2,k3⟩
  .exact .inl k
  .refine .inr ⟨b,off,k1,Dk k2 hg.size,fun i x hx=>?_⟩;have:ws=[]:=List.eq_nil_of_length_eq_zero r1.len.symm;rw[this]at hx;cases hx
 .refine Eb.stay h hg.size fun q hq o=>World.cell?_of_block (a:=⟨q.block,o,none⟩) (hg.block q.block (Eb.lt h q hq) fun e=>?_)
  rcases hr.ex with ⟨rfl,_⟩|⟨g,cap,rest,rfl,_,h2,_⟩
  .cases e
  .have e2:q.block=g:=by simpa [Value.ownBlock]using e
   exact h2.apart h h0 q hq e2
theorem Md (n:Nat):Builtin.zeroCells (Value.agg #[.slice none 0 0]).cells n=((List.replicate n ((none,0,0):Option Addr×Nat×Nat)).map sv).toArray:=by
 have:(Value.agg #[.slice none 0 0]).cells=#[.slice none 0 0]:=by simp[Value.cells]
 rw[this];unfold Builtin.zeroCells;rw[List.map_replicate];apply Array.ext';have h1:(fun i:Nat=>([Value.slice none 0 0]:List Value)[i%1]?.getD default)=fun _=>Value.slice none 0 0:=by funext i;simp[Nat.mod_one]
 simp[sv];rw[h1];rw[List.map_const',List.length_range]
theorem Jp.app {w:World}{B:Nat}{v:Value}{us:List (Option Addr×Nat×Nat)}(h:Jp w B v us){a:Addr}{c:Nat}{x:Option Addr×Nat×Nat}(hc:w.cell? a=some (sv x))(hB:B<=w.heap.size)(hl:us.length<=100000)(ty:TypeId) :
  ∃v' w',(Builtin.append_ #[62, 62] ty #[v,.slice (some a) 1 c]).run Tryz.prog w=.ok v' w'/\Jp w' B v' (us++[x])/\w.grownBy w' v.ownBlock/\Xu w v v':=by
 obtain⟨i,hi,hz,hs,hb⟩:=info_parts Tryz.info_Nat;have hu:=Tryz.underlying62;have ha0:a.add 0=a:=by obtain⟨b,o,s⟩:=a;simp[Addr.add]
 have hnew:∀j u,([sv x]:List Value)[j]? = some u->w.cell? (a.add j)=some u:=fun j u hj=>by
  cases j with
  | zero=>simp at hj;subst hj;rw[ha0];exact hc
  | succ j=>simp at hj
 have hby:i.bytes<=1000:=by rw[hb];decide
 have hzc:∀n,Builtin.zeroCells (Value.agg #[Value.slice none 0 0]).cells n=((List.replicate n ((none,0,0):Option Addr×Nat×Nat)).map sv).toArray:=Md;rcases h.ex with ⟨rfl,rfl⟩|⟨g,cap,rest,rfl,hbg,hx,hcap,hmx⟩
 .have hr:=run_append_nil (P:=Tryz.prog) (w:=w) 62 ty 37 i _ hu hi hz a 1 c [sv x] (by rw[hs];rfl) hnew (by decide) (by decide) (by omega);rw[hzc]at hr
  refine⟨_,_,hr,⟨.inr ⟨w.heap.size,grownCap w 1 0 37,List.replicate (grownCap w 1 0 37 - 1) (none,0,0),rfl,hB,?_,?_,?_⟩⟩,⟨rfl,rfl,rfl,by simp,fun k hk _=>((Bd w.heap.size w).drew.alloc (Av _) _).block k hk⟩,.inr fun g hg=>?_⟩
  .unfold Iq;rw[show (w.drew.alloc (.cells ([sv x].toArray++((List.replicate (grownCap w 1 0 37 - 1) ((none,0,0):Option Addr×Nat×Nat)).map sv).toArray) 37)).heap[w.heap.size]? = some (.cells ([sv x].toArray++((List.replicate (grownCap w 1 0 37 - 1) ((none,0,0):Option Addr×Nat×Nat)).map sv).toArray) 37 (0,0)) from heap_alloc_new w.drew _];simp
  .have:=grownCap_ge w 1 0 37;simp;omega
  .have:=grownCap_le_maxLen w 1 0 37 (by decide);simpa [maxLen]using this
  .have:w.heap.size=g:=by simpa [Value.ownBlock]using hg
   omega
 .have hxb:=hx;unfold Iq at hxb
  cases rest with
  | nil=>
   have hcn:cap=us.length:=by simpa using hcap.symm
   subst hcn;have hgg:us.length<us.length+1:=by omega
   have hr:=run_append_grow (P:=Tryz.prog) (w:=w) 62 ty 37 i _ hu hi hz ⟨g,0,none⟩ us.length us.length (us.map sv) (by rw[hs];simp) (fun j u hj=>by
     rw[List.getElem?_map]at hj
     cases hy:us[j]? with
     | none=>rw[hy]at hj;cases hj
     | some y=>
      rw[hy]at hj;cases hj
      have:=hx.cell hy;rw[add_plain g 0 j,Nat.zero_add];exact this) a 1 c [sv x] (by rw[hs];rfl) hnew hgg (by omega) (growslice_fits hgg (Eo (Nat.mul_le_mul (by omega:us.length+1<=100001) hby) (by decide)))
   rw[hzc]at hr
   obtain⟨C,hC⟩:∃C,grownCap w (us.length+1) us.length 37 = C:=⟨_,rfl⟩
   have h1:=grownCap_ge w (us.length+1) us.length 37;have h2:=grownCap_le_maxLen w (us.length+1) us.length 37 (by simp[maxLen];omega);rw[hC]at hr h1 h2
   refine⟨_,_,hr,⟨.inr ⟨w.heap.size,C,List.replicate (C-(us.length+1)) (none,0,0),by rw[List.length_append];rfl,hB,?_,?_,by simpa [maxLen]using h2⟩⟩,⟨rfl,rfl,rfl,by simp,fun k hk _=>((Bd w.heap.size w).drew.alloc (Av _) _).block k hk⟩,.inr fun g' hg'=>?_⟩
   .unfold Iq;rw[show (w.drew.alloc (.cells ((us.map sv).toArray++[sv x].toArray++((List.replicate (C-(us.length+1)) ((none,0,0):Option Addr×Nat×Nat)).map sv).toArray) 37)).heap[w.heap.size]? = some (.cells ((us.map sv).toArray++[sv x].toArray++((List.replicate (C-(us.length+1)) ((none,0,0):Option Addr×Nat×Nat)).map sv).toArray) 37 (0,0)) from heap_alloc_new w.drew _];simp
   .simp;omega
   .have:w.heap.size=g':=by simpa [Value.ownBlock]using hg'
    omega
  | cons r0 rest=>
   have hr:=run_append_room (P:=Tryz.prog) (w:=w) 62 ty 37 i hu hi g us.length cap _ hxb a 1 c [sv x] (by rw[hs];rfl) hnew (fun u hu'=>by simp at hu';subst hu';rfl) (by simp at hcap;omega) (by simp[hs]);refine⟨_,_,hr,⟨.inr ⟨g,cap,rest,by rw[List.length_append];rfl,hbg,?_,by simp at hcap ⊢;omega,hmx⟩⟩,⟨rfl,rfl,rfl,by simp,fun k hk hn=>setRow_other w g k _ (fun e=>hn (by rw[e];rfl))⟩,.inl rfl⟩;unfold Iq;rw[setRow_heap w g _ _ _ _ hxb];have h9:(us.map sv++sv r0::rest.map sv).drop (us.length+1)=rest.map sv:=by
    rw[show us.map sv++sv r0::rest.map sv=(us.map sv++[sv r0])++rest.map sv by simp];exact List.drop_left' (by simp)
   simp[hs,h9]
theorem Jp.plist {w:World}{B e:Nat}{v:Value}{us:List (Option Addr×Nat×Nat)}{Ns:List Nat}(h:Jp w B v us)(ht:Ic w e us Ns):∃p c,v=.slice p Ns.length c/\Ba w e p Ns.length c Ns:=by
 rcases h.ex with ⟨rfl,rfl⟩|⟨g,cap,rest,rfl,h1,h2,h3,h4⟩
 .have:Ns=[]:=List.eq_nil_of_length_eq_zero ht.len.symm;subst this;exact⟨_,_,rfl,⟨rfl,Av _,by omega,fun _=>rfl,fun h0=>by simp at h0⟩⟩
 .have hl:=ht.len;refine⟨some ⟨g,0,none⟩,cap,by rw[hl],⟨rfl,by omega,h4,(fun e=>by cases e),fun _=>⟨g,0,rfl,h2.lt,fun i N hN=>?_⟩⟩⟩;obtain⟨x,k1,k2,k3⟩:=ht.at_ i N hN
  exact⟨x.1,x.2.1,x.2.2,by rw[Nat.zero_add];exact h2.cell k1,k2,k3⟩
theorem Ic.grown {w w':World}{e B:Nat}{v:Value}{us us2:List (Option Addr×Nat×Nat)}{Ns:List Nat}(h:Ic w e us Ns)(hr:Jp w B v us2)(hg:w.grownBy w' v.ownBlock):Ic w' e us Ns :=
 ⟨h.len,fun i N hN=>let ⟨x,h1,h2,h3⟩:=h.at_ i N hN;⟨x,h1,Ra hr hg h2,h3⟩⟩
theorem Ic.snoc {w:World}{e N:Nat}{us:List (Option Addr×Nat×Nat)}{Ns:List Nat}{x:Option Addr×Nat×Nat}(h:Ic w e us Ns)(hx:Br w x N)(hl:N<Al e):Ic w e (us++[x]) (Ns++[N]):=by
 refine⟨by simp[h.len],fun i M hM=>?_⟩;rcases Nat.lt_or_ge i Ns.length with hi|hi
 .rw[List.getElem?_append_left hi]at hM
  obtain⟨y,h1,h2⟩:=h.at_ i M hM
  exact⟨y,by rw[List.getElem?_append_left (by rw[h.len];exact hi)];exact h1,h2⟩
 .rw[List.getElem?_append_right hi]at hM
  obtain⟨t,ht⟩:∃t,i-Ns.length=t:=⟨_,rfl⟩
  rw[ht]at hM
  cases t with
  | zero=>
   simp at hM;subst hM;exact⟨x,by rw[List.getElem?_append_right (by rw[h.len];exact hi),h.len,ht];rfl,hx,hl⟩
  | succ t=>simp at hM
theorem Ic.nil (w:World)(e:Nat):Ic w e [] []:=⟨rfl,fun i N hN=>by simp at hN⟩
end Go.Proofs.YtokhckjemidbpaaGreatDoor
