/- The three groups' numbers, as the laws make them. -/
import Derived.Test.YtokhckjemidbpaaGreatDoorCpI
set_option maxRecDepth 1000000
set_option maxHeartbeats 16000000
set_option linter.all false
namespace Go.Proofs.YtokhckjemidbpaaGreatDoor
open Go Go.RowKit Go.Proofs.YtokhckjemidbpaaGreatDoor.Flow
structure Cr (t:TypeId) (w:World) (b:Nat) (v0 v1 v2 v3:Value):Prop where
 at_:w.heap[b]? = some (.cells #[v0,v1,v2,v3] t (0,0))
theorem Cr.lt {t:TypeId}{w:World}{b:Nat}{v0 v1 v2 v3:Value}(h:Cr t w b v0 v1 v2 v3):b<w.heap.size:=(Ik h.at_).1
theorem Cr.below {t:TypeId}{w w':World}{B b:Nat}{v0 v1 v2 v3:Value}(h:Cr t w b v0 v1 v2 v3)(hb:Below B w w')(hB:b<B):Cr t w' b v0 v1 v2 v3:=⟨by rw[hb.block b hB];exact h.at_⟩
theorem Cr.cells {t:TypeId}{w:World}{b:Nat}{v0 v1 v2 v3:Value}(h:Cr t w b v0 v1 v2 v3):w.cell? ⟨b,0,none⟩=some v0/\w.cell? ⟨b,1,none⟩=some v1/\w.cell? ⟨b,2,none⟩=some v2/\w.cell? ⟨b,3,none⟩=some v3:=by
 have:=h.at_
 simp[World.cell?,this]
theorem Cr.free {t:TypeId}{w:World}{b:Nat}{v0 v1 v2 v3:Value}(h:Cr t w b v0 v1 v2 v3)(j:Nat):w.frozen? ⟨b,j,none⟩=false:=by
 have:=h.at_
 simp[World.frozen?,this]
theorem Cr.made (t:TypeId)(w:World)(v0 v1 v2 v3:Value):Cr t (w.alloc (.cells #[v0,v1,v2,v3] t)) w.heap.size v0 v1 v2 v3:=⟨heap_alloc_new w _⟩
theorem Gn {t:TypeId}{w wf:World}{b:Nat}{v0 v1 v2 v3 u0 u1 u2 u3:Value}(h:Cr t w b v0 v1 v2 v3)(hf:wf=(((w.setCell ⟨b,0,none⟩ u0).setCell ⟨b,1,none⟩ u1).setCell ⟨b,2,none⟩ u2).setCell ⟨b,3,none⟩ u3) :
  Cr t wf b u0 u1 u2 u3/\Agree (fun g=>g=b) w wf/\∀(B:Nat) (w0:World),Below B w0 w->B<=b->Below B w0 wf:=by
 subst hf;have a1:∀(W:World) (o:Nat) (u:Value),Agree (fun g=>g=b) W (W.setCell ⟨b,o,none⟩ u):=fun W o u=>.set _ _ _ _ rfl
 refine⟨⟨?_⟩,(((a1 w 0 u0).trans (a1 _ 1 u1)).trans (a1 _ 2 u2)).trans (a1 _ 3 u3),fun B w0 hb h1=>(((hb.setCell h1 _).setCell h1 _).setCell h1 _).setCell h1 _⟩;have:=h.at_
 simp[World.setCell,Array.getElem?_modify,this]
abbrev Br (w:World)(x:Option Addr×Nat×Nat)(N:Nat):Prop:=Ah w x.1 x.2.1 x.2.2 N
abbrev Fm (b:Nat)(N:Nat)(x:Option Addr×Nat×Nat)(w:World):Prop:=Ih (fun w=>Br w x N) (fun g=>g=b) w
theorem Ip (N b:Nat)(w:World)(h:N<18446744073709551616)(hb:b<w.heap.size) :
  Calls Tryz.prog 17 #[.int .u64 N] w fun en w'=>∃x:Option Addr×Nat×Nat,en=.returned (.agg #[.slice x.1 x.2.1 x.2.2])/\Fm b N x w'/\Below w.heap.size w w':=by
 refine(Cp N w h).mono ?_;rintro en w' ⟨p,n,c,rfl,hn,hb',hnew⟩;exact⟨(p,n,c),rfl,Eb.fresh (B:=w.heap.size) hn hnew (fun g hg=>by rw[hg];exact hb),hb'⟩
theorem aO (w:World)(h l:Nat)(hh:h<18446744073709551616)(hl:l<18446744073709551616) :
  Calls Tryz.prog 129 #[.int .u64 h,.int .u64 l] w fun en w'=>∃x:Option Addr×Nat×Nat,en=.returned (.agg #[.slice x.1 x.2.1 x.2.2])/\Br w' x (h*4294967296+l)/\El w.heap.size x.1/\Below w.heap.size w w':=by
 have HH:=Ac hh;have HL:=Ac hl;have hx:=Ae.made w (.slice none 0 0);have HX:=Ac hx;have HB:Aa (Below w.heap.size w (w.alloc (.cells #[.slice none 0 0] 37))):=⟨(Bd _ _).alloc (Av _) _⟩
 clear hh hl hx;go_enter Tryz.func129,Tryz.ntmps129
 go_wp2_with fail
 refine(Cp h _ HH.out).mono ?_;rintro en w1 ⟨p1,n1,c1,rfl,h1,b1,_⟩;have H1:=Ac (Fit.of (e:=2) h1 HH.out);have B1:=Ac b1;clear h1 b1
 go_wp2_with fail
 refine(Cp 4294967296 w1 (by decide)).mono ?_;rintro en w2 ⟨p2,n2,c2,rfl,h2,b2,_⟩;have H2:=Ac (Fit.of (e:=2) h2 (by decide));have H12:=Ac (H1.out.below b2);have B2:=Ac (Ab B1.out b2);clear h2 b2 H1
 go_wp2_with fail
 refine(Ll H12.out H2.out (by decide) (by decide)).mono ?_;rintro en w3 ⟨_,rfl,⟨p3,n3,c3,rfl,h3,l3⟩,b3⟩;have H3:=Ac (Fit.of h3 l3);have B3:=Ac (Ab B2.out b3);clear h3 l3 b3
 go_wp2_with fail
 refine(Cp l w3 HL.out).mono ?_;rintro en w4 ⟨p4,n4,c4,rfl,h4,b4,_⟩;have H4:=Ac (Fit.of (e:=2) h4 HL.out);have H34:=Ac (H3.out.below b4);have B4:=Ac (Ab B3.out b4);clear h4 b4 H3
 go_wp2_with fail
 have l3:=(Fp H34.out).len_le H34.out.lim;have l4:=(Fp H4.out).len_le H4.out.lim;refine(Ro w4 p3 n3 c3 (h*4294967296) p4 n4 c4 l (Fp H34.out) (Fp H4.out) (by omega) (by omega)).mono ?_;rintro en w5 ⟨p5,n5,c5,rfl,h5,b5,nw5⟩;have B5:=Ab B4.out b5;have hx5:=HX.out.below B5 HX.out.lt;have c0:=hx5.cell;have f0:=hx5.free;have k0:=(hx5.set (.slice p5 n5 c5)).cell;have HN:Aa (Br (w5.setCell ⟨w.heap.size,0,none⟩ (.slice p5 n5 c5)) (p5,n5,c5) (h*4294967296+l)):=⟨h5.store hx5 _⟩
 have HBf:Aa (Below w.heap.size w (w5.setCell ⟨w.heap.size,0,none⟩ (.slice p5 n5 c5))):=⟨(Ab HB.out B5).setCell (Av _) _⟩
 have HNw:=Ac (nw5.mono (show w.heap.size<=w4.heap.size from (Ab HB.out B4.out).size));clear h5 b5 B5 hx5 nw5 l3 l4;go_wp2;refine bodyPost_ret (v:=.agg #[.slice p5 n5 c5]) (by simp[results,Tryz.results129,go_sem,k0]) rfl ⟨(p5,n5,c5),rfl,HN.out,HNw.out,HBf.out⟩
abbrev Nt (b:Nat)(Ns:List Nat)(z:Option Addr×Nat×Nat)(w:World):Prop:=Ih (fun w=>Ba w 3 z.1 z.2.1 z.2.2 Ns) (fun g=>g=b) w
abbrev Yo (b:Nat)(s:Bn)(x y z:Option Addr×Nat×Nat)(w:World):Prop:=Ih (iJ 3 s x y z) (fun g=>g=b) w
abbrev Py (b:Nat)(l:List Bn)(z:Option Addr×Nat×Nat)(w:World):Prop:=Ih (fun w=>Ds w 3 z.1 z.2.1 z.2.2 l) (fun g=>g=b) w
theorem Nt.made {b:Nat}{w:World}(xs:List (Option Addr×Nat×Nat))(Ns:List Nat)(hl:xs.length=Ns.length)(hb:b<w.heap.size)(hx:∀(i:Nat) (x:Option Addr×Nat×Nat) (N:Nat),xs[i]? = some x->Ns[i]? = some N->Fm b N x w)(hN:∀N∈Ns,N<Al 3)(hmx:Ns.length<=1000) :
  Nt b Ns (some ⟨w.heap.size,0,none⟩,Ns.length,Ns.length) (w.alloc (.cells ((xs.map fun x=>Value.slice x.1 x.2.1 x.2.2).toArray) 37)):=by
 have hbel:Agree (fun g=>g=b) w (w.alloc (.cells ((xs.map fun x=>Value.slice x.1 x.2.1 x.2.2).toArray) 37)):=.of ((Bd _ _).alloc (Av _) _);have hnew:=heap_alloc_new w (.cells ((xs.map fun x=>Value.slice x.1 x.2.1 x.2.2).toArray) 37);intro w2 a;have hlt:w.heap.size<(w.alloc (.cells ((xs.map fun x=>Value.slice x.1 x.2.1 x.2.2).toArray) 37)).heap.size:=by simp
 refine⟨rfl,Av _,(show Ns.length<=9223372036854775807 by omega),(fun e=>by cases e),fun _=>⟨w.heap.size,0,rfl,Dk hlt a.size,fun i N hi=>?_⟩⟩;have hil:i<xs.length:=by rw[hl];exact(List.getElem?_eq_some_iff.1 hi).1
 refine⟨_,_,_,?_,(hx i xs[i] N (List.getElem?_eq_getElem hil) hi) w2 (hbel.trans a),hN N (List.mem_of_getElem? hi)⟩;have hblk:=a.block w.heap.size hlt (by omega);rw[hnew]at hblk
 simp[World.cell?,hblk,hil]
theorem Py.made {b:Nat}{w:World}(xs:List ((Option Addr×Nat×Nat)×(Option Addr×Nat×Nat)×(Option Addr×Nat×Nat)))(l:List Bn)(cs:Array Value)(hl:xs.length=l.length)(hb:b<w.heap.size)(hcs:∀(i:Nat) (x:(Option Addr×Nat×Nat)×(Option Addr×Nat×Nat)×(Option Addr×Nat×Nat)),xs[i]? = some x->cs[i*3]? = some (.slice x.1.1 x.1.2.1 x.1.2.2)/\cs[i*3+1]? = some (.slice x.2.1.1 x.2.1.2.1 x.2.1.2.2)/\cs[i*3+2]? = some (.slice x.2.2.1 x.2.2.2.1 x.2.2.2.2))(hx:∀(i:Nat) (x:(Option Addr×Nat×Nat)×(Option Addr×Nat×Nat)×(Option Addr×Nat×Nat)) (s:Bn),xs[i]? = some x->l[i]? = some s->Yo b s x.1 x.2.1 x.2.2 w)(hN:∀s∈l,s.n<Al 3/\s.base<Al 3)(hmx:l.length<=1000) :
  Py b l (some ⟨w.heap.size,0,none⟩,l.length,l.length) (w.alloc (.cells cs 189)):=by
 have hbel:Agree (fun g=>g=b) w (w.alloc (.cells cs 189)):=.of ((Bd _ _).alloc (Av _) _);have hnew:=heap_alloc_new w (.cells cs 189);intro w2 a;have hlt:w.heap.size<(w.alloc (.cells cs 189)).heap.size:=by simp
 refine⟨rfl,Av _,(show l.length<=9223372036854775807 by omega),(fun e=>by cases e),fun _=>⟨w.heap.size,0,rfl,Dk hlt a.size,fun i s hi=>?_⟩⟩;have hil:i<xs.length:=by rw[hl];exact(List.getElem?_eq_some_iff.1 hi).1
 have hp:=(hx i xs[i] s (List.getElem?_eq_getElem hil) hi) w2 (hbel.trans a);have hm:=hN s (List.mem_of_getElem? hi);obtain⟨e0,e1,e2⟩:=hcs i xs[i] (List.getElem?_eq_getElem hil);have hblk:=a.block w.heap.size hlt (by omega);rw[hnew]at hblk
 have hc:∀o u,cs[o]? = some u->w2.cell? ⟨w.heap.size,0+o,none⟩=some u:=fun o u hu=>by
  simp only[World.cell?,hblk,Nat.zero_add];simpa using hu
 exact⟨_,_,_,_,_,_,_,_,_,hc _ _ e0,hc _ _ e1,hc _ _ e2,hp.n,hm.1,hp.base,hm.2,hp.ps⟩
def Oi (i:Nat)(w:World)(ps:Option Addr)(ns cs:Nat)(e:Ending)(w':World):Prop :=
 ∃(x y z:Option Addr×Nat×Nat) (pc:Option Addr) (nc cc:Nat),e=.returned (.tuple #[.agg #[.slice x.1 x.2.1 x.2.2,.slice y.1 y.2.1 y.2.2,.slice z.1 z.2.1 z.2.2,.slice ps ns cs],.slice pc nc cc]) /\
  Br w' x (gP i)/\Br w' y (gQ i)/\Br w' z (gG i)/\Ds w' 3 pc nc cc (Dr i)/\Below w.heap.size w w'
theorem Pc (w:World)(A:Int)(ps:Option Addr)(ns cs:Nat)(hA:(IntKind.u64.wrap A).tmod 3=0) :
  Calls Tryz.prog 63 #[.int .i64 A,.slice ps ns cs] w (Oi 0 w ps ns cs):=by
 have HX:=Ac (Cr.made 118 w (.slice none 0 0) (.slice none 0 0) (.slice none 0 0) (.slice none 0 0));have HB:Aa (Below w.heap.size w (w.alloc (.cells #[.slice none 0 0,.slice none 0 0,.slice none 0 0,.slice none 0 0] 118))):=⟨(Bd _ _).alloc (Av _) _⟩
 have hs:w.heap.size<(w.alloc (.cells #[.slice none 0 0,.slice none 0 0,.slice none 0 0,.slice none 0 0] 118)).heap.size:=HX.out.lt;have S0:=Ac hs;have B0:Aa (Below (w.alloc (.cells #[.slice none 0 0,.slice none 0 0,.slice none 0 0,.slice none 0 0] 118)).heap.size (w.alloc (.cells #[.slice none 0 0,.slice none 0 0,.slice none 0 0,.slice none 0 0] 118)) (w.alloc (.cells #[.slice none 0 0,.slice none 0 0,.slice none 0 0,.slice none 0 0] 118))):=⟨Bd _ _⟩
 clear hs;go_enter Tryz.func63,Tryz.ntmps63
 go_wp2_with fail
 refine(Ip 607 w.heap.size _ (by decide) S0.out).mono ?_;rintro en w1 ⟨x1,rfl,f1,b1⟩;have F1:=Ac f1;have S1:=Ac (Dk S0.out b1.size);have B1:=Ac (Ab B0.out b1);clear f1 b1
 go_wp2_with fail
 refine(Ip 101 w.heap.size _ (by decide) S1.out).mono ?_;rintro en w2 ⟨x2,rfl,f2,b2⟩;have F2:=Ac f2;have S2:=Ac (Dk S1.out b2.size);have B2:=Ac (Ab B1.out b2);have F1:=F1.out.step (.of b2);have F1:=Ac F1;clear f2 b2
 go_wp2_with fail
 refine(Ip 64 w.heap.size _ (by decide) S2.out).mono ?_;rintro en w3 ⟨x3,rfl,f3,b3⟩;have F3:=Ac f3;have S3:=Ac (Dk S2.out b3.size);have B3:=Ac (Ab B2.out b3);have F1:=F1.out.step (.of b3);have F1:=Ac F1;have F2:=F2.out.step (.of b3);have F2:=Ac F2;clear f3 b3;have BL:=B3;have kx:=HX.out.below BL.out HX.out.lt;have c0:=kx.cells.1;have c1:=kx.cells.2.1;have c2:=kx.cells.2.2.1;have c3:=kx.cells.2.2.2;have f0:=kx.free 0;have f1:=kx.free 1;have f2:=kx.free 2;have f3:=kx.free 3;obtain⟨wf,hwf⟩:∃W,W=((((w3).setCell ⟨w.heap.size,0,none⟩ (.slice x1.1 x1.2.1 x1.2.2)).setCell ⟨w.heap.size,1,none⟩ (.slice x2.1 x2.2.1 x2.2.2)).setCell ⟨w.heap.size,2,none⟩ (.slice x3.1 x3.2.1 x3.2.2)).setCell ⟨w.heap.size,3,none⟩ (.slice ps ns cs):=⟨_,rfl⟩
 have hst:=Gn kx hwf;have e0:=hst.1.cells.1;have e1:=hst.1.cells.2.1;have e2:=hst.1.cells.2.2.1;have e3:=hst.1.cells.2.2.2;have HAG:=Ac hst.2.1;have HBF:=Ac (hst.2.2 w.heap.size w (Ab HB.out BL.out) (Av _));have HWF:=Ac hwf;clear kx hst hwf;go_wp2;rw[<-HWF.out];clear c0 c1 c2 c3 f0 f1 f2 f3 HWF;refine bodyPost_ret (v:=.tuple #[.agg #[.slice x1.1 x1.2.1 x1.2.2,.slice x2.1 x2.2.1 x2.2.2,.slice x3.1 x3.2.1 x3.2.2,.slice ps ns cs],.slice none 0 0]) (by simp[results,Tryz.results63,go_sem,e0,e1,e2,e3]) rfl
  ⟨x1,x2,x3,none,0,0,rfl,F1.out wf HAG.out,F2.out wf HAG.out,F3.out wf HAG.out,⟨rfl,Av _,by omega,fun _=>rfl,fun h=>by omega⟩,HBF.out⟩
theorem Pb (w:World)(A:Int)(ps:Option Addr)(ns cs:Nat)(hA:(IntKind.u64.wrap A).tmod 3=1) :
  Calls Tryz.prog 63 #[.int .i64 A,.slice ps ns cs] w (Oi 1 w ps ns cs):=by
 have HX:=Ac (Cr.made 118 w (.slice none 0 0) (.slice none 0 0) (.slice none 0 0) (.slice none 0 0));have HB:Aa (Below w.heap.size w (w.alloc (.cells #[.slice none 0 0,.slice none 0 0,.slice none 0 0,.slice none 0 0] 118))):=⟨(Bd _ _).alloc (Av _) _⟩
 have hs:w.heap.size<(w.alloc (.cells #[.slice none 0 0,.slice none 0 0,.slice none 0 0,.slice none 0 0] 118)).heap.size:=HX.out.lt;have S0:=Ac hs;have B0:Aa (Below (w.alloc (.cells #[.slice none 0 0,.slice none 0 0,.slice none 0 0,.slice none 0 0] 118)).heap.size (w.alloc (.cells #[.slice none 0 0,.slice none 0 0,.slice none 0 0,.slice none 0 0] 118)) (w.alloc (.cells #[.slice none 0 0,.slice none 0 0,.slice none 0 0,.slice none 0 0] 118))):=⟨Bd _ _⟩
 clear hs;go_enter Tryz.func63,Tryz.ntmps63
 go_wp2_with fail
 refine(Ip 655211 w.heap.size _ (by decide) S0.out).mono ?_;rintro en w1 ⟨x1,rfl,f1,b1⟩;have F1:=Ac f1;have S1:=Ac (Dk S0.out b1.size);have B1:=Ac (Ab B0.out b1);clear f1 b1
 go_wp2_with fail
 refine(Ip 65521 w.heap.size _ (by decide) S1.out).mono ?_;rintro en w2 ⟨x2,rfl,f2,b2⟩;have F2:=Ac f2;have S2:=Ac (Dk S1.out b2.size);have B2:=Ac (Ab B1.out b2);have F1:=F1.out.step (.of b2);have F1:=Ac F1;clear f2 b2
 go_wp2_with fail
 refine(Ip 1024 w.heap.size _ (by decide) S2.out).mono ?_;rintro en w3 ⟨x3,rfl,f3,b3⟩;have F3:=Ac f3;have S3:=Ac (Dk S2.out b3.size);have B3:=Ac (Ab B2.out b3);have F1:=F1.out.step (.of b3);have F1:=Ac F1;have F2:=F2.out.step (.of b3);have F2:=Ac F2;clear f3 b3
 go_wp2_with fail
 refine(Ip 655211 w.heap.size _ (by decide) S3.out).mono ?_;rintro en w4 ⟨x4,rfl,f4,b4⟩;have F4:=Ac f4;have S4:=Ac (Dk S3.out b4.size);have B4:=Ac (Ab B3.out b4);have F1:=F1.out.step (.of b4);have F1:=Ac F1;have F2:=F2.out.step (.of b4);have F2:=Ac F2;have F3:=F3.out.step (.of b4);have F3:=Ac F3;clear f4 b4
 go_wp2_with fail
 refine(Ip 2 w.heap.size _ (by decide) S4.out).mono ?_;rintro en w5 ⟨x5,rfl,f5,b5⟩;have F5:=Ac f5;have S5:=Ac (Dk S4.out b5.size);have B5:=Ac (Ab B4.out b5);have F1:=F1.out.step (.of b5);have F1:=Ac F1;have F2:=F2.out.step (.of b5);have F2:=Ac F2;have F3:=F3.out.step (.of b5);have F3:=Ac F3;have F4:=F4.out.step (.of b5);have F4:=Ac F4;clear f5 b5
 go_wp2_with fail
 refine(Ip 65521 w.heap.size _ (by decide) S5.out).mono ?_;rintro en w6 ⟨x6,rfl,f6,b6⟩;have F6:=Ac f6;have S6:=Ac (Dk S5.out b6.size);have B6:=Ac (Ab B5.out b6);have F1:=F1.out.step (.of b6);have F1:=Ac F1;have F2:=F2.out.step (.of b6);have F2:=Ac F2;have F3:=F3.out.step (.of b6);have F3:=Ac F3;have F4:=F4.out.step (.of b6);have F4:=Ac F4;have F5:=F5.out.step (.of b6);have F5:=Ac F5;clear f6 b6;have fl:=Nt.made (b:=w.heap.size) (w:=w6) [x6] [65521] rfl S6.out (fun i x N h1 h2=>by
  cases i with
  | zero=>simp at h1 h2;subst h1 h2;exact F6.out
  | succ i=>simp at h1) (fun N hN=>by rw[List.mem_singleton.1 hN];decide) (by decide)
 have bA:Below w6.heap.size w6 (w6.alloc (.cells #[.slice x6.1 x6.2.1 x6.2.2] 37)):=By;have bB:Below ((w6.alloc (.cells #[.slice x6.1 x6.2.1 x6.2.2] 37))).heap.size (w6.alloc (.cells #[.slice x6.1 x6.2.1 x6.2.2] 37)) ((w6.alloc (.cells #[.slice x6.1 x6.2.1 x6.2.2] 37)).alloc (.cells #[.slice x4.1 x4.2.1 x4.2.2,.slice x5.1 x5.2.1 x5.2.2,.slice (some ⟨w6.heap.size,0,none⟩) 1 1] 189)):=By;have hA1:((w6.alloc (.cells #[.slice x6.1 x6.2.1 x6.2.2] 37))).heap.size=w6.heap.size+1:=by simp
 have fc:=Py.made (b:=w.heap.size) (w:=(w6.alloc (.cells #[.slice x6.1 x6.2.1 x6.2.2] 37))) [(x4,x5,(some ⟨w6.heap.size,0,none⟩,1,1))] [⟨655211,2,[65521]⟩] #[.slice x4.1 x4.2.1 x4.2.2,.slice x5.1 x5.2.1 x5.2.2,.slice (some ⟨w6.heap.size,0,none⟩) 1 1] rfl (Dk S6.out bA.size)
  (fun i x h=>by
   cases i with
   | zero=>simp at h;subst h;exact⟨rfl,rfl,rfl⟩
   | succ i=>simp at h)
  (fun i x s h1 h2=>by
   cases i with
   | zero=>simp at h1 h2;subst h1 h2;exact fun w2 a=>⟨F4.out.step (.of bA) w2 a,F5.out.step (.of bA) w2 a,fl w2 a⟩
   | succ i=>simp at h1)
  (fun s hs=>by rw[List.mem_singleton.1 hs];exact⟨by decide,by decide⟩) (by decide)
 rw[hA1]at fc
 have BL:Aa (Below (w.alloc (.cells #[.slice none 0 0,.slice none 0 0,.slice none 0 0,.slice none 0 0] 118)).heap.size (w.alloc (.cells #[.slice none 0 0,.slice none 0 0,.slice none 0 0,.slice none 0 0] 118)) ((w6.alloc (.cells #[.slice x6.1 x6.2.1 x6.2.2] 37)).alloc (.cells #[.slice x4.1 x4.2.1 x4.2.2,.slice x5.1 x5.2.1 x5.2.2,.slice (some ⟨w6.heap.size,0,none⟩) 1 1] 189))):=⟨Ab (Ab B6.out bA) bB⟩
 have bAB:=Ab bA bB;have G1:=Ac (F1.out.step (.of bAB));have G2:=Ac (F2.out.step (.of bAB));have G3:=Ac (F3.out.step (.of bAB));have GC:=Ac fc;clear fl bA bB hA1 fc bAB F1 F2 F3 F4 F5 F6;have kx:=HX.out.below BL.out HX.out.lt;have c0:=kx.cells.1;have c1:=kx.cells.2.1;have c2:=kx.cells.2.2.1;have c3:=kx.cells.2.2.2;have f0:=kx.free 0;have f1:=kx.free 1;have f2:=kx.free 2;have f3:=kx.free 3;obtain⟨wf,hwf⟩:∃W,W=((((((w6.alloc (.cells #[.slice x6.1 x6.2.1 x6.2.2] 37)).alloc (.cells #[.slice x4.1 x4.2.1 x4.2.2,.slice x5.1 x5.2.1 x5.2.2,.slice (some ⟨w6.heap.size,0,none⟩) 1 1] 189))).setCell ⟨w.heap.size,0,none⟩ (.slice x1.1 x1.2.1 x1.2.2)).setCell ⟨w.heap.size,1,none⟩ (.slice x2.1 x2.2.1 x2.2.2)).setCell ⟨w.heap.size,2,none⟩ (.slice x3.1 x3.2.1 x3.2.2)).setCell ⟨w.heap.size,3,none⟩ (.slice ps ns cs):=⟨_,rfl⟩
 have hst:=Gn kx hwf;have e0:=hst.1.cells.1;have e1:=hst.1.cells.2.1;have e2:=hst.1.cells.2.2.1;have e3:=hst.1.cells.2.2.2;have HAG:=Ac hst.2.1;have HBF:=Ac (hst.2.2 w.heap.size w (Ab HB.out BL.out) (Av _));have HWF:=Ac hwf;clear kx hst hwf;go_wp2;rw[<-HWF.out];clear c0 c1 c2 c3 f0 f1 f2 f3 HWF;refine bodyPost_ret (v:=.tuple #[.agg #[.slice x1.1 x1.2.1 x1.2.2,.slice x2.1 x2.2.1 x2.2.2,.slice x3.1 x3.2.1 x3.2.2,.slice ps ns cs],.slice (some ⟨w6.heap.size+1,0,none⟩) 1 1]) (by simp[results,Tryz.results63,go_sem,e0,e1,e2,e3]) rfl
  ⟨x1,x2,x3,some ⟨w6.heap.size+1,0,none⟩,1,1,rfl,G1.out wf HAG.out,G2.out wf HAG.out,G3.out wf HAG.out,GC.out wf HAG.out,HBF.out⟩
abbrev NF (b N:Nat)(v:Value)(w:World):Prop:=∃x:Option Addr×Nat×Nat,v=.agg #[.slice x.1 x.2.1 x.2.2]/\Fm b N x w
abbrev LF (b:Nat)(Ns:List Nat)(v:Value)(w:World):Prop:=∃z:Option Addr×Nat×Nat,v=.slice z.1 z.2.1 z.2.2/\Nt b Ns z w
abbrev SF (b:Nat)(s:Bn)(v:Value)(w:World):Prop:=∃x:(Option Addr×Nat×Nat)×(Option Addr×Nat×Nat)×(Option Addr×Nat×Nat),v=trip x.1 x.2.1 x.2.2/\Yo b s x.1 x.2.1 x.2.2 w
abbrev CF (b:Nat)(l:List Bn)(v:Value)(w:World):Prop:=∃z:Option Addr×Nat×Nat,v=.slice z.1 z.2.1 z.2.2/\Py b l z w
abbrev PF (b:Nat)(xp xq s:Option Addr×Nat×Nat)(v:Value)(w:World):Prop:=∃z:Option Addr×Nat×Nat,v=.agg #[.slice xp.1 xp.2.1 xp.2.2,.slice xq.1 xq.2.1 xq.2.2,.slice z.1 z.2.1 z.2.2,.slice s.1 s.2.1 s.2.2]/\Fm b 262144 z w
def Rp (b:Nat)(xp xq s:Option Addr×Nat×Nat)(i:Nat)(v:Value)(w:World):Prop:=match i with
 | 2=>NF b 262144 v w
 | 4=>PF b xp xq s v w
 | 6=>NF b 13 v w
 | 7=>NF b 2 v w
 | 8=>NF b 3 v w
 | 9=>NF b 11 v w
 | 10=>NF b 683 v w
 | 11=>NF b 2971 v w
 | 12=>LF b [2,3,11,683,2971] v w
 | 13=>SF b ⟨1152921504606847009,13,[2,3,11,683,2971]⟩ v w
 | 15=>NF b 2 v w
 | 17=>LF b [1152921504606847009] v w
 | 18=>SF b ⟨20752587082923246163,2,[1152921504606847009]⟩ v w
 | 19=>CF b (Dr 2) v w
 | 21=>CF b (Dr 2) v w
 | _=>True
theorem NF.ag {b N:Nat}{v:Value}{w w':World}(h:NF b N v w)(a:Agree (fun g=>g=b) w w'):NF b N v w':=let ⟨x,h1,h2⟩:=h;⟨x,h1,h2.step a⟩
theorem LF.ag {b:Nat}{Ns:List Nat}{v:Value}{w w':World}(h:LF b Ns v w)(a:Agree (fun g=>g=b) w w'):LF b Ns v w':=let ⟨x,h1,h2⟩:=h;⟨x,h1,h2.step a⟩
theorem SF.ag {b:Nat}{s:Bn}{v:Value}{w w':World}(h:SF b s v w)(a:Agree (fun g=>g=b) w w'):SF b s v w':=let ⟨x,h1,h2⟩:=h;⟨x,h1,h2.step a⟩
theorem CF.ag {b:Nat}{l:List Bn}{v:Value}{w w':World}(h:CF b l v w)(a:Agree (fun g=>g=b) w w'):CF b l v w':=let ⟨x,h1,h2⟩:=h;⟨x,h1,h2.step a⟩
theorem PF.ag {b:Nat}{xp xq s:Option Addr×Nat×Nat}{v:Value}{w w':World}(h:PF b xp xq s v w)(a:Agree (fun g=>g=b) w w'):PF b xp xq s v w':=let ⟨x,h1,h2⟩:=h;⟨x,h1,h2.step a⟩
theorem Rp.ag {b:Nat}{xp xq s:Option Addr×Nat×Nat}(i:Nat)(v:Value)(w w':World)(h:Rp b xp xq s i v w)(a:Agree (fun g=>g=b) w w'):Rp b xp xq s i v w':=by
 unfold Rp at *;split
 all_goals first|exact NF.ag h a|exact LF.ag h a|exact SF.ag h a|exact CF.ag h a|exact PF.ag h a|trivial
structure Mb (t:TypeId) (wE w0:World) (b:Nat) (xp xq s:Option Addr×Nat×Nat) (d:Bool) (v4:Value) (w:World):Prop where
 ag:Agree (fun g=>g=b) w0 w
 bel:Below wE.heap.size wE w
 lt:b<w.heap.size
 z0:d=false->Cr t w b (.slice none 0 0) (.slice none 0 0) (.slice none 0 0) (.slice none 0 0)
 z1:d=true->∃z:Option Addr×Nat×Nat,v4=.agg #[.slice xp.1 xp.2.1 xp.2.2,.slice xq.1 xq.2.1 xq.2.2,.slice z.1 z.2.1 z.2.2,.slice s.1 s.2.1 s.2.2]/\Cr t w b (.slice xp.1 xp.2.1 xp.2.2) (.slice xq.1 xq.2.1 xq.2.2) (.slice z.1 z.2.1 z.2.2) (.slice s.1 s.2.1 s.2.2)
theorem Mb.later {t:TypeId}{wE w0:World}{b:Nat}{xp xq s:Option Addr×Nat×Nat}{d:Bool}{v4:Value}{w w':World}(h:Mb t wE w0 b xp xq s d v4 w)(hb:Below w.heap.size w w'):Mb t wE w0 b xp xq s d v4 w' :=
 ⟨h.ag.trans (.of hb),Fi h.bel hb,Dk h.lt hb.size,fun e=>(h.z0 e).below hb h.lt,fun e=>let ⟨z,k1,k2⟩:=h.z1 e;⟨z,k1,k2.below hb h.lt⟩⟩
theorem Mb.put4 {t:TypeId}{wE w0:World}{b:Nat}{xp xq s:Option Addr×Nat×Nat}{v4 v:Value}{w:World}(h:Mb t wE w0 b xp xq s false v4 w):Mb t wE w0 b xp xq s false v w :=
 ⟨h.ag,h.bel,h.lt,h.z0,(fun e=>by cases e)⟩
theorem Pa (w:World)(A:Int)(ps:Option Addr)(ns cs:Nat)(hA:(IntKind.u64.wrap A).tmod 3=2) :
  Calls Tryz.prog 63 #[.int .i64 A,.slice ps ns cs] w (Oi 2 w ps ns cs):=by
 have HX:=Ac (Cr.made 118 w (.slice none 0 0) (.slice none 0 0) (.slice none 0 0) (.slice none 0 0));have HB:Aa (Below w.heap.size w (w.alloc (.cells #[.slice none 0 0,.slice none 0 0,.slice none 0 0,.slice none 0 0] 118))):=⟨(Bd _ _).alloc (Av _) _⟩
 have hs:w.heap.size<(w.alloc (.cells #[.slice none 0 0,.slice none 0 0,.slice none 0 0,.slice none 0 0] 118)).heap.size:=HX.out.lt;have S0:=Ac hs;have B0:Aa (Below (w.alloc (.cells #[.slice none 0 0,.slice none 0 0,.slice none 0 0,.slice none 0 0] 118)).heap.size (w.alloc (.cells #[.slice none 0 0,.slice none 0 0,.slice none 0 0,.slice none 0 0] 118)) (w.alloc (.cells #[.slice none 0 0,.slice none 0 0,.slice none 0 0,.slice none 0 0] 118))):=⟨Bd _ _⟩
 clear hs;go_enter Tryz.func63,Tryz.ntmps63
 go_wp2_with fail
 refine(Ip 1152921504606847009 w.heap.size _ (by decide) S0.out).mono ?_;rintro en w6 ⟨xq,rfl,fq,bq⟩;have F1:=Ac fq;have B1:=Ac bq;clear fq bq
 go_wp2_with fail
 refine(aO _ 4831838208 595 (by decide) (by decide)).mono ?_;rintro en w7 ⟨xp,rfl,hp,np,bp⟩;have bA:Below w6.heap.size w6 (w6.alloc (.cells #[.slice xq.1 xq.2.1 xq.2.2] 37)):=By;have bB:Below w7.heap.size w7 (w7.alloc (.cells #[.slice xp.1 xp.2.1 xp.2.2] 37)):=By;have m6:=((Ae.made w6 (.slice xq.1 xq.2.1 xq.2.2)).below bp (by simp))
 have m6':=m6.below bB m6.lt;have m7:=Ae.made w7 (.slice xp.1 xp.2.1 xp.2.2);have hs1:=S0.out;have hs2:=B1.out.size;have hs3:(w6.alloc (.cells #[.slice xq.1 xq.2.1 xq.2.2] 37)).heap.size=w6.heap.size+1:=by simp
 have hs4:=bp.size;have bAll:=Ab (Ab (Ab B1.out bA) bp) bB;have FQ':Fm w.heap.size 1152921504606847009 xq (w7.alloc (.cells #[.slice xp.1 xp.2.1 xp.2.2] 37)):=F1.out.step (.of (Ab (Ab bA bp) bB));have FP':Fm w.heap.size 20752587082923246163 xp (w7.alloc (.cells #[.slice xp.1 xp.2.1 xp.2.2] 37)) :=
  (Eb.fresh (bad:=fun g=>g=w.heap.size) hp np (fun g hg=>by rw[hg];omega)).step (.of bB)
 obtain⟨w0,hw0⟩:∃W,w7.alloc (.cells #[.slice xp.1 xp.2.1 xp.2.2] 37)=W:=⟨_,rfl⟩
 have hs5:w0.heap.size=w7.heap.size+1:=by rw[<-hw0];simp
 rw[hw0]at m6' m7 bAll FQ' FP'
 have HW0:=Ac hw0;have FQ:=Ac FQ';have FP:=Ac FP';have hx0:=HX.out.below bAll HX.out.lt;have HG0:Aa (Mb 118 w w0 w.heap.size xp xq (ps,ns,cs) false undef w0):=⟨⟨⟨Av _,fun _ _ _=>rfl⟩,Ab HB.out bAll,by omega,fun _=>hx0,(fun e=>by cases e)⟩⟩
 have n6:w6.heap.size≠w.heap.size:=by omega
 have n7:w7.heap.size≠w.heap.size:=by omega
 have hl6:w6.heap.size<w0.heap.size:=by omega
 have hl7:w7.heap.size<w0.heap.size:=by omega
 obtain⟨b7,hb7⟩:∃b,w7.heap.size=b:=⟨_,rfl⟩
 rw[hb7]at m7 n7 hl7
 have K6:Aa (∀w',Agree (fun g=>g=w.heap.size) w0 w'->Ae w' w6.heap.size (.slice xq.1 xq.2.1 xq.2.2)):=⟨fun w' a=>by unfold Ae;rw[a.block _ hl6 n6];exact m6'⟩
 have K7:Aa (∀w',Agree (fun g=>g=w.heap.size) w0 w'->Ae w' b7 (.slice xp.1 xp.2.1 xp.2.2)):=⟨fun w' a=>by unfold Ae;rw[a.block _ hl7 n7];exact m7⟩
 clear bA bB m6 m6' m7 hs1 hs2 hs3 hs4 hs5 bAll FQ' FP' hw0 hx0 n6 n7 hl6 hl7 hp np bp;go_wp2;rw[HW0.out]
 try simp only[hb7]
 clear HW0 hb7;refine Am (by kernel_rfl) (by kernel_rfl)
  [some (.agg #[.slice xp.1 xp.2.1 xp.2.2]),some (.agg #[.slice xq.1 xq.2.1 xq.2.2]),none,some (.slice ps ns cs),none,some (.agg #[.slice xq.1 xq.2.1 xq.2.2]),none,none,none,none,none,none,none,none,some (.agg #[.slice xp.1 xp.2.1 xp.2.2]),none,some (.agg #[.slice xq.1 xq.2.1 xq.2.2]),none,none,none,none,none]
  [false,false,true,false,true,false,true,true,true,true,true,true,true,true,false,true,false,true,true,true,true,true] rfl
  (fun w1 w2=>Agree (fun g=>g=w.heap.size) w1 w2) (fun D sp w'=>Mb 118 w w0 w.heap.size xp xq (ps,ns,cs) (D 20) (sp 4) w') (fun i v w'=>Rp w.heap.size xp xq (ps,ns,cs) i v w')
  (fun i v w1 w2 h a=>Rp.ag i v w1 w2 h a)
  (HG0.out.later ((Bd _ _).drew)) ?_ ?_
 .simp only[Bg,Nat.reduceAdd];refine⟨?_,?_,?_,?_,?_,?_,?_,?_,?_,?_,?_,?_,?_,?_,?_,?_,?_,?_,?_,?_,?_,?_,trivial⟩
  case refine_1=>
   intro D sp w' hD hW hdp hG;have hc:w'.cell? ⟨b7,0,none⟩=some (.slice xp.1 xp.2.1 xp.2.2):=(K7.out w' hG.ag).cell;simp[asked,Region.wanted,Oper.gives,execOp,Act.eval,go_sem,hc]
  case refine_2=>
   intro D sp w' hD hW hdp hG;have hc:w'.cell? ⟨w6.heap.size,0,none⟩=some (.slice xq.1 xq.2.1 xq.2.2):=(K6.out w' hG.ag).cell;simp[asked,Region.wanted,Oper.gives,execOp,Act.eval,Act.put,go_sem,hc]
  case refine_6=>
   intro D sp w' hD hW hdp hG;have hc:w'.cell? ⟨w6.heap.size,0,none⟩=some (.slice xq.1 xq.2.1 xq.2.2):=(K6.out w' hG.ag).cell;simp[asked,Region.wanted,Oper.gives,execOp,Act.eval,Act.put,go_sem,hc]
  case refine_15=>
   intro D sp w' hD hW hdp hG;have hc:w'.cell? ⟨b7,0,none⟩=some (.slice xp.1 xp.2.1 xp.2.2):=(K7.out w' hG.ag).cell;simp[asked,Region.wanted,Oper.gives,execOp,Act.eval,Act.put,go_sem,hc]
  case refine_17=>
   intro D sp w' hD hW hdp hG;have hc:w'.cell? ⟨w6.heap.size,0,none⟩=some (.slice xq.1 xq.2.1 xq.2.2):=(K6.out w' hG.ag).cell;simp[asked,Region.wanted,Oper.gives,execOp,Act.eval,Act.put,go_sem,hc]
  case refine_3=>
   intro D sp w' hD hW hdp hG
   (with_reducible refine Ad (w1:=w') (f := 17) (args:=#[.int .u64 262144]) ?_ ?_ ?_)
   .simp only[Region.wanted]
   .simp[Act.eval,Act.put,go_sem]
   .refine(Ip 262144 w.heap.size w' (by decide) hG.lt).mono ?_;rintro en w5 ⟨x,rfl,hF,hb⟩;exact⟨_,rfl,.of hb,⟨x,rfl,hF⟩,by simpa [upd]using hG.later hb⟩
  case refine_7=>
   intro D sp w' hD hW hdp hG
   (with_reducible refine Ad (w1:=w') (f := 17) (args:=#[.int .u64 13]) ?_ ?_ ?_)
   .simp only[Region.wanted]
   .simp[Act.eval,Act.put,go_sem]
   .refine(Ip 13 w.heap.size w' (by decide) hG.lt).mono ?_;rintro en w5 ⟨x,rfl,hF,hb⟩;exact⟨_,rfl,.of hb,⟨x,rfl,hF⟩,by simpa [upd]using hG.later hb⟩
  case refine_8=>
   intro D sp w' hD hW hdp hG
   (with_reducible refine Ad (w1:=w') (f := 17) (args:=#[.int .u64 2]) ?_ ?_ ?_)
   .simp only[Region.wanted]
   .simp[Act.eval,Act.put,go_sem]
   .refine(Ip 2 w.heap.size w' (by decide) hG.lt).mono ?_;rintro en w5 ⟨x,rfl,hF,hb⟩;exact⟨_,rfl,.of hb,⟨x,rfl,hF⟩,by simpa [upd]using hG.later hb⟩
  case refine_9=>
   intro D sp w' hD hW hdp hG
   (with_reducible refine Ad (w1:=w') (f := 17) (args:=#[.int .u64 3]) ?_ ?_ ?_)
   .simp only[Region.wanted]
   .simp[Act.eval,Act.put,go_sem]
   .refine(Ip 3 w.heap.size w' (by decide) hG.lt).mono ?_;rintro en w5 ⟨x,rfl,hF,hb⟩;exact⟨_,rfl,.of hb,⟨x,rfl,hF⟩,by simpa [upd]using hG.later hb⟩
  case refine_10=>
   intro D sp w' hD hW hdp hG
   (with_reducible refine Ad (w1:=w') (f := 17) (args:=#[.int .u64 11]) ?_ ?_ ?_)
   .simp only[Region.wanted]
   .simp[Act.eval,Act.put,go_sem]
   .refine(Ip 11 w.heap.size w' (by decide) hG.lt).mono ?_;rintro en w5 ⟨x,rfl,hF,hb⟩;exact⟨_,rfl,.of hb,⟨x,rfl,hF⟩,by simpa [upd]using hG.later hb⟩
  case refine_11=>
   intro D sp w' hD hW hdp hG
   (with_reducible refine Ad (w1:=w') (f := 17) (args:=#[.int .u64 683]) ?_ ?_ ?_)
   .simp only[Region.wanted]
   .simp[Act.eval,Act.put,go_sem]
   .refine(Ip 683 w.heap.size w' (by decide) hG.lt).mono ?_;rintro en w5 ⟨x,rfl,hF,hb⟩;exact⟨_,rfl,.of hb,⟨x,rfl,hF⟩,by simpa [upd]using hG.later hb⟩
  case refine_12=>
   intro D sp w' hD hW hdp hG
   (with_reducible refine Ad (w1:=w') (f := 17) (args:=#[.int .u64 2971]) ?_ ?_ ?_)
   .simp only[Region.wanted]
   .simp[Act.eval,Act.put,go_sem]
   .refine(Ip 2971 w.heap.size w' (by decide) hG.lt).mono ?_;rintro en w5 ⟨x,rfl,hF,hb⟩;exact⟨_,rfl,.of hb,⟨x,rfl,hF⟩,by simpa [upd]using hG.later hb⟩
  case refine_16=>
   intro D sp w' hD hW hdp hG
   (with_reducible refine Ad (w1:=w') (f := 17) (args:=#[.int .u64 2]) ?_ ?_ ?_)
   .simp only[Region.wanted]
   .simp[Act.eval,Act.put,go_sem]
   .refine(Ip 2 w.heap.size w' (by decide) hG.lt).mono ?_;rintro en w5 ⟨x,rfl,hF,hb⟩;exact⟨_,rfl,.of hb,⟨x,rfl,hF⟩,by simpa [upd]using hG.later hb⟩
  case refine_5=>
   intro D sp w' hD hW hdp hG;have d20:D 20=false:=hW 20 (mq (by kernel_rfl));rw[d20]at hG
   have hf2:∃x:Option Addr×Nat×Nat,sp 2=.agg #[.slice x.1 x.2.1 x.2.2]/\Fm w.heap.size 262144 x w':=(hdp 2 (mq (by kernel_rfl))).2
   (with_reducible refine Bc hf2 fun z g2=>?_)
   have e2:=g2.1
   (with_reducible refine Ai (w1:=w') (v:=.agg #[.slice xp.1 xp.2.1 xp.2.2,.slice xq.1 xq.2.1 xq.2.2,.slice z.1 z.2.1 z.2.2,.slice ps ns cs]) ?_ ?_ ?_)
   .simp only[Region.wanted]
   .simp[execOp,Act.eval,Act.put,go_sem,e2]
   .exact⟨⟨Av _,fun _ _ _=>rfl⟩,⟨z,rfl,g2.2⟩,by simpa [upd,d20]using hG.put4⟩
  case refine_13=>
   intro D sp w' hD hW hdp hG;have hf7:∃x:Option Addr×Nat×Nat,sp 7=.agg #[.slice x.1 x.2.1 x.2.2]/\Fm w.heap.size 2 x w':=(hdp 7 (mq (by kernel_rfl))).2
   (with_reducible refine Bc hf7 fun y7 g7=>?_)
   have e7:=g7.1;have hf8:∃x:Option Addr×Nat×Nat,sp 8=.agg #[.slice x.1 x.2.1 x.2.2]/\Fm w.heap.size 3 x w':=(hdp 8 (mq (by kernel_rfl))).2
   (with_reducible refine Bc hf8 fun y8 g8=>?_)
   have e8:=g8.1;have hf9:∃x:Option Addr×Nat×Nat,sp 9=.agg #[.slice x.1 x.2.1 x.2.2]/\Fm w.heap.size 11 x w':=(hdp 9 (mq (by kernel_rfl))).2
   (with_reducible refine Bc hf9 fun y9 g9=>?_)
   have e9:=g9.1;have hf10:∃x:Option Addr×Nat×Nat,sp 10=.agg #[.slice x.1 x.2.1 x.2.2]/\Fm w.heap.size 683 x w':=(hdp 10 (mq (by kernel_rfl))).2
   (with_reducible refine Bc hf10 fun y10 g10=>?_)
   have e10:=g10.1;have hf11:∃x:Option Addr×Nat×Nat,sp 11=.agg #[.slice x.1 x.2.1 x.2.2]/\Fm w.heap.size 2971 x w':=(hdp 11 (mq (by kernel_rfl))).2
   (with_reducible refine Bc hf11 fun y11 g11=>?_)
   have e11:=g11.1;have hb:Below w'.heap.size w' (w'.alloc (.cells #[.slice y7.1 y7.2.1 y7.2.2,.slice y8.1 y8.2.1 y8.2.2,.slice y9.1 y9.2.1 y9.2.2,.slice y10.1 y10.2.1 y10.2.2,.slice y11.1 y11.2.1 y11.2.2] 37)):=By;have fl:=Nt.made (b:=w.heap.size) (w:=w') [y7,y8,y9,y10,y11] [2,3,11,683,2971] rfl hG.lt (fun i x N h1 h2=>by
    match i,h1,h2 with
    | 0,h1,h2=>simp at h1 h2;subst h1 h2;exact g7.2
    | 1,h1,h2=>simp at h1 h2;subst h1 h2;exact g8.2
    | 2,h1,h2=>simp at h1 h2;subst h1 h2;exact g9.2
    | 3,h1,h2=>simp at h1 h2;subst h1 h2;exact g10.2
    | 4,h1,h2=>simp at h1 h2;subst h1 h2;exact g11.2
    | i+5,h1,h2=>simp at h1) (by decide) (by decide)
   (with_reducible refine Ai (w1:=w'.alloc (.cells #[.slice y7.1 y7.2.1 y7.2.2,.slice y8.1 y8.2.1 y8.2.2,.slice y9.1 y9.2.1 y9.2.2,.slice y10.1 y10.2.1 y10.2.2,.slice y11.1 y11.2.1 y11.2.2] 37)) (v:=.slice (some ⟨w'.heap.size,0,none⟩) 5 5) ?_ ?_ ?_)
   .simp only[Region.wanted]
   .simp[execOp,Act.eval,Act.put,go_sem,e7,e8,e9,e10,e11]
   .exact⟨.of hb,⟨(some ⟨w'.heap.size,0,none⟩,5,5),rfl,fl⟩,by simpa [upd]using hG.later hb⟩
  case refine_14=>
   intro D sp w' hD hW hdp hG;have hf6:∃x:Option Addr×Nat×Nat,sp 6=.agg #[.slice x.1 x.2.1 x.2.2]/\Fm w.heap.size 13 x w':=(hdp 6 (mq (by kernel_rfl))).2
   (with_reducible refine Bc hf6 fun y g6=>?_)
   have e6:=g6.1;have hf12:∃z:Option Addr×Nat×Nat,sp 12=.slice z.1 z.2.1 z.2.2/\Nt w.heap.size [2,3,11,683,2971] z w':=(hdp 12 (mq (by kernel_rfl))).2
   (with_reducible refine Bc hf12 fun z g12=>?_)
   have e12:=g12.1
   (with_reducible refine Ai (w1:=w') (v:=trip xq y z) ?_ ?_ ?_)
   .simp only[Region.wanted]
   .simp[execOp,Act.eval,Act.put,go_sem,e6,e12]
   .exact⟨⟨Av _,fun _ _ _=>rfl⟩,⟨(xq,y,z),rfl,fun w2 a=>⟨FQ.out w2 (hG.ag.trans a),g6.2 w2 a,g12.2 w2 a⟩⟩,by simpa [upd]using hG⟩
  case refine_19=>
   intro D sp w' hD hW hdp hG;have hf15:∃x:Option Addr×Nat×Nat,sp 15=.agg #[.slice x.1 x.2.1 x.2.2]/\Fm w.heap.size 2 x w':=(hdp 15 (mq (by kernel_rfl))).2
   (with_reducible refine Bc hf15 fun y g15=>?_)
   have e15:=g15.1;have hf17:∃z:Option Addr×Nat×Nat,sp 17=.slice z.1 z.2.1 z.2.2/\Nt w.heap.size [1152921504606847009] z w':=(hdp 17 (mq (by kernel_rfl))).2
   (with_reducible refine Bc hf17 fun z g17=>?_)
   have e17:=g17.1
   (with_reducible refine Ai (w1:=w') (v:=trip xp y z) ?_ ?_ ?_)
   .simp only[Region.wanted]
   .simp[execOp,Act.eval,Act.put,go_sem,e15,e17]
   .exact⟨⟨Av _,fun _ _ _=>rfl⟩,⟨(xp,y,z),rfl,fun w2 a=>⟨FP.out w2 (hG.ag.trans a),g15.2 w2 a,g17.2 w2 a⟩⟩,by simpa [upd]using hG⟩
  case refine_18=>
   intro D sp w' hD hW hdp hG;have hb:Below w'.heap.size w' (w'.alloc (.cells #[.slice xq.1 xq.2.1 xq.2.2] 37)):=By;have fl:=Nt.made (b:=w.heap.size) (w:=w') [xq] [1152921504606847009] rfl hG.lt (fun i x N h1 h2=>by
    match i,h1,h2 with
    | 0,h1,h2=>simp at h1 h2;subst h1 h2;exact FQ.out.step hG.ag
    | i+1,h1,h2=>simp at h1) (by decide) (by decide)
   (with_reducible refine Ai (w1:=w'.alloc (.cells #[.slice xq.1 xq.2.1 xq.2.2] 37)) (v:=.slice (some ⟨w'.heap.size,0,none⟩) 1 1) ?_ ?_ ?_)
   .simp only[Region.wanted]
   .simp[execOp,Act.eval,Act.put,go_sem]
   .exact⟨.of hb,⟨(some ⟨w'.heap.size,0,none⟩,1,1),rfl,fl⟩,by simpa [upd]using hG.later hb⟩
  case refine_20=>
   intro D sp w' hD hW hdp hG;have hf13:∃x:(Option Addr×Nat×Nat)×(Option Addr×Nat×Nat)×(Option Addr×Nat×Nat),sp 13=trip x.1 x.2.1 x.2.2/\Yo w.heap.size ⟨1152921504606847009,13,[2,3,11,683,2971]⟩ x.1 x.2.1 x.2.2 w':=(hdp 13 (mq (by kernel_rfl))).2
   (with_reducible refine Bc hf13 fun u g13=>?_)
   have e13:=g13.1;have hf18:∃x:(Option Addr×Nat×Nat)×(Option Addr×Nat×Nat)×(Option Addr×Nat×Nat),sp 18=trip x.1 x.2.1 x.2.2/\Yo w.heap.size ⟨20752587082923246163,2,[1152921504606847009]⟩ x.1 x.2.1 x.2.2 w':=(hdp 18 (mq (by kernel_rfl))).2
   (with_reducible refine Bc hf18 fun v g18=>?_)
   have e18:=g18.1;have hb:Below w'.heap.size w' (w'.alloc (.cells #[.slice u.1.1 u.1.2.1 u.1.2.2,.slice u.2.1.1 u.2.1.2.1 u.2.1.2.2,.slice u.2.2.1 u.2.2.2.1 u.2.2.2.2,.slice v.1.1 v.1.2.1 v.1.2.2,.slice v.2.1.1 v.2.1.2.1 v.2.1.2.2,.slice v.2.2.1 v.2.2.2.1 v.2.2.2.2] 189)):=By;have fc:=Py.made (b:=w.heap.size) (w:=w') [u,v] (Dr 2) #[.slice u.1.1 u.1.2.1 u.1.2.2,.slice u.2.1.1 u.2.1.2.1 u.2.1.2.2,.slice u.2.2.1 u.2.2.2.1 u.2.2.2.2,.slice v.1.1 v.1.2.1 v.1.2.2,.slice v.2.1.1 v.2.1.2.1 v.2.1.2.2,.slice v.2.2.1 v.2.2.2.1 v.2.2.2.2] rfl hG.lt
    (fun i x h=>by
     match i,h with
     | 0,h=>simp at h;subst h;exact⟨rfl,rfl,rfl⟩
     | 1,h=>simp at h;subst h;exact⟨rfl,rfl,rfl⟩
     | i+2,h=>simp at h)
    (fun i x s h1 h2=>by
     match i,h1,h2 with
     | 0,h1,h2=>simp[Dr]at h1 h2;subst h1 h2;exact g13.2
     | 1,h1,h2=>simp[Dr]at h1 h2;subst h1 h2;exact g18.2
     | i+2,h1,h2=>simp at h1)
    (fun s hs=>by
     simp only[Dr,List.mem_cons,List.not_mem_nil,or_false]at hs;rcases hs with rfl|rfl<;>exact⟨by decide,by decide⟩) (by decide)
   (with_reducible refine Ai (w1:=w'.alloc (.cells #[.slice u.1.1 u.1.2.1 u.1.2.2,.slice u.2.1.1 u.2.1.2.1 u.2.1.2.2,.slice u.2.2.1 u.2.2.2.1 u.2.2.2.2,.slice v.1.1 v.1.2.1 v.1.2.2,.slice v.2.1.1 v.2.1.2.1 v.2.1.2.2,.slice v.2.2.1 v.2.2.2.1 v.2.2.2.2] 189)) (v:=.slice (some ⟨w'.heap.size,0,none⟩) 2 2) ?_ ?_ ?_)
   .simp only[Region.wanted]
   .simp[execOp,Act.eval,Act.put,go_sem,e13,e18]
   .exact⟨.of hb,⟨(some ⟨w'.heap.size,0,none⟩,2,2),rfl,fc⟩,by simpa [upd]using hG.later hb⟩
  case refine_21=>
   intro D sp w' hD hW hdp hG;rw[hD]at hG
   have hf4:∃z:Option Addr×Nat×Nat,sp 4=.agg #[.slice xp.1 xp.2.1 xp.2.2,.slice xq.1 xq.2.1 xq.2.2,.slice z.1 z.2.1 z.2.2,.slice ps ns cs]/\Fm w.heap.size 262144 z w':=(hdp 4 (mq (by kernel_rfl))).2
   (with_reducible refine Bc hf4 fun z g4=>?_)
   have e4:=g4.1;have hz:=hG.z0 rfl;have c0:=hz.cells.1;have c1:=hz.cells.2.1;have c2:=hz.cells.2.2.1;have c3:=hz.cells.2.2.2;have f0:=hz.free 0;have f1:=hz.free 1;have f2:=hz.free 2;have f3:=hz.free 3;have hst:=Gn hz (u0:=.slice xp.1 xp.2.1 xp.2.2) (u1:=.slice xq.1 xq.2.1 xq.2.2) (u2:=.slice z.1 z.2.1 z.2.2) (u3:=.slice ps ns cs) rfl;have hN:Mb 118 w w0 w.heap.size xp xq (ps,ns,cs) true (sp 4) _:=⟨hG.ag.trans hst.2.1,hst.2.2 _ _ hG.bel (Av _),Dk hG.lt hst.2.1.size,(fun e=>by cases e),fun _=>⟨z,e4,hst.1⟩⟩
   (with_reducible refine Aq (w1:=(((w'.setCell ⟨w.heap.size,0,none⟩ (.slice xp.1 xp.2.1 xp.2.2)).setCell ⟨w.heap.size,1,none⟩ (.slice xq.1 xq.2.1 xq.2.2)).setCell ⟨w.heap.size,2,none⟩ (.slice z.1 z.2.1 z.2.2)).setCell ⟨w.heap.size,3,none⟩ (.slice ps ns cs)) ?_ ?_ ?_)
   .simp only[Region.wanted]
   .simp[execOp,Act.eval,Act.put,go_sem,e4,c0,c1,c2,c3,f0,f1,f2,f3]
   .exact⟨hst.2.1,trivial,by simpa [upd]using hN⟩
  case refine_22=>
   intro D sp w' hD hW hdp hG;have hf19:∃z:Option Addr×Nat×Nat,sp 19=.slice z.1 z.2.1 z.2.2/\Py w.heap.size (Dr 2) z w':=(hdp 19 (mq (by kernel_rfl))).2
   (with_reducible refine Bc hf19 fun z g19=>?_)
   have e19:=g19.1
   (with_reducible refine Ai (w1:=w') (v:=.slice z.1 z.2.1 z.2.2) ?_ ?_ ?_)
   .simp only[Region.wanted]
   .simp[execOp,Act.eval,Act.put,go_sem,e19]
   .exact⟨⟨Av _,fun _ _ _=>rfl⟩,⟨z,rfl,g19.2⟩,by simpa [upd]using hG⟩
  all_goals
   intro D sp w' hD hW hdp hG;simp[asked,Region.wanted,Oper.gives,execOp,Act.eval,Act.put,go_sem]
 .intro sp wf hsp hG;simp only[Ak,Nat.reduceAdd];have h21:∃z:Option Addr×Nat×Nat,sp 21=.slice z.1 z.2.1 z.2.2/\Py w.heap.size (Dr 2) z wf:=hsp 21 rfl;have h4:∃z:Option Addr×Nat×Nat,sp 4=.agg #[.slice xp.1 xp.2.1 xp.2.2,.slice xq.1 xq.2.1 xq.2.2,.slice z.1 z.2.1 z.2.2,.slice ps ns cs]/\Fm w.heap.size 262144 z wf:=hsp 4 rfl;obtain⟨zc,ez,hzc⟩:=h21;obtain⟨z,e4,hz⟩:=h4;obtain⟨z',e4',hbx⟩:=hG.z1 rfl;have hzz:z'=z:=by
   rw[e4]at e4'
   simp at e4';obtain⟨h1,h2,h3⟩:=e4';exact Prod.ext h1.symm (Prod.ext h2.symm h3.symm)
  subst hzz;have e0:=hbx.cells.1;have e1:=hbx.cells.2.1;have e2:=hbx.cells.2.2.1;have e3:=hbx.cells.2.2.2;have HP:=Ac (FP.out wf hG.ag);have HQ:=Ac (FQ.out wf hG.ag);have HZ:=Ac hz.out;have HC:=Ac hzc.out;have HBf:=Ac hG.bel;rw[ez];clear hsp hG hbx hz hzc e4 e4' ez;generalize sp 2=s2;generalize sp 4=s4;generalize sp 6=s6;generalize sp 7=s7;generalize sp 8=s8;generalize sp 9=s9;generalize sp 10=s10;generalize sp 11=s11;generalize sp 12=s12;generalize sp 13=s13;generalize sp 15=s15;generalize sp 17=s17;generalize sp 18=s18;generalize sp 19=s19
  go_simp
  go_wp2;refine bodyPost_ret (v:=.tuple #[.agg #[.slice xp.1 xp.2.1 xp.2.2,.slice xq.1 xq.2.1 xq.2.2,.slice z'.1 z'.2.1 z'.2.2,.slice ps ns cs],.slice zc.1 zc.2.1 zc.2.2]) (by simp[results,Tryz.results63,go_sem,e0,e1,e2,e3]) rfl
   ⟨xp,xq,z',zc.1,zc.2.1,zc.2.2,rfl,HP.out,HQ.out,HZ.out,HC.out,HBf.out⟩
theorem Qe (w:World)(A:Int)(ps:Option Addr)(ns cs:Nat) :
  Calls Tryz.prog 63 #[.int .i64 A,.slice ps ns cs] w (Oi ((IntKind.u64.wrap A)%3).toNat w ps ns cs):=by
 have hU:0<=IntKind.u64.wrap A:=Int.emod_nonneg _ (by decide);have ht:=Int.tmod_eq_emod_of_nonneg (b:=3) hU;rcases(by omega:IntKind.u64.wrap A%3=0 ∨ IntKind.u64.wrap A%3=1 ∨ IntKind.u64.wrap A%3=2) with h|h|h
 .rw[h];exact Pc w A ps ns cs (by rw[ht,h])
 .rw[h];exact Pb w A ps ns cs (by rw[ht,h])
 .rw[h];exact Pa w A ps ns cs (by rw[ht,h])
end Go.Proofs.YtokhckjemidbpaaGreatDoor
