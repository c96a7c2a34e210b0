/- A group's plain calls: its numbers, its field, its size; of no group. -/
import Derived.Test.YtdebccghjbfgdaaGreatDoorExp
import Derived.Test.YtdebccghjbfgdaaGreatDoorGqM
set_option maxRecDepth 1000000
set_option maxHeartbeats 16000000
set_option linter.unusedSimpArgs false
set_option linter.unusedVariables false
namespace Go.Proofs.YtdebccghjbfgdaaGreatDoor
open Go Go.RowKit Go.Proofs.YtdebccghjbfgdaaGreatDoor.Flow
theorem fit_nil (w:World):Fit 0 0 (.agg #[.slice none 0 0]) w:=Fit.of (NatAt.nil w) (by decide)
theorem modulus_nil (w:World) :
  Calls Tryz.prog 32 #[.pointer none] w fun en w'=>en=.returned (.agg #[.slice none 0 0]) /\ Below w.heap.size w w':=by
 have hb1:=NatBox.made w (.slice none 0 0)
 have c1:=hb1.cell
 have f1:=hb1.free
 have hbel:Below w.heap.size w (w.alloc (.cells #[.slice none 0 0] 36)):=bal
 go_enter Tryz.func32,Tryz.ntmps32
 go_wp2
 exact bodyPost_ret (v:=.agg #[.slice none 0 0]) (by simp [results,Tryz.results32,go_sem,c1]) rfl ⟨rfl,hbel⟩
theorem Keep.trans {B:Nat} {w1 w2 w3:World} (h:Keep B w1 w2) (k:Keep B w2 w3):Keep B w1 w3:=⟨h.bel.trans k.bel,fun p n c N x=>k.nat p n c N (h.nat p n c N x)⟩
theorem Keep.drew (B:Nat) (w:World):Keep B w w.drew:=⟨(Below.refl _ _).drew,fun _ _ _ _ k=>k.below ((Below.refl _ _).drew)⟩
structure RG (B:Nat) (wx:World) (l:List (Nat × Obj)) (w:World):Prop where
 keep:Keep B wx w
 base:B <= w.heap.size
 blk:∀ x ∈ l,w.heap[x.1]? = some x.2
theorem RG.start {B:Nat} {wx:World} {l:List (Nat × Obj)} (hB:B <= wx.heap.size) (hl:∀ x ∈ l,wx.heap[x.1]? = some x.2):RG B wx l wx.drew:=⟨Keep.drew _ _,hB,hl⟩
theorem RG.later {B:Nat} {wx:World} {l:List (Nat × Obj)} {w w':World} (h:RG B wx l w) (hb:Below w.heap.size w w'):RG B wx l w' :=
 ⟨h.keep.trans (Keep.of hb h.base),Nat.le_trans h.base hb.size,fun x hx=>by rw [hb.block x.1 (Array.getElem?_eq_some_iff.1 (h.blk x hx)).1]; exact h.blk x hx⟩
theorem RG.store {B:Nat} {wx:World} {l:List (Nat × Obj)} {w:World} {b m d:Nat} {q:Option Addr} (h:RG B wx l w) (hb:NatBox w b (.slice q m d)) (hB:B <= b) (hn:∀ x ∈ l,x.1 ≠ b) (v:Value):RG B wx l (w.setCell ⟨b,0,none⟩ v) :=
 ⟨h.keep.trans (Keep.store hb hB v),by simpa using h.base,fun x hx=>by
  have:=hn x hx
  simp [World.setCell,Array.getElem?_modify,this.symm]
  exact h.blk x hx⟩
theorem RG.of {B:Nat} {wx:World} {l:List (Nat × Obj)} {w:World} (h:RG B wx l w) {b:Nat} {o:Obj} (hm:(b,o) ∈ l):w.heap[b]? = some o:=h.blk _ hm
def StB (d:Bool) (b N:Nat) (w:World):Prop:=∃ p n c,NatBox w b (.slice p n c) /\ (d=true -> NatAt w p n c N)
theorem StB.fresh {w:World} {b N:Nat} {p:Option Addr} {n c:Nat} (h:NatBox w b (.slice p n c)):StB false b N w:=⟨p,n,c,h,fun e=>by cases e⟩
theorem StB.later {d:Bool} {b N:Nat} {w w':World} (h:StB d b N w) (hb:Below w.heap.size w w'):StB d b N w' :=
 let ⟨p,n,c,h1,h2⟩:=h
 ⟨p,n,c,h1.below hb h1.lt,fun e=>(h2 e).below hb⟩
theorem StB.put {d:Bool} {b N:Nat} {w:World} (h:StB d b N w) {p:Option Addr} {n c:Nat} (hx:NatAt w p n c N):∃ q m k,NatBox w b (.slice q m k) /\ StB true b N (w.setCell ⟨b,0,none⟩ (.slice p n c)) :=
 let ⟨q,m,k,h1,_⟩:=h
 ⟨q,m,k,h1,p,n,c,h1.set _,fun _=>hx.store h1 _⟩
def MkB (d f:Bool) (v:Value) (B N:Nat) (w:World):Prop:=B <= w.heap.size /\ (d=true -> ∃ b,v=.pointer (some ⟨b,0,none⟩) /\ B <= b /\ StB f b N w)
theorem MkB.start {v:Value} {B N:Nat} {w:World} (h:B <= w.heap.size):MkB false false v B N w:=⟨h,fun e=>by cases e⟩
theorem MkB.later {d f:Bool} {v:Value} {B N:Nat} {w w':World} (h:MkB d f v B N w) (hb:Below w.heap.size w w'):MkB d f v B N w' :=
 ⟨Nat.le_trans h.1 hb.size,fun e=>let ⟨b,h1,h2,h3⟩:=h.2 e; ⟨b,h1,h2,h3.later hb⟩⟩
theorem MkB.made {v:Value} {B N:Nat} {w:World} (h:MkB false false v B N w):MkB true false (.pointer (some ⟨w.heap.size,0,none⟩)) B N (w.alloc (.cells #[.slice none 0 0] 36)) :=
 ⟨by simp; have:=h.1; omega,fun _=>⟨_,rfl,h.1,StB.fresh (NatBox.made _ _)⟩⟩
theorem MkB.put {f:Bool} {v:Value} {B N:Nat} {w:World} (h:MkB true f v B N w) {p:Option Addr} {n c:Nat} (hx:NatAt w p n c N) :
  ∃ b q m k,v=.pointer (some ⟨b,0,none⟩) /\ B <= b /\ NatBox w b (.slice q m k) /\ MkB true true v B N (w.setCell ⟨b,0,none⟩ (.slice p n c)) :=
 let ⟨b,h1,h2,h3⟩:=h.2 rfl
 let ⟨q,m,k,h4,h5⟩:=h3.put hx
 ⟨b,q,m,k,h1,h2,h4,by simpa using h.1,fun _=>⟨b,h1,h2,h5⟩⟩
theorem RG.store_over {B B2:Nat} {wx:World} {l:List (Nat × Obj)} {w:World} {b m d:Nat} {q:Option Addr} (h:RG B wx l w) (hb:NatBox w b (.slice q m d)) (hB:B <= B2) (hB2:B2 <= b) (hl:∀ x ∈ l,x.1 < B2) (v:Value):RG B wx l (w.setCell ⟨b,0,none⟩ v) :=
 h.store hb (Nat.le_trans hB hB2) (fun x hx=>by have:=hl x hx; omega) v
def TupFit (e N:Nat) (t v:Value) (w:World):Prop:=∃ p n c,v=.tuple #[.agg #[.slice p n c],t] /\ NatAt w p n c N /\ N < B32 e
theorem TupFit.keep {e N B:Nat} {t v:Value} {w w':World} (h:TupFit e N t v w) (k:Keep B w w'):TupFit e N t v w' :=
 let ⟨p,n,c,h1,h2,h3⟩:=h
 ⟨p,n,c,h1,k.nat _ _ _ _ h2,h3⟩
theorem Ring.keep {B r M f:Nat} {w w':World} (h:Ring w r M f) (hr:r < B) (k:Keep B w w'):Ring w' r M f:=by
 obtain ⟨p,n,c,h1,h2,h3⟩:=h.at_.ex
 exact ⟨⟨p,n,c,by rw [k.bel.block r hr]; exact h1,k.nat _ _ _ _ h2,h3⟩,h.two,h.lim,h.few⟩
structure GroupAt (w:World) (b P Q G H:Nat):Prop where
 ex:∃ rp rq pg ng cg ph nh ch,w.heap[b]? = some (.cells #[.pointer (some ⟨rp,0,none⟩),.pointer (some ⟨rq,0,none⟩),.slice pg ng cg,.slice ph nh ch] 100 (0,0)) /\ Ring w rp P 33 /\ Ring w rq Q 33 /\ NatAt w pg ng cg G /\ G < B32 33 /\ NatAt w ph nh ch H /\ H < B32 33
theorem GroupAt.lt {w:World} {b P Q G H:Nat} (h:GroupAt w b P Q G H):b < w.heap.size:=by
 obtain ⟨_,_,_,_,_,_,_,_,h1,_⟩:=h.ex
 exact (Array.getElem?_eq_some_iff.1 h1).1
theorem GroupAt.below {w w':World} {b P Q G H:Nat} (h:GroupAt w b P Q G H) (hb:Below w.heap.size w w'):GroupAt w' b P Q G H:=by
 have hl:=h.lt
 obtain ⟨rp,rq,pg,ng,cg,ph,nh,ch,h1,h2,h3,h4,h5,h6,h7⟩:=h.ex
 exact ⟨rp,rq,pg,ng,cg,ph,nh,ch,by rw [hb.block b hl]; exact h1,h2.below hb,h3.below hb,h4.below hb,h5,h6.below hb,h7⟩
theorem GroupAt.keep {B:Nat} {w w':World} {b P Q G H:Nat} (h:GroupAt w b P Q G H) (hB:w.heap.size <= B) (k:Keep B w w'):GroupAt w' b P Q G H:=by
 have hl:=h.lt
 obtain ⟨rp,rq,pg,ng,cg,ph,nh,ch,h1,h2,h3,h4,h5,h6,h7⟩:=h.ex
 exact ⟨rp,rq,pg,ng,cg,ph,nh,ch,by rw [k.bel.block b (by omega)]; exact h1,h2.keep (by have:=h2.at_.lt; omega) k,h3.keep (by have:=h3.at_.lt; omega) k,k.nat _ _ _ _ h4,h5,k.nat _ _ _ _ h6,h7⟩
theorem GroupAt.lims {w:World} {b P Q G H:Nat} (h:GroupAt w b P Q G H):2 <= P /\ P < B32 33 /\ 2 <= Q /\ Q < B32 33:=by
 obtain ⟨_,_,_,_,_,_,_,_,_,h2,h3,_⟩:=h.ex
 exact ⟨h2.two,h2.lim,h3.two,h3.lim⟩
structure GroupOk (B:Nat) (w:World) (b P Q G H:Nat):Prop where
 ex:∃ w0,GroupAt w0 b P Q G H /\ w0.heap.size <= B /\ Keep B w0 w
theorem GroupOk.of {B:Nat} {w w':World} {b P Q G H:Nat} (h:GroupAt w b P Q G H) (hB:w.heap.size <= B) (k:Below w.heap.size w w') (hB2:B <= w.heap.size:=by exact Nat.le_refl _):GroupOk B w' b P Q G H:=⟨w,h,hB,Keep.of k hB2⟩
theorem GroupOk.keep {B:Nat} {w w':World} {b P Q G H:Nat} (h:GroupOk B w b P Q G H) (k:Keep B w w'):GroupAt w' b P Q G H :=
 let ⟨_,h1,h2,h3⟩:=h.ex
 h1.keep h2 (h3.trans k)
theorem group_cells {w:World} {b:Nat} {v0 v1 v2 v3:Value} (h:w.heap[b]? = some (.cells #[v0,v1,v2,v3] 100 (0,0))) :
  w.cell? ⟨b,0,none⟩=some v0 /\ w.cell? ⟨b,1,none⟩=some v1 /\ w.cell? ⟨b,2,none⟩=some v2 /\ w.cell? ⟨b,3,none⟩=some v3:=by
 simp [World.cell?,h]
theorem orNone_ptr (w:World) (b:Nat):Calls Tryz.prog 66 #[.pointer (some ⟨b,0,none⟩)] w fun e w'=>e=.returned (.pointer (some ⟨b,0,none⟩)) /\ w'=w:=by
 go_enter Tryz.func66,Tryz.ntmps66
 go_wp2
 go_ret
 exact ⟨rfl,rfl⟩
def NoneAt (w:World) (b:Nat):Prop:=w.heap[b]? = some (.cells #[.pointer none,.pointer none,.slice none 0 0,.slice none 0 0] 100 (0,0))
theorem NoneAt.cells {w:World} {b:Nat} (h:NoneAt w b):w.cell? ⟨b,0,none⟩=some (.pointer none) /\ w.cell? ⟨b,1,none⟩=some (.pointer none):=by
 obtain ⟨h0,h1,_⟩:=group_cells h
 exact ⟨h0,h1⟩
theorem orNone_nil (w:World):Calls Tryz.prog 66 #[.pointer none] w fun e w'=>∃ b,e=.returned (.pointer (some ⟨b,0,none⟩)) /\ NoneAt w' b /\ Below w.heap.size w w':=by
 have hn:NoneAt (w.alloc (.cells #[.pointer none,.pointer none,.slice none 0 0,.slice none 0 0] 100)) w.heap.size:=heap_alloc_new w _
 have hb:Below w.heap.size w (w.alloc (.cells #[.pointer none,.pointer none,.slice none 0 0,.slice none 0 0] 100)):=bal
 have HN:=hol hn
 have HB:=hol hb
 clear hn hb
 go_enter Tryz.func66,Tryz.ntmps66
 go_wp2
 go_ret
 exact ⟨_,rfl,HN.out,HB.out⟩
theorem gcopied_fit {w:World} {e N:Nat} {v:Value} (h:Fit e N v w) (he:e <= 300000) :
  Calls Tryz.prog 89 #[v] w fun en w'=>∃ x,en=.returned x /\ Fit e N x w' /\ Below w.heap.size w w':=by
 obtain ⟨pa,na,ca,rfl,h1,h2⟩:=fit_cases h
 have hbx:=NB2.mk2 w (.slice pa na ca) (.slice none 0 0)
 have hz:∀ w',Fit 0 0 (.agg #[.slice none 0 0]) w':=fun w'=>Fit.of (NatAt.nil w') (by decide)
 have HZ:=Lib.hid hz
 clear hz
 go_enter Tryz.func89,Tryz.ntmps89
 go_wp2_with fail
 refine (add_fit (h.below hbx.bel) (HZ.out _) (by omega) (by omega)).mono ?_
 rintro en w1 ⟨x,rfl,hx,hb⟩
 replace hbx:=hbx.later hb
 obtain ⟨pc,nc,cc,rfl,y1,_⟩:=hx
 have c1:=hbx.b1.cell
 have f1:=hbx.b1.free
 have z1:=hbx.b1.lt
 go_wp2
 exact bodyPost_ret (v:=.agg #[.slice pc nc cc]) (by simp [results,Tryz.results89,go_sem,c1]) rfl ⟨_,rfl,Fit.of (y1.store hbx.b1 _) h2,hbx.bel.setCell (by simp) _⟩
theorem bytesOf_fit {w:World} {e N:Nat} {v:Value} (h:Fit e N v w) (he:e <= 900000) :
  Calls Tryz.prog 154 #[v] w fun en w'=>en=.returned (.int .i64 (bsize N:Nat)) /\ Below w.heap.size w w':=by
 obtain ⟨p,n,c,rfl,h1,h2⟩:=h
 have hn:n < 1000000:=by have:=h1.len_le h2; omega
 have hl:blen N <= 30000000:=by have:=lim_blen h2; omega
 have hbx:=Box1.mk1 w (.slice p n c) 36
 have H1:=hol (h1.below hbx.bel)
 have HBX:=hol hbx.bel
 have HS:Hold (bsize N=(blen N + 7) / 8):=⟨rfl⟩
 clear h1 h2 hbx
 go_enter Tryz.func154,Tryz.ntmps154
 go_wp2_with fail
 refine (bits_calls _ p n c N H1.out hn).mono ?_
 rintro en w1 ⟨rfl,hb1⟩
 have HB1:=hol (bstep HBX.out hb1)
 clear hb1
 obtain ⟨L,hL⟩:∃ L,blen N=L:=⟨_,rfl⟩
 rw [hL] at hl HS
 simp only [hL]
 clear hL
 go_wp2
 go_ret
 refine ⟨?_,HB1.out⟩
 rw [HS.out]
 exact congrArg (fun z=>Ending.returned (.int .i64 z)) (by omega)
theorem gP_fit {w:World} {b P Q G H:Nat} (h:GroupAt w b P Q G H) :
  Calls Tryz.prog 61 #[.pointer (some ⟨b,0,none⟩)] w fun e w'=>∃ x,e=.returned x /\ Fit 33 P x w' /\ Below w.heap.size w w':=by
 have hb1:=NatBox.made w (.slice none 0 0)
 have hbel:Below w.heap.size w (w.alloc (.cells #[.slice none 0 0] 36)):=bal
 obtain ⟨wa,hwa⟩:∃ wa,w.alloc (.cells #[.slice none 0 0] 36)=wa:=⟨_,rfl⟩
 rw [hwa] at hb1 hbel
 obtain ⟨rp,rq,pg,ng,cg,ph,nh,ch,h1,h2,h3,h4,h5,h6,h7⟩:=(h.below hbel).ex
 obtain ⟨c0,cq,c2,c3⟩:=group_cells h1
 have HR:=hol h2
 have HBX:=hol hb1
 have HB:=hol hbel
 clear h h1 h2 h3 h4 h5 h6 h7 hb1 hbel
 go_enter Tryz.func61,Tryz.ntmps61
 go_wp2_with fail
 refine (orNone_ptr wa b).mono ?_
 rintro en w1 ⟨rfl,rfl⟩
 go_wp2_with fail
 refine (modulus_fit HR.out).mono ?_
 rintro en w2 ⟨x,rfl,hx,hb2⟩
 obtain ⟨pc,nc,cc,rfl,y1,y2⟩:=hx
 have hbn:=HBX.out.below hb2 HBX.out.lt
 have k1:=hbn.cell
 have f1:=hbn.free
 have z1:=hbn.lt
 clear c0 cq c2 c3
 go_wp2
 exact bodyPost_ret (v:=.agg #[.slice pc nc cc]) (by simp [results,Tryz.results61,go_sem,k1]) rfl ⟨_,rfl,Fit.of (y1.store hbn _) y2,(bstep HB.out hb2).setCell (by simp) _⟩
theorem gG_fit {w:World} {b P Q G H:Nat} (h:GroupAt w b P Q G H) :
  Calls Tryz.prog 40 #[.pointer (some ⟨b,0,none⟩)] w fun e w'=>∃ x,e=.returned x /\ Fit 33 G x w' /\ Below w.heap.size w w':=by
 have hb1:=NatBox.made w (.slice none 0 0)
 have hbel:Below w.heap.size w (w.alloc (.cells #[.slice none 0 0] 36)):=bal
 obtain ⟨wa,hwa⟩:∃ wa,w.alloc (.cells #[.slice none 0 0] 36)=wa:=⟨_,rfl⟩
 rw [hwa] at hb1 hbel
 obtain ⟨rp,rq,pg,ng,cg,ph,nh,ch,h1,h2,h3,h4,h5,h6,h7⟩:=(h.below hbel).ex
 obtain ⟨c0,cq,c2,c3⟩:=group_cells h1
 have HR:=hol (Fit.of h4 h5)
 have HBX:=hol hb1
 have HB:=hol hbel
 clear h h1 h2 h3 h4 h5 h6 h7 hb1 hbel
 go_enter Tryz.func40,Tryz.ntmps40
 go_wp2_with fail
 refine (orNone_ptr wa b).mono ?_
 rintro en w1 ⟨rfl,rfl⟩
 go_wp2_with fail
 refine (gcopied_fit HR.out (by decide)).mono ?_
 rintro en w2 ⟨x,rfl,hx,hb2⟩
 obtain ⟨pc,nc,cc,rfl,y1,y2⟩:=hx
 have hbn:=HBX.out.below hb2 HBX.out.lt
 have k1:=hbn.cell
 have f1:=hbn.free
 have z1:=hbn.lt
 clear c0 cq c2 c3
 go_wp2
 exact bodyPost_ret (v:=.agg #[.slice pc nc cc]) (by simp [results,Tryz.results40,go_sem,k1]) rfl ⟨_,rfl,Fit.of (y1.store hbn _) y2,(bstep HB.out hb2).setCell (by simp) _⟩
theorem gH_fit {w:World} {b P Q G H:Nat} (h:GroupAt w b P Q G H) :
  Calls Tryz.prog 62 #[.pointer (some ⟨b,0,none⟩)] w fun e w'=>∃ x,e=.returned x /\ Fit 33 H x w' /\ Below w.heap.size w w':=by
 have hb1:=NatBox.made w (.slice none 0 0)
 have hbel:Below w.heap.size w (w.alloc (.cells #[.slice none 0 0] 36)):=bal
 obtain ⟨wa,hwa⟩:∃ wa,w.alloc (.cells #[.slice none 0 0] 36)=wa:=⟨_,rfl⟩
 rw [hwa] at hb1 hbel
 obtain ⟨rp,rq,pg,ng,cg,ph,nh,ch,h1,h2,h3,h4,h5,h6,h7⟩:=(h.below hbel).ex
 obtain ⟨c0,cq,c2,c3⟩:=group_cells h1
 have HR:=hol (Fit.of h6 h7)
 have HBX:=hol hb1
 have HB:=hol hbel
 clear h h1 h2 h3 h4 h5 h6 h7 hb1 hbel
 go_enter Tryz.func62,Tryz.ntmps62
 go_wp2_with fail
 refine (orNone_ptr wa b).mono ?_
 rintro en w1 ⟨rfl,rfl⟩
 go_wp2_with fail
 refine (gcopied_fit HR.out (by decide)).mono ?_
 rintro en w2 ⟨x,rfl,hx,hb2⟩
 obtain ⟨pc,nc,cc,rfl,y1,y2⟩:=hx
 have hbn:=HBX.out.below hb2 HBX.out.lt
 have k1:=hbn.cell
 have f1:=hbn.free
 have z1:=hbn.lt
 clear c0 cq c2 c3
 go_wp2
 exact bodyPost_ret (v:=.agg #[.slice pc nc cc]) (by simp [results,Tryz.results62,go_sem,k1]) rfl ⟨_,rfl,Fit.of (y1.store hbn _) y2,(bstep HB.out hb2).setCell (by simp) _⟩
theorem gfield_fit {w:World} {b P Q G H:Nat} (h:GroupAt w b P Q G H) :
  Calls Tryz.prog 19 #[.pointer (some ⟨b,0,none⟩)] w fun e w'=>∃ r,e=.returned (.pointer (some ⟨r,0,none⟩)) /\ Ring w' r Q 33 /\ Below w.heap.size w w':=by
 have hq:=h.lims.2.2.1
 obtain ⟨rp,rq,pg,ng,cg,ph,nh,ch,h1,h2,h3,h4,h5,h6,h7⟩:=h.ex
 obtain ⟨c0,cq,c2,c3⟩:=group_cells h1
 have HR:=hol h3
 clear h h1 h2 h3 h4 h5 h6 h7
 go_enter Tryz.func19,Tryz.ntmps19
 go_wp2_with fail
 refine (orNone_ptr w b).mono ?_
 rintro en w1 ⟨rfl,rfl⟩
 go_wp2_with fail
 refine (modulus_fit HR.out).mono ?_
 rintro en w2 ⟨x,rfl,hx,hb2⟩
 have HX:=hol hx
 have HB2:=hol hb2
 clear hx hb2 c0 cq c2 c3
 go_wp2_with fail
 refine (rngnew_fit HX.out (by decide)).mono ?_
 rintro en w3 ⟨hb3,hh⟩
 rcases hh with ⟨hl,_⟩ | ⟨_,r,rfl,hr,_⟩
 ·omega
 have HR3:=hol hr
 have HB3:=hol (bstep HB2.out hb3)
 clear hr hb3
 go_wp2
 go_ret
 exact ⟨r,rfl,HR3.out,HB3.out⟩
theorem gsize_fit {w:World} {b P Q G H:Nat} (h:GroupAt w b P Q G H) :
  Calls Tryz.prog 142 #[.pointer (some ⟨b,0,none⟩)] w fun e w'=>e=.returned (.int .i64 (bsize P:Nat)) /\ Below w.heap.size w w':=by
 have HG:=hol h
 clear h
 go_enter Tryz.func142,Tryz.ntmps142
 go_wp2_with fail
 refine (gP_fit HG.out).mono ?_
 rintro en w1 ⟨x,rfl,hx,hb1⟩
 have HX:=hol hx
 have HB1:=hol hb1
 clear hx hb1
 go_wp2_with fail
 refine (bytesOf_fit HX.out (by decide)).mono ?_
 rintro en w2 ⟨rfl,hb2⟩
 have HB2:=hol (bstep HB1.out hb2)
 clear hb2
 go_wp2
 go_ret
 exact ⟨rfl,HB2.out⟩
theorem gfield_nil (w:World):Calls Tryz.prog 19 #[.pointer none] w fun e w'=>e=.returned (.pointer none) /\ Below w.heap.size w w':=by
 go_enter Tryz.func19,Tryz.ntmps19
 go_wp2_with fail
 refine (orNone_nil w).mono ?_
 rintro en w1 ⟨b,rfl,hn,hb1⟩
 obtain ⟨c0,c1⟩:=hn.cells
 have HB1:=hol hb1
 clear hn hb1
 go_wp2_with fail
 refine (modulus_nil w1).mono ?_
 rintro en w2 ⟨rfl,hb2⟩
 have HB2:=hol (bstep HB1.out hb2)
 have HF:=hol (fit_nil w2)
 clear hb2 c0 c1
 go_wp2_with fail
 refine (rngnew_fit HF.out (by decide)).mono ?_
 rintro en w3 ⟨hb3,hh⟩
 rcases hh with ⟨_,rfl⟩ | ⟨hl,_⟩
 ·have HB3:Hold _:=⟨bstep HB2.out hb3⟩
  clear hb3
  go_wp2
  go_ret
  exact ⟨rfl,HB3.out⟩
 ·omega
end Go.Proofs.YtdebccghjbfgdaaGreatDoor
