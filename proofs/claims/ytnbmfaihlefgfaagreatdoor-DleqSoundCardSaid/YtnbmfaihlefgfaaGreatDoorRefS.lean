/- The document's sum. -/
import Derived.Test.YtnbmfaihlefgfaaGreatDoorRefW
import Derived.Test.YtnbmfaihlefgfaaGreatDoorFit4
set_option maxRecDepth 1000000
set_option maxHeartbeats 16000000
set_option linter.all false
namespace Go.Proofs.YtnbmfaihlefgfaaGreatDoor
open Go Go.RowKit Go.Proofs.YtnbmfaihlefgfaaGreatDoor.Flow
structure Xu (w:World) (g:Nat) (H:List Nat):Prop where
 k:w.heap[g]? = some (.cells (Dz Df) 246 (0,0))
 h:w.heap[g+1]? = some (.cells (Dz H) 247 (0,0))
theorem Xu.lt {w:World}{g:Nat}{H:List Nat}(h:Xu w g H):g+1<w.heap.size:=(Gn h.h).1
theorem Xu.below {w w':World}{g:Nat}{H:List Nat}(h:Xu w g H){B:Nat}(hb:Below B w w')(hg:g+1<B):Xu w' g H:=⟨(hb.block g (by omega)).trans h.k,(hb.block (g+1) hg).trans h.h⟩
structure SG (w0:World) (g:Nat) (H H':List Nat) (d7 d8:Bool) (w':World):Prop where
 but:Ct (g+1) w0 w'
 k:w'.heap[g]? = some (.cells (Dz Df) 246 (0,0))
 ord:d8=true->d7=true
 old:d8=false->w'.heap[g+1]? = some (.cells (Dz H) 247 (0,0))
 new:d8=true->w'.heap[g+1]? = some (.cells (Dz H') 247 (0,0))
theorem SG.open {w0 w':World}{g:Nat}{H H':List Nat}{d8:Bool}(h:SG w0 g H H' false d8 w'):d8=false:=by
 cases d8 with
 | false=>rfl
 | true=>exact absurd (h.ord rfl) (by simp)
theorem nZ {w:World}{g:Nat}{l:List Nat}(hl:l.length=8)(h:w.heap[g]? = some (.cells (Dz l) 247 (0,0))):(loadVar 247 ⟨g,0,none⟩).run Tryz.prog w=.ok (.agg (Dz l)) w :=
 run_loadVar_row w g 247 247 _ (0,0) _ h Tryz.underlying247 rfl (Mk hl)
theorem kC {w:World}{g:Nat}{l:List Nat}(hl:l.length=64)(h:w.heap[g]? = some (.cells (Dz l) 246 (0,0))):(loadVar 246 ⟨g,0,none⟩).run Tryz.prog w=.ok (.agg (Dz l)) w :=
 run_loadVar_row w g 246 246 _ (0,0) _ h Tryz.underlying246 rfl (Ss hl)
theorem jC {w:World}{g:Nat}{l l':List Nat}(hl:l.length=8)(hl':l'.length=8)(h:w.heap[g]? = some (.cells (Dz l) 247 (0,0))):(storeVar 247 ⟨g,0,none⟩ (.agg (Dz l'))).run Tryz.prog w=.ok () (w.setRow g (Dz l')) :=
 run_storeVar_row w g 247 247 (Dz l) (Dz l') h (Mk hl') (by rw[Jb,Jb,hl,hl']) (Mb l')
theorem jF (w:World)(b off k N c:Nat)(h1:64*k+64<=N)(h2:N<=c) :
  (Instr.sliceAt 60 (.slice (some ⟨b,off,none⟩) N c) (some (.int .i64 (64*(k:Int)))) (some (.int .i64 (64*(k:Int)+64))) none).run Tryz.prog w=.ok (.slice (some ⟨b,off+64*k,none⟩) 64 (c-64*k)) w:=by
 have hel:Tryz.prog.elem 60 = 5 := by kernel_rfl
 have hu:Tryz.prog.underlying 60 = some (.slice (Tryz.prog.elem 60)):=by rw[hel];exact Tryz.underlying60
 rw[run_sliceAt_slice w 60 _ _ _ _ hu,run_slice_lh w 60 _ _ _ hu .i64 .i64 _ _ (by omega) (by omega) (by omega)];have hs:(sizeOf (Tryz.prog.elem 60)).run Tryz.prog w=.ok 1 w:=by rw[hel];simp[go_sem]
 rw[hs];simp only[Result.andThen_ok,sliced];rw[if_neg (by omega)]
 congr 1
 rw[Option.map_some,add_plain]
 congr 1
 .congr 2;omega
 .omega
theorem qU (a b c d e f g h k:Nat)(hk:k<8)(w:World) :
  (Instr.index 247 (.agg #[Value.int .u32 (a:Nat),Value.int .u32 (b:Nat),Value.int .u32 (c:Nat),Value.int .u32 (d:Nat),Value.int .u32 (e:Nat),Value.int .u32 (f:Nat),Value.int .u32 (g:Nat),Value.int .u32 (h:Nat)]) (.int .i64 (k:Nat))).run Tryz.prog w =
   .ok (.int .u32 ([a,b,c,d,e,f,g,h].getD k 0:Nat)) w:=by
 rcases(by omega:k=0 ∨ k=1 ∨ k=2 ∨ k=3 ∨ k=4 ∨ k=5 ∨ k=6 ∨ k=7) with rfl|rfl|rfl|rfl|rfl|rfl|rfl|rfl<;>kernel_rfl
theorem qA (l:List Nat)(hl:l.length=8)(k:Nat)(hk:k<8)(w:World):(Instr.index 247 (.agg (Dz l)) (.int .i64 k)).run Tryz.prog w=.ok (.int .u32 (l.getD k 0:Nat)) w:=by
 match l,hl with
 | [a,b,c,d,e,f,g,h],_=>exact qU a b c d e f g h k hk w
theorem Od {n j:Nat}(hj:j<=Bg n):(n+1+j)%64=56 ↔ j=Bg n:=by
 unfold Bg at *;omega
theorem We (w:World)(p:Option Addr)(n c:Nat)(xs:List Nat)(hr:Bi w .u8 p n c xs)(h8:Ay xs)(hz:p=none->c=0)(hn:n<=1000000) :
  Calls Tryz.prog 178 #[.slice p n c] w (Tl (Kx xs) w):=by
 have HR:Ad (Bi w .u8 p n c xs):=⟨hr⟩
 have HL:Ad (n=xs.length):=⟨hr.len⟩
 have H8:Ad (Ay xs):=⟨h8⟩
 have HZ:Ad (p=none->c=0):=⟨hz⟩
 have hI64:=Aa (Ss Ek);have hI8:=Aa (Mk Ok);clear hr h8 hz;go_enter Tryz.func178,Tryz.ntmps178
 go_wp2_with fail
 refine(Yg w).mono ?_;rintro e w1 ⟨rfl,hb1⟩;have hG0:Ad (((w1.alloc (.cells (zeros .u32 64) 246)).alloc (.cells (zeros .u32 8) 247)).heap[w1.heap.size]? = some (.cells (zeros .u32 64) 246 (0,0))):=⟨heap_alloc2_old w1 _ _⟩
 have hG1:Ad (((w1.alloc (.cells (zeros .u32 64) 246)).alloc (.cells (zeros .u32 8) 247)).heap[w1.heap.size+1]? = some (.cells (zeros .u32 8) 247 (0,0))):=⟨heap_alloc2_new w1 _ _⟩
 have hW:Ad (Below w.heap.size w ((w1.alloc (.cells (zeros .u32 64) 246)).alloc (.cells (zeros .u32 8) 247))):=⟨Ds hb1 (((Bd _ _).alloc (As _) _).alloc (by simp) _)⟩
 have hz1:=hb1.size
 go_wp2_with (first
  | (refine wpList_store_row rfl 246 _ _ rfl w1.heap.size (Dz Df) rfl rfl 246 (zeros .u32 64) hG0.out hI64.out rfl (Mb Df) ?_)
  | (refine wpList_store_row rfl 247 _ _ rfl (w1.heap.size+1) (Dz Dq) rfl rfl 247 (zeros .u32 8) ((setRow_other _ w1.heap.size (w1.heap.size+1) _ (by omega)).trans hG1.out) hI8.out rfl (Mb Dq) ?_;refine Fn.out ?_))
 refine⟨?_⟩;refine eJ (w':=(((w1.alloc (.cells (zeros .u32 64) 246)).alloc (.cells (zeros .u32 8) 247)).setRow w1.heap.size (Dz Df)).setRow (w1.heap.size+1) (Dz Dq)) (by kernel_rfl) ?_;have o1:=(setRow_other _ w1.heap.size (w1.heap.size+1) (Dz Df) (by omega)).trans hG1.out;have k1:=setRow_heap _ w1.heap.size (zeros .u32 64) (Dz Df) 246 (0,0) hG0.out;have k2:=(setRow_other _ (w1.heap.size+1) w1.heap.size (Dz Dq) (by omega)).trans k1;have k3:=setRow_heap _ (w1.heap.size+1) (zeros .u32 8) (Dz Dq) 247 (0,0) o1;have hb2:=below_setRow (below_setRow hW.out hz1 (Dz Df)) (show w.heap.size<=w1.heap.size+1 by omega) (Dz Dq);generalize hw2:World.setRow (World.setRow _ _ _) _ _=w2 at *;have HSB:Ad (Xu w2 w1.heap.size Dq):=⟨⟨k2,k3⟩⟩
 have HB2:Ad (Below w.heap.size w w2):=⟨hb2⟩
 have hgw:w1.heap.size+1<w2.heap.size:=HSB.out.lt;obtain⟨G,hG⟩:∃G,w1.heap.size=G:=⟨_,rfl⟩
 rw[hG]at HSB hgw hz1
 simp only[hG];clear o1 k1 k2 k3 hb2 hw2 hG0 hG1 hW hb1 hG hI64 hI8;have hrow0:Ad (Bi (w2.alloc (.cells #[] 5)) .u8 p n c xs):=⟨HR.out.below (HB2.out.trans (((Bd _ _).alloc (As _) _).mono HB2.out.size))⟩
 have hbd:Below w2.heap.size w2 (w2.alloc (.cells #[] 5)):=By;have HO0:Ad (Own (w2.alloc (.cells #[] 5)) w2.heap.size (.slice (some ⟨w2.heap.size,0,none⟩) 0 0) []):=⟨Own.lit w2 [] (by decide)⟩
 have hmx:Ad (([]:List Nat).length+n<=140737488355328):=⟨by simp;omega⟩
 have hsz3:w2.heap.size<=(w2.alloc (.cells #[] 5)).heap.size:=hbd.size
 go_wp2_with (at_builtin;refine Dj rfl _ _ rfl rfl HO0.out rfl hrow0.out HZ.out hmx.out hsz3 ?_;intro v1 w3 ho1 hg1;refine Fn.out ?_)
 refine⟨?_⟩;rw[List.nil_append]at ho1
 have hb3:Below w2.heap.size w2 w3:=hbd.trans (grown_below hg1 hsz3 (fun b hb=>by cases hb;exact As _));clear hg1 hrow0 hbd hmx hsz3 HR HZ;obtain⟨q1,c1,rfl,r1,_,z1,_⟩:=ho1.elim;have HN:Ad (Bg xs.length=Bg n/\xs.length=n):=⟨by rw[HL.out],HL.out.symm⟩
 have hM:((xs.length:Int)*8)%18446744073709551616=((n*8:Nat):Int):=by have:=HL.out;omega
 have hM':IntKind.u64.wrap ((xs.length:Int)*8)=((n*8:Nat):Int):=hM;have HO1:Ad (Own w3 w2.heap.size (.slice q1 xs.length c1) xs):=⟨ho1⟩
 clear ho1 r1 z1;have hl:xs.length<=1000000:=by have:=HL.out;omega
 have hsz3:=hb3.size;have hb4:Below w3.heap.size w3 (w3.alloc (.cells #[.int .u8 128] 5)):=By;have HO2:Ad (Own (w3.alloc (.cells #[.int .u8 128] 5)) w2.heap.size (.slice q1 xs.length c1) xs):=⟨HO1.out.belowS hb4⟩
 have hrow:Ad (Bi (w3.alloc (.cells #[.int .u8 128] 5)) .u8 (some ⟨w3.heap.size,0,none⟩) 1 1 [128]):=⟨Jz w3 [128] (by decide)⟩
 have hsz4:w2.heap.size<=(w3.alloc (.cells #[.int .u8 128] 5)).heap.size:=Ec hsz3 hb4.size
 go_wp2_with (at_builtin;refine Dj rfl _ _ rfl rfl HO2.out rfl hrow.out (fun h=>by cases h) (by omega) hsz4 ?_;intro v2 w4 ho2 hg2;refine Fn.out ?_)
 refine⟨?_⟩;have hb5:Below w2.heap.size w2 w4:=(hb3.trans (hb4.mono hsz3)).trans (grown_below hg2 hsz4 HO2.out.ge);clear hg2 hb4 HO1 HO2 hrow hsz4 hsz3 hb3;have HX:Ad (w2.heap.size<=w4.heap.size):=⟨hb5.size⟩
 go_wp2
 go_loopw [5] (fun x wr=>∃(j:Nat) (v:Value),j<=Bg n/\v=x/\Ad (Own wr w2.heap.size v (xs++128::List.replicate j 0))/\Ad (Below w2.heap.size w2 wr)) (fun x _=>n+1+Bg n-(match x with | .slice _ l _=>l|_=>0))
 case atStart=>exact⟨0,v2,by omega,rfl,⟨ho2⟩,⟨hb5⟩⟩
 case round=>
  obtain⟨j,v,hj,rfl,HOW,HBE⟩:=hrel;obtain⟨q,c5,rfl,_,_,_,_⟩:=HOW.out.elim;obtain⟨L,hL⟩:∃L,(xs++128::List.replicate j 0).length=L:=⟨_,rfl⟩
  have hLn:L=n+1+j:=by rw[<-hL];simp;have:=HL.out;omega
  have hnn:Bg n<64:=by unfold Bg;omega
  rw[hL]at HOW ⊢
  have HLe:Ad ((xs++128::List.replicate j 0).length=L):=⟨hL⟩
  clear hL;have hsz:=HBE.out.size
  by_cases hjn:j=Bg n
  .have ht:(L:Int)%64=56:=by have:=(Od (n:=n) hj).2 hjn;omega
   have ht':(L:Int).tmod 64=56:=by rw[Int.tmod_eq_emod_of_nonneg (by omega)];exact ht
   have hw4:=HX.out;have HP:Ad (xs++128::List.replicate j 0=xs++128::(List.replicate (Bg n) 0++(Ya (n*8)).take 0)):=⟨by rw[hjn,List.take_zero,List.append_nil]⟩
   have HLn:Ad (L=n+1+j):=⟨hLn⟩
   clear hLn;go_wp2
   go_loopw [5,7] (fun x i wr=>∃v:Value,v=x/\Ad (Below w2.heap.size w2 wr)/\((∃k d:Nat,k+d=7/\i=.int .i64 d/\Ad (Own wr w2.heap.size v (xs++128::(List.replicate (Bg n) 0++(Ya (n*8)).take k)))) ∨ (i=.int .i64 (-1)/\Ad (Own wr w2.heap.size v (xs++128::(List.replicate (Bg n) 0++(Ya (n*8)).take 8)))))) (fun _ i _=>(intOf i+1).toNat)
   case atStart=>exact⟨_,rfl,HBE,.inl ⟨0,7,rfl,rfl,⟨by rw[<-HP.out];exact HOW.out⟩⟩⟩
   case round=>
    obtain⟨v,rfl,HBE2,hor⟩:=hrel;have hsz2:=HBE2.out.size;rcases hor with ⟨k,d,hkd,rfl,HOW2⟩|⟨rfl,HOW2⟩
    .obtain⟨b,hb⟩:∃b,n*8/2^(8*d)%256=b:=⟨_,rfl⟩
     have hv:(n:Int)*8/2^(8*d)%256=(b:Int):=by
      rw[<-hb,Int.natCast_emod,Int.natCast_ediv,Int.natCast_pow,Int.natCast_mul];rfl
     have hb256:b<256:=by omega
     have HE:Ad ((xs++128::(List.replicate (Bg n) 0++(Ya (n*8)).take k))++[b]=xs++128::(List.replicate (Bg n) 0++(Ya (n*8)).take (k+1))):=⟨by
      have h1:(Ya (n*8))[k]? = some b:=by
       unfold Ya;rw[List.getElem?_map,List.getElem?_range (by omega),Option.map_some,show 7-k=d by omega,hb]
      rw[List.take_add_one,h1,List.append_assoc,List.cons_append,List.append_assoc];rfl⟩
     have HLk:Ad ((xs++128::(List.replicate (Bg n) 0++(Ya (n*8)).take k)).length<=n+80):=⟨by simp[If];have:=HL.out;omega⟩
     obtain⟨Y,hY⟩:∃Y,xs++128::(List.replicate (Bg n) 0++(Ya (n*8)).take k)=Y:=⟨_,rfl⟩
     rw[hY]at HOW2 HE HLk
     clear hY hb;obtain⟨q2,c2,rfl,_,_,_,_⟩:=HOW2.out.elim;have hb6:Below wr.heap.size wr (wr.alloc (.cells #[.int .u8 b] 5)):=By;have HO3:Ad (Own (wr.alloc (.cells #[.int .u8 b] 5)) w2.heap.size (.slice q2 Y.length c2) Y):=⟨HOW2.out.belowS hb6⟩
     have hrow:Ad (Bi (wr.alloc (.cells #[.int .u8 b] 5)) .u8 (some ⟨wr.heap.size,0,none⟩) 1 1 [b]):=⟨Jz wr [b] (show 1<=9223372036854775807 by decide)⟩
     have hsz6:w2.heap.size<=(wr.alloc (.cells #[.int .u8 b] 5)).heap.size:=Ec hsz2 hb6.size;have hmx:Ad (Y.length+1<=140737488355328):=⟨by have:=HLk.out;omega⟩
     have HB6:Ad (Below w2.heap.size w2 (wr.alloc (.cells #[.int .u8 b] 5))):=⟨HBE2.out.trans (hb6.mono hsz2)⟩
     have a8:(8*(d:Int)).toNat=8*d:=by omega
     have d7:d<=7:=by omega
     clear hb6
     go_wp2_with (at_builtin;refine Dj rfl _ _ rfl rfl HO3.out rfl hrow.out (fun h=>by cases h) hmx.out hsz6 ?_;intro v3 w6 ho3 hg3;refine Fn.out ?_)
     refine⟨?_⟩;have hb7:=grown_below hg3 hsz6 HO3.out.ge;rw[HE.out]at ho3
     have HO4:=Aa ho3;have HB7:=Aa (HB6.out.trans hb7);clear hg3 ho3 hb7 HB6 HO3 hrow;go_wp2;go_roundw
     case rel=>
      refine⟨_,rfl,HB7,?_⟩;rcases Nat.eq_zero_or_pos d with rfl|hd
      .obtain rfl:k=7:=by omega
       exact .inr ⟨rfl,HO4⟩
      .exact .inl ⟨k+1,d-1,by omega,(show Value.int .i64 ((d:Int)-1)=.int .i64 ((d-1:Nat):Int) from congrArg (Value.int .i64) (by omega)),HO4⟩
     case measure=>simp[intOf]
    .have HMM:Ad (xs++128::(List.replicate (Bg n) 0++(Ya (n*8)).take 8)=xs++behind xs.length):=⟨by
      unfold behind;rw[HN.out.1,HN.out.2,List.take_of_length_le (by rw[If];exact As _),Nat.mod_eq_of_lt (show n*8<18446744073709551616 by omega)]⟩
     rw[HMM.out]at HOW2
     have hall:=dG xs.length;obtain⟨K,hK⟩:∃K,(xs.length+(behind xs.length).length)/64=K:=⟨_,rfl⟩
     have hml:(xs++behind xs.length).length=64*K:=by rw[List.length_append];omega
     have hK0:0<K:=by have:=Gm xs.length;omega
     have hKb:K<=100000:=by
      have h1:=Gm xs.length;have h2:Bg xs.length<64:=by unfold Bg;omega
      omega
     have H8m:Ad (Ay (xs++behind xs.length)):=⟨fun x hx=>by
      rcases List.mem_append.1 hx with h|h
      .exact H8.out x h
      .exact Oy _ x h⟩
     have HSha:Ad (Kx xs=(blocks (xs++behind xs.length) K).flatMap Ew):=⟨by unfold Kx;rw[hK]⟩
     obtain⟨mm,hmm⟩:∃mm,xs++behind xs.length=mm:=⟨_,rfl⟩
     rw[hmm]at HOW2 hml H8m HSha
     clear hmm hall HMM;obtain⟨q3,c7,rfl,hr7,hn7,_,_⟩:=HOW2.out.elim;obtain⟨b,off,rfl,hbl,Br⟩:=(hr7.row (by omega)).pos (by omega);have hbge:w2.heap.size<=b:=hn7 _ rfl;have hcap7:=hr7.cap;have hmax7:=hr7.max;rw[hml]at hcap7 ⊢
     have HCell:Ad (∀w',Ct (G+1) wr w'->∀(i x:Nat),mm[i]? = some x->w'.cell? ⟨b,off+i,none⟩=some (.int .u8 (x:Int))):=⟨fun w' hb i x hx=>by
      rw[hb.cell (p:=⟨b,off+i,none⟩) hbl (by show b≠G+1;omega)];exact Br i x hx⟩
     have HS0:Ad (Xu wr G (blocks mm 0)):=⟨HSB.out.below HBE2.out hgw⟩
     have HML:Ad (mm.length=64*K):=⟨hml⟩
     clear hr7 hn7 Br HOW2 hml hK;have HB8:Ad (Below w2.heap.size w2 wr):=HBE2;go_wp2
     go_loopw [8] (fun i w'=>∃k:Nat,k<=K/\i=.int .i64 ((64*k:Nat):Int)/\Ad (Ct (G+1) wr w')/\Ad (Xu w' G (blocks mm k))) (fun i _=>64*K-(intOf i).toNat)
     case atStart=>exact⟨0,by omega,rfl,⟨Ct.refl _ _⟩,HS0⟩
     case round=>
      obtain⟨k,hk,rfl,HBut,HSk⟩:=hrel
      by_cases hkK:k<K
      .have hlt:64*k<64*K:=by omega
       have hlt':((64*k:Nat):Int)<((64*K:Nat):Int):=by omega
       have hgl:G+1<wr.heap.size:=HSk.out.lt;obtain⟨Hk,hHk⟩:∃H,blocks mm k=H:=⟨_,rfl⟩
       obtain⟨Hn,hHn⟩:∃H,blocks mm (k+1)=H:=⟨_,rfl⟩
       have HHk:Ad (Hk.length=8/\Words Hk/\Hn.length=8):=⟨by rw[<-hHk,<-hHn];exact⟨Cl mm k,Hj mm k,Cl mm (k+1)⟩⟩
       have HStep:Ad (Pq Hk ((mm.drop (64*k)).take 64)=Hn):=⟨by rw[<-hHn,<-hHk];rfl⟩
       rw[hHk]at HSk
       have HPl:Ad (((mm.drop (64*k)).take 64).length=64):=⟨by simp;have:=HML.out;omega⟩
       have HNx:Ad (blocks mm (k+1)=Hn):=⟨hHn⟩
       clear hHk hHn;go_wp2;refine Ai (by kernel_rfl) (by kernel_rfl)
        [some (.agg (Dz Hk)),some (.slice (some ⟨b,off,none⟩) (64*K) c7),some (.int .i64 ((64*k:Nat):Int)),some (.int .i64 ((64*k:Nat):Int)),some (.int .i64 ((64*k:Nat)+64:Int)),some (.slice (some ⟨b,off+64*k,none⟩) 64 (c7-64*k)),some (.agg (Dz Df)),none,none]
        [false,false,false,false,false,false,false,true,true] rfl
        (fun w1 w2=>Ct (G+1) w1 w2) (fun D w'=>SG wr G Hk Hn (D 7) (D 8) w')
        (fun i v w'=>match i with
         | 7=>v=.agg (Dz Hn)
         | _=>True)
        ?_ ⟨Ct.drew (Ct.refl _ _),HSk.out.k,(fun e=>by cases e),(fun _=>HSk.out.h),fun e=>by cases e⟩ ?_ ?_
       .intro i v w1 w2 hf hb;split at hf
        .exact hf
        .trivial
       .simp only[Ba,Nat.reduceAdd];refine⟨?_,?_,?_,?_,?_,?_,?_,?_,?_,trivial⟩
        case refine_1=>
         intro D sp w' hD hW hdp hG;have h7:D 7=false:=hW 7 (mq (by kernel_rfl));rw[h7]at hG
         have hk8:=nZ HHk.out.1 (hG.old hG.open)
         (with_reducible refine Ag (v:=.agg (Dz Hk)) (w1:=w') ?_ ?_ ⟨rfl,rfl⟩)
         .simp[Region.wanted,go_sem]
         .simp[execOp,Act.eval,Instr.loadAt,Instr.sureAddr,Result.andThen_ok,hk8]
        case refine_6=>
         intro D sp w' hD hW hdp hG;have hsl:=jF w' b off k (64*K) c7 (by omega) hcap7
         (with_reducible refine Ag (v:=.slice (some ⟨b,off+64*k,none⟩) 64 (c7-64*k)) (w1:=w') ?_ ?_ ⟨rfl,rfl⟩)
         .simp[Region.wanted,go_sem]
         .simp[execOp,Act.eval,Act.put,hsl,Result.andThen_ok]
        case refine_7=>
         intro D sp w' hD hW hdp hG;have hk8:=kC Ek hG.k
         (with_reducible refine Ag (v:=.agg (Dz Df)) (w1:=w') ?_ ?_ ⟨rfl,rfl⟩)
         .simp[Region.wanted,go_sem]
         .simp[execOp,Act.eval,Act.put,Instr.loadAt,Instr.sureAddr,Result.andThen_ok,hk8]
        case refine_8=>
         intro D sp w' hD hW hdp hG;have h8:D 8=false:=hW 8 (mq (by kernel_rfl));have hcl:=HCell.out w' (HBut.out.trans hG.but);have hbw:b<w'.heap.size:=De (De hbl HBut.out.size) hG.but.size
         (with_reducible refine Ab (w1:=w') (f := 217) (args:=#[.agg (Dz Hk),.slice (some ⟨b,off+64*k,none⟩) 64 (c7-64*k),.agg (Dz Df)]) ?_ ?_ ?_)
         .simp[Region.wanted,go_sem]
         .simp[Act.eval,Act.put,go_sem]
         .refine(Sb w' Hk ((mm.drop (64*k)).take 64) b (off+64*k) (c7-64*k) HHk.out.1 HHk.out.2.1 HPl.out (fun x hx=>H8m.out x (List.mem_of_mem_drop (List.mem_of_mem_take hx))) hbw (by omega) (by omega) (fun i x hx=>?_)).mono ?_
          .rw[Nat.add_assoc];refine hcl (64*k+i) x ?_;rw[List.getElem?_take]at hx
           split at hx
           .rw[List.getElem?_drop]at hx;exact hx
           .cases hx
          .rintro e w5 ⟨rfl,hb⟩;rw[HStep.out];refine⟨_,rfl,Ct.of hb,rfl,hG.but.trans (Ct.of hb),?_,(fun e=>?_),(fun _=>?_),fun e=>?_⟩
           .have hx:=hG.k;rw[hb.block G (Gn hx).1];exact hx
           .simp[h8]at e
           .have hx:=hG.old h8;rw[hb.block (G+1) (Gn hx).1];exact hx
           .simp[h8]at e
        case refine_9=>
         intro D sp w' hD hW hdp hG;have h7:=(hdp 7 (mq (by kernel_rfl))).1;have hv:sp 7=.agg (Dz Hn):=(hdp 7 (mq (by kernel_rfl))).2;have hst:=jC HHk.out.1 HHk.out.2.2 (hG.old hD);have hb5:Ct (G+1) w' (w'.setRow (G+1) (Dz Hn)):=Ct.setRow _ _
         (with_reducible refine An (w1:=w'.setRow (G+1) (Dz Hn)) ?_ ?_ ?_)
         .simp[Region.wanted,go_sem]
         .simp[execOp,Act.eval,Act.put,hv,Instr.storeAt,Instr.sureAddr,Result.andThen_ok,hst]
         .exact⟨hb5,trivial,hG.but.trans hb5,(setRow_other _ (G+1) G _ (by omega)).trans hG.k,(fun _=>by simp[h7]),(fun e=>by simp at e),fun _=>setRow_heap _ _ _ _ _ _ (hG.old hD)⟩
        all_goals
         intro D sp w' hD hW hdp hG;have hwr:IntKind.i64.wrap (64*(k:Int)+64)=64*(k:Int)+64:=IntWalk.i64_in _ (by omega);simp[asked,Region.wanted,Oper.gives,execOp,Act.eval,Act.put,go_sem,hwr]
       .intro sp w5 hsp hG;have HB9:Ad (Ct (G+1) wr w5):=⟨hG.but⟩
        have HS9:Ad (Xu w5 G (blocks mm (k+1))):=⟨⟨hG.k,by rw[HNx.out];exact hG.new rfl⟩⟩
        clear hsp hG;simp only[Am,Nat.reduceAdd];generalize sp 7=u7';generalize sp 8=u8';have HB10:=Aa (HBut.out.trans HB9.out);clear HB9 HBut;go_wp2;go_roundw
        case rel=>exact⟨k+1,by omega,(show Value.int .i64 (((64*k:Nat):Int)+64)=.int .i64 ((64*(k+1):Nat):Int) from congrArg (Value.int .i64) (by omega)),HB10,HS9⟩
        case measure=>simp[intOf];omega
      .obtain rfl:k=K:=by omega
       obtain⟨Hf,hHf⟩:∃H,blocks mm k=H:=⟨_,rfl⟩
       rw[hHf]at HSk HSha
       have HHf:Ad (Hf.length=8/\Words Hf):=⟨by rw[<-hHf];exact⟨Cl mm k,Hj mm k⟩⟩
       have hbw8:Below w.heap.size w w2:=HB2.out;have HW8:=(hbw8.trans (HB8.out.mono hbw8.size)).trans (HBut.out.below (show w.heap.size<=G+1 by omega) (Ec hbw8.size HB8.out.size));clear hHf hbw8 HB8 HBut HCell HML H8m HS0;have hwz:=HW8.size;have HC8:Ad ((World.alloc _ (.cells #[] 5)).heap[G+1]? = some (.cells (Dz Hf) 247 (0,0))):=⟨(heap_alloc_old _ _ (r:=G+1) HSk.out.lt).trans HSk.out.h⟩
       have HOwn:=(Own.lit _ [] (by decide)).mono hwz;have HBn:=Ds HW8 ((Bd _ _).alloc (As _) (.cells #[] 5));have HO8:=Aa HOwn;have HB8:=Aa HBn;have HI8:=Aa (Mk HHf.out.1);clear HOwn HBn HW8
       go_wp2_with (refine wpList_load_row rfl 247 _ rfl (G+1) rfl 247 (Dz Hf) (0,0) _ HC8.out Tryz.underlying247 rfl HI8.out ?_)
       go_loopw [9,62] (fun x i w'=>∃(k:Nat) (v:Value),k<=8/\i=.int .i64 k/\v=x/\Ad (Own w' w.heap.size v ((Hf.take k).flatMap Ew))/\Ad (Below w.heap.size w w')) (fun _ i _=>8-(intOf i).toNat)
       case atStart=>exact⟨0,_,by omega,rfl,rfl,HO8,HB8⟩
       case round=>
        obtain⟨j,v,hj,rfl,rfl,HOj,HBj⟩:=hrel;have hszj:=HBj.out.size
        by_cases hj8:j<8
        .obtain⟨x,hx⟩:∃x,Hf.getD j 0=x:=⟨_,rfl⟩
         have hx32:x<4294967296:=by rw[<-hx];exact HHf.out.2.get j
         have hidx:∀wx:World,(Instr.index 247 (.agg (Dz Hf)) (.int .i64 j)).run Tryz.prog wx=.ok (.int .u32 (x:Nat)) wx:=fun wx=>by rw[<-hx];exact qA Hf HHf.out.1 j hj8 wx
         obtain⟨b0,hb0⟩:∃v,x/16777216%256=v:=⟨_,rfl⟩
         obtain⟨b1,hb1⟩:∃v,x/65536%256=v:=⟨_,rfl⟩
         obtain⟨b2,hb2⟩:∃v,x/256%256=v:=⟨_,rfl⟩
         obtain⟨b3,hb3⟩:∃v,x%256=v:=⟨_,rfl⟩
         have HE:Ad ((Hf.take j).flatMap Ew++[b0,b1,b2,b3]=(Hf.take (j+1)).flatMap Ew):=⟨by
          rw[Fv Hf j (by rw[HHf.out.1];exact hj8),hx,List.flatMap_append,<-hb0,<-hb1,<-hb2,<-hb3];rfl⟩
         have e0:(x:Int)/16777216=(b0:Int):=by omega
         have e1:(x:Int)/65536%256=(b1:Int):=by omega
         have e2:(x:Int)/256%256=(b2:Int):=by omega
         have e3:(x:Int)%256=(b3:Int):=by omega
         have l0:b0<256:=by omega
         have e0':(b0:Int)%256=(b0:Int):=by omega
         have HLj:Ad (((Hf.take j).flatMap Ew).length+4<=140737488355328):=⟨by
          rw[Iq];have:=List.length_take_le j Hf;have:=HHf.out.1;simp;omega⟩
         clear hx hb0 hb1 hb2 hb3;have hb6:∀wr:World,Below wr.heap.size wr (wr.alloc (.cells #[.int .u8 b0,.int .u8 b1,.int .u8 b2,.int .u8 b3] 5)):=fun wr=>(Bd _ _).alloc (As _) _
         have HO3:Ad (Own (wr.alloc (.cells #[.int .u8 b0,.int .u8 b1,.int .u8 b2,.int .u8 b3] 5)) w.heap.size v ((Hf.take j).flatMap Ew)):=⟨HOj.out.belowS (hb6 wr)⟩
         have hrow:Ad (Bi (wr.alloc (.cells #[.int .u8 b0,.int .u8 b1,.int .u8 b2,.int .u8 b3] 5)) .u8 (some ⟨wr.heap.size,0,none⟩) 4 4 [b0,b1,b2,b3]):=⟨Jz wr [b0,b1,b2,b3] (show 4<=9223372036854775807 by decide)⟩
         have hsz6:w.heap.size<=(wr.alloc (.cells #[.int .u8 b0,.int .u8 b1,.int .u8 b2,.int .u8 b3] 5)).heap.size:=Ec hszj (hb6 wr).size;have HB6:Ad (Below w.heap.size w (wr.alloc (.cells #[.int .u8 b0,.int .u8 b1,.int .u8 b2,.int .u8 b3] 5))):=⟨Ds HBj.out (hb6 wr)⟩
         clear hb6
         go_wp2_with (at_builtin;refine Dj rfl _ _ rfl rfl HO3.out rfl hrow.out (fun h=>by cases h) HLj.out hsz6 ?_;intro v3 w6 ho3 hg3;refine Fn.out ?_)
         refine⟨?_⟩;have hb7:=grown_below hg3 hsz6 HO3.out.ge;rw[HE.out]at ho3
         have HO4:=Aa ho3;have HB7:=Aa (HB6.out.trans hb7);clear hg3 ho3 hb7 HB6 HO3 hrow e0 e1 e2 e3 e0';go_wp2;go_roundw
         case rel=>exact⟨j+1,_,by omega,by go_num,rfl,HO4,HB7⟩
         case measure=>simp[intOf];omega
        .obtain rfl:j=8:=by omega
         have HFin:=HOj.out;rw[List.take_of_length_le (by rw[HHf.out.1];exact As _),<-HSha.out]at HFin
         have HF:=Aa HFin;clear HFin HOj;go_wp2;go_ret;exact⟨_,rfl,Ci.mk HF.out,HBj.out⟩
  .have hne:¬(L:Int)%64=56:=by have:=(Od (n:=n) hj);omega
   have hne':¬(L:Int).tmod 64=56:=by rw[Int.tmod_eq_emod_of_nonneg (by omega)];exact hne
   have hb6:Below wr.heap.size wr (wr.alloc (.cells #[.int .u8 0] 5)):=By;have HO3:Ad (Own (wr.alloc (.cells #[.int .u8 0] 5)) w2.heap.size (.slice q L c5) (xs++128::List.replicate j 0)):=⟨HOW.out.belowS hb6⟩
   have hrow:Ad (Bi (wr.alloc (.cells #[.int .u8 0] 5)) .u8 (some ⟨wr.heap.size,0,none⟩) 1 1 [0]):=⟨Jz wr [0] (by decide)⟩
   have hsz6:w2.heap.size<=(wr.alloc (.cells #[.int .u8 0] 5)).heap.size:=Ec hsz hb6.size;have hmx:Ad ((xs++128::List.replicate j 0).length+1<=140737488355328):=⟨by rw[HLe.out];omega⟩
   have HB6:Ad (Below w2.heap.size w2 (wr.alloc (.cells #[.int .u8 0] 5))):=⟨HBE.out.trans (hb6.mono hsz)⟩
   have HE:Ad ((xs++128::List.replicate j 0)++[0]=xs++128::List.replicate (j+1) 0):=⟨by rw[List.append_assoc,List.cons_append,List.replicate_succ']⟩
   clear hb6
   go_wp2_with (at_builtin;refine Dj rfl _ _ rfl rfl HO3.out rfl hrow.out (fun h=>by cases h) hmx.out hsz6 ?_;intro v3 w6 ho3 hg3;refine Fn.out ?_)
   refine⟨?_⟩;have hb7:=grown_below hg3 hsz6 HO3.out.ge;rw[HE.out]at ho3
   obtain⟨q3,c3,hv3,_,_,_,_⟩:=ho3.elim;have hL3:(xs++128::List.replicate (j+1) 0).length=L+1:=by rw[<-HE.out,List.length_append,HLe.out];rfl
   rw[hL3]at hv3
   subst hv3;have HO4:=Aa ho3;have HB7:=Aa (HB6.out.trans hb7);clear hg3 ho3 hb7 HB6 HO3 hrow;go_wp2;go_roundw
   case rel=>exact⟨j+1,_,by omega,rfl,HO4,HB7⟩
   case measure=>show n+1+Bg n-(L+1)<n+1+Bg n-L;omega
end Go.Proofs.YtnbmfaihlefgfaaGreatDoor
