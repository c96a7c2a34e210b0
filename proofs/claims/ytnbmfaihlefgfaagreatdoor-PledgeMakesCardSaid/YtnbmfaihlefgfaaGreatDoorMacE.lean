/- So many bytes of a key, by the program. -/
import Derived.Test.YtnbmfaihlefgfaaGreatDoorMacU
import Derived.Laws.BitsAllLaws
import Derived.BigRegion
import Derived.Laws.Rows
set_option maxRecDepth 1000000
set_option maxHeartbeats 16000000
set_option linter.all false
namespace Go.Proofs.YtnbmfaihlefgfaaGreatDoor
open Go Go.RowKit Go.Proofs.YtnbmfaihlefgfaaGreatDoor.Flow
structure TG (w0:World) (D:Nat->Bool) (sp:Nat->Value) (w':World):Prop where
 bel:Below w0.heap.size w0 w'
 ne:D 5=true->sp 5≠sp 2
 e6:D 6=true->sp 6=sp 2
 e7:D 7=true->sp 7=sp 5
theorem Ce.below {lo:Nat}{m:List Nat}{v:Value}{w w':World}(h:Ce lo m v w)(hb:Below w.heap.size w w'):Ce lo m v w':=by
 cases h with
 | of g _ h hg=>exact .of g w' (h.below hb h.lt) hg
theorem Sf (w:World)(g1 g2:Nat)(m1 m2:List Nat)(p:Option Addr)(n c:Nat)(L:List Part)(hT:Tabs w)(h1:Bj w g1 m1)(h2:Bj w g2 m2)(hL:Et w p n c L) :
  Calls Tryz.prog 210 #[.agg #[.pointer (some ⟨g1,0,none⟩),.pointer (some ⟨g2,0,none⟩)],.slice p n c] w (Kc (m2++Yb (m1++whole L)) w):=by
 have HL:Ab (Et w p n c L):=⟨hL⟩
 have hlen:Ab (n=L.length):=⟨hL.len⟩
 have hcap:=hL.cap;have hmax:=hL.max;clear hL;have H0:Ab ((w.alloc (.cells #[.pointer (some ⟨g1,0,none⟩),.pointer (some ⟨g2,0,none⟩)] 242)).heap[w.heap.size]? = some (.cells #[.pointer (some ⟨g1,0,none⟩),.pointer (some ⟨g2,0,none⟩)] 242 (0,0))):=⟨heap_alloc_new w _⟩
 have hB0:Below w.heap.size w (w.alloc (.cells #[.pointer (some ⟨g1,0,none⟩),.pointer (some ⟨g2,0,none⟩)] 242)):=Co;go_enter Tryz.func210,Tryz.ntmps210;go_wp2;generalize w.alloc (.cells #[.pointer (some ⟨g1,0,none⟩),.pointer (some ⟨g2,0,none⟩)] 242)=w0 at *;have hT0:=hT.below hB0 hT.size;have hh1:=h1.below hB0 h1.lt;have hh2:=h2.below hB0 h2.lt;clear h1 h2;have hb:w.heap.size<w0.heap.size:=(Mv H0.out).1;have HC:Ab (∀w',Below w0.heap.size w0 w'->w'.cell? ⟨w.heap.size,0,none⟩=some (.pointer (some ⟨g1,0,none⟩))/\w'.cell? ⟨w.heap.size,1,none⟩=some (.pointer (some ⟨g2,0,none⟩))):=⟨fun w' h=>by
  rw[h.cell (p:=⟨w.heap.size,0,none⟩) hb,h.cell (p:=⟨w.heap.size,1,none⟩) hb];unfold World.cell?
  dsimp only
  rw[H0.out];exact⟨rfl,rfl⟩⟩
 have hw2:(max (1 : Nat) 2 + 1)<=w.heap.size:=hT.size;have hl1:=hh1.lt;have hl2:=hh2.lt;refine Al (by kernel_rfl) (by kernel_rfl)
  [some (.pointer (some ⟨w.heap.size,0,none⟩)),some (.pointer (some ⟨g1,0,none⟩)),none,some (.pointer (some ⟨w.heap.size,1,none⟩)),some (.pointer (some ⟨g2,0,none⟩)),none,none,none]
  [false,false,true,false,false,true,true,true] rfl
  (fun w1 w2=>Below w1.heap.size w1 w2) (TG w0)
  (fun i v w'=>match i with
   | 2=>Ce w0.heap.size m1 v w'
   | 5=>Ce w0.heap.size m2 v w'
   | 6=>Ce w0.heap.size m1 v w'
   | 7=>Ce w0.heap.size m2 v w'
   | _=>True)
  ?_ ⟨(Be _ _).drew,(fun e=>by cases e),(fun e=>by cases e),fun e=>by cases e⟩ ?_ ?_
 .intro i v w1 w2 hf hb;split at hf
  .exact hf.below hb
  .exact hf.below hb
  .exact hf.below hb
  .exact hf.below hb
  .trivial
 .simp only[Bf,Nat.reduceAdd];refine⟨?_,?_,?_,?_,?_,?_,?_,?_,trivial⟩
  case refine_3=>
   intro D sp w' hD hW hdp hG;have d5:D 5=false:=hW 5 (mq (by kernel_rfl));have d6:D 6=false:=hW 6 (mq (by kernel_rfl))
   (with_reducible refine Aa (w1:=w') (f := 233) (args:=#[.pointer (some ⟨g1,0,none⟩)]) ?_ ?_ ?_)
   .simp[Region.wanted,go_sem]
   .simp[Act.eval,Act.put,go_sem]
   .refine(Lq w' g1 m1 (hh1.below hG.bel hl1)).mono ?_;rintro e w5 ⟨g,rfl,hg,hb,hh⟩;exact⟨_,rfl,hb,Ce.of g w5 hh (Fo hG.bel.size hg),Fu hG.bel hb,fun e=>by simp[d5]at e,fun e=>by simp[d6]at e,fun e=>by simpa [upd]using hG.e7 (by simpa using e)⟩
  case refine_6=>
   intro D sp w' hD hW hdp hG;have d7:D 7=false:=hW 7 (mq (by kernel_rfl));have f2:Ce w0.heap.size m1 (sp 2) w':=(hdp 2 (mq (by kernel_rfl))).2
   (with_reducible refine f2.elim (fun g3 hv3 hh3 hg3=>?_))
   clear f2;have hl3:=hh3.lt
   (with_reducible refine Aa (w1:=w') (f := 233) (args:=#[.pointer (some ⟨g2,0,none⟩)]) ?_ ?_ ?_)
   .simp[Region.wanted,go_sem]
   .simp[Act.eval,Act.put,go_sem]
   .refine(Lq w' g2 m2 (hh2.below hG.bel hl2)).mono ?_;rintro e w5 ⟨g,rfl,hg,hb,hh⟩;refine⟨_,rfl,hb,Ce.of g w5 hh (Fo hG.bel.size hg),Fu hG.bel hb,fun _=>?_,fun e=>by simpa [upd]using hG.e6 (by simpa using e),fun e=>by simp[d7]at e⟩;have e5:upd sp 5 (.pointer (some ⟨g,0,none⟩)) 5=.pointer (some ⟨g,0,none⟩):=by simp[upd]
    have e2:upd sp 5 (.pointer (some ⟨g,0,none⟩)) 2=sp 2:=by simp[upd]
    rw[e5,e2,hv3];intro e;cases e;omega
  case refine_7=>
   intro D sp w' hD hW hdp hG;have f2:Ce w0.heap.size m1 (sp 2) w':=(hdp 2 (mq (by kernel_rfl))).2
   (with_reducible refine Ai (v:=sp 2) (w1:=w') ?_ ?_ ?_)
   .simp[Region.wanted,go_sem]
   .simp[execOp,Act.eval,Act.put,go_sem]
   .exact⟨Be _ _,f2,hG.bel,fun e=>by simpa [upd]using hG.ne (by simpa using e),fun _=>by simp[upd],fun e=>by simpa [upd]using hG.e7 (by simpa using e)⟩
  case refine_8=>
   intro D sp w' hD hW hdp hG;have f5:Ce w0.heap.size m2 (sp 5) w':=(hdp 5 (mq (by kernel_rfl))).2
   (with_reducible refine Ai (v:=sp 5) (w1:=w') ?_ ?_ ?_)
   .simp[Region.wanted,go_sem]
   .simp[execOp,Act.eval,Act.put,go_sem]
   .exact⟨Be _ _,f5,hG.bel,fun e=>by simpa [upd]using hG.ne (by simpa using e),fun e=>by simpa [upd]using hG.e6 (by simpa using e),fun _=>by simp[upd]⟩
  all_goals
   intro D sp w' hD hW hdp hG;have hc1:=(HC.out w' hG.bel).1;have hc2:=(HC.out w' hG.bel).2;simp[asked,Region.wanted,Oper.gives,execOp,Act.eval,Act.put,go_sem,hc1,hc2]
 .intro sp w3 hsp hG;have f6:Ce w0.heap.size m1 (sp 6) w3:=hsp 6 rfl;have f7:Ce w0.heap.size m2 (sp 7) w3:=hsp 7 rfl;have hne:=hG.ne rfl;rw[<-hG.e6 rfl,<-hG.e7 rfl]at hne
  have hb3:=hG.bel;clear hsp hG;simp only[An,Nat.reduceAdd];generalize sp 2=u2;generalize sp 5=u5;generalize sp 6=u6,sp 7=u7 at *;obtain⟨g3,_,hh3,hg3⟩:=f6;obtain⟨g4,_,hh4,hg4⟩:=f7;have hg34:g4≠g3:=fun e=>hne (by rw[e])
  have hbw:Below w.heap.size w w3:=hB0.trans (hb3.mono (Nat.le_of_lt hb));have hz3:=hb3.size;clear hne hh1 hh2 HC H0 hT0 hB0 hb3
  go_simp
  go_wp2
  go_loopw [17] (fun i wr=>∃k:Nat,k<=n/\i=.int .i64 k/\Below w.heap.size w wr/\Bj wr g3 (m1++whole (L.take k))/\Bj wr g4 m2) (fun i _=>n-(intOf i).toNat)
  case atStart=>exact⟨0,by omega,rfl,hbw,by rw[List.take_zero];simpa [whole]using hh3,hh4⟩
  case round=>
   obtain⟨k,hk,rfl,hbel,hash,hash4⟩:=hrel;have hTr:=hT.below hbel hT.size;have hsz:=hT.size
   by_cases hkn:k<n
   .obtain⟨b,off,rfl,hb,hc⟩:=HL.out.cells (by omega);obtain⟨P,hP⟩:∃P,L[k]? = some P:=⟨_,List.getElem?_eq_getElem (by have:=hlen.out;omega)⟩
    have hok:=(HL.out.ok k P hP).below hbel;have hblt:0<P.n->∀q,P.p=some q->q.block≠g3:=fun h0 q hq=>by
     obtain⟨b',off',e,h2,_⟩:=((HL.out.ok k P hP).row.row h0).pos h0;rw[hq]at e;cases e
     show b'≠g3;omega
    have hck:wr.cell? ⟨b,off+k,none⟩=some (.slice P.p P.n P.c):=by
     rw[(Bv hbel).1 _ _ hb];exact hc k P hP
    have htk:Ab (m1++whole (L.take (k+1))=(m1++whole (L.take k))++P.bs):=⟨by rw[List.take_add_one,hP,List.append_assoc];congr 1;exact Pq _ _⟩
    have HOK:Ab (Cl wr P):=⟨hok⟩
    have HNE:Ab (0<P.n->∀q,P.p=some q->q.block≠g3):=⟨hblt⟩
    clear hc hP hok hblt;obtain⟨pp,pn,pc,pb⟩:=P
    dsimp only at *
    go_wp2_with fail
    refine(Eo wr g3 _ pp pn pc pb hTr hash (by omega) HOK.out.row HOK.out.bytes HNE.out).mono ?_;rintro e w2 ⟨rfl,hb2,hh2⟩;rw[<-htk.out]at hh2
    have hz:w.heap.size<=wr.heap.size:=hbel.size;have hbel2:=hbel.trans (hb2.below (by omega) hz);have hash42:=hash4.but hb2 hg34;go_wp2;go_roundw
    case rel=>exact⟨k+1,by omega,by go_num,hbel2,hh2,hash42⟩
    case measure=>simp[intOf];omega
   .obtain rfl:k=n:=by omega
    rw[List.take_of_length_le (by have:=hlen.out;omega)]at hash
    have hz:w.heap.size<=wr.heap.size:=hbel.size;have hl3:=hash.lt;have hl4:=hash4.lt
    go_wp2_with fail
    refine(Lm wr g3 _ hTr hash).mono ?_;rintro e w5 ⟨q,rfl,hq,hb5,hk5⟩;have hT5:=hTr.below hb5 hTr.size;have h45:=hash4.below hb5 hl4;have hrow:Bq w5 .u8 (some ⟨q,0,none⟩) 32 32 (Yb (m1++whole L)):=⟨(Dn _).symm,Av _,by omega,fun _=>hk5.row (Dn _).symm (Av _) (by omega)⟩
    have hbel5:=Fu hbel hb5;have hz5:=hbel5.size;have hzr:=hb5.size;clear hk5
    go_wp2_with fail
    refine(Eo w5 g4 m2 _ _ _ _ hT5 h45 (by omega) hrow (Ng _) (fun _ a ha=>by cases ha;show q≠g4;omega)).mono ?_;rintro e w6 ⟨rfl,hb6,hh6⟩;have hbel6:=hbel5.trans (hb6.below (by omega) hz5);have hT6:=hT.below hbel6 hT.size;have hz6:=hbel6.size
    go_wp2_with fail
    refine(Lm w6 g4 _ hT6 hh6).mono ?_;rintro e w7 ⟨q7,rfl,hq7,hb7,hk7⟩;go_wp2;go_ret;exact⟨q7,rfl,by omega,Fu hbel6 hb7,hk7⟩
theorem Ui (w:World)(pk:Option Addr)(nk ck:Nat)(key:List Nat)(p:Option Addr)(n c:Nat)(L:List Part)(hT:Tabs w)(hr:Bq w .u8 pk nk ck key)(h8:Bb key)(hL:Et w p n c L) :
  Calls Tryz.prog 254 #[.slice pk nk ck,.slice p n c] w (Kc (Yi key (whole L)) w):=by
 have HL:Ab (Et w p n c L):=⟨hL⟩
 clear hL;go_enter Tryz.func254,Tryz.ntmps254
 go_wp2_with fail
 refine(Og w pk nk ck key hT hr h8).mono ?_;rintro e w1 ⟨g1,g2,rfl,hg1,hg2,hb1,hh1,hh2⟩
 go_wp2_with fail
 refine(Sf w1 g1 g2 _ _ p n c L (hT.below hb1 hT.size) hh1 hh2 (HL.out.below hb1)).mono ?_;rintro e w2 ⟨q,rfl,hq,hb2,hk2⟩;have hz:=hb1.size;go_wp2;go_ret;exact⟨q,rfl,by omega,Fu hb1 hb2,hk2⟩
def Rj (key info:List Nat):Nat->List Nat
 | 0=>[]
 | i+1=>Jm key (Rj key info i++(info++[(i+1)%256]))
def Ha (key info:List Nat):Nat->List Nat
 | 0=>[]
 | i+1=>Ha key info i++Rj key info (i+1)
theorem Gj (key info:List Nat)(i:Nat):(Rj key info (i+1)).length=32:=Jl _ _
theorem Se (key info:List Nat):∀i,Bb (Rj key info i)
 | 0=>fun x hx=>by cases hx
 | _+1=>Qp _ _
theorem He (key info:List Nat):∀i,(Ha key info i).length=32*i
 | 0=>rfl
 | i+1=>by rw[Ha,List.length_append,He key info i,Gj];omega
theorem Qu (key info:List Nat):∀i,Bb (Ha key info i)
 | 0=>fun x hx=>by cases hx
 | i+1=>fun x hx=>by
  rcases List.mem_append.1 hx with h|h
  .exact Qu key info i x h
  .exact Se key info (i+1) x h
theorem fI {i:Int}(n:Nat)(hi:i=(n:Nat))(h:n<=4294967296)(w:World):(Instr.makeSlice 60 (.int .i64 0) (.int .i64 i)).run Tryz.prog w =
  .ok (.slice (some ⟨w.heap.size,0,none⟩) 0 n) (w.alloc (.cells (zeros .u8 n) 5)):=by
 subst hi;obtain⟨i,hi,hz,hs,hb⟩:=info_parts Tryz.info_u8;have:=run_make (P:=Tryz.prog) w 60 5 i (.int .u8 0) Tryz.underlying60 hi hz .i64 .i64 0 n (by omega) (by omega) (by rw[hb];omega) (by omega);simp only[Int.toNat_natCast,hs,Nat.mul_one]at this;rw[this,<-Ly];rfl
theorem Own.made (w:World)(n:Nat)(hn:n<=9223372036854775807):Own (w.alloc (.cells (zeros .u8 n) 5)) w.heap.size (.slice (some ⟨w.heap.size,0,none⟩) 0 n) [] :=
 ⟨rfl,.inr ⟨w.heap.size,n,zeros .u8 n,rfl,Av _,heap_alloc_new w _,Nat.zero_le _,by simpa [maxLen]using hn,by simp[zeros],by simp⟩⟩
theorem Bq.grown {w w':World}{k:IntKind}{p:Option Addr}{n c:Nat}{xs:List Nat}(h:Bq w k p n c xs){g:Option Nat}(hg:w.grownBy w' g)(hp:∀q,p=some q->some q.block≠g):Bq w' k p n c xs:=by
 refine⟨h.len,h.cap,h.max,fun h0=>?_⟩;obtain⟨h1,h2,h3,h4⟩:=h.row h0;refine⟨h1,h2,h3,?_⟩;rcases h4 with h5|⟨b,off,h5,h6,h7⟩
 .exact .inl h5
 .refine .inr ⟨b,off,h5,Dj h6 hg.size,fun i x hx=>?_⟩;rw[World.cell?_of_block (w:=w) (a:=⟨b,off+i,none⟩) (hg.block b h6 (hp _ h5))];exact h7 i x hx
def Ya (n:Nat)(bs:List Nat)(w:World)(e:Ending)(w':World):Prop :=
 ∃p,e=.returned (.tuple #[.slice p n n,.int .i64 0])/\Bq w' .u8 p n n bs/\Dv w.heap.size p/\Below w.heap.size w w'/\(p=none->n=0)
theorem Uo (w:World)(pk:Option Addr)(nk ck:Nat)(key:List Nat)(pi:Option Addr)(ni ci:Nat)(info:List Nat)(n:Nat)(hT:Tabs w)(hr:Bq w .u8 pk nk ck key)(h8:Bb key)(hI:Cl w ⟨pi,ni,ci,info⟩)(hn:n<=8160) :
  Calls Tryz.prog 163 #[.slice pk nk ck,.slice pi ni ci,.int .i64 n] w (Ya n ((Ha key info ((n+31)/32)).take n) w):=by
 have HI:Ab (Cl w ⟨pi,ni,ci,info⟩):=⟨hI⟩
 obtain⟨K,hK⟩:∃K,(n+31)/32=K:=⟨_,rfl⟩
 have hKn:n<=32*K:=by omega
 have hK255:K<=255:=by omega
 have q1:((n:Int)+32-1)/32=(K:Int):=by omega
 have q2:((n:Int)+31)/32=(K:Int):=by omega
 have q3:((n:Int)+32-1).tdiv 32=(K:Int):=by rw[Int.tdiv_eq_ediv_of_nonneg (by omega)];omega
 have q4:((n:Int)+31).tdiv 32=(K:Int):=by rw[Int.tdiv_eq_ediv_of_nonneg (by omega)];omega
 have hmk:=fun wx=>fI (i:=(K:Int)*32) (K*32) (by omega) (by omega) wx
 rw[hK];clear hK hI;go_enter Tryz.func163,Tryz.ntmps163
 go_wp2_with fail
 refine(Og w pk nk ck key hT hr h8).mono ?_;rintro e w1 ⟨g1,g2,rfl,hg1,hg2,hb1,hh1,hh2⟩;obtain⟨B,hB⟩:∃B,w1.heap.size=B:=⟨_,rfl⟩
 have hBx:Ab ((w1.alloc (.cells #[.pointer (some ⟨g1,0,none⟩),.pointer (some ⟨g2,0,none⟩)] 242)).heap[w1.heap.size]? = some (.cells #[.pointer (some ⟨g1,0,none⟩),.pointer (some ⟨g2,0,none⟩)] 242 (0,0))):=⟨heap_alloc_new w1 _⟩
 have hBz:Ab ((w1.alloc (.cells #[.pointer (some ⟨g1,0,none⟩),.pointer (some ⟨g2,0,none⟩)] 242)).heap.size=w1.heap.size+1):=⟨by simp⟩
 have hBb:Ab (Below w1.heap.size w1 (w1.alloc (.cells #[.pointer (some ⟨g1,0,none⟩),.pointer (some ⟨g2,0,none⟩)] 242))):=⟨(Be _ _).alloc (Av _) _⟩
 go_wp2;generalize w1.alloc (.cells #[.pointer (some ⟨g1,0,none⟩),.pointer (some ⟨g2,0,none⟩)] 242)=w2 at *;rw[hB]at hBx hBz
 try simp only[hB]
 have hl1:g1<B:=by rw[<-hB];exact hh1.lt
 have hl2:g2<B:=by rw[<-hB];exact hh2.lt
 have hbw:Below w.heap.size w w2:=Fu hb1 hBb.out;have hH1:Ab (Bj w2 g1 (Zk key)):=⟨hh1.below hBb.out hh1.lt⟩
 have hH2:Ab (Bj w2 g2 (Zc key)):=⟨hh2.below hBb.out hh2.lt⟩
 have hT2:Ab (Tabs w2):=⟨hT.below hbw hT.size⟩
 have hwB:w.heap.size<=B:=by rw[<-hB];exact hb1.size
 have hz2:=hBz.out;have HOw:Ab (Own (w2.alloc (.cells (zeros .u8 (K*32)) 5)) (B+1) (.slice (some ⟨w2.heap.size,0,none⟩) 0 (K*32)) (Ha key info 0)):=⟨(Own.made w2 (K*32) (by omega)).mono (by omega)⟩
 have HB2:Ab (Below (B+1) w2 (w2.alloc (.cells (zeros .u8 (K*32)) 5))):=⟨(Be _ _).alloc (by omega) _⟩
 have HLs:Ab (Xy (B+1) (Rj key info 0) (.slice none 0 0) (w2.alloc (.cells (zeros .u8 (K*32)) 5))):=⟨.of none 0 _ ⟨rfl,Av _,by omega,fun h=>absurd h (by simp[Rj])⟩ (Dv.none _) (fun _=>rfl) (fun q hq=>by cases hq)⟩
 have HW2:Ab (Below w.heap.size w w2):=⟨hbw⟩
 rw[hz2]at HOw
 try simp only[hz2]
 clear hbw hh1 hh2 hb1 hBb hT hB hr
 go_loopw [27,11,10] (fun i x y wr=>∃(k:Nat) (u v:Value),k<=K/\i=.int .i64 k/\u=x/\v=y/\Ab (Xy (B+1) (Rj key info k) u wr)/\Ab (Own wr (B+1) v (Ha key info k))/\Ab (Below (B+1) w2 wr)) (fun i _ _ _=>K-(intOf i).toNat)
 case atStart=>exact⟨0,_,_,by omega,rfl,rfl,rfl,HLs,HOw,HB2⟩
 case round=>
  obtain⟨k,u,v,hk,rfl,rfl,rfl,HU,HV,HB⟩:=hrel;have hsz:B+1<=wr.heap.size:=by have:=HB.out.size;omega
  by_cases hkK:k<K
  .obtain⟨p,c,rfl,ru,nu,zu,_⟩:∃p c,u=.slice p (Rj key info k).length c/\Bq wr .u8 p (Rj key info k).length c (Rj key info k)/\Dv (B+1) p/\(p=none->c=0)/\True:=by
    have h:=HU.out
    cases h with
    | of p c _ h hn hz hp=>exact⟨p,c,rfl,h,hn,hz,trivial⟩
   have hb:B<w2.heap.size:=by omega
   have hbx:wr.heap[B]? = some (.cells #[.pointer (some ⟨g1,0,none⟩),.pointer (some ⟨g2,0,none⟩)] 242 (0,0)):=(HB.out.block B (by omega)).trans hBx.out;have k0:wr.cell? ⟨B,0,none⟩=some (.pointer (some ⟨g1,0,none⟩)):=by unfold World.cell?;dsimp only;rw[hbx];rfl
   have k1:wr.cell? ⟨B,1,none⟩=some (.pointer (some ⟨g2,0,none⟩)):=by unfold World.cell?;dsimp only;rw[hbx];rfl
   have hlt:(Rj key info k).length<=32:=by
    cases k with
    | zero=>simp[Rj]
    | succ k=>rw[Gj];exact Av _
   obtain⟨T,hT⟩:∃T,Rj key info k=T:=⟨_,rfl⟩
   have HT:Ab (Rj key info k=T):=⟨hT⟩
   have HT8:Ab (Bb T):=⟨by rw[<-hT];exact Se key info k⟩
   rw[hT]at ru hlt ⊢
   have hcc:=ru.cap;have hcm:=ru.max;have HRu:Ab (Bq wr .u8 p T.length c T):=⟨ru⟩
   have hba:Below wr.heap.size wr (wr.alloc (.cells #[.int .u8 ((k+1:Nat):Int)] 5)):=Co;have HWr:Ab (Below w.heap.size w wr):=⟨HW2.out.trans (HB.out.mono (by omega))⟩
   have HWa:Ab (Below w.heap.size w (wr.alloc (.cells #[.int .u8 ((k+1:Nat):Int)] 5))):=⟨Fu HWr.out hba⟩
   have hP:=kD (wr.alloc (.cells #[.int .u8 ((k+1:Nat):Int)] 5)) ⟨p,T.length,c,T⟩ ⟨pi,ni,ci,info⟩ ⟨some ⟨wr.heap.size,0,none⟩,1,1,[k+1]⟩ ⟨ru.below hba,HT8.out⟩ (HI.out.below HWa.out) ⟨aO wr [k+1] (show 1<=9223372036854775807 by decide),fun x hx=>by obtain rfl:=List.mem_singleton.1 hx;omega⟩;rw[show (wr.alloc (.cells #[.int .u8 ((k+1:Nat):Int)] 5)).heap.size=wr.heap.size+1 by simp]at hP
   have HP:=Ac hP;have hbp:Below (wr.alloc (.cells #[.int .u8 ((k+1:Nat):Int)] 5)).heap.size (wr.alloc (.cells #[.int .u8 ((k+1:Nat):Int)] 5)) ((wr.alloc (.cells #[.int .u8 ((k+1:Nat):Int)] 5)).alloc (.cells #[.slice p T.length c,.slice pi ni ci,.slice (some ⟨wr.heap.size,0,none⟩) 1 1] 60)):=Co;have HBp:Ab (Below wr.heap.size wr ((wr.alloc (.cells #[.int .u8 ((k+1:Nat):Int)] 5)).alloc (.cells #[.slice p T.length c,.slice pi ni ci,.slice (some ⟨wr.heap.size,0,none⟩) 1 1] 60))):=⟨Fu hba hbp⟩
   have HBq:Ab (Below (B+1) w2 ((wr.alloc (.cells #[.int .u8 ((k+1:Nat):Int)] 5)).alloc (.cells #[.slice p T.length c,.slice pi ni ci,.slice (some ⟨wr.heap.size,0,none⟩) 1 1] 60))):=⟨HB.out.trans (HBp.out.mono hsz)⟩
   have HWh:Ab (whole [(⟨p,T.length,c,T⟩:Part),⟨pi,ni,ci,info⟩,⟨some ⟨wr.heap.size,0,none⟩,1,1,[k+1]⟩]=T++(info++[k+1])):=⟨by simp[whole]⟩
   clear hP hba hbp ru hT
   go_wp2_with fail
   refine Xl (w1:=(wr.alloc (.cells #[.int .u8 ((k+1:Nat):Int)] 5)).alloc (.cells #[.slice p T.length c,.slice pi ni ci,.slice (some ⟨wr.heap.size,0,none⟩) 1 1] 60)) (by kernel_rfl) ?_;refine(Sf _ g1 g2 _ _ (some ⟨wr.heap.size+1,0,none⟩) 3 3 _ (hT2.out.below HBq.out (by have:=hT2.out.size;omega)) (hH1.out.below HBq.out (by omega)) (hH2.out.below HBq.out (by omega)) HP.out).mono ?_;rintro e w5 ⟨q,rfl,hq,hb5,hk5⟩;have HK5:Ab (Row w5 .u8 (some ⟨q,0,none⟩) 32 32 (Rj key info (k+1))):=⟨by
    have h:=hk5.row (Dn _).symm (Av _) (show 32<=9223372036854775807 by omega);rw[HWh.out]at h
    have e:Yb (Zc key++Yb (Zk key++(T++(info++[k+1]))))=Rj key info (k+1):=by
     rw[Rj,HT.out,Nat.mod_eq_of_lt (show k+1<256 by omega)];rfl
    rw[e]at h
    exact h⟩
   have hz5:=HBp.out.size;have HB5:Ab (Below wr.heap.size wr w5):=⟨Fu HBp.out hb5⟩
   have HBw5:Ab (Below (B+1) w2 w5):=⟨HB.out.trans (HB5.out.mono hsz)⟩
   have HV5:Ab (Own w5 (B+1) v (Ha key info k)):=⟨HV.out.belowS HB5.out⟩
   have hqn:∀g,v.ownBlock=some g->g≠q:=fun g hg=>by have:=HV.out.lt g hg;omega
   have HQN:=Ac hqn;have hr5:Bq w5 .u8 (some ⟨q,0,none⟩) 32 32 (Rj key info (k+1)):=⟨(Gj _ _ _).symm,Av _,by omega,fun _=>HK5.out⟩
   have HR5:=Ac hr5;have hmx:Ab ((Ha key info k).length+32<=140737488355328):=⟨by rw[He];omega⟩
   have hs5:B+1<=w5.heap.size:=by have:=HB5.out.size;omega
   have hwq:B+1<=q:=by omega
   clear hk5 hb5 hqn hr5 HP HBp HBq HRu HWh
   go_wp2_with (at_builtin;refine Ye rfl _ _ rfl rfl HV5.out rfl HR5.out (fun h=>by cases h) hmx.out hs5 ?_;intro v6 w6 ho6 hg6;refine Lw.out ?_)
   refine⟨?_⟩;have hr6:Bq w6 .u8 (some ⟨q,0,none⟩) 32 32 (Rj key info (k+1)):=HR5.out.grown hg6 (fun a ha e=>by cases ha;exact HQN.out q e.symm rfl);have hlt6:q<w6.heap.size:=by
    obtain⟨b',off',e,h2,_⟩:=(hr6.row (by omega)).pos (by omega);cases e;exact h2
   have HU6:Ab (Xy (B+1) (Rj key info (k+1)) (.slice (some ⟨q,0,none⟩) 32 32) w6):=⟨by
    have h:=Xy.of (lo:=B+1) (bs:=Rj key info (k+1)) (some ⟨q,0,none⟩) 32 w6 (by rw[Gj];exact hr6) (fun a ha=>by cases ha;exact hwq) (fun h=>by cases h) (fun a ha=>by cases ha;exact hlt6);rw[Gj]at h
    exact h⟩
   have HV6:Ab (Own w6 (B+1) v6 (Ha key info (k+1))):=⟨ho6⟩
   have HB6:Ab (Below (B+1) w2 w6):=⟨HBw5.out.trans (grown_below hg6 hs5 HV5.out.ge)⟩
   clear hr6 hlt6 ho6 hg6;go_wp2;go_roundw
   case rel=>exact⟨k+1,_,_,by omega,by go_num,rfl,rfl,HU6,HV6,HB6⟩
   case measure=>simp[intOf];omega
  .obtain rfl:k=K:=by omega
   obtain⟨p,c,rfl,rv,nv,zv,pv⟩:=HV.out.elim;have hlv:(Ha key info k).length=32*k:=He key info k;rw[hlv]at rv ⊢
   have hcc:=rv.cap;have hcm:=rv.max;have HRv:Ab (Bq wr .u8 p n n ((Ha key info k).take n)):=⟨by
    have h:=rv.take n hKn;exact⟨h.len,Av _,by omega,fun h0=>by
     have h1:=h.row h0;exact⟨h1.len,Av _,by omega,by
      rcases h1.at_ with ⟨a,b,d⟩|h2
      .omega
      .exact .inr h2⟩⟩⟩
   have HNv:Ab (Dv w.heap.size p/\(p=none->n=0)):=⟨nv.mono (by omega),fun h=>by have:=zv h;omega⟩
   have HWr:Ab (Below w.heap.size w wr):=⟨HW2.out.trans (HB.out.mono (by omega))⟩
   clear rv nv zv pv hlv HV HU;go_wp2;exact bodyPost_ret (v:=.tuple #[.slice p n n,.int .i64 0]) (by simp[results,Tryz.results163,go_sem]) rfl ⟨p,rfl,HRv.out,HNv.out.1,HWr.out,HNv.out.2⟩
end Go.Proofs.YtnbmfaihlefgfaaGreatDoor
