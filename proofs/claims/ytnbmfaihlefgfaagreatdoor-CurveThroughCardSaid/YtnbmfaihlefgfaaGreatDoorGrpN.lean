/- The three groups' numbers, as the laws make them. -/
import Derived.KernelRfl
import Derived.Test.YtnbmfaihlefgfaaGreatDoorCurP
set_option maxRecDepth 1000000
set_option maxHeartbeats 16000000
set_option linter.all false
namespace Go.Proofs.YtnbmfaihlefgfaaGreatDoor
open Go
def rr (x n:Nat):Nat:=x*2^(32-n)%4294967296 ||| x/2^n
def Cc (x y:Nat):Nat:=(x+y)%4294967296
def gN (x:Nat):Nat:=rr x 7 ^^^ rr x 18 ^^^ x/8
def gM (x:Nat):Nat:=rr x 17 ^^^ rr x 19 ^^^ x/1024
def iI (x:Nat):Nat:=rr x 2 ^^^ rr x 13 ^^^ rr x 22
def iH (x:Nat):Nat:=rr x 6 ^^^ rr x 11 ^^^ rr x 25
def ch (e f g:Nat):Nat:=e &&& f ^^^ (4294967295-e) &&& g
def iG (a b c:Nat):Nat:=a &&& b ^^^ a &&& c ^^^ b &&& c
theorem Ei {x n:Nat}(hx:x<4294967296):rr x n<4294967296:=by
 unfold rr;exact Nat.or_lt_two_pow (n:=32) (Nat.mod_lt _ (by omega)) (Nat.lt_of_le_of_lt (Nat.div_le_self _ _) hx)
theorem Fs (x y:Nat):Cc x y<4294967296:=Nat.mod_lt _ (by omega)
theorem Cl {x y:Nat}(hx:x<4294967296)(hy:y<4294967296):x ^^^ y<4294967296:=Nat.xor_lt_two_pow (n:=32) hx hy
theorem Iy {x y:Nat}(hy:y<4294967296):x &&& y<4294967296:=Nat.and_lt_two_pow (n:=32) _ hy
theorem Jf {x y:Nat}(hx:x<4294967296)(hy:y<4294967296):x ||| y<4294967296:=Nat.or_lt_two_pow (n:=32) hx hy
def Tj (ws:List Nat)(t:Nat):Nat:=Cc (Cc (Cc (gM (ws.getD (t-2) 0)) (ws.getD (t-7) 0)) (gN (ws.getD (t-15) 0))) (ws.getD (t-16) 0)
def Lw (m:List Nat)(t:Nat):Nat:=m.getD (4*t) 0*16777216 ||| m.getD (4*t+1) 0*65536 ||| m.getD (4*t+2) 0*256 ||| m.getD (4*t+3) 0
def Bv (m:List Nat):Nat->List Nat
 | 0=>[]
 | t+1=>Bv m t++[if t<16 then Lw m t else Tj (Bv m t) t]
theorem Bp (m:List Nat)(t:Nat):(Bv m t).length=t:=by
 induction t with
 | zero=>rfl
 | succ t ih=>simp[Bv,ih]
theorem Yh {m:List Nat}(hm:Ay m)(t:Nat):Lw m t<4294967296:=by
 have h0:=hm.get (4*t);have h1:=hm.get (4*t+1);have h2:=hm.get (4*t+2);have h3:=hm.get (4*t+3);unfold Lw;exact Jf (Jf (Jf (by omega) (by omega)) (by omega)) (by omega)
theorem Mo {m:List Nat}(hm:Ay m)(t:Nat):Words (Bv m t):=by
 induction t with
 | zero=>exact Words.nil
 | succ t ih=>
  refine ih.snoc ?_;split
  .exact Yh hm t
  .exact Fs _ _
structure St where
 a:Nat
 b:Nat
 c:Nat
 d:Nat
 e:Nat
 f:Nat
 g:Nat
 h:Nat
def St.ok (s:St):Prop:=s.a<4294967296/\s.b<4294967296/\s.c<4294967296/\s.d<4294967296/\s.e<4294967296/\s.f<4294967296/\s.g<4294967296/\s.h<4294967296
def St.list (s:St):List Nat:=[s.a,s.b,s.c,s.d,s.e,s.f,s.g,s.h]
def St.of (l:List Nat):St:=⟨l.getD 0 0,l.getD 1 0,l.getD 2 0,l.getD 3 0,l.getD 4 0,l.getD 5 0,l.getD 6 0,l.getD 7 0⟩
def dW (s:St)(k w:Nat):Nat:=Cc (Cc (Cc (Cc s.h (iH s.e)) (ch s.e s.f s.g)) k) w
def fM (s:St):Nat:=Cc (iI s.a) (iG s.a s.b s.c)
def iD (s:St)(k w:Nat):St:=⟨Cc (dW s k w) (fM s),s.a,s.b,s.c,Cc s.d (dW s k w),s.e,s.f,s.g⟩
def Wd (K W:List Nat)(s:St):Nat->St
 | 0=>s
 | t+1=>iD (Wd K W s t) (K.getD t 0) (W.getD t 0)
theorem fP {s:St}(h:s.ok)(k w:Nat):(iD s k w).ok:=by
 obtain⟨h1,h2,h3,h4,h5,h6,h7,h8⟩:=h;exact⟨Fs _ _,h1,h2,h3,Fs _ _,h5,h6,h7⟩
theorem Xt {K W:List Nat}{s:St}(h:s.ok):∀t,(Wd K W s t).ok
 | 0=>h
 | t+1=>fP (Xt h t) _ _
theorem St.of_ok {l:List Nat}(h:Words l):(St.of l).ok:=⟨h.get _,h.get _,h.get _,h.get _,h.get _,h.get _,h.get _,h.get _⟩
theorem St.list_of {l:List Nat}(h:l.length=8):(St.of l).list=l:=by
 match l,h with
 | [a,b,c,d,e,f,g,x],_=>rfl
theorem St.list_words {s:St}(h:s.ok):Words s.list:=by
 obtain⟨h1,h2,h3,h4,h5,h6,h7,h8⟩:=h;intro x hx;simp only[St.list,List.mem_cons,List.not_mem_nil,or_false]at hx;rcases hx with rfl|rfl|rfl|rfl|rfl|rfl|rfl|rfl<;>assumption
def aW (H G:List Nat):List Nat:=List.zipWith Cc H G
def Ld:List Nat:=[1116352408,1899447441,3049323471,3921009573,961987163,1508970993,2453635748,2870763221,3624381080,310598401,607225278,1426881987,1925078388,2162078206,2614888103,3248222580,3835390401,4022224774,264347078,604807628,770255983,1249150122,1555081692,1996064986,2554220882,2821834349,2952996808,3210313671,3336571891,3584528711,113926993,338241895,666307205,773529912,1294757372,1396182291,1695183700,1986661051,2177026350,2456956037,2730485921,2820302411,3259730800,3345764771,3516065817,3600352804,4094571909,275423344,430227734,506948616,659060556,883997877,958139571,1322822218,1537002063,1747873779,1955562222,2024104815,2227730452,2361852424,2428436474,2756734187,3204031479,3329325298]
def Gr:List Nat:=[1779033703,3144134277,1013904242,2773480762,1359893119,2600822924,528734635,1541459225]
theorem Na:Ld.length=64:=by kernel_rfl
theorem Uj:Words Gr:=by
 have:Gr.all (fun x=>decide (x<4294967296))=true:=by kernel_rfl
 intro x hx;exact of_decide_eq_true (List.all_eq_true.1 this x hx)
theorem Ws:Words Ld:=by
 have:Ld.all (fun x=>decide (x<4294967296))=true:=by kernel_rfl
 intro x hx;exact of_decide_eq_true (List.all_eq_true.1 this x hx)
def Sx (H m:List Nat):List Nat:=aW H (Wd Ld (Bv m 64) (St.of H) 64).list
theorem Vb {H m:List Nat}(h:H.length=8):(Sx H m).length=8:=by simp[Sx,aW,St.list,h]
theorem Xg (H m:List Nat):Words (Sx H m):=by
 intro x hx;unfold Sx aW at hx;rw[List.mem_iff_getElem]at hx
 obtain⟨i,hi,rfl⟩:=hx;rw[List.getElem_zipWith];exact Fs _ _
def blocks (m:List Nat):Nat->List Nat
 | 0=>Gr
 | n+1=>Sx (blocks m n) ((m.drop (64*n)).take 64)
theorem Cy (m:List Nat):∀n,(blocks m n).length=8
 | 0=>rfl
 | n+1=>Vb (Cy m n)
theorem Lj (m:List Nat):∀n,Words (blocks m n)
 | 0=>Uj
 | _+1=>Xg _ _
theorem Gj {m b:List Nat}:∀ {n:Nat},64*n<=m.length->blocks (m++b) n=blocks m n
 | 0,_=>rfl
 | n+1,h=>by
  rw[blocks,blocks,Gj (by omega),List.drop_append_of_le_length (by omega),List.take_append_of_le_length (by simp;omega)]
def fK (N:Nat):List Nat:=(List.range 8).map fun i=>N/2^(8*(7-i))%256
def Cr (n:Nat):Nat:=(119-n%64)%64
def behind (n:Nat):List Nat:=128::(List.replicate (Cr n) 0++fK (n*8%18446744073709551616))
def Ge (x:Nat):List Nat:=[x/16777216%256,x/65536%256,x/256%256,x%256]
def Vm (m:List Nat):List Nat:=(blocks (m++behind m.length) ((m.length+(behind m.length).length)/64)).flatMap Ge
theorem Kk (N:Nat):(fK N).length=8:=by simp[fK]
theorem Qp (n:Nat):(behind n).length=Cr n+9:=by simp[behind,Kk]
theorem aE (N:Nat):Ay (fK N):=by
 intro x hx;simp only[fK,List.mem_map]at hx;obtain⟨i,_,rfl⟩:=hx;exact Nat.mod_lt _ (by omega)
theorem Td (n:Nat):Ay (behind n):=by
 intro x hx;simp only[behind,List.mem_cons,List.mem_append,List.mem_replicate]at hx;rcases hx with rfl|⟨_,rfl⟩|hx
 .omega
 .omega
 .exact aE _ x hx
theorem Dc (m:List Nat):(Vm m).length=32:=by
 have h:=Cy (m++behind m.length) ((m.length+(behind m.length).length)/64);unfold Vm;generalize blocks (m++behind m.length) ((m.length+(behind m.length).length)/64)=l at h
 match l,h with
 | [a,b,c,d,e,f,g,x],_=>rfl
theorem Ma (m:List Nat):Ay (Vm m):=by
 intro x hx;unfold Vm at hx;rw[List.mem_flatMap]at hx
 obtain⟨y,_,hy⟩:=hx;simp only[Ge,List.mem_cons,List.not_mem_nil,or_false]at hy;omega
def Kd (key:List Nat):List Nat:=if 64<key.length then Vm key else key
def Dw (key:List Nat):List Nat:=Kd key++List.replicate (64-(Kd key).length) 0
def masked (b:List Nat)(x:Nat):List Nat:=b.map (· ^^^ x)
def Wt (key:List Nat):List Nat:=masked (Dw key) 54
def Wj (key:List Nat):List Nat:=masked (Dw key) 92
def Vt (key m:List Nat):List Nat:=Wj key++Vm (Wt key++m)
def Ik (key m:List Nat):List Nat:=Vm (Vt key m)
theorem If (key:List Nat):(Kd key).length<=64:=by
 unfold Kd;split
 .rw[Dc];omega
 .omega
theorem Gg (key:List Nat):(Dw key).length=64:=by have:=If key;simp[Dw];omega
theorem Wr {key:List Nat}(h:Ay key):Ay (Kd key):=by
 unfold Kd;split
 .exact Ma _
 .exact h
theorem Sm {key:List Nat}(h:Ay key):Ay (Dw key):=by
 intro x hx;rcases List.mem_append.1 hx with h1|h1
 .exact Wr h x h1
 .have:=(List.mem_replicate.1 h1).2;omega
theorem Es (b:List Nat)(x:Nat):(masked b x).length=b.length:=by simp[masked]
theorem Si {b:List Nat}(h:Ay b){x:Nat}(hx:x<256):Ay (masked b x):=by
 intro y hy;obtain⟨z,hz,rfl⟩:=List.mem_map.1 hy;exact Nat.xor_lt_two_pow (n:=8) (h z hz) hx
theorem Ij (key m:List Nat):(Ik key m).length=32:=Dc _
theorem Pb (key m:List Nat):Ay (Ik key m):=Ma _
def Vw (p:Nat):Bool:=decide (2<=p)&&decide (p<65536)&&(List.range 256).all fun d=>decide (d<2)||decide (p<d*d) || !(p%d==0)
theorem Fw {p:Nat}(h:Vw p=true):Ca p:=by
 simp only[Vw,Bool.and_eq_true,decide_eq_true_eq,List.all_eq_true,Bool.or_eq_true,Bool.not_eq_true',beq_eq_false_iff_ne]at h;obtain⟨⟨h2,hlt⟩,h⟩:=h;refine⟨h2,hlt,fun d h3 h4=>?_⟩;have hd:d<256:=Nat.lt_of_not_le fun hle=>by have:=Nat.mul_le_mul hle hle;omega
 rcases h d (List.mem_range.2 hd) with (h5|h5)|h5
 .omega
 .omega
 .exact h5
theorem Xu {p:Nat}(hp:2<=p):∀(f n:Nat),0<n->n<2^f->pw p f n=pw p n n
 | 0,n,h0,h=>by simp at h;omega
 | f+1,n,h0,h=>by
  rw[Nv hp h0,pw];split
  .rename_i hm
   have h4:0<n/p:=Nat.div_pos (Nat.le_of_dvd h0 (Nat.dvd_of_mod_eq_zero hm)) (by omega);have h5:n/p<2^f:=by
    have:n/p<=n/2:=Nat.div_le_div_left hp (by omega);rw[Nat.pow_succ]at h
    omega
   rw[Xu hp f (n/p) h4 h5]
  .rfl
def okB (f N base:Nat)(behind ps:List Nat)(i p:Nat):Bool :=
 !(ps.take i).contains p&&(Vw p||behind.contains p)&&decide (2<=p)&&(N-1)%p==0&&Nat.gcd ((pm base N f ((N-1)/p)+N-1)%N) N==1
def holdsB (f N base:Nat)(ps behind:List Nat):Bool :=
 decide (2<=N) && !ps.isEmpty&&decide (ps.length<=32)&&decide (N<=2^f)&&(List.range ps.length).all (fun i=>okB f N base behind ps i (ps.getD i 0))&&pm base N f (N-1)==1 &&
  decide (N<ps.foldl (fun a p=>a*pw p f (N-1)) 1*ps.foldl (fun a p=>a*pw p f (N-1)) 1)
theorem Un {f n:Nat}(h0:0<n)(h:n<2^f):∀(ps:List Nat) (a:Nat),(∀p∈ps,2<=p)->ps.foldl (fun a p=>a*pw p f n) a=ps.foldl (fun a p=>a*pw p n n) a
 | [],_,_=>rfl
 | p::ps,a,hp=>by
  rw[List.foldl_cons,List.foldl_cons,Xu (hp p (by simp)) f n h0 h];exact Un h0 h ps _ fun q hq=>hp q (by simp[hq])
theorem Ii {f N base:Nat}{ps behind:List Nat}(h:holdsB f N base ps behind=true):Fa N base ps behind:=by
 simp only[holdsB,Bool.and_eq_true,decide_eq_true_eq,List.all_eq_true,Bool.not_eq_true',beq_iff_eq]at h;obtain⟨⟨⟨⟨⟨⟨h2,hne⟩,h32⟩,hf⟩,hall⟩,hone⟩,hgr⟩:=h;have hlt:N-1<2^f:=by omega
 have each:∀i p,ps[i]? = .some p->dE N base behind ps i p:=fun i p hp=>by
  have hi:=(List.getElem?_eq_some_iff.1 hp).1;have h3:=hall i (List.mem_range.2 hi);rw[Dx,hp,Option.getD_some]at h3
  simp only[okB,Bool.and_eq_true,decide_eq_true_eq,Bool.not_eq_true',beq_iff_eq,Bool.or_eq_true,List.contains_iff_mem]at h3;obtain⟨⟨⟨⟨k1,k2⟩,k3⟩,k4⟩,k5⟩:=h3;refine⟨(fun hm=>by rw[List.contains_iff_mem.2 hm]at k1;cases k1),k2.imp Fw id,k3,k4,?_⟩;rw[<-Ky base N f _ (Nat.lt_of_le_of_lt (Nat.div_le_self _ _) hlt)];exact k5
 have hps:∀p∈ps,2<=p:=fun p hp=>by
  obtain⟨i,hi,e⟩:=List.getElem_of_mem hp;exact(each i p (by rw[List.getElem?_eq_getElem hi,e])).2.2.1
 refine⟨h2,(fun e=>by rw[e]at hne;cases hne),h32,each,?_,?_⟩
 .rw[<-Ky base N f _ hlt];exact hone
 .have:=Un (f:=f) (n:=N-1) (by omega) hlt ps 1 hps;unfold Qg;rw[<-this];exact hgr
def gP:Nat->Nat
 | 0=>607
 | 1=>655211
 | _=>20752587082923246163
def gQ:Nat->Nat
 | 0=>101
 | 1=>65521
 | _=>1152921504606847009
def gG:Nat->Nat
 | 0=>64
 | 1=>1024
 | _=>262144
def gH:Nat->Nat
 | 0=>597
 | 1=>96520
 | _=>12833098634328171918
def gV:Nat->Nat
 | 0=>2
 | 1=>3
 | _=>9
def Kf:Nat->Nat
 | 0=>6
 | 1=>10
 | _=>18
def Dn:Nat->List Bh
 | 0=>[]
 | 1=>[⟨655211,2,[65521]⟩]
 | _=>[⟨1152921504606847009,13,[2,3,11,683,2971]⟩,⟨20752587082923246163,2,[1152921504606847009]⟩]
theorem cG:Fa 655211 2 [65521] []:=Ii (f:=20) (by kernel_rfl)
theorem Zs:Fa 1152921504606847009 13 [2,3,11,683,2971] []:=Ii (f:=61) (by kernel_rfl)
theorem Zr:Fa 20752587082923246163 2 [1152921504606847009] [1152921504606847009]:=Ii (f:=65) (by kernel_rfl)
theorem aT:Ca 607:=Fw (by kernel_rfl)
theorem aU:Ca 101:=Fw (by kernel_rfl)
theorem Vx:Ca 65521:=Fw (by kernel_rfl)
def Told (N:Nat)(l:List Bh):Prop:=Ca N ∨ (Bq [] l/\∃s∈l,s.n=N)
theorem Mg:∀i,i<3->Bq [] (Dn i)
 | 0,_=>trivial
 | 1,_=>⟨cG,trivial⟩
 | 2,_=>⟨Zs,Zr,trivial⟩
 | _+3,h=>by omega
theorem eT:∀i,i<3->Told (gP i) (Dn i)
 | 0,_=>.inl aT
 | 1,_=>.inr ⟨Mg 1 (by omega),_,List.mem_singleton.2 rfl,rfl⟩
 | 2,_=>.inr ⟨Mg 2 (by omega),_,List.mem_cons_of_mem _ (List.mem_singleton.2 rfl),rfl⟩
 | _+3,h=>by omega
theorem Xy:∀i,i<3->Told (gQ i) (Dn i)
 | 0,_=>.inl aU
 | 1,_=>.inl Vx
 | 2,_=>.inr ⟨Mg 2 (by omega),_,List.mem_cons_self,rfl⟩
 | _+3,h=>by omega
theorem Rj:∀i,i<3->gP i-1=gQ i*Kf i
 | 0,_=>rfl
 | 1,_=>rfl
 | 2,_=>rfl
 | _+3,h=>by omega
theorem Pd:∀i,i<3->64<gQ i/\1<gG i/\gG i<gP i/\1<gH i/\gH i<gP i/\gP i<2^65
 | 0,_=>by decide
 | 1,_=>by decide
 | 2,_=>by decide
 | _+3,h=>by omega
theorem Zq:∀i,i<3->gG i^gQ i%gP i=1
 | 0,_=>by rw[<-Ky (gG 0) (gP 0) 65 (gQ 0) (by decide)];kernel_rfl
 | 1,_=>by rw[<-Ky (gG 1) (gP 1) 65 (gQ 1) (by decide)];kernel_rfl
 | 2,_=>by rw[<-Ky (gG 2) (gP 2) 65 (gQ 2) (by decide)];kernel_rfl
 | _+3,h=>by omega
theorem Sl:Ik [] []=[182,19,103,154,8,20,217,236,119,47,149,215,120,195,95,197,255,22,151,196,147,113,86,83,198,199,18,20,66,146,197,173]:=by kernel_rfl
theorem Vq:Ik [182,19,103,154,8,20,217,236,119,47,149,215,120,195,95,197,255,22,151,196,147,113,86,83,198,199,18,20,66,146,197,173] [104,0,1] =
  [22,9,94,96,137,201,132,135,12,215,97,165,119,173,84,193,49]++(Ik [182,19,103,154,8,20,217,236,119,47,149,215,120,195,95,197,255,22,151,196,147,113,86,83,198,199,18,20,66,146,197,173] [104,0,1]).drop 17:=by kernel_rfl
def Wk (bs:List Nat):Nat:=bs.foldl (fun n x=>n*256+x) 0
def Pf:Nat->List Nat
 | 0=>[22,9,94,96,137,201,132,135,12,215]
 | 1=>[22,9,94,96,137,201,132,135,12,215,97]
 | _=>[22,9,94,96,137,201,132,135,12,215,97,165,119,173,84,193,49]
theorem gW:∀i,i<3->Wk (Pf i)^Kf i%gP i=gH i
 | 0,_=>by rw[<-Ky (Wk (Pf 0)) (gP 0) 65 (Kf 0) (by decide)];kernel_rfl
 | 1,_=>by rw[<-Ky (Wk (Pf 1)) (gP 1) 65 (Kf 1) (by decide)];kernel_rfl
 | 2,_=>by rw[<-Ky (Wk (Pf 2)) (gP 2) 65 (Kf 2) (by decide)];kernel_rfl
 | _+3,h=>by omega
open Go Go.RowKit Go.Proofs.YtnbmfaihlefgfaaGreatDoor.Flow
structure Cw (t:TypeId) (w:World) (b:Nat) (v0 v1 v2 v3:Value):Prop where
 at_:w.heap[b]? = some (.cells #[v0,v1,v2,v3] t (0,0))
theorem Cw.lt {t:TypeId}{w:World}{b:Nat}{v0 v1 v2 v3:Value}(h:Cw t w b v0 v1 v2 v3):b<w.heap.size:=(Ga h.at_).1
theorem Cw.below {t:TypeId}{w w':World}{B b:Nat}{v0 v1 v2 v3:Value}(h:Cw t w b v0 v1 v2 v3)(hb:Below B w w')(hB:b<B):Cw t w' b v0 v1 v2 v3:=⟨by rw[hb.block b hB];exact h.at_⟩
theorem Cw.cells {t:TypeId}{w:World}{b:Nat}{v0 v1 v2 v3:Value}(h:Cw t w b v0 v1 v2 v3):w.cell? ⟨b,0,none⟩=some v0/\w.cell? ⟨b,1,none⟩=some v1/\w.cell? ⟨b,2,none⟩=some v2/\w.cell? ⟨b,3,none⟩=some v3:=by
 have:=h.at_
 simp[World.cell?,this]
theorem Cw.free {t:TypeId}{w:World}{b:Nat}{v0 v1 v2 v3:Value}(h:Cw t w b v0 v1 v2 v3)(j:Nat):w.frozen? ⟨b,j,none⟩=false:=by
 have:=h.at_
 simp[World.frozen?,this]
theorem Cw.made (t:TypeId)(w:World)(v0 v1 v2 v3:Value):Cw t (w.alloc (.cells #[v0,v1,v2,v3] t)) w.heap.size v0 v1 v2 v3:=⟨heap_alloc_new w _⟩
theorem Im {t:TypeId}{w wf:World}{b:Nat}{v0 v1 v2 v3 u0 u1 u2 u3:Value}(h:Cw t w b v0 v1 v2 v3)(hf:wf=(((w.setCell ⟨b,0,none⟩ u0).setCell ⟨b,1,none⟩ u1).setCell ⟨b,2,none⟩ u2).setCell ⟨b,3,none⟩ u3) :
  Cw t wf b u0 u1 u2 u3/\Agree (fun g=>g=b) w wf/\∀(B:Nat) (w0:World),Below B w0 w->B<=b->Below B w0 wf:=by
 subst hf;have a1:∀(W:World) (o:Nat) (u:Value),Agree (fun g=>g=b) W (W.setCell ⟨b,o,none⟩ u):=fun W o u=>.set _ _ _ _ rfl
 refine⟨⟨?_⟩,(((a1 w 0 u0).trans (a1 _ 1 u1)).trans (a1 _ 2 u2)).trans (a1 _ 3 u3),fun B w0 hb h1=>(((hb.setCell h1 _).setCell h1 _).setCell h1 _).setCell h1 _⟩;have:=h.at_
 simp[World.setCell,Array.getElem?_modify,this]
abbrev Gl (w:World)(x:Option Addr×Nat×Nat)(N:Nat):Prop:=Ag w x.1 x.2.1 x.2.2 N
abbrev Fc (b:Nat)(N:Nat)(x:Option Addr×Nat×Nat)(w:World):Prop:=Hs (fun w=>Gl w x N) (fun g=>g=b) w
theorem Hy (N b:Nat)(w:World)(h:N<18446744073709551616)(hb:b<w.heap.size) :
  Calls Tryz.prog 21 #[.int .u64 N] w fun en w'=>∃x:Option Addr×Nat×Nat,en=.returned (.agg #[.slice x.1 x.2.1 x.2.2])/\Fc b N x w'/\Below w.heap.size w w':=by
 refine(Bw N w h).mono ?_;rintro en w' ⟨p,n,c,rfl,hn,hb',hnew⟩;exact⟨(p,n,c),rfl,Em.fresh (B:=w.heap.size) hn hnew (fun g hg=>by rw[hg];exact hb),hb'⟩
theorem aD (w:World)(h l:Nat)(hh:h<18446744073709551616)(hl:l<18446744073709551616) :
  Calls Tryz.prog 144 #[.int .u64 h,.int .u64 l] w fun en w'=>∃x:Option Addr×Nat×Nat,en=.returned (.agg #[.slice x.1 x.2.1 x.2.2])/\Gl w' x (h*4294967296+l)/\Fg w.heap.size x.1/\Below w.heap.size w w':=by
 have HH:=Ab hh;have HL:=Ab hl;have hx:=Ad.made w (.slice none 0 0);have HX:=Ab hx;have HB:Aa (Below w.heap.size w (w.alloc (.cells #[.slice none 0 0] 36))):=⟨(Aw _ _).alloc (Ar _) _⟩
 clear hh hl hx;go_enter Tryz.func144,Tryz.ntmps144
 go_wp2_with fail
 refine(Bw h _ HH.out).mono ?_;rintro en w1 ⟨p1,n1,c1,rfl,h1,b1,_⟩;have H1:=Ab (Fit.of (e:=2) h1 HH.out);have B1:=Ab b1;clear h1 b1
 go_wp2_with fail
 refine(Bw 4294967296 w1 (by decide)).mono ?_;rintro en w2 ⟨p2,n2,c2,rfl,h2,b2,_⟩;have H2:=Ab (Fit.of (e:=2) h2 (by decide));have H12:=Ab (H1.out.below b2);have B2:=Ab (Ae B1.out b2);clear h2 b2 H1
 go_wp2_with fail
 refine(Jh H12.out H2.out (by decide) (by decide)).mono ?_;rintro en w3 ⟨_,rfl,⟨p3,n3,c3,rfl,h3,l3⟩,b3⟩;have H3:=Ab (Fit.of h3 l3);have B3:=Ab (Ae B2.out b3);clear h3 l3 b3
 go_wp2_with fail
 refine(Bw l w3 HL.out).mono ?_;rintro en w4 ⟨p4,n4,c4,rfl,h4,b4,_⟩;have H4:=Ab (Fit.of (e:=2) h4 HL.out);have H34:=Ab (H3.out.below b4);have B4:=Ab (Ae B3.out b4);clear h4 b4 H3
 go_wp2_with fail
 have l3:=(Hg H34.out).len_le H34.out.lim;have l4:=(Hg H4.out).len_le H4.out.lim;refine(Rr w4 p3 n3 c3 (h*4294967296) p4 n4 c4 l (Hg H34.out) (Hg H4.out) (by omega) (by omega)).mono ?_;rintro en w5 ⟨p5,n5,c5,rfl,h5,b5,nw5⟩;have B5:=Ae B4.out b5;have hx5:=HX.out.below B5 HX.out.lt;have c0:=hx5.cell;have f0:=hx5.free;have k0:=(hx5.set (.slice p5 n5 c5)).cell;have HN:Aa (Gl (w5.setCell ⟨w.heap.size,0,none⟩ (.slice p5 n5 c5)) (p5,n5,c5) (h*4294967296+l)):=⟨h5.store hx5 _⟩
 have HBf:Aa (Below w.heap.size w (w5.setCell ⟨w.heap.size,0,none⟩ (.slice p5 n5 c5))):=⟨(Ae HB.out B5).setCell (Ar _) _⟩
 have HNw:=Ab (nw5.mono (show w.heap.size<=w4.heap.size from (Ae HB.out B4.out).size));clear h5 b5 B5 hx5 nw5 l3 l4;go_wp2;refine bodyPost_ret (v:=.agg #[.slice p5 n5 c5]) (by simp[results,Tryz.results144,go_sem,k0]) rfl ⟨(p5,n5,c5),rfl,HN.out,HNw.out,HBf.out⟩
abbrev Nl (b:Nat)(Ns:List Nat)(z:Option Addr×Nat×Nat)(w:World):Prop:=Hs (fun w=>Au w 3 z.1 z.2.1 z.2.2 Ns) (fun g=>g=b) w
abbrev Ye (b:Nat)(s:Bh)(x y z:Option Addr×Nat×Nat)(w:World):Prop:=Hs (iA 3 s x y z) (fun g=>g=b) w
abbrev Py (b:Nat)(l:List Bh)(z:Option Addr×Nat×Nat)(w:World):Prop:=Hs (fun w=>Dp w 3 z.1 z.2.1 z.2.2 l) (fun g=>g=b) w
theorem Nl.made {b:Nat}{w:World}(xs:List (Option Addr×Nat×Nat))(Ns:List Nat)(hl:xs.length=Ns.length)(hb:b<w.heap.size)(hx:∀(i:Nat) (x:Option Addr×Nat×Nat) (N:Nat),xs[i]? = some x->Ns[i]? = some N->Fc b N x w)(hN:∀N∈Ns,N<Am 3)(hmx:Ns.length<=1000) :
  Nl b Ns (some ⟨w.heap.size,0,none⟩,Ns.length,Ns.length) (w.alloc (.cells ((xs.map fun x=>Value.slice x.1 x.2.1 x.2.2).toArray) 36)):=by
 have hbel:Agree (fun g=>g=b) w (w.alloc (.cells ((xs.map fun x=>Value.slice x.1 x.2.1 x.2.2).toArray) 36)):=.of ((Aw _ _).alloc (Ar _) _);have hnew:=heap_alloc_new w (.cells ((xs.map fun x=>Value.slice x.1 x.2.1 x.2.2).toArray) 36);intro w2 a;have hlt:w.heap.size<(w.alloc (.cells ((xs.map fun x=>Value.slice x.1 x.2.1 x.2.2).toArray) 36)).heap.size:=by simp
 refine⟨rfl,Ar _,(show Ns.length<=9223372036854775807 by omega),(fun e=>by cases e),fun _=>⟨w.heap.size,0,rfl,Dh hlt a.size,fun i N hi=>?_⟩⟩;have hil:i<xs.length:=by rw[hl];exact(List.getElem?_eq_some_iff.1 hi).1
 refine⟨_,_,_,?_,(hx i xs[i] N (List.getElem?_eq_getElem hil) hi) w2 (hbel.trans a),hN N (List.mem_of_getElem? hi)⟩;have hblk:=a.block w.heap.size hlt (by omega);rw[hnew]at hblk
 simp[World.cell?,hblk,hil]
theorem Py.made {b:Nat}{w:World}(xs:List ((Option Addr×Nat×Nat)×(Option Addr×Nat×Nat)×(Option Addr×Nat×Nat)))(l:List Bh)(cs:Array Value)(hl:xs.length=l.length)(hb:b<w.heap.size)(hcs:∀(i:Nat) (x:(Option Addr×Nat×Nat)×(Option Addr×Nat×Nat)×(Option Addr×Nat×Nat)),xs[i]? = some x->cs[i*3]? = some (.slice x.1.1 x.1.2.1 x.1.2.2)/\cs[i*3+1]? = some (.slice x.2.1.1 x.2.1.2.1 x.2.1.2.2)/\cs[i*3+2]? = some (.slice x.2.2.1 x.2.2.2.1 x.2.2.2.2))(hx:∀(i:Nat) (x:(Option Addr×Nat×Nat)×(Option Addr×Nat×Nat)×(Option Addr×Nat×Nat)) (s:Bh),xs[i]? = some x->l[i]? = some s->Ye b s x.1 x.2.1 x.2.2 w)(hN:∀s∈l,s.n<Am 3/\s.base<Am 3)(hmx:l.length<=1000) :
  Py b l (some ⟨w.heap.size,0,none⟩,l.length,l.length) (w.alloc (.cells cs 182)):=by
 have hbel:Agree (fun g=>g=b) w (w.alloc (.cells cs 182)):=.of ((Aw _ _).alloc (Ar _) _);have hnew:=heap_alloc_new w (.cells cs 182);intro w2 a;have hlt:w.heap.size<(w.alloc (.cells cs 182)).heap.size:=by simp
 refine⟨rfl,Ar _,(show l.length<=9223372036854775807 by omega),(fun e=>by cases e),fun _=>⟨w.heap.size,0,rfl,Dh hlt a.size,fun i s hi=>?_⟩⟩;have hil:i<xs.length:=by rw[hl];exact(List.getElem?_eq_some_iff.1 hi).1
 have hp:=(hx i xs[i] s (List.getElem?_eq_getElem hil) hi) w2 (hbel.trans a);have hm:=hN s (List.mem_of_getElem? hi);obtain⟨e0,e1,e2⟩:=hcs i xs[i] (List.getElem?_eq_getElem hil);have hblk:=a.block w.heap.size hlt (by omega);rw[hnew]at hblk
 have hc:∀o u,cs[o]? = some u->w2.cell? ⟨w.heap.size,0+o,none⟩=some u:=fun o u hu=>by
  simp only[World.cell?,hblk,Nat.zero_add];simpa using hu
 exact⟨_,_,_,_,_,_,_,_,_,hc _ _ e0,hc _ _ e1,hc _ _ e2,hp.n,hm.1,hp.base,hm.2,hp.ps⟩
def Nz (i:Nat)(w:World)(ps:Option Addr)(ns cs:Nat)(e:Ending)(w':World):Prop :=
 ∃(x y z:Option Addr×Nat×Nat) (pc:Option Addr) (nc cc:Nat),e=.returned (.tuple #[.agg #[.slice x.1 x.2.1 x.2.2,.slice y.1 y.2.1 y.2.2,.slice z.1 z.2.1 z.2.2,.slice ps ns cs],.slice pc nc cc]) /\
  Gl w' x (gP i)/\Gl w' y (gQ i)/\Gl w' z (gG i)/\Dp w' 3 pc nc cc (Dn i)/\Below w.heap.size w w'
theorem Oz (w:World)(A:Int)(ps:Option Addr)(ns cs:Nat)(hA:(IntKind.u64.wrap A).tmod 3=0) :
  Calls Tryz.prog 81 #[.int .i64 A,.slice ps ns cs] w (Nz 0 w ps ns cs):=by
 have HX:=Ab (Cw.made 118 w (.slice none 0 0) (.slice none 0 0) (.slice none 0 0) (.slice none 0 0));have HB:Aa (Below w.heap.size w (w.alloc (.cells #[.slice none 0 0,.slice none 0 0,.slice none 0 0,.slice none 0 0] 118))):=⟨(Aw _ _).alloc (Ar _) _⟩
 have hs:w.heap.size<(w.alloc (.cells #[.slice none 0 0,.slice none 0 0,.slice none 0 0,.slice none 0 0] 118)).heap.size:=HX.out.lt;have S0:=Ab hs;have B0:Aa (Below (w.alloc (.cells #[.slice none 0 0,.slice none 0 0,.slice none 0 0,.slice none 0 0] 118)).heap.size (w.alloc (.cells #[.slice none 0 0,.slice none 0 0,.slice none 0 0,.slice none 0 0] 118)) (w.alloc (.cells #[.slice none 0 0,.slice none 0 0,.slice none 0 0,.slice none 0 0] 118))):=⟨Aw _ _⟩
 clear hs;go_enter Tryz.func81,Tryz.ntmps81
 go_wp2_with fail
 refine(Hy 607 w.heap.size _ (by decide) S0.out).mono ?_;rintro en w1 ⟨x1,rfl,f1,b1⟩;have F1:=Ab f1;have S1:=Ab (Dh S0.out b1.size);have B1:=Ab (Ae B0.out b1);clear f1 b1
 go_wp2_with fail
 refine(Hy 101 w.heap.size _ (by decide) S1.out).mono ?_;rintro en w2 ⟨x2,rfl,f2,b2⟩;have F2:=Ab f2;have S2:=Ab (Dh S1.out b2.size);have B2:=Ab (Ae B1.out b2);have F1:=F1.out.step (.of b2);have F1:=Ab F1;clear f2 b2
 go_wp2_with fail
 refine(Hy 64 w.heap.size _ (by decide) S2.out).mono ?_;rintro en w3 ⟨x3,rfl,f3,b3⟩;have F3:=Ab f3;have S3:=Ab (Dh S2.out b3.size);have B3:=Ab (Ae B2.out b3);have F1:=F1.out.step (.of b3);have F1:=Ab F1;have F2:=F2.out.step (.of b3);have F2:=Ab F2;clear f3 b3;have BL:=B3;have kx:=HX.out.below BL.out HX.out.lt;have c0:=kx.cells.1;have c1:=kx.cells.2.1;have c2:=kx.cells.2.2.1;have c3:=kx.cells.2.2.2;have f0:=kx.free 0;have f1:=kx.free 1;have f2:=kx.free 2;have f3:=kx.free 3;obtain⟨wf,hwf⟩:∃W,W=((((w3).setCell ⟨w.heap.size,0,none⟩ (.slice x1.1 x1.2.1 x1.2.2)).setCell ⟨w.heap.size,1,none⟩ (.slice x2.1 x2.2.1 x2.2.2)).setCell ⟨w.heap.size,2,none⟩ (.slice x3.1 x3.2.1 x3.2.2)).setCell ⟨w.heap.size,3,none⟩ (.slice ps ns cs):=⟨_,rfl⟩
 have hst:=Im kx hwf;have e0:=hst.1.cells.1;have e1:=hst.1.cells.2.1;have e2:=hst.1.cells.2.2.1;have e3:=hst.1.cells.2.2.2;have HAG:=Ab hst.2.1;have HBF:=Ab (hst.2.2 w.heap.size w (Ae HB.out BL.out) (Ar _));have HWF:=Ab hwf;clear kx hst hwf;go_wp2;rw[<-HWF.out];clear c0 c1 c2 c3 f0 f1 f2 f3 HWF;refine bodyPost_ret (v:=.tuple #[.agg #[.slice x1.1 x1.2.1 x1.2.2,.slice x2.1 x2.2.1 x2.2.2,.slice x3.1 x3.2.1 x3.2.2,.slice ps ns cs],.slice none 0 0]) (by simp[results,Tryz.results81,go_sem,e0,e1,e2,e3]) rfl
  ⟨x1,x2,x3,none,0,0,rfl,F1.out wf HAG.out,F2.out wf HAG.out,F3.out wf HAG.out,⟨rfl,Ar _,by omega,fun _=>rfl,fun h=>by omega⟩,HBF.out⟩
theorem Oy (w:World)(A:Int)(ps:Option Addr)(ns cs:Nat)(hA:(IntKind.u64.wrap A).tmod 3=1) :
  Calls Tryz.prog 81 #[.int .i64 A,.slice ps ns cs] w (Nz 1 w ps ns cs):=by
 have HX:=Ab (Cw.made 118 w (.slice none 0 0) (.slice none 0 0) (.slice none 0 0) (.slice none 0 0));have HB:Aa (Below w.heap.size w (w.alloc (.cells #[.slice none 0 0,.slice none 0 0,.slice none 0 0,.slice none 0 0] 118))):=⟨(Aw _ _).alloc (Ar _) _⟩
 have hs:w.heap.size<(w.alloc (.cells #[.slice none 0 0,.slice none 0 0,.slice none 0 0,.slice none 0 0] 118)).heap.size:=HX.out.lt;have S0:=Ab hs;have B0:Aa (Below (w.alloc (.cells #[.slice none 0 0,.slice none 0 0,.slice none 0 0,.slice none 0 0] 118)).heap.size (w.alloc (.cells #[.slice none 0 0,.slice none 0 0,.slice none 0 0,.slice none 0 0] 118)) (w.alloc (.cells #[.slice none 0 0,.slice none 0 0,.slice none 0 0,.slice none 0 0] 118))):=⟨Aw _ _⟩
 clear hs;go_enter Tryz.func81,Tryz.ntmps81
 go_wp2_with fail
 refine(Hy 655211 w.heap.size _ (by decide) S0.out).mono ?_;rintro en w1 ⟨x1,rfl,f1,b1⟩;have F1:=Ab f1;have S1:=Ab (Dh S0.out b1.size);have B1:=Ab (Ae B0.out b1);clear f1 b1
 go_wp2_with fail
 refine(Hy 65521 w.heap.size _ (by decide) S1.out).mono ?_;rintro en w2 ⟨x2,rfl,f2,b2⟩;have F2:=Ab f2;have S2:=Ab (Dh S1.out b2.size);have B2:=Ab (Ae B1.out b2);have F1:=F1.out.step (.of b2);have F1:=Ab F1;clear f2 b2
 go_wp2_with fail
 refine(Hy 1024 w.heap.size _ (by decide) S2.out).mono ?_;rintro en w3 ⟨x3,rfl,f3,b3⟩;have F3:=Ab f3;have S3:=Ab (Dh S2.out b3.size);have B3:=Ab (Ae B2.out b3);have F1:=F1.out.step (.of b3);have F1:=Ab F1;have F2:=F2.out.step (.of b3);have F2:=Ab F2;clear f3 b3
 go_wp2_with fail
 refine(Hy 655211 w.heap.size _ (by decide) S3.out).mono ?_;rintro en w4 ⟨x4,rfl,f4,b4⟩;have F4:=Ab f4;have S4:=Ab (Dh S3.out b4.size);have B4:=Ab (Ae B3.out b4);have F1:=F1.out.step (.of b4);have F1:=Ab F1;have F2:=F2.out.step (.of b4);have F2:=Ab F2;have F3:=F3.out.step (.of b4);have F3:=Ab F3;clear f4 b4
 go_wp2_with fail
 refine(Hy 2 w.heap.size _ (by decide) S4.out).mono ?_;rintro en w5 ⟨x5,rfl,f5,b5⟩;have F5:=Ab f5;have S5:=Ab (Dh S4.out b5.size);have B5:=Ab (Ae B4.out b5);have F1:=F1.out.step (.of b5);have F1:=Ab F1;have F2:=F2.out.step (.of b5);have F2:=Ab F2;have F3:=F3.out.step (.of b5);have F3:=Ab F3;have F4:=F4.out.step (.of b5);have F4:=Ab F4;clear f5 b5
 go_wp2_with fail
 refine(Hy 65521 w.heap.size _ (by decide) S5.out).mono ?_;rintro en w6 ⟨x6,rfl,f6,b6⟩;have F6:=Ab f6;have S6:=Ab (Dh S5.out b6.size);have B6:=Ab (Ae B5.out b6);have F1:=F1.out.step (.of b6);have F1:=Ab F1;have F2:=F2.out.step (.of b6);have F2:=Ab F2;have F3:=F3.out.step (.of b6);have F3:=Ab F3;have F4:=F4.out.step (.of b6);have F4:=Ab F4;have F5:=F5.out.step (.of b6);have F5:=Ab F5;clear f6 b6;have fl:=Nl.made (b:=w.heap.size) (w:=w6) [x6] [65521] rfl S6.out (fun i x N h1 h2=>by
  cases i with
  | zero=>simp at h1 h2;subst h1 h2;exact F6.out
  | succ i=>simp at h1) (fun N hN=>by rw[List.mem_singleton.1 hN];decide) (by decide)
 have bA:Below w6.heap.size w6 (w6.alloc (.cells #[.slice x6.1 x6.2.1 x6.2.2] 36)):=Cu;have bB:Below ((w6.alloc (.cells #[.slice x6.1 x6.2.1 x6.2.2] 36))).heap.size (w6.alloc (.cells #[.slice x6.1 x6.2.1 x6.2.2] 36)) ((w6.alloc (.cells #[.slice x6.1 x6.2.1 x6.2.2] 36)).alloc (.cells #[.slice x4.1 x4.2.1 x4.2.2,.slice x5.1 x5.2.1 x5.2.2,.slice (some ⟨w6.heap.size,0,none⟩) 1 1] 182)):=Cu;have hA1:((w6.alloc (.cells #[.slice x6.1 x6.2.1 x6.2.2] 36))).heap.size=w6.heap.size+1:=by simp
 have fc:=Py.made (b:=w.heap.size) (w:=(w6.alloc (.cells #[.slice x6.1 x6.2.1 x6.2.2] 36))) [(x4,x5,(some ⟨w6.heap.size,0,none⟩,1,1))] [⟨655211,2,[65521]⟩] #[.slice x4.1 x4.2.1 x4.2.2,.slice x5.1 x5.2.1 x5.2.2,.slice (some ⟨w6.heap.size,0,none⟩) 1 1] rfl (Dh S6.out bA.size)
  (fun i x h=>by
   cases i with
   | zero=>simp at h;subst h;exact⟨rfl,rfl,rfl⟩
   | succ i=>simp at h)
  (fun i x s h1 h2=>by
   cases i with
   | zero=>simp at h1 h2;subst h1 h2;exact fun w2 a=>⟨F4.out.step (.of bA) w2 a,F5.out.step (.of bA) w2 a,fl w2 a⟩
   | succ i=>simp at h1)
  (fun s hs=>by rw[List.mem_singleton.1 hs];exact⟨by decide,by decide⟩) (by decide)
 rw[hA1]at fc
 have BL:Aa (Below (w.alloc (.cells #[.slice none 0 0,.slice none 0 0,.slice none 0 0,.slice none 0 0] 118)).heap.size (w.alloc (.cells #[.slice none 0 0,.slice none 0 0,.slice none 0 0,.slice none 0 0] 118)) ((w6.alloc (.cells #[.slice x6.1 x6.2.1 x6.2.2] 36)).alloc (.cells #[.slice x4.1 x4.2.1 x4.2.2,.slice x5.1 x5.2.1 x5.2.2,.slice (some ⟨w6.heap.size,0,none⟩) 1 1] 182))):=⟨Ae (Ae B6.out bA) bB⟩
 have bAB:=Ae bA bB;have G1:=Ab (F1.out.step (.of bAB));have G2:=Ab (F2.out.step (.of bAB));have G3:=Ab (F3.out.step (.of bAB));have GC:=Ab fc;clear fl bA bB hA1 fc bAB F1 F2 F3 F4 F5 F6;have kx:=HX.out.below BL.out HX.out.lt;have c0:=kx.cells.1;have c1:=kx.cells.2.1;have c2:=kx.cells.2.2.1;have c3:=kx.cells.2.2.2;have f0:=kx.free 0;have f1:=kx.free 1;have f2:=kx.free 2;have f3:=kx.free 3;obtain⟨wf,hwf⟩:∃W,W=((((((w6.alloc (.cells #[.slice x6.1 x6.2.1 x6.2.2] 36)).alloc (.cells #[.slice x4.1 x4.2.1 x4.2.2,.slice x5.1 x5.2.1 x5.2.2,.slice (some ⟨w6.heap.size,0,none⟩) 1 1] 182))).setCell ⟨w.heap.size,0,none⟩ (.slice x1.1 x1.2.1 x1.2.2)).setCell ⟨w.heap.size,1,none⟩ (.slice x2.1 x2.2.1 x2.2.2)).setCell ⟨w.heap.size,2,none⟩ (.slice x3.1 x3.2.1 x3.2.2)).setCell ⟨w.heap.size,3,none⟩ (.slice ps ns cs):=⟨_,rfl⟩
 have hst:=Im kx hwf;have e0:=hst.1.cells.1;have e1:=hst.1.cells.2.1;have e2:=hst.1.cells.2.2.1;have e3:=hst.1.cells.2.2.2;have HAG:=Ab hst.2.1;have HBF:=Ab (hst.2.2 w.heap.size w (Ae HB.out BL.out) (Ar _));have HWF:=Ab hwf;clear kx hst hwf;go_wp2;rw[<-HWF.out];clear c0 c1 c2 c3 f0 f1 f2 f3 HWF;refine bodyPost_ret (v:=.tuple #[.agg #[.slice x1.1 x1.2.1 x1.2.2,.slice x2.1 x2.2.1 x2.2.2,.slice x3.1 x3.2.1 x3.2.2,.slice ps ns cs],.slice (some ⟨w6.heap.size+1,0,none⟩) 1 1]) (by simp[results,Tryz.results81,go_sem,e0,e1,e2,e3]) rfl
  ⟨x1,x2,x3,some ⟨w6.heap.size+1,0,none⟩,1,1,rfl,G1.out wf HAG.out,G2.out wf HAG.out,G3.out wf HAG.out,GC.out wf HAG.out,HBF.out⟩
abbrev NF (b N:Nat)(v:Value)(w:World):Prop:=∃x:Option Addr×Nat×Nat,v=.agg #[.slice x.1 x.2.1 x.2.2]/\Fc b N x w
abbrev LF (b:Nat)(Ns:List Nat)(v:Value)(w:World):Prop:=∃z:Option Addr×Nat×Nat,v=.slice z.1 z.2.1 z.2.2/\Nl b Ns z w
abbrev SF (b:Nat)(s:Bh)(v:Value)(w:World):Prop:=∃x:(Option Addr×Nat×Nat)×(Option Addr×Nat×Nat)×(Option Addr×Nat×Nat),v=trip x.1 x.2.1 x.2.2/\Ye b s x.1 x.2.1 x.2.2 w
abbrev CF (b:Nat)(l:List Bh)(v:Value)(w:World):Prop:=∃z:Option Addr×Nat×Nat,v=.slice z.1 z.2.1 z.2.2/\Py b l z w
abbrev PF (b:Nat)(xp xq s:Option Addr×Nat×Nat)(v:Value)(w:World):Prop:=∃z:Option Addr×Nat×Nat,v=.agg #[.slice xp.1 xp.2.1 xp.2.2,.slice xq.1 xq.2.1 xq.2.2,.slice z.1 z.2.1 z.2.2,.slice s.1 s.2.1 s.2.2]/\Fc b 262144 z w
def Rs (b:Nat)(xp xq s:Option Addr×Nat×Nat)(i:Nat)(v:Value)(w:World):Prop:=match i with
 | 2=>NF b 262144 v w
 | 4=>PF b xp xq s v w
 | 6=>NF b 13 v w
 | 7=>NF b 2 v w
 | 8=>NF b 3 v w
 | 9=>NF b 11 v w
 | 10=>NF b 683 v w
 | 11=>NF b 2971 v w
 | 12=>LF b [2,3,11,683,2971] v w
 | 13=>SF b ⟨1152921504606847009,13,[2,3,11,683,2971]⟩ v w
 | 15=>NF b 2 v w
 | 17=>LF b [1152921504606847009] v w
 | 18=>SF b ⟨20752587082923246163,2,[1152921504606847009]⟩ v w
 | 19=>CF b (Dn 2) v w
 | 21=>CF b (Dn 2) v w
 | _=>True
theorem NF.ag {b N:Nat}{v:Value}{w w':World}(h:NF b N v w)(a:Agree (fun g=>g=b) w w'):NF b N v w':=let ⟨x,h1,h2⟩:=h;⟨x,h1,h2.step a⟩
theorem LF.ag {b:Nat}{Ns:List Nat}{v:Value}{w w':World}(h:LF b Ns v w)(a:Agree (fun g=>g=b) w w'):LF b Ns v w':=let ⟨x,h1,h2⟩:=h;⟨x,h1,h2.step a⟩
theorem SF.ag {b:Nat}{s:Bh}{v:Value}{w w':World}(h:SF b s v w)(a:Agree (fun g=>g=b) w w'):SF b s v w':=let ⟨x,h1,h2⟩:=h;⟨x,h1,h2.step a⟩
theorem CF.ag {b:Nat}{l:List Bh}{v:Value}{w w':World}(h:CF b l v w)(a:Agree (fun g=>g=b) w w'):CF b l v w':=let ⟨x,h1,h2⟩:=h;⟨x,h1,h2.step a⟩
theorem PF.ag {b:Nat}{xp xq s:Option Addr×Nat×Nat}{v:Value}{w w':World}(h:PF b xp xq s v w)(a:Agree (fun g=>g=b) w w'):PF b xp xq s v w':=let ⟨x,h1,h2⟩:=h;⟨x,h1,h2.step a⟩
theorem Rs.ag {b:Nat}{xp xq s:Option Addr×Nat×Nat}(i:Nat)(v:Value)(w w':World)(h:Rs b xp xq s i v w)(a:Agree (fun g=>g=b) w w'):Rs b xp xq s i v w':=by
 unfold Rs at *;split
 all_goals first|exact NF.ag h a|exact LF.ag h a|exact SF.ag h a|exact CF.ag h a|exact PF.ag h a|trivial
structure Lo (t:TypeId) (wE w0:World) (b:Nat) (xp xq s:Option Addr×Nat×Nat) (d:Bool) (v4:Value) (w:World):Prop where
 ag:Agree (fun g=>g=b) w0 w
 bel:Below wE.heap.size wE w
 lt:b<w.heap.size
 z0:d=false->Cw t w b (.slice none 0 0) (.slice none 0 0) (.slice none 0 0) (.slice none 0 0)
 z1:d=true->∃z:Option Addr×Nat×Nat,v4=.agg #[.slice xp.1 xp.2.1 xp.2.2,.slice xq.1 xq.2.1 xq.2.2,.slice z.1 z.2.1 z.2.2,.slice s.1 s.2.1 s.2.2]/\Cw t w b (.slice xp.1 xp.2.1 xp.2.2) (.slice xq.1 xq.2.1 xq.2.2) (.slice z.1 z.2.1 z.2.2) (.slice s.1 s.2.1 s.2.2)
theorem Lo.later {t:TypeId}{wE w0:World}{b:Nat}{xp xq s:Option Addr×Nat×Nat}{d:Bool}{v4:Value}{w w':World}(h:Lo t wE w0 b xp xq s d v4 w)(hb:Below w.heap.size w w'):Lo t wE w0 b xp xq s d v4 w' :=
 ⟨h.ag.trans (.of hb),Dd h.bel hb,Dh h.lt hb.size,fun e=>(h.z0 e).below hb h.lt,fun e=>let ⟨z,k1,k2⟩:=h.z1 e;⟨z,k1,k2.below hb h.lt⟩⟩
theorem Lo.put4 {t:TypeId}{wE w0:World}{b:Nat}{xp xq s:Option Addr×Nat×Nat}{v4 v:Value}{w:World}(h:Lo t wE w0 b xp xq s false v4 w):Lo t wE w0 b xp xq s false v w :=
 ⟨h.ag,h.bel,h.lt,h.z0,(fun e=>by cases e)⟩
theorem Ox (w:World)(A:Int)(ps:Option Addr)(ns cs:Nat)(hA:(IntKind.u64.wrap A).tmod 3=2) :
  Calls Tryz.prog 81 #[.int .i64 A,.slice ps ns cs] w (Nz 2 w ps ns cs):=by
 have HX:=Ab (Cw.made 118 w (.slice none 0 0) (.slice none 0 0) (.slice none 0 0) (.slice none 0 0));have HB:Aa (Below w.heap.size w (w.alloc (.cells #[.slice none 0 0,.slice none 0 0,.slice none 0 0,.slice none 0 0] 118))):=⟨(Aw _ _).alloc (Ar _) _⟩
 have hs:w.heap.size<(w.alloc (.cells #[.slice none 0 0,.slice none 0 0,.slice none 0 0,.slice none 0 0] 118)).heap.size:=HX.out.lt;have S0:=Ab hs;have B0:Aa (Below (w.alloc (.cells #[.slice none 0 0,.slice none 0 0,.slice none 0 0,.slice none 0 0] 118)).heap.size (w.alloc (.cells #[.slice none 0 0,.slice none 0 0,.slice none 0 0,.slice none 0 0] 118)) (w.alloc (.cells #[.slice none 0 0,.slice none 0 0,.slice none 0 0,.slice none 0 0] 118))):=⟨Aw _ _⟩
 clear hs;go_enter Tryz.func81,Tryz.ntmps81
 go_wp2_with fail
 refine(Hy 1152921504606847009 w.heap.size _ (by decide) S0.out).mono ?_;rintro en w6 ⟨xq,rfl,fq,bq⟩;have F1:=Ab fq;have B1:=Ab bq;clear fq bq
 go_wp2_with fail
 refine(aD _ 4831838208 595 (by decide) (by decide)).mono ?_;rintro en w7 ⟨xp,rfl,hp,np,bp⟩;have bA:Below w6.heap.size w6 (w6.alloc (.cells #[.slice xq.1 xq.2.1 xq.2.2] 36)):=Cu;have bB:Below w7.heap.size w7 (w7.alloc (.cells #[.slice xp.1 xp.2.1 xp.2.2] 36)):=Cu;have m6:=((Ad.made w6 (.slice xq.1 xq.2.1 xq.2.2)).below bp (by simp))
 have m6':=m6.below bB m6.lt;have m7:=Ad.made w7 (.slice xp.1 xp.2.1 xp.2.2);have hs1:=S0.out;have hs2:=B1.out.size;have hs3:(w6.alloc (.cells #[.slice xq.1 xq.2.1 xq.2.2] 36)).heap.size=w6.heap.size+1:=by simp
 have hs4:=bp.size;have bAll:=Ae (Ae (Ae B1.out bA) bp) bB;have FQ':Fc w.heap.size 1152921504606847009 xq (w7.alloc (.cells #[.slice xp.1 xp.2.1 xp.2.2] 36)):=F1.out.step (.of (Ae (Ae bA bp) bB));have FP':Fc w.heap.size 20752587082923246163 xp (w7.alloc (.cells #[.slice xp.1 xp.2.1 xp.2.2] 36)) :=
  (Em.fresh (bad:=fun g=>g=w.heap.size) hp np (fun g hg=>by rw[hg];omega)).step (.of bB)
 obtain⟨w0,hw0⟩:∃W,w7.alloc (.cells #[.slice xp.1 xp.2.1 xp.2.2] 36)=W:=⟨_,rfl⟩
 have hs5:w0.heap.size=w7.heap.size+1:=by rw[<-hw0];simp
 rw[hw0]at m6' m7 bAll FQ' FP'
 have HW0:=Ab hw0;have FQ:=Ab FQ';have FP:=Ab FP';have hx0:=HX.out.below bAll HX.out.lt;have HG0:Aa (Lo 118 w w0 w.heap.size xp xq (ps,ns,cs) false undef w0):=⟨⟨⟨Ar _,fun _ _ _=>rfl⟩,Ae HB.out bAll,by omega,fun _=>hx0,(fun e=>by cases e)⟩⟩
 have n6:w6.heap.size≠w.heap.size:=by omega
 have n7:w7.heap.size≠w.heap.size:=by omega
 have hl6:w6.heap.size<w0.heap.size:=by omega
 have hl7:w7.heap.size<w0.heap.size:=by omega
 obtain⟨b7,hb7⟩:∃b,w7.heap.size=b:=⟨_,rfl⟩
 rw[hb7]at m7 n7 hl7
 have K6:Aa (∀w',Agree (fun g=>g=w.heap.size) w0 w'->Ad w' w6.heap.size (.slice xq.1 xq.2.1 xq.2.2)):=⟨fun w' a=>by unfold Ad;rw[a.block _ hl6 n6];exact m6'⟩
 have K7:Aa (∀w',Agree (fun g=>g=w.heap.size) w0 w'->Ad w' b7 (.slice xp.1 xp.2.1 xp.2.2)):=⟨fun w' a=>by unfold Ad;rw[a.block _ hl7 n7];exact m7⟩
 clear bA bB m6 m6' m7 hs1 hs2 hs3 hs4 hs5 bAll FQ' FP' hw0 hx0 n6 n7 hl6 hl7 hp np bp;go_wp2;rw[HW0.out]
 try simp only[hb7]
 clear HW0 hb7;refine Ak (by kernel_rfl) (by kernel_rfl)
  [some (.agg #[.slice xp.1 xp.2.1 xp.2.2]),some (.agg #[.slice xq.1 xq.2.1 xq.2.2]),none,some (.slice ps ns cs),none,some (.agg #[.slice xq.1 xq.2.1 xq.2.2]),none,none,none,none,none,none,none,none,some (.agg #[.slice xp.1 xp.2.1 xp.2.2]),none,some (.agg #[.slice xq.1 xq.2.1 xq.2.2]),none,none,none,none,none]
  [false,false,true,false,true,false,true,true,true,true,true,true,true,true,false,true,false,true,true,true,true,true] rfl
  (fun w1 w2=>Agree (fun g=>g=w.heap.size) w1 w2) (fun D sp w'=>Lo 118 w w0 w.heap.size xp xq (ps,ns,cs) (D 20) (sp 4) w') (fun i v w'=>Rs w.heap.size xp xq (ps,ns,cs) i v w')
  (fun i v w1 w2 h a=>Rs.ag i v w1 w2 h a)
  (HG0.out.later ((Aw _ _).drew)) ?_ ?_
 .simp only[Bb,Nat.reduceAdd];refine⟨?_,?_,?_,?_,?_,?_,?_,?_,?_,?_,?_,?_,?_,?_,?_,?_,?_,?_,?_,?_,?_,?_,trivial⟩
  case refine_1=>
   intro D sp w' hD hW hdp hG;have hc:w'.cell? ⟨b7,0,none⟩=some (.slice xp.1 xp.2.1 xp.2.2):=(K7.out w' hG.ag).cell;simp[asked,Region.wanted,Oper.gives,execOp,Act.eval,go_sem,hc]
  case refine_2=>
   intro D sp w' hD hW hdp hG;have hc:w'.cell? ⟨w6.heap.size,0,none⟩=some (.slice xq.1 xq.2.1 xq.2.2):=(K6.out w' hG.ag).cell;simp[asked,Region.wanted,Oper.gives,execOp,Act.eval,Act.put,go_sem,hc]
  case refine_6=>
   intro D sp w' hD hW hdp hG;have hc:w'.cell? ⟨w6.heap.size,0,none⟩=some (.slice xq.1 xq.2.1 xq.2.2):=(K6.out w' hG.ag).cell;simp[asked,Region.wanted,Oper.gives,execOp,Act.eval,Act.put,go_sem,hc]
  case refine_15=>
   intro D sp w' hD hW hdp hG;have hc:w'.cell? ⟨b7,0,none⟩=some (.slice xp.1 xp.2.1 xp.2.2):=(K7.out w' hG.ag).cell;simp[asked,Region.wanted,Oper.gives,execOp,Act.eval,Act.put,go_sem,hc]
  case refine_17=>
   intro D sp w' hD hW hdp hG;have hc:w'.cell? ⟨w6.heap.size,0,none⟩=some (.slice xq.1 xq.2.1 xq.2.2):=(K6.out w' hG.ag).cell;simp[asked,Region.wanted,Oper.gives,execOp,Act.eval,Act.put,go_sem,hc]
  case refine_3=>
   intro D sp w' hD hW hdp hG
   (with_reducible refine Ac (w1:=w') (f := 21) (args:=#[.int .u64 262144]) ?_ ?_ ?_)
   .simp only[Region.wanted]
   .simp[Act.eval,Act.put,go_sem]
   .refine(Hy 262144 w.heap.size w' (by decide) hG.lt).mono ?_;rintro en w5 ⟨x,rfl,hF,hb⟩;exact⟨_,rfl,.of hb,⟨x,rfl,hF⟩,by simpa [upd]using hG.later hb⟩
  case refine_7=>
   intro D sp w' hD hW hdp hG
   (with_reducible refine Ac (w1:=w') (f := 21) (args:=#[.int .u64 13]) ?_ ?_ ?_)
   .simp only[Region.wanted]
   .simp[Act.eval,Act.put,go_sem]
   .refine(Hy 13 w.heap.size w' (by decide) hG.lt).mono ?_;rintro en w5 ⟨x,rfl,hF,hb⟩;exact⟨_,rfl,.of hb,⟨x,rfl,hF⟩,by simpa [upd]using hG.later hb⟩
  case refine_8=>
   intro D sp w' hD hW hdp hG
   (with_reducible refine Ac (w1:=w') (f := 21) (args:=#[.int .u64 2]) ?_ ?_ ?_)
   .simp only[Region.wanted]
   .simp[Act.eval,Act.put,go_sem]
   .refine(Hy 2 w.heap.size w' (by decide) hG.lt).mono ?_;rintro en w5 ⟨x,rfl,hF,hb⟩;exact⟨_,rfl,.of hb,⟨x,rfl,hF⟩,by simpa [upd]using hG.later hb⟩
  case refine_9=>
   intro D sp w' hD hW hdp hG
   (with_reducible refine Ac (w1:=w') (f := 21) (args:=#[.int .u64 3]) ?_ ?_ ?_)
   .simp only[Region.wanted]
   .simp[Act.eval,Act.put,go_sem]
   .refine(Hy 3 w.heap.size w' (by decide) hG.lt).mono ?_;rintro en w5 ⟨x,rfl,hF,hb⟩;exact⟨_,rfl,.of hb,⟨x,rfl,hF⟩,by simpa [upd]using hG.later hb⟩
  case refine_10=>
   intro D sp w' hD hW hdp hG
   (with_reducible refine Ac (w1:=w') (f := 21) (args:=#[.int .u64 11]) ?_ ?_ ?_)
   .simp only[Region.wanted]
   .simp[Act.eval,Act.put,go_sem]
   .refine(Hy 11 w.heap.size w' (by decide) hG.lt).mono ?_;rintro en w5 ⟨x,rfl,hF,hb⟩;exact⟨_,rfl,.of hb,⟨x,rfl,hF⟩,by simpa [upd]using hG.later hb⟩
  case refine_11=>
   intro D sp w' hD hW hdp hG
   (with_reducible refine Ac (w1:=w') (f := 21) (args:=#[.int .u64 683]) ?_ ?_ ?_)
   .simp only[Region.wanted]
   .simp[Act.eval,Act.put,go_sem]
   .refine(Hy 683 w.heap.size w' (by decide) hG.lt).mono ?_;rintro en w5 ⟨x,rfl,hF,hb⟩;exact⟨_,rfl,.of hb,⟨x,rfl,hF⟩,by simpa [upd]using hG.later hb⟩
  case refine_12=>
   intro D sp w' hD hW hdp hG
   (with_reducible refine Ac (w1:=w') (f := 21) (args:=#[.int .u64 2971]) ?_ ?_ ?_)
   .simp only[Region.wanted]
   .simp[Act.eval,Act.put,go_sem]
   .refine(Hy 2971 w.heap.size w' (by decide) hG.lt).mono ?_;rintro en w5 ⟨x,rfl,hF,hb⟩;exact⟨_,rfl,.of hb,⟨x,rfl,hF⟩,by simpa [upd]using hG.later hb⟩
  case refine_16=>
   intro D sp w' hD hW hdp hG
   (with_reducible refine Ac (w1:=w') (f := 21) (args:=#[.int .u64 2]) ?_ ?_ ?_)
   .simp only[Region.wanted]
   .simp[Act.eval,Act.put,go_sem]
   .refine(Hy 2 w.heap.size w' (by decide) hG.lt).mono ?_;rintro en w5 ⟨x,rfl,hF,hb⟩;exact⟨_,rfl,.of hb,⟨x,rfl,hF⟩,by simpa [upd]using hG.later hb⟩
  case refine_5=>
   intro D sp w' hD hW hdp hG;have d20:D 20=false:=hW 20 (mq (by kernel_rfl));rw[d20]at hG
   have hf2:∃x:Option Addr×Nat×Nat,sp 2=.agg #[.slice x.1 x.2.1 x.2.2]/\Fc w.heap.size 262144 x w':=(hdp 2 (mq (by kernel_rfl))).2
   (with_reducible refine Ba hf2 fun z g2=>?_)
   have e2:=g2.1
   (with_reducible refine Ai (w1:=w') (v:=.agg #[.slice xp.1 xp.2.1 xp.2.2,.slice xq.1 xq.2.1 xq.2.2,.slice z.1 z.2.1 z.2.2,.slice ps ns cs]) ?_ ?_ ?_)
   .simp only[Region.wanted]
   .simp[execOp,Act.eval,Act.put,go_sem,e2]
   .exact⟨⟨Ar _,fun _ _ _=>rfl⟩,⟨z,rfl,g2.2⟩,by simpa [upd,d20]using hG.put4⟩
  case refine_13=>
   intro D sp w' hD hW hdp hG;have hf7:∃x:Option Addr×Nat×Nat,sp 7=.agg #[.slice x.1 x.2.1 x.2.2]/\Fc w.heap.size 2 x w':=(hdp 7 (mq (by kernel_rfl))).2
   (with_reducible refine Ba hf7 fun y7 g7=>?_)
   have e7:=g7.1;have hf8:∃x:Option Addr×Nat×Nat,sp 8=.agg #[.slice x.1 x.2.1 x.2.2]/\Fc w.heap.size 3 x w':=(hdp 8 (mq (by kernel_rfl))).2
   (with_reducible refine Ba hf8 fun y8 g8=>?_)
   have e8:=g8.1;have hf9:∃x:Option Addr×Nat×Nat,sp 9=.agg #[.slice x.1 x.2.1 x.2.2]/\Fc w.heap.size 11 x w':=(hdp 9 (mq (by kernel_rfl))).2
   (with_reducible refine Ba hf9 fun y9 g9=>?_)
   have e9:=g9.1;have hf10:∃x:Option Addr×Nat×Nat,sp 10=.agg #[.slice x.1 x.2.1 x.2.2]/\Fc w.heap.size 683 x w':=(hdp 10 (mq (by kernel_rfl))).2
   (with_reducible refine Ba hf10 fun y10 g10=>?_)
   have e10:=g10.1;have hf11:∃x:Option Addr×Nat×Nat,sp 11=.agg #[.slice x.1 x.2.1 x.2.2]/\Fc w.heap.size 2971 x w':=(hdp 11 (mq (by kernel_rfl))).2
   (with_reducible refine Ba hf11 fun y11 g11=>?_)
   have e11:=g11.1;have hb:Below w'.heap.size w' (w'.alloc (.cells #[.slice y7.1 y7.2.1 y7.2.2,.slice y8.1 y8.2.1 y8.2.2,.slice y9.1 y9.2.1 y9.2.2,.slice y10.1 y10.2.1 y10.2.2,.slice y11.1 y11.2.1 y11.2.2] 36)):=Cu;have fl:=Nl.made (b:=w.heap.size) (w:=w') [y7,y8,y9,y10,y11] [2,3,11,683,2971] rfl hG.lt (fun i x N h1 h2=>by
    match i,h1,h2 with
    | 0,h1,h2=>simp at h1 h2;subst h1 h2;exact g7.2
    | 1,h1,h2=>simp at h1 h2;subst h1 h2;exact g8.2
    | 2,h1,h2=>simp at h1 h2;subst h1 h2;exact g9.2
    | 3,h1,h2=>simp at h1 h2;subst h1 h2;exact g10.2
    | 4,h1,h2=>simp at h1 h2;subst h1 h2;exact g11.2
    | i+5,h1,h2=>simp at h1) (by decide) (by decide)
   (with_reducible refine Ai (w1:=w'.alloc (.cells #[.slice y7.1 y7.2.1 y7.2.2,.slice y8.1 y8.2.1 y8.2.2,.slice y9.1 y9.2.1 y9.2.2,.slice y10.1 y10.2.1 y10.2.2,.slice y11.1 y11.2.1 y11.2.2] 36)) (v:=.slice (some ⟨w'.heap.size,0,none⟩) 5 5) ?_ ?_ ?_)
   .simp only[Region.wanted]
   .simp[execOp,Act.eval,Act.put,go_sem,e7,e8,e9,e10,e11]
   .exact⟨.of hb,⟨(some ⟨w'.heap.size,0,none⟩,5,5),rfl,fl⟩,by simpa [upd]using hG.later hb⟩
  case refine_14=>
   intro D sp w' hD hW hdp hG;have hf6:∃x:Option Addr×Nat×Nat,sp 6=.agg #[.slice x.1 x.2.1 x.2.2]/\Fc w.heap.size 13 x w':=(hdp 6 (mq (by kernel_rfl))).2
   (with_reducible refine Ba hf6 fun y g6=>?_)
   have e6:=g6.1;have hf12:∃z:Option Addr×Nat×Nat,sp 12=.slice z.1 z.2.1 z.2.2/\Nl w.heap.size [2,3,11,683,2971] z w':=(hdp 12 (mq (by kernel_rfl))).2
   (with_reducible refine Ba hf12 fun z g12=>?_)
   have e12:=g12.1
   (with_reducible refine Ai (w1:=w') (v:=trip xq y z) ?_ ?_ ?_)
   .simp only[Region.wanted]
   .simp[execOp,Act.eval,Act.put,go_sem,e6,e12]
   .exact⟨⟨Ar _,fun _ _ _=>rfl⟩,⟨(xq,y,z),rfl,fun w2 a=>⟨FQ.out w2 (hG.ag.trans a),g6.2 w2 a,g12.2 w2 a⟩⟩,by simpa [upd]using hG⟩
  case refine_19=>
   intro D sp w' hD hW hdp hG;have hf15:∃x:Option Addr×Nat×Nat,sp 15=.agg #[.slice x.1 x.2.1 x.2.2]/\Fc w.heap.size 2 x w':=(hdp 15 (mq (by kernel_rfl))).2
   (with_reducible refine Ba hf15 fun y g15=>?_)
   have e15:=g15.1;have hf17:∃z:Option Addr×Nat×Nat,sp 17=.slice z.1 z.2.1 z.2.2/\Nl w.heap.size [1152921504606847009] z w':=(hdp 17 (mq (by kernel_rfl))).2
   (with_reducible refine Ba hf17 fun z g17=>?_)
   have e17:=g17.1
   (with_reducible refine Ai (w1:=w') (v:=trip xp y z) ?_ ?_ ?_)
   .simp only[Region.wanted]
   .simp[execOp,Act.eval,Act.put,go_sem,e15,e17]
   .exact⟨⟨Ar _,fun _ _ _=>rfl⟩,⟨(xp,y,z),rfl,fun w2 a=>⟨FP.out w2 (hG.ag.trans a),g15.2 w2 a,g17.2 w2 a⟩⟩,by simpa [upd]using hG⟩
  case refine_18=>
   intro D sp w' hD hW hdp hG;have hb:Below w'.heap.size w' (w'.alloc (.cells #[.slice xq.1 xq.2.1 xq.2.2] 36)):=Cu;have fl:=Nl.made (b:=w.heap.size) (w:=w') [xq] [1152921504606847009] rfl hG.lt (fun i x N h1 h2=>by
    match i,h1,h2 with
    | 0,h1,h2=>simp at h1 h2;subst h1 h2;exact FQ.out.step hG.ag
    | i+1,h1,h2=>simp at h1) (by decide) (by decide)
   (with_reducible refine Ai (w1:=w'.alloc (.cells #[.slice xq.1 xq.2.1 xq.2.2] 36)) (v:=.slice (some ⟨w'.heap.size,0,none⟩) 1 1) ?_ ?_ ?_)
   .simp only[Region.wanted]
   .simp[execOp,Act.eval,Act.put,go_sem]
   .exact⟨.of hb,⟨(some ⟨w'.heap.size,0,none⟩,1,1),rfl,fl⟩,by simpa [upd]using hG.later hb⟩
  case refine_20=>
   intro D sp w' hD hW hdp hG;have hf13:∃x:(Option Addr×Nat×Nat)×(Option Addr×Nat×Nat)×(Option Addr×Nat×Nat),sp 13=trip x.1 x.2.1 x.2.2/\Ye w.heap.size ⟨1152921504606847009,13,[2,3,11,683,2971]⟩ x.1 x.2.1 x.2.2 w':=(hdp 13 (mq (by kernel_rfl))).2
   (with_reducible refine Ba hf13 fun u g13=>?_)
   have e13:=g13.1;have hf18:∃x:(Option Addr×Nat×Nat)×(Option Addr×Nat×Nat)×(Option Addr×Nat×Nat),sp 18=trip x.1 x.2.1 x.2.2/\Ye w.heap.size ⟨20752587082923246163,2,[1152921504606847009]⟩ x.1 x.2.1 x.2.2 w':=(hdp 18 (mq (by kernel_rfl))).2
   (with_reducible refine Ba hf18 fun v g18=>?_)
   have e18:=g18.1;have hb:Below w'.heap.size w' (w'.alloc (.cells #[.slice u.1.1 u.1.2.1 u.1.2.2,.slice u.2.1.1 u.2.1.2.1 u.2.1.2.2,.slice u.2.2.1 u.2.2.2.1 u.2.2.2.2,.slice v.1.1 v.1.2.1 v.1.2.2,.slice v.2.1.1 v.2.1.2.1 v.2.1.2.2,.slice v.2.2.1 v.2.2.2.1 v.2.2.2.2] 182)):=Cu;have fc:=Py.made (b:=w.heap.size) (w:=w') [u,v] (Dn 2) #[.slice u.1.1 u.1.2.1 u.1.2.2,.slice u.2.1.1 u.2.1.2.1 u.2.1.2.2,.slice u.2.2.1 u.2.2.2.1 u.2.2.2.2,.slice v.1.1 v.1.2.1 v.1.2.2,.slice v.2.1.1 v.2.1.2.1 v.2.1.2.2,.slice v.2.2.1 v.2.2.2.1 v.2.2.2.2] rfl hG.lt
    (fun i x h=>by
     match i,h with
     | 0,h=>simp at h;subst h;exact⟨rfl,rfl,rfl⟩
     | 1,h=>simp at h;subst h;exact⟨rfl,rfl,rfl⟩
     | i+2,h=>simp at h)
    (fun i x s h1 h2=>by
     match i,h1,h2 with
     | 0,h1,h2=>simp[Dn]at h1 h2;subst h1 h2;exact g13.2
     | 1,h1,h2=>simp[Dn]at h1 h2;subst h1 h2;exact g18.2
     | i+2,h1,h2=>simp at h1)
    (fun s hs=>by
     simp only[Dn,List.mem_cons,List.not_mem_nil,or_false]at hs;rcases hs with rfl|rfl<;>exact⟨by decide,by decide⟩) (by decide)
   (with_reducible refine Ai (w1:=w'.alloc (.cells #[.slice u.1.1 u.1.2.1 u.1.2.2,.slice u.2.1.1 u.2.1.2.1 u.2.1.2.2,.slice u.2.2.1 u.2.2.2.1 u.2.2.2.2,.slice v.1.1 v.1.2.1 v.1.2.2,.slice v.2.1.1 v.2.1.2.1 v.2.1.2.2,.slice v.2.2.1 v.2.2.2.1 v.2.2.2.2] 182)) (v:=.slice (some ⟨w'.heap.size,0,none⟩) 2 2) ?_ ?_ ?_)
   .simp only[Region.wanted]
   .simp[execOp,Act.eval,Act.put,go_sem,e13,e18]
   .exact⟨.of hb,⟨(some ⟨w'.heap.size,0,none⟩,2,2),rfl,fc⟩,by simpa [upd]using hG.later hb⟩
  case refine_21=>
   intro D sp w' hD hW hdp hG;rw[hD]at hG
   have hf4:∃z:Option Addr×Nat×Nat,sp 4=.agg #[.slice xp.1 xp.2.1 xp.2.2,.slice xq.1 xq.2.1 xq.2.2,.slice z.1 z.2.1 z.2.2,.slice ps ns cs]/\Fc w.heap.size 262144 z w':=(hdp 4 (mq (by kernel_rfl))).2
   (with_reducible refine Ba hf4 fun z g4=>?_)
   have e4:=g4.1;have hz:=hG.z0 rfl;have c0:=hz.cells.1;have c1:=hz.cells.2.1;have c2:=hz.cells.2.2.1;have c3:=hz.cells.2.2.2;have f0:=hz.free 0;have f1:=hz.free 1;have f2:=hz.free 2;have f3:=hz.free 3;have hst:=Im hz (u0:=.slice xp.1 xp.2.1 xp.2.2) (u1:=.slice xq.1 xq.2.1 xq.2.2) (u2:=.slice z.1 z.2.1 z.2.2) (u3:=.slice ps ns cs) rfl;have hN:Lo 118 w w0 w.heap.size xp xq (ps,ns,cs) true (sp 4) _:=⟨hG.ag.trans hst.2.1,hst.2.2 _ _ hG.bel (Ar _),Dh hG.lt hst.2.1.size,(fun e=>by cases e),fun _=>⟨z,e4,hst.1⟩⟩
   (with_reducible refine Ap (w1:=(((w'.setCell ⟨w.heap.size,0,none⟩ (.slice xp.1 xp.2.1 xp.2.2)).setCell ⟨w.heap.size,1,none⟩ (.slice xq.1 xq.2.1 xq.2.2)).setCell ⟨w.heap.size,2,none⟩ (.slice z.1 z.2.1 z.2.2)).setCell ⟨w.heap.size,3,none⟩ (.slice ps ns cs)) ?_ ?_ ?_)
   .simp only[Region.wanted]
   .simp[execOp,Act.eval,Act.put,go_sem,e4,c0,c1,c2,c3,f0,f1,f2,f3]
   .exact⟨hst.2.1,trivial,by simpa [upd]using hN⟩
  case refine_22=>
   intro D sp w' hD hW hdp hG;have hf19:∃z:Option Addr×Nat×Nat,sp 19=.slice z.1 z.2.1 z.2.2/\Py w.heap.size (Dn 2) z w':=(hdp 19 (mq (by kernel_rfl))).2
   (with_reducible refine Ba hf19 fun z g19=>?_)
   have e19:=g19.1
   (with_reducible refine Ai (w1:=w') (v:=.slice z.1 z.2.1 z.2.2) ?_ ?_ ?_)
   .simp only[Region.wanted]
   .simp[execOp,Act.eval,Act.put,go_sem,e19]
   .exact⟨⟨Ar _,fun _ _ _=>rfl⟩,⟨z,rfl,g19.2⟩,by simpa [upd]using hG⟩
  all_goals
   intro D sp w' hD hW hdp hG;simp[asked,Region.wanted,Oper.gives,execOp,Act.eval,Act.put,go_sem]
 .intro sp wf hsp hG;simp only[Al,Nat.reduceAdd];have h21:∃z:Option Addr×Nat×Nat,sp 21=.slice z.1 z.2.1 z.2.2/\Py w.heap.size (Dn 2) z wf:=hsp 21 rfl;have h4:∃z:Option Addr×Nat×Nat,sp 4=.agg #[.slice xp.1 xp.2.1 xp.2.2,.slice xq.1 xq.2.1 xq.2.2,.slice z.1 z.2.1 z.2.2,.slice ps ns cs]/\Fc w.heap.size 262144 z wf:=hsp 4 rfl;obtain⟨zc,ez,hzc⟩:=h21;obtain⟨z,e4,hz⟩:=h4;obtain⟨z',e4',hbx⟩:=hG.z1 rfl;have hzz:z'=z:=by
   rw[e4]at e4'
   simp at e4';obtain⟨h1,h2,h3⟩:=e4';exact Prod.ext h1.symm (Prod.ext h2.symm h3.symm)
  subst hzz;have e0:=hbx.cells.1;have e1:=hbx.cells.2.1;have e2:=hbx.cells.2.2.1;have e3:=hbx.cells.2.2.2;have HP:=Ab (FP.out wf hG.ag);have HQ:=Ab (FQ.out wf hG.ag);have HZ:=Ab hz.out;have HC:=Ab hzc.out;have HBf:=Ab hG.bel;rw[ez];clear hsp hG hbx hz hzc e4 e4' ez;generalize sp 2=s2;generalize sp 4=s4;generalize sp 6=s6;generalize sp 7=s7;generalize sp 8=s8;generalize sp 9=s9;generalize sp 10=s10;generalize sp 11=s11;generalize sp 12=s12;generalize sp 13=s13;generalize sp 15=s15;generalize sp 17=s17;generalize sp 18=s18;generalize sp 19=s19
  go_simp
  go_wp2;refine bodyPost_ret (v:=.tuple #[.agg #[.slice xp.1 xp.2.1 xp.2.2,.slice xq.1 xq.2.1 xq.2.2,.slice z'.1 z'.2.1 z'.2.2,.slice ps ns cs],.slice zc.1 zc.2.1 zc.2.2]) (by simp[results,Tryz.results81,go_sem,e0,e1,e2,e3]) rfl
   ⟨xp,xq,z',zc.1,zc.2.1,zc.2.2,rfl,HP.out,HQ.out,HZ.out,HC.out,HBf.out⟩
theorem Qj (w:World)(A:Int)(ps:Option Addr)(ns cs:Nat) :
  Calls Tryz.prog 81 #[.int .i64 A,.slice ps ns cs] w (Nz ((IntKind.u64.wrap A)%3).toNat w ps ns cs):=by
 have hU:0<=IntKind.u64.wrap A:=Int.emod_nonneg _ (by decide);have ht:=Int.tmod_eq_emod_of_nonneg (b:=3) hU;rcases(by omega:IntKind.u64.wrap A%3=0 ∨ IntKind.u64.wrap A%3=1 ∨ IntKind.u64.wrap A%3=2) with h|h|h
 .rw[h];exact Oz w A ps ns cs (by rw[ht,h])
 .rw[h];exact Oy w A ps ns cs (by rw[ht,h])
 .rw[h];exact Ox w A ps ns cs (by rw[ht,h])
end Go.Proofs.YtnbmfaihlefgfaaGreatDoor
