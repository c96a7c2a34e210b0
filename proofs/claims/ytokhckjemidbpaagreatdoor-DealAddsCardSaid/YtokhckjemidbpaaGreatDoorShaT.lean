/- A block more. -/
import Derived.Test.YtokhckjemidbpaaGreatDoorCertK
import Derived.KernelRfl
import Derived.Laws.BitsAllLaws
import Derived.Deep.QuietTactic
import Derived.BigQuiet
import Derived.BigRegion
import Derived.Laws.CopyOwn
import Derived.WalkSmall
set_option maxRecDepth 1000000
set_option maxHeartbeats 16000000
set_option linter.all false
namespace Go.Proofs.YtokhckjemidbpaaGreatDoor
open Go
def rr (x n:Nat):Nat:=x*2^(32-n)%4294967296 ||| x/2^n
def Ck (x y:Nat):Nat:=(x+y)%4294967296
def qD (x:Nat):Nat:=rr x 7 ^^^ rr x 18 ^^^ x/8
def qC (x:Nat):Nat:=rr x 17 ^^^ rr x 19 ^^^ x/1024
def qX (x:Nat):Nat:=rr x 2 ^^^ rr x 13 ^^^ rr x 22
def qW (x:Nat):Nat:=rr x 6 ^^^ rr x 11 ^^^ rr x 25
def ch (e f g:Nat):Nat:=e &&& f ^^^ (4294967295-e) &&& g
def qV (a b c:Nat):Nat:=a &&& b ^^^ a &&& c ^^^ b &&& c
theorem Fs {x n:Nat}(hx:x<4294967296):rr x n<4294967296:=by
 unfold rr;exact Nat.or_lt_two_pow (n:=32) (Nat.mod_lt _ (by omega)) (Nat.lt_of_le_of_lt (Nat.div_le_self _ _) hx)
theorem Hi (x y:Nat):Ck x y<4294967296:=Nat.mod_lt _ (by omega)
theorem Dh {x y:Nat}(hx:x<4294967296)(hy:y<4294967296):x ^^^ y<4294967296:=Nat.xor_lt_two_pow (n:=32) hx hy
theorem Li {x y:Nat}(hy:y<4294967296):x &&& y<4294967296:=Nat.and_lt_two_pow (n:=32) _ hy
theorem Lr {x y:Nat}(hx:x<4294967296)(hy:y<4294967296):x ||| y<4294967296:=Nat.or_lt_two_pow (n:=32) hx hy
def Yg (ws:List Nat)(t:Nat):Nat:=Ck (Ck (Ck (qC (ws.getD (t-2) 0)) (ws.getD (t-7) 0)) (qD (ws.getD (t-15) 0))) (ws.getD (t-16) 0)
def Ov (m:List Nat)(t:Nat):Nat:=m.getD (4*t) 0*16777216 ||| m.getD (4*t+1) 0*65536 ||| m.getD (4*t+2) 0*256 ||| m.getD (4*t+3) 0
def Cb (m:List Nat):Nat->List Nat
 | 0=>[]
 | t+1=>Cb m t++[if t<16 then Ov m t else Yg (Cb m t) t]
theorem Bw (m:List Nat)(t:Nat):(Cb m t).length=t:=by
 induction t with
 | zero=>rfl
 | succ t ih=>simp[Cb,ih]
theorem fA {m:List Nat}(hm:Bc m)(t:Nat):Ov m t<4294967296:=by
 have h0:=hm.get (4*t);have h1:=hm.get (4*t+1);have h2:=hm.get (4*t+2);have h3:=hm.get (4*t+3);unfold Ov;exact Lr (Lr (Lr (by omega) (by omega)) (by omega)) (by omega)
theorem Pt {m:List Nat}(hm:Bc m)(t:Nat):Words (Cb m t):=by
 induction t with
 | zero=>exact Words.nil
 | succ t ih=>
  refine ih.snoc ?_;split
  .exact fA hm t
  .exact Hi _ _
structure St where
 a:Nat
 b:Nat
 c:Nat
 d:Nat
 e:Nat
 f:Nat
 g:Nat
 h:Nat
def St.ok (s:St):Prop:=s.a<4294967296/\s.b<4294967296/\s.c<4294967296/\s.d<4294967296/\s.e<4294967296/\s.f<4294967296/\s.g<4294967296/\s.h<4294967296
def St.list (s:St):List Nat:=[s.a,s.b,s.c,s.d,s.e,s.f,s.g,s.h]
def St.of (l:List Nat):St:=⟨l.getD 0 0,l.getD 1 0,l.getD 2 0,l.getD 3 0,l.getD 4 0,l.getD 5 0,l.getD 6 0,l.getD 7 0⟩
def nD (s:St)(k w:Nat):Nat:=Ck (Ck (Ck (Ck s.h (qW s.e)) (ch s.e s.f s.g)) k) w
def pB (s:St):Nat:=Ck (qX s.a) (qV s.a s.b s.c)
def qR (s:St)(k w:Nat):St:=⟨Ck (nD s k w) (pB s),s.a,s.b,s.c,Ck s.d (nD s k w),s.e,s.f,s.g⟩
def cF (K W:List Nat)(s:St):Nat->St
 | 0=>s
 | t+1=>qR (cF K W s t) (K.getD t 0) (W.getD t 0)
theorem pF {s:St}(h:s.ok)(k w:Nat):(qR s k w).ok:=by
 obtain⟨h1,h2,h3,h4,h5,h6,h7,h8⟩:=h;exact⟨Hi _ _,h1,h2,h3,Hi _ _,h5,h6,h7⟩
theorem eL {K W:List Nat}{s:St}(h:s.ok):∀t,(cF K W s t).ok
 | 0=>h
 | t+1=>pF (eL h t) _ _
theorem St.of_ok {l:List Nat}(h:Words l):(St.of l).ok:=⟨h.get _,h.get _,h.get _,h.get _,h.get _,h.get _,h.get _,h.get _⟩
theorem St.list_words {s:St}(h:s.ok):Words s.list:=by
 obtain⟨h1,h2,h3,h4,h5,h6,h7,h8⟩:=h;intro x hx;simp only[St.list,List.mem_cons,List.not_mem_nil,or_false]at hx;rcases hx with rfl|rfl|rfl|rfl|rfl|rfl|rfl|rfl<;>assumption
def jM (H G:List Nat):List Nat:=List.zipWith Ck H G
def Nw:List Nat:=[1116352408,1899447441,3049323471,3921009573,961987163,1508970993,2453635748,2870763221,3624381080,310598401,607225278,1426881987,1925078388,2162078206,2614888103,3248222580,3835390401,4022224774,264347078,604807628,770255983,1249150122,1555081692,1996064986,2554220882,2821834349,2952996808,3210313671,3336571891,3584528711,113926993,338241895,666307205,773529912,1294757372,1396182291,1695183700,1986661051,2177026350,2456956037,2730485921,2820302411,3259730800,3345764771,3516065817,3600352804,4094571909,275423344,430227734,506948616,659060556,883997877,958139571,1322822218,1537002063,1747873779,1955562222,2024104815,2227730452,2361852424,2428436474,2756734187,3204031479,3329325298]
def Io:List Nat:=[1779033703,3144134277,1013904242,2773480762,1359893119,2600822924,528734635,1541459225]
theorem Qi:Nw.length=64:=by kernel_rfl
theorem aA:Words Io:=by
 have:Io.all (fun x=>decide (x<4294967296))=true:=by kernel_rfl
 intro x hx;exact of_decide_eq_true (List.all_eq_true.1 this x hx)
theorem dB:Words Nw:=by
 have:Nw.all (fun x=>decide (x<4294967296))=true:=by kernel_rfl
 intro x hx;exact of_decide_eq_true (List.all_eq_true.1 this x hx)
def Xp (H m:List Nat):List Nat:=jM H (cF Nw (Cb m 64) (St.of H) 64).list
theorem aW {H m:List Nat}(h:H.length=8):(Xp H m).length=8:=by simp[Xp,jM,St.list,h]
theorem dU (H m:List Nat):Words (Xp H m):=by
 intro x hx;unfold Xp jM at hx;rw[List.mem_iff_getElem]at hx
 obtain⟨i,hi,rfl⟩:=hx;rw[List.getElem_zipWith];exact Hi _ _
def blocks (m:List Nat):Nat->List Nat
 | 0=>Io
 | n+1=>Xp (blocks m n) ((m.drop (64*n)).take 64)
theorem Dz (m:List Nat):∀n,(blocks m n).length=8
 | 0=>rfl
 | n+1=>aW (Dz m n)
theorem Oe (m:List Nat):∀n,Words (blocks m n)
 | 0=>aA
 | _+1=>dU _ _
theorem Ic {m b:List Nat}:∀ {n:Nat},64*n<=m.length->blocks (m++b) n=blocks m n
 | 0,_=>rfl
 | n+1,h=>by
  rw[blocks,blocks,Ic (by omega),List.drop_append_of_le_length (by omega),List.take_append_of_le_length (by simp;omega)]
def oV (N:Nat):List Nat:=(List.range 8).map fun i=>N/2^(8*(7-i))%256
def Dr (n:Nat):Nat:=(119-n%64)%64
def behind (n:Nat):List Nat:=128::(List.replicate (Dr n) 0++oV (n*8%18446744073709551616))
def Hv (x:Nat):List Nat:=[x/16777216%256,x/65536%256,x/256%256,x%256]
def bL (m:List Nat):List Nat:=(blocks (m++behind m.length) ((m.length+(behind m.length).length)/64)).flatMap Hv
theorem Nf (N:Nat):(oV N).length=8:=by simp[oV]
theorem Tx (n:Nat):(behind n).length=Dr n+9:=by simp[behind,Nf]
theorem iS (N:Nat):Bc (oV N):=by
 intro x hx;simp only[oV,List.mem_map]at hx;obtain⟨i,_,rfl⟩:=hx;exact Nat.mod_lt _ (by omega)
theorem Xv (n:Nat):Bc (behind n):=by
 intro x hx;simp only[behind,List.mem_cons,List.mem_append,List.mem_replicate]at hx;rcases hx with rfl|⟨_,rfl⟩|hx
 .omega
 .omega
 .exact iS _ x hx
theorem Ef (m:List Nat):(bL m).length=32:=by
 have h:=Dz (m++behind m.length) ((m.length+(behind m.length).length)/64);unfold bL;generalize blocks (m++behind m.length) ((m.length+(behind m.length).length)/64)=l at h
 match l,h with
 | [a,b,c,d,e,f,g,x],_=>rfl
theorem Oz (m:List Nat):Bc (bL m):=by
 intro x hx;unfold bL at hx;rw[List.mem_flatMap]at hx
 obtain⟨y,_,hy⟩:=hx;simp only[Hv,List.mem_cons,List.not_mem_nil,or_false]at hy;omega
def Mt (key:List Nat):List Nat:=if 64<key.length then bL key else key
def Ey (key:List Nat):List Nat:=Mt key++List.replicate (64-(Mt key).length) 0
def masked (b:List Nat)(x:Nat):List Nat:=b.map (· ^^^ x)
def dD (key:List Nat):List Nat:=masked (Ey key) 54
def cR (key:List Nat):List Nat:=masked (Ey key) 92
def bU (key m:List Nat):List Nat:=cR key++bL (dD key++m)
def Kr (key m:List Nat):List Nat:=bL (bU key m)
theorem Kn (key:List Nat):(Mt key).length<=64:=by
 unfold Mt;split
 .rw[Ef];omega
 .omega
theorem Hz (key:List Nat):(Ey key).length=64:=by have:=Kn key;simp[Ey];omega
theorem dA {key:List Nat}(h:Bc key):Bc (Mt key):=by
 unfold Mt;split
 .exact Oz _
 .exact h
theorem Xb {key:List Nat}(h:Bc key):Bc (Ey key):=by
 intro x hx;rcases List.mem_append.1 hx with h1|h1
 .exact dA h x h1
 .have:=(List.mem_replicate.1 h1).2;omega
theorem Ge (b:List Nat)(x:Nat):(masked b x).length=b.length:=by simp[masked]
theorem Wx {b:List Nat}(h:Bc b){x:Nat}(hx:x<256):Bc (masked b x):=by
 intro y hy;obtain⟨z,hz,rfl⟩:=List.mem_map.1 hy;exact Nat.xor_lt_two_pow (n:=8) (h z hz) hx
theorem Kq (key m:List Nat):(Kr key m).length=32:=Ef _
theorem Sl (key m:List Nat):Bc (Kr key m):=Oz _
def bZ (p:Nat):Bool:=decide (2<=p)&&decide (p<65536)&&(List.range 256).all fun d=>decide (d<2)||decide (p<d*d) || !(p%d==0)
theorem Hn {p:Nat}(h:bZ p=true):Ch p:=by
 simp only[bZ,Bool.and_eq_true,decide_eq_true_eq,List.all_eq_true,Bool.or_eq_true,Bool.not_eq_true',beq_eq_false_iff_ne]at h;obtain⟨⟨h2,hlt⟩,h⟩:=h;refine⟨h2,hlt,fun d h3 h4=>?_⟩;have hd:d<256:=Nat.lt_of_not_le fun hle=>by have:=Nat.mul_le_mul hle hle;omega
 rcases h d (List.mem_range.2 hd) with (h5|h5)|h5
 .omega
 .omega
 .exact h5
theorem eN {p:Nat}(hp:2<=p):∀(f n:Nat),0<n->n<2^f->pw p f n=pw p n n
 | 0,n,h0,h=>by simp at h;omega
 | f+1,n,h0,h=>by
  rw[Rf hp h0,pw];split
  .rename_i hm
   have h4:0<n/p:=Nat.div_pos (Nat.le_of_dvd h0 (Nat.dvd_of_mod_eq_zero hm)) (by omega);have h5:n/p<2^f:=by
    have:n/p<=n/2:=Nat.div_le_div_left hp (by omega);rw[Nat.pow_succ]at h
    omega
   rw[eN hp f (n/p) h4 h5]
  .rfl
def okB (f N base:Nat)(behind ps:List Nat)(i p:Nat):Bool :=
 !(ps.take i).contains p&&(bZ p||behind.contains p)&&decide (2<=p)&&(N-1)%p==0&&Nat.gcd ((pm base N f ((N-1)/p)+N-1)%N) N==1
def holdsB (f N base:Nat)(ps behind:List Nat):Bool :=
 decide (2<=N) && !ps.isEmpty&&decide (ps.length<=32)&&decide (N<=2^f)&&(List.range ps.length).all (fun i=>okB f N base behind ps i (ps.getD i 0))&&pm base N f (N-1)==1 &&
  decide (N<ps.foldl (fun a p=>a*pw p f (N-1)) 1*ps.foldl (fun a p=>a*pw p f (N-1)) 1)
theorem aF {f n:Nat}(h0:0<n)(h:n<2^f):∀(ps:List Nat) (a:Nat),(∀p∈ps,2<=p)->ps.foldl (fun a p=>a*pw p f n) a=ps.foldl (fun a p=>a*pw p n n) a
 | [],_,_=>rfl
 | p::ps,a,hp=>by
  rw[List.foldl_cons,List.foldl_cons,eN (hp p (by simp)) f n h0 h];exact aF h0 h ps _ fun q hq=>hp q (by simp[hq])
theorem Ko {f N base:Nat}{ps behind:List Nat}(h:holdsB f N base ps behind=true):Gp N base ps behind:=by
 simp only[holdsB,Bool.and_eq_true,decide_eq_true_eq,List.all_eq_true,Bool.not_eq_true',beq_iff_eq]at h;obtain⟨⟨⟨⟨⟨⟨h2,hne⟩,h32⟩,hf⟩,hall⟩,hone⟩,hgr⟩:=h;have hlt:N-1<2^f:=by omega
 have each:∀i p,ps[i]? = .some p->mK N base behind ps i p:=fun i p hp=>by
  have hi:=(List.getElem?_eq_some_iff.1 hp).1;have h3:=hall i (List.mem_range.2 hi);rw[Dn,hp,Option.getD_some]at h3
  simp only[okB,Bool.and_eq_true,decide_eq_true_eq,Bool.not_eq_true',beq_iff_eq,Bool.or_eq_true,List.contains_iff_mem]at h3;obtain⟨⟨⟨⟨k1,k2⟩,k3⟩,k4⟩,k5⟩:=h3;refine⟨(fun hm=>by rw[List.contains_iff_mem.2 hm]at k1;cases k1),k2.imp Hn id,k3,k4,?_⟩;rw[<-Jz base N f _ (Nat.lt_of_le_of_lt (Nat.div_le_self _ _) hlt)];exact k5
 have hps:∀p∈ps,2<=p:=fun p hp=>by
  obtain⟨i,hi,e⟩:=List.getElem_of_mem hp;exact(each i p (by rw[List.getElem?_eq_getElem hi,e])).2.2.1
 refine⟨h2,(fun e=>by rw[e]at hne;cases hne),h32,each,?_,?_⟩
 .rw[<-Jz base N f _ hlt];exact hone
 .have:=aF (f:=f) (n:=N-1) (by omega) hlt ps 1 hps;unfold Tp;rw[<-this];exact hgr
def gP:Nat->Nat
 | 0=>607
 | 1=>655211
 | _=>20752587082923246163
def gQ:Nat->Nat
 | 0=>101
 | 1=>65521
 | _=>1152921504606847009
def gG:Nat->Nat
 | 0=>64
 | 1=>1024
 | _=>262144
def gH:Nat->Nat
 | 0=>597
 | 1=>96520
 | _=>12833098634328171918
def qJ:Nat->Nat
 | 0=>2
 | 1=>3
 | _=>9
def Mw:Nat->Nat
 | 0=>6
 | 1=>10
 | _=>18
def Eo:Nat->List Bo
 | 0=>[]
 | 1=>[⟨655211,2,[65521]⟩]
 | _=>[⟨1152921504606847009,13,[2,3,11,683,2971]⟩,⟨20752587082923246163,2,[1152921504606847009]⟩]
theorem lD:Gp 655211 2 [65521] []:=Ko (f:=20) (by kernel_rfl)
theorem gX:Gp 1152921504606847009 13 [2,3,11,683,2971] []:=Ko (f:=61) (by kernel_rfl)
theorem gW:Gp 20752587082923246163 2 [1152921504606847009] [1152921504606847009]:=Ko (f:=65) (by kernel_rfl)
theorem jK:Ch 607:=Hn (by kernel_rfl)
theorem jL:Ch 101:=Hn (by kernel_rfl)
theorem cA:Ch 65521:=Hn (by kernel_rfl)
def Told (N:Nat)(l:List Bo):Prop:=Ch N ∨ (By [] l/\∃s∈l,s.n=N)
theorem Pi:∀i,i<3->By [] (Eo i)
 | 0,_=>trivial
 | 1,_=>⟨lD,trivial⟩
 | 2,_=>⟨gX,gW,trivial⟩
 | _+3,h=>by omega
theorem oF:∀i,i<3->Told (gP i) (Eo i)
 | 0,_=>.inl jK
 | 1,_=>.inr ⟨Pi 1 (by omega),_,List.mem_singleton.2 rfl,rfl⟩
 | 2,_=>.inr ⟨Pi 2 (by omega),_,List.mem_cons_of_mem _ (List.mem_singleton.2 rfl),rfl⟩
 | _+3,h=>by omega
theorem eQ:∀i,i<3->Told (gQ i) (Eo i)
 | 0,_=>.inl jL
 | 1,_=>.inl cA
 | 2,_=>.inr ⟨Pi 2 (by omega),_,List.mem_cons_self,rfl⟩
 | _+3,h=>by omega
theorem Vi:∀i,i<3->gP i-1=gQ i*Mw i
 | 0,_=>rfl
 | 1,_=>rfl
 | 2,_=>rfl
 | _+3,h=>by omega
theorem Ip:∀i,i<3->64<gQ i/\1<gG i/\gG i<gP i/\1<gH i/\gH i<gP i/\gP i<2^65
 | 0,_=>by decide
 | 1,_=>by decide
 | 2,_=>by decide
 | _+3,h=>by omega
theorem Vj:∀i,i<3->gG i^gQ i%gP i=1
 | 0,_=>by rw[<-Jz (gG 0) (gP 0) 65 (gQ 0) (by decide)];kernel_rfl
 | 1,_=>by rw[<-Jz (gG 1) (gP 1) 65 (gQ 1) (by decide)];kernel_rfl
 | 2,_=>by rw[<-Jz (gG 2) (gP 2) 65 (gQ 2) (by decide)];kernel_rfl
 | _+3,h=>by omega
theorem gV:∀i,i<3->gH i^gQ i%gP i=1
 | 0,_=>by rw[<-Jz (gH 0) (gP 0) 65 (gQ 0) (by decide)];kernel_rfl
 | 1,_=>by rw[<-Jz (gH 1) (gP 1) 65 (gQ 1) (by decide)];kernel_rfl
 | 2,_=>by rw[<-Jz (gH 2) (gP 2) 65 (gQ 2) (by decide)];kernel_rfl
 | _+3,h=>by omega
theorem Xa:Kr [] []=[182,19,103,154,8,20,217,236,119,47,149,215,120,195,95,197,255,22,151,196,147,113,86,83,198,199,18,20,66,146,197,173]:=by kernel_rfl
theorem bS:Kr [182,19,103,154,8,20,217,236,119,47,149,215,120,195,95,197,255,22,151,196,147,113,86,83,198,199,18,20,66,146,197,173] [104,0,1] =
  [22,9,94,96,137,201,132,135,12,215,97,165,119,173,84,193,49]++(Kr [182,19,103,154,8,20,217,236,119,47,149,215,120,195,95,197,255,22,151,196,147,113,86,83,198,199,18,20,66,146,197,173] [104,0,1]).drop 17:=by kernel_rfl
def cT (bs:List Nat):Nat:=bs.foldl (fun n x=>n*256+x) 0
def Sp:Nat->List Nat
 | 0=>[22,9,94,96,137,201,132,135,12,215]
 | 1=>[22,9,94,96,137,201,132,135,12,215,97]
 | _=>[22,9,94,96,137,201,132,135,12,215,97,165,119,173,84,193,49]
theorem qK:∀i,i<3->cT (Sp i)^Mw i%gP i=gH i
 | 0,_=>by rw[<-Jz (cT (Sp 0)) (gP 0) 65 (Mw 0) (by decide)];kernel_rfl
 | 1,_=>by rw[<-Jz (cT (Sp 1)) (gP 1) 65 (Mw 1) (by decide)];kernel_rfl
 | 2,_=>by rw[<-Jz (cT (Sp 2)) (gP 2) 65 (Mw 2) (by decide)];kernel_rfl
 | _+3,h=>by omega
open Go Go.RowKit
theorem cE (w:World)(x n:Nat)(hx:x<4294967296)(h1:1<=n)(h2:n<=31) :
  Calls Tryz.prog 253 #[.int .u32 x,.int .i64 (-(n:Int))] w fun e w'=>e=.returned (.int .u32 (rr x n))/\w'=w:=by
 have ha:bits BinOp.and IntKind.u64 (IntKind.u64.wrap (-(n:Int))) 31=((32-n:Nat):Int):=by
  have:∀n:Fin 32,1<=n.1->bits BinOp.and IntKind.u64 (IntKind.u64.wrap (-((n.1:Nat):Int))) 31=((32-n.1:Nat):Int):=by decide
  exact this ⟨n,by omega⟩ h1
 go_enter Tryz.func253,Tryz.ntmps253;go_wp2;go_ret;refine⟨?_,rfl⟩;have e1:(x:Int)*2^(32-n)%4294967296=((x*2^(32-n)%4294967296:Nat):Int):=by rw[Int.natCast_emod,Int.natCast_mul,Int.natCast_pow];rfl
 have e2:(x:Int)/2^(32-(32-n))=((x/2^n:Nat):Int):=by rw[show 32-(32-n)=n by omega,Int.natCast_ediv,Int.natCast_pow];rfl
 have e3:=u32_or_nat (x*2^(32-n)%4294967296) (x/2^n) (Nat.mod_lt _ (by omega)) (Nat.lt_of_le_of_lt (Nat.div_le_self _ _) hx);show Ending.returned (.int .u32 (bits BinOp.or IntKind.u32 ((x:Int)*2^(32-n)%4294967296) ((x:Int)/2^(32-(32-n)))))=_;rw[e1,e2,e3];rfl
theorem Dd (w:World)(x n:Nat)(hx:x<4294967296)(h1:1<=n)(h2:n<=31) :
  Calls Tryz.prog 244 #[.int .u32 x,.int .i64 n] w fun e w'=>e=.returned (.int .u32 (rr x n))/\w'=w:=by
 go_enter Tryz.func244,Tryz.ntmps244
 go_wp2_with fail
 refine(cE _ x n hx h1 h2).mono ?_;rintro e w1 ⟨rfl,rfl⟩;go_wp2;go_ret;exact⟨rfl,rfl⟩
theorem Yd (m:List Nat)(t:Nat)(ht:t<64)(x:Nat)(hx:x=if t<16 then Ov m t else Yg (Cb m t) t) :
  (Cb m t++List.replicate (64-t) 0).set t x=Cb m (t+1)++List.replicate (64-(t+1)) 0:=by
 rw[List.set_append_right _ _ (by rw[Bw];exact Aw _),Bw,Nat.sub_self,Cb,<-hx];rw[show 64-t=(64-(t+1))+1 by omega,List.replicate_succ,List.set_cons_zero];simp
theorem Ut (w:World)(b off l:Nat)(k:IntKind)(i:Int)(hi:i=(l:Nat))(hl:l<64) :
  (Instr.sliceAt 272 (.pointer (some ⟨b,off,none⟩)) (some (.int k i)) none none).run Tryz.prog w=.ok (.slice (some ⟨b,off+l,none⟩) (64-l) (64-l)) w:=by
 subst hi;have hlen:Tryz.prog.arrayLen 272 = 64:=by kernel_rfl
 have h:=run_sliceAt_array_l w 272 ⟨b,off,none⟩ Tryz.underlying272 k (l:Int) (by omega) (by rw[hlen];omega);rw[h,hlen];have hs:(sizeOf (Tryz.prog.elem 272)).run Tryz.prog w=.ok 1 w:=by
  have:Tryz.prog.elem 272 = 5 := by kernel_rfl
  rw[this];simp[go_sem]
 rw[hs];simp[slicedAt,Addr.add,show (64:Nat)≠l by omega]
theorem Yf (w:World)(b off:Nat)(bs:List Nat)(hl:bs.length=64)(h8:Bc bs)(hb:b<w.heap.size)(hc:∀(i x:Nat),bs[i]? = some x->w.cell? ⟨b,off+i,none⟩=some (.int .u8 (x:Int))) :
  Calls Tryz.prog 243 #[.pointer (some ⟨b,off,none⟩)] w fun e w'=>e=.returned (.agg ((Cb bs 64).map fun(x:Nat)=>Value.int .u32 (x:Int)).toArray)/\Below w.heap.size w w':=by
 have HC:=Ai hc;clear hc;go_enter Tryz.func243,Tryz.ntmps243;go_wp2
 go_loopw [9] (fun i wr=>∃k:Nat,k<=16/\i=.int .i64 k/\w.heap.size+1<wr.heap.size/\Below w.heap.size w wr/\Bp wr w.heap.size 249 .u32 (List.replicate 64 0)/\Bp wr (w.heap.size+1) 249 .u32 (Cb bs k++List.replicate (64-k) 0)) (fun i _=>16-(intOf i).toNat)
 case atStart=>
  refine⟨0,by omega,rfl,by simp,((Ba _ _).alloc (Aw _) _).alloc (by simp) _,?_,?_⟩
  .exact(Bp.zeros w 249 .u32 64).alloc _
  .have:=Bp.zeros (w.alloc (.cells (zeros .u32 64) 249)) 249 .u32 64;rw[show (w.alloc (.cells (zeros .u32 64) 249)).heap.size=w.heap.size+1 by simp]at this
   exact this
 case round=>
  obtain⟨k,hk,rfl,hsz,hbel,hres,hblk⟩:=hrel
  by_cases hk16:k<16
  .have hsl:=fun wx=>Ut wx b off (k*4) .i64 ((k:Int)*4) (by omega) (by omega)
   have hcb:∀j,j<64->wr.cell? ⟨b,off+j,none⟩=some (.int .u8 ((bs.getD j 0:Nat):Int)):=fun j hj=>by
    rw[(Cp hbel).1 _ _ hb];exact HC.out j _ (by rw[Dn];simp[show j<bs.length by omega])
   have d0:=hcb (k*4) (by omega);have d1:=hcb (k*4+1) (by omega);have d2:=hcb (k*4+2) (by omega);have d3:=hcb (k*4+3) (by omega);have hy:Hid (Ov bs k=bs.getD (k*4) 0*16777216 ||| bs.getD (k*4+1) 0*65536 ||| bs.getD (k*4+2) 0*256 ||| bs.getD (k*4+3) 0):=by
    rw[Nat.mul_comm k 4];rfl
   have g0:=h8.get (k*4);have g1:=h8.get (k*4+1);have g2:=h8.get (k*4+2);have g3:=h8.get (k*4+3);generalize bs.getD (k*4) 0=x0 at *;generalize bs.getD (k*4+1) 0=x1 at *;generalize bs.getD (k*4+2) 0=x2 at *;generalize bs.getD (k*4+3) 0=x3 at *;rw[<-Nat.add_assoc]at d1 d2 d3
   have e0:=hblk.cell (i:=k) (x:=0) (by rw[List.getElem?_append_right (by rw[Bw];exact Aw _),Bw];simp[List.getElem?_replicate];omega);have e1:=hblk.free k;have hne:b≠w.heap.size+1:=by omega
   clear hcb;go_wp2;have hv:bits BinOp.or IntKind.u32 (bits BinOp.or IntKind.u32 (bits BinOp.or IntKind.u32 ((x0:Int)*16777216) ((x1:Int)*65536)) ((x2:Int)*256)) (x3:Int)=((Ov bs k:Nat):Int):=by
    rw[hy.out];rw[show ((x0:Int)*16777216)=((x0*16777216:Nat):Int) by omega,show ((x1:Int)*65536)=((x1*65536:Nat):Int) by omega,show ((x2:Int)*256)=((x2*256:Nat):Int) by omega];rw[u32_or_nat _ _ (by omega) (by omega),u32_or_nat _ _ (Lr (by omega) (by omega)) (by omega),u32_or_nat _ _ (Lr (Lr (by omega) (by omega)) (by omega)) (by omega)]
   go_region
   go_wp2;go_roundw
   case rel=>
    refine⟨k+1,by omega,by go_num,by simpa using hsz,?_,?_,?_⟩
    .exact(hbel.setCell (by simp) _).drew
    .exact hres.other (by simp) _
    .rw[<-Yd bs k (by omega) _ rfl,if_pos hk16];exact hblk.set k _
   case measure=>simp[intOf];omega
  .obtain rfl:k=16:=by omega
   go_wp2
   go_loopw [6] (fun i w2=>∃t:Nat,16<=t/\t<=64/\i=.int .i64 t/\w.heap.size+1<w2.heap.size/\Below w.heap.size w w2/\Bp w2 w.heap.size 249 .u32 (List.replicate 64 0)/\Bp w2 (w.heap.size+1) 249 .u32 (Cb bs t++List.replicate (64-t) 0)) (fun i _=>64-(intOf i).toNat)
   case atStart=>exact⟨16,by omega,by omega,rfl,hsz,hbel,hres,hblk⟩
   case round=>
    obtain⟨t,ht1,ht2,rfl,hsz2,hbel2,hres2,hblk2⟩:=hrel
    by_cases ht:t<64
    .have HS:=Ai (Yd bs t ht _ rfl);rw[if_neg (by omega)]at HS
     have hw:=Pt h8 t;have hgc:∀j,j<t->wr.cell? ⟨w.heap.size+1,j,none⟩=some (.int .u32 (((Cb bs t).getD j 0:Nat):Int)):=fun j hj=>hblk2.cell (by
      rw[List.getElem?_append_left (by rw[Bw];exact hj),Dn,List.getElem?_eq_getElem (by rw[Bw];exact hj)];rfl)
     have hy:Hid (Yg (Cb bs t) t=Ck (Ck (Ck (qC ((Cb bs t).getD (t-2) 0)) ((Cb bs t).getD (t-7) 0)) (qD ((Cb bs t).getD (t-15) 0))) ((Cb bs t).getD (t-16) 0)):=rfl;have e0:=hblk2.cell (i:=t) (x:=0) (by rw[List.getElem?_append_right (by rw[Bw];exact Aw _),Bw];simp[List.getElem?_replicate];omega);have e1:=hblk2.free t;obtain⟨p,hp16⟩:∃p,t=p+16:=⟨t-16,by omega⟩
     rw[show t-2=p+14 by omega,show t-7=p+9 by omega,show t-15=p+1 by omega,show t-16=p by omega]at hy
     have hp1:p+16<=t:=by omega
     have hp2:t<=p+16:=by omega
     clear hp16;have c15:=hgc (p+1) (by omega);have c2:=hgc (p+14) (by omega);have c7:=hgc (p+9) (by omega);have c16:=hgc p (by omega);have b15:=hw.get (p+1);have b2:=hw.get (p+14);have b7:=hw.get (p+9);have b16:=hw.get p;clear hgc hw;generalize (Cb bs t).getD (p+1) 0=x15 at *;generalize (Cb bs t).getD (p+14) 0=x2 at *;generalize (Cb bs t).getD (p+9) 0=x7 at *;generalize (Cb bs t).getD p 0=x16 at *;go_wp2;have t15:IntKind.i64.wrap ((t:Int)-15)=((p+1:Nat):Int):=by rw[IntWalk.i64_in _ (by omega)];omega
     have t2:IntKind.i64.wrap ((t:Int)-2)=((p+14:Nat):Int):=by rw[IntWalk.i64_in _ (by omega)];omega
     have t7:IntKind.i64.wrap ((t:Int)-7)=((p+9:Nat):Int):=by rw[IntWalk.i64_in _ (by omega)];omega
     have t16:IntKind.i64.wrap ((t:Int)-16)=(p:Int):=by rw[IntWalk.i64_in _ (by omega)];omega
     have q15:((p+1:Nat):Int)<64:=by omega
     have q2:((p+14:Nat):Int)<64:=by omega
     have q7:((p+9:Nat):Int)<64:=by omega
     have q16:(p:Int)<64:=by omega
     go_quiet ((go_at_call 244;first|exact Calls.quiet_of_same (Dd _ x15 7 b15 (by omega) (by omega))|exact Calls.quiet_of_same (Dd _ x15 18 b15 (by omega) (by omega))))
     have hs0:bits BinOp.xor IntKind.u32 (bits BinOp.xor IntKind.u32 ((rr x15 7:Nat):Int) ((rr x15 18:Nat):Int)) ((x15:Int)/8)=((qD x15:Nat):Int):=by
      rw[show ((x15:Int)/8)=((x15/8:Nat):Int) by omega,u32_xor_nat _ _ (Fs b15) (Fs b15),u32_xor_nat _ _ (Dh (Fs b15) (Fs b15)) (by omega)];rfl
     rw[hs0];have HS0:qD x15<4294967296:=Dh (Dh (Fs b15) (Fs b15)) (by omega);generalize qD x15=z0 at *;have c2':(wr.drewN nq).cell? ⟨w.heap.size+1,p+14,none⟩=some (.int .u32 x2):=c2;have c7':(wr.drewN nq).cell? ⟨w.heap.size+1,p+9,none⟩=some (.int .u32 x7):=c7;have c16':(wr.drewN nq).cell? ⟨w.heap.size+1,p,none⟩=some (.int .u32 x16):=c16;have e0':(wr.drewN nq).cell? ⟨w.heap.size+1,t,none⟩=some (.int .u32 (0:Nat)):=e0;have e1':(wr.drewN nq).frozen? ⟨w.heap.size+1,t,none⟩=false:=e1;have hblk':Bp (wr.drewN nq) (w.heap.size+1) 249 .u32 (Cb bs t++List.replicate (64-t) 0):=hblk2;have hres':Bp (wr.drewN nq) w.heap.size 249 .u32 (List.replicate 64 0):=hres2;have hbel':Below w.heap.size w (wr.drewN nq):=below_drewN hbel2 _;have hsz':w.heap.size+1<(wr.drewN nq).heap.size:=hsz2;clear c2 c7 c16 e0 e1 hblk2 hres2 hbel2 hsz2 c15;go_wp2;generalize wr.drewN nq=w5 at *
     go_quiet ((go_at_call 244;first|exact Calls.quiet_of_same (Dd _ x2 17 b2 (by omega) (by omega))|exact Calls.quiet_of_same (Dd _ x2 19 b2 (by omega) (by omega))))
     have hs1:bits BinOp.xor IntKind.u32 (bits BinOp.xor IntKind.u32 ((rr x2 17:Nat):Int) ((rr x2 19:Nat):Int)) ((x2:Int)/1024)=((qC x2:Nat):Int):=by
      rw[show ((x2:Int)/1024)=((x2/1024:Nat):Int) by omega,u32_xor_nat _ _ (Fs b2) (Fs b2),u32_xor_nat _ _ (Dh (Fs b2) (Fs b2)) (by omega)];rfl
     rw[hs1];have HS1:qC x2<4294967296:=Dh (Dh (Fs b2) (Fs b2)) (by omega);generalize qC x2=z1 at *;have d7:(w5.drewN nq).cell? ⟨w.heap.size+1,p+9,none⟩=some (.int .u32 x7):=c7';have d16:(w5.drewN nq).cell? ⟨w.heap.size+1,p,none⟩=some (.int .u32 x16):=c16';have f0:(w5.drewN nq).cell? ⟨w.heap.size+1,t,none⟩=some (.int .u32 (0:Nat)):=e0';have f1:(w5.drewN nq).frozen? ⟨w.heap.size+1,t,none⟩=false:=e1';have hblk5:Bp (w5.drewN nq) (w.heap.size+1) 249 .u32 (Cb bs t++List.replicate (64-t) 0):=hblk';have hres5:Bp (w5.drewN nq) w.heap.size 249 .u32 (List.replicate 64 0):=hres';have hbel5:Below w.heap.size w (w5.drewN nq):=below_drewN hbel' _;have hsz5:w.heap.size+1<(w5.drewN nq).heap.size:=hsz';clear c2' c7' c16' e0' e1' hblk' hres' hbel' hsz' hs0 hs1 t15 t2 q15 q2 b15 b2;go_wp2;generalize w5.drewN nq=w6 at *
     go_region
     have hv:((z1:Int)+x7+z0+x16)%4294967296=((Yg (Cb bs t) t:Nat):Int):=by
      rw[hy.out];unfold Ck;omega
     rw[hv];go_wp2;go_roundw
     case rel=>
      refine⟨t+1,by omega,by omega,by go_num,by simpa using hsz5,?_,?_,?_⟩
      .exact(hbel5.setCell (by simp) _).drew
      .exact hres5.other (by simp) _
      .have:=hblk5.set t (Yg (Cb bs t) t);rw[HS.out]at this
       exact this
     case measure=>simp[intOf];omega
    .obtain rfl:t=64:=by omega
     have hi64:(Tryz.prog.info? 249).map (·.size)=some ((Cb bs 64).map fun(x:Nat)=>Value.int .u32 x).toArray.size:=by
      rw[show ((Cb bs 64).map fun(x:Nat)=>Value.int .u32 x).toArray.size=64 by simp[Bw]];kernel_rfl
     have hi64:=Ai hi64;have h1:=Ai (Nx .u32 (Cb bs 64));have hsz1:Hid (((List.replicate 64 0).map fun(x:Nat)=>Value.int .u32 x).toArray.size=((Cb bs 64).map fun(x:Nat)=>Value.int .u32 x).toArray.size):=Ai (by simp[Bw]);rw[Nat.sub_self,List.replicate_zero,List.append_nil]at hblk2
     have HB:=Ai hblk2;have HR:=Ai hres2;clear hblk2 hres2
     go_wp2_with (first|(refine wpList_load_row rfl 249 _ rfl (w.heap.size+1) rfl 249 ((Cb bs 64).map fun(x:Nat)=>Value.int .u32 x).toArray (0,0) _ HB.out Tryz.underlying249 rfl hi64.out ?_)|(refine wpList_store_row rfl 249 _ _ rfl w.heap.size ((Cb bs 64).map fun(x:Nat)=>Value.int .u32 x).toArray rfl rfl 249 ((List.replicate 64 0).map fun(x:Nat)=>Value.int .u32 x).toArray HR.out hi64.out hsz1.out h1.out ?_))
     have hend:=setRow_heap wr w.heap.size ((List.replicate 64 0).map fun(x:Nat)=>Value.int .u32 x).toArray ((Cb bs 64).map fun(x:Nat)=>Value.int .u32 x).toArray 249 (0,0) HR.out;refine bodyPost_ret (v:=.agg ((Cb bs 64).map fun(x:Nat)=>Value.int .u32 x).toArray) (results_cell_row Tryz.results243 _ _ w.heap.size 249 _ (0,0) _ rfl hend Tryz.underlying249 rfl hi64.out) rfl ⟨rfl,below_setRow hbel2 (Aw _) _⟩
def Bg (st pend:List Nat)(len:Nat):List Value:=(st.map fun(x:Nat)=>Value.int .u32 x)++((pend.map fun(x:Nat)=>Value.int .u8 x)++[.int .u64 (len:Nat)])
theorem Mj {st pend:List Nat}{len:Nat}(hs:st.length=8)(hp:pend.length=64):(Bg st pend len).length=73:=by simp[Bg,hs,hp]
theorem Gv {st pend:List Nat}{len i:Nat}(hs:st.length=8)(hi:i<8):(Bg st pend len)[i]? = some (.int .u32 (st.getD i 0:Nat)):=by
 unfold Bg;rw[List.getElem?_append_left (by simp;omega),List.getElem?_map,Dn];simp[show i<st.length by omega]
theorem Qk {st pend:List Nat}{len i:Nat}(hs:st.length=8)(hp:pend.length=64)(hi:i<64):(Bg st pend len)[8+i]? = some (.int .u8 (pend.getD i 0:Nat)):=by
 unfold Bg;rw[List.getElem?_append_right (by simp;omega),List.length_map,hs,Nat.add_sub_cancel_left,List.getElem?_append_left (by simp;omega),List.getElem?_map,Dn];simp[show i<pend.length by omega]
theorem Jm {st pend:List Nat}{len:Nat}(hs:st.length=8)(hp:pend.length=64):(Bg st pend len)[72]? = some (.int .u64 (len:Nat)):=by
 unfold Bg;rw[List.getElem?_append_right (by simp;omega),List.length_map,hs,List.getElem?_append_right (by simp;omega)];simp[hp]
theorem Pg {st pend:List Nat}{len i x:Nat}(hs:st.length=8)(hi:i<8):(Bg st pend len).set i (.int .u32 x)=Bg (st.set i x) pend len:=by
 unfold Bg;rw[List.set_append_left _ _ (by simp;omega),List.map_set]
theorem Kt {st pend:List Nat}{len x:Nat}(hs:st.length=8)(hp:pend.length=64):(Bg st pend len).set 72 (.int .u64 x)=Bg st pend x:=by
 unfold Bg;rw[List.set_append_right _ _ (by simp;omega),List.length_map,hs,List.set_append_right _ _ (by simp;omega)];simp[hp]
def Ej (w:World)(g:Nat)(st pend:List Nat)(len:Nat):Prop:=w.heap[g]? = some (.cells (Bg st pend len).toArray 278 (0,0))
theorem Ej.lt {w:World}{g:Nat}{st pend:List Nat}{len:Nat}(h:Ej w g st pend len):g<w.heap.size:=(Gs h).1
theorem Ej.cell {w:World}{g:Nat}{st pend:List Nat}{len:Nat}(h:Ej w g st pend len){i:Nat}{v:Value}(hv:(Bg st pend len)[i]? = some v):w.cell? ⟨g,i,none⟩=some v:=by
 unfold Ej at h;simp[World.cell?,h,hv]
theorem Ej.free {w:World}{g:Nat}{st pend:List Nat}{len:Nat}(h:Ej w g st pend len)(i:Nat):w.frozen? ⟨g,i,none⟩=false:=by
 unfold Ej at h;simp[World.frozen?,h]
theorem Ej.below {w w':World}{g:Nat}{st pend:List Nat}{len:Nat}(h:Ej w g st pend len){B:Nat}(hb:Below B w w')(hg:g<B):Ej w' g st pend len:=by
 unfold Ej at *;rw[hb.block g hg];exact h
theorem Ej.but {w w':World}{g k:Nat}{st pend:List Nat}{len:Nat}(h:Ej w g st pend len)(hb:Ev k w w')(hk:g≠k):Ej w' g st pend len:=by
 unfold Ej at *;rw[hb.block g (by exact(Gs h).1) hk];exact h
theorem Ej.set {w:World}{g:Nat}{st pend:List Nat}{len:Nat}(h:Ej w g st pend len)(i:Nat)(v:Value){st' pend':List Nat}{len':Nat}(he:(Bg st pend len).set i v=Bg st' pend' len') :
  Ej (w.setCell ⟨g,i,none⟩ v) g st' pend' len':=by
 unfold Ej at *;simp only[World.setCell,Array.getElem?_modify,if_true,h,Option.map_some];rw[<-he];simp
structure Tabs (w:World):Prop where
 first:∃t fr,w.heap[(0 : Nat)]? = some (.cells ((Io.map fun(x:Nat)=>Value.int .u32 x).toArray) t fr)
 size:(max (0 : Nat) 2 + 1)<=w.heap.size
 kay:∀i,i<64->w.cell? ⟨2,i,none⟩=some (.int .u32 (Nw.getD i 0:Nat))
theorem Tabs.below {w w':World}(h:Tabs w){B:Nat}(hb:Below B w w')(hB:(max (0 : Nat) 2 + 1)<=B):Tabs w' :=
 ⟨by rw[hb.block _ (by omega)];exact h.first,Er h.size hb.size,fun i hi=>by rw[hb.cell (p:=⟨2,i,none⟩) (by show (2 : Nat)<B;omega)];exact h.kay i hi⟩
theorem Tabs.but {w w':World}(h:Tabs w){g:Nat}(hb:Ev g w w')(hg:(max (0 : Nat) 2 + 1)<=g):Tabs w':=h.below (hb.below hg h.size) (Aw _)
structure Bn (w:World) (g:Nat) (m:List Nat):Prop where
 ex:∃pend,pend.length=64/\Bc pend/\Ej w g (blocks m (m.length/64)) pend (m.length%18446744073709551616)/\pend.take (m.length%64)=m.drop (64*(m.length/64))
theorem Bn.below {w w':World}{g:Nat}{m:List Nat}(h:Bn w g m){B:Nat}(hb:Below B w w')(hg:g<B):Bn w' g m :=
 let ⟨p,h1,h2,h3,h4⟩:=h.ex
 ⟨p,h1,h2,h3.below hb hg,h4⟩
theorem Bn.but {w w':World}{g k:Nat}{m:List Nat}(h:Bn w g m)(hb:Ev k w w')(hg:g≠k):Bn w' g m :=
 let ⟨p,h1,h2,h3,h4⟩:=h.ex
 ⟨p,h1,h2,h3.but hb hg,h4⟩
theorem Bn.lt {w:World}{g:Nat}{m:List Nat}(h:Bn w g m):g<w.heap.size:=let ⟨_,_,_,h3,_⟩:=h.ex;h3.lt
theorem kM {i:Int}(n:Nat)(hi:i=(n:Nat))(h:n<=4294967296)(w:World):(Instr.makeSlice 23 (.int .i64 i) (.int .i64 i)).run Tryz.prog w =
  .ok (.slice (some ⟨w.heap.size,0,none⟩) n n) (w.alloc (.cells (zeros .u8 n) 5)):=by subst hi;exact nW n h w
theorem Rn:∀(st:List Nat) (q r:Nat),q<st.length->r<4->(st.flatMap Hv)[4*q+r]? = some (st.getD q 0/256^(3-r)%256)
 | [],q,r,h,_=>by simp at h
 | x::st,0,r,_,hr=>by
  rw[List.flatMap_cons]
  match r,hr with
  | 0,_=>rfl
  | 1,_=>rfl
  | 2,_=>rfl
  | 3,_=>simp[Hv]
 | x::st,q+1,r,h,hr=>by
  rw[List.flatMap_cons,List.getElem?_append_right (by simp[Hv];omega)];simp only[Hv,List.length_cons,List.length_nil];rw[show 4*(q+1)+r-(0+1+1+1+1)=4*q+r by omega,Rn st q r (by simpa using h) hr];simp
theorem Mg:∀(st:List Nat),(st.flatMap Hv).length=4*st.length
 | []=>rfl
 | x::st=>by rw[List.flatMap_cons,List.length_append,Mg st];simp[Hv];omega
theorem nQ {L:List Nat}{k x:Nat}(n:Nat)(hk:L[k]? = some x)(hn:L.length=n):(L.take k++List.replicate (n-k) 0).set k x=L.take (k+1)++List.replicate (n-(k+1)) 0:=by
 have hl:k<L.length:=(List.getElem?_eq_some_iff.1 hk).1;have ht:(L.take k).length=k:=by simp;omega
 rw[List.set_append_right _ _ (by omega),ht,Nat.sub_self,show n-k=(n-(k+1))+1 by omega,List.replicate_succ,List.set_cons_zero,List.take_add_one,hk];simp
theorem Rw (w:World)(g:Nat)(st pend:List Nat)(len:Nat)(hs:st.length=8)(hst:Words st)(hH:Ej w g st pend len) :
  Calls Tryz.prog 226 #[.pointer (some ⟨g,0,none⟩)] w fun e w'=>e=.returned (.slice (some ⟨w.heap.size,0,none⟩) 32 32)/\Below w.heap.size w w'/\Bp w' w.heap.size 5 .u8 (st.flatMap Hv):=by
 have hmk:=fun wx=>kM (i:=32) 32 rfl (by omega) wx
 have hL:=Mg st;rw[hs]at hL
 obtain⟨L,hLe⟩:∃L,st.flatMap Hv=L:=⟨_,rfl⟩
 have HG:Hid (∀q r,q<8->r<4->L[4*q+r]? = some (st.getD q 0/256^(3-r)%256)):=fun q r hq hr=>by rw[<-hLe];exact Rn st q r (by omega) hr
 rw[hLe]at hL ⊢
 clear hLe;have HL:=Ai hL;clear hL;go_enter Tryz.func226,Tryz.ntmps226;go_wp2
 go_loopw [8] (fun i wr=>∃k:Nat,k<=32/\i=.int .i64 k/\w.heap.size<wr.heap.size/\Below w.heap.size w wr/\Bp wr w.heap.size 5 .u8 (L.take k++List.replicate (32-k) 0)) (fun i _=>32-(intOf i).toNat)
 case atStart=>exact⟨0,by omega,rfl,by simp,(Ba _ _).alloc (Aw _) _,Bp.zeros w 5 .u8 32⟩
 case round=>
  obtain⟨k,hk,rfl,hsz,hbel,hblk⟩:=hrel
  by_cases hk32:k<32
  .obtain⟨q,r,rfl,hr⟩:∃q r,k=4*q+r/\r<4:=⟨k/4,k%4,by omega,by omega⟩
   have hq:q<8:=by omega
   have hx:=HG.out q r hq hr;have hxw:=hst.get q;have hc:wr.cell? ⟨g,q,none⟩=some (.int .u32 (st.getD q 0:Nat)):=by
    rw[(Cp hbel).1 _ _ hH.lt];exact hH.cell (Gv hs hq)
   have hset:=Ai (nQ 32 hx HL.out);have e0:=hblk.cell (i:=4*q+r) (x:=0) (by rw[List.getElem?_append_right (by simp;have:=HL.out;omega)];simp[List.getElem?_replicate];have:=HL.out;omega);have e1:=hblk.free (4*q+r);have hne:g≠w.heap.size:=by have:=hH.lt;omega
   generalize st.getD q 0=x at *;have HX:=Ai hx;clear hx;have t1:((4*q+r:Nat):Int)/4=(q:Int):=by omega
   obtain rfl|rfl|rfl|rfl:r=0 ∨ r=1 ∨ r=2 ∨ r=3:=by omega
   .rw[Nat.add_zero]at e0 e1
    go_wp2;have hv:(x:Int)/16777216=((x/256^(3-0)%256:Nat):Int):=by
     rw[show (256:Nat)^(3-0)=16777216 from rfl];omega
    try rw[hv]
    go_roundw
    case rel=>exact⟨4*q+0+1,by omega,by go_num,by simpa using hsz,hbel.setCell (by simp) _,by have h:=hblk.set (4*q+0) (x/256^(3-0)%256);rw[hset.out]at h;exact h⟩
    case measure=>simp[intOf];omega
   .have hc':wr.cell? ⟨g,(4*q+1)/4,none⟩=some (.int .u32 (x:Nat)):=by rw[show (4*q+1)/4=q by omega];exact hc
    go_wp2;have hv:(x:Int)/65536%256=((x/256^(3-1)%256:Nat):Int):=by
     rw[show (256:Nat)^(3-1)=65536 from rfl];omega
    try rw[hv]
    go_roundw
    case rel=>exact⟨4*q+1+1,by omega,by go_num,by simpa using hsz,hbel.setCell (by simp) _,by have h:=hblk.set (4*q+1) (x/256^(3-1)%256);rw[hset.out]at h;exact h⟩
    case measure=>simp[intOf];omega
   .have hc':wr.cell? ⟨g,(4*q+2)/4,none⟩=some (.int .u32 (x:Nat)):=by rw[show (4*q+2)/4=q by omega];exact hc
    go_wp2;have hv:(x:Int)/256%256=((x/256^(3-2)%256:Nat):Int):=by
     rw[show (256:Nat)^(3-2)=256 from rfl];omega
    try rw[hv]
    go_roundw
    case rel=>exact⟨4*q+2+1,by omega,by go_num,by simpa using hsz,hbel.setCell (by simp) _,by have h:=hblk.set (4*q+2) (x/256^(3-2)%256);rw[hset.out]at h;exact h⟩
    case measure=>simp[intOf];omega
   .have hc':wr.cell? ⟨g,(4*q+3)/4,none⟩=some (.int .u32 (x:Nat)):=by rw[show (4*q+3)/4=q by omega];exact hc
    go_wp2;have hv:(x:Int)%256=((x/256^(3-3)%256:Nat):Int):=by
     rw[show (256:Nat)^(3-3)=1 from rfl];omega
    try rw[hv]
    go_roundw
    case rel=>exact⟨4*q+3+1,by omega,by go_num,by simpa using hsz,hbel.setCell (by simp) _,by have h:=hblk.set (4*q+3) (x/256^(3-3)%256);rw[hset.out]at h;exact h⟩
    case measure=>simp[intOf];omega
  .obtain rfl:k=32:=by omega
   have hb:Bp wr w.heap.size 5 .u8 L:=by
    have h:=hblk;rw[List.take_of_length_le (by have:=HL.out;omega),Nat.sub_self,List.replicate_zero,List.append_nil]at h
    exact h
   go_wp2;go_ret;exact⟨rfl,hbel,hb⟩
open Go Go.RowKit Go.Proofs.YtokhckjemidbpaaGreatDoor.Flow
theorem qH {e:Nat}(he:e<4294967296):bits BinOp.xor IntKind.u32 (if IntKind.u32.signed=true then -1 else IntKind.u32.max) (e:Int)=((4294967295-e:Nat):Int):=by
 have h1:(if IntKind.u32.signed=true then (-1:Int) else IntKind.u32.max)=((4294967295:Nat):Int):=by decide
 rw[h1,u32_xor_nat _ _ (by omega) he]
 congr 1
 have h2:BitVec.allOnes 32 ^^^ BitVec.ofNat 32 e = ~~~(BitVec.ofNat 32 e):=by rw[BitVec.allOnes_xor]
 have h3:=congrArg BitVec.toNat h2;rw[BitVec.toNat_xor,BitVec.toNat_not,BitVec.toNat_ofNat,BitVec.toNat_allOnes,Nat.mod_eq_of_lt (by omega)]at h3
 exact h3
def mixed (st sm:List Nat)(k:Nat):List Nat:=(List.zipWith Ck st sm).take k++st.drop k
theorem cV (st sm:List Nat):mixed st sm 0=st:=by simp[mixed]
theorem gJ {st sm:List Nat}(h:st.length=8)(hm:sm.length=8):mixed st sm 8=jM st sm:=by
 unfold mixed jM;rw[List.take_of_length_le (by simp;omega),List.drop_of_length_le (by omega),List.append_nil]
theorem Ww {st sm:List Nat}{k:Nat}(h:st.length=8)(hm:sm.length=8)(hk:k<=8):(mixed st sm k).length=8:=by simp[mixed,h,hm];omega
theorem gI {st sm:List Nat}{k:Nat}(h:st.length=8)(hk:k<8)(hm:sm.length=8:=by rfl):(mixed st sm k).getD k 0=st.getD k 0:=by
 unfold mixed;have hl:((List.zipWith Ck st sm).take k).length=k:=by simp[h,hm];omega
 rw[Dn,List.getElem?_append_right (by omega),hl,Nat.sub_self,List.getElem?_drop,Nat.add_zero,Dn]
theorem gF {st sm:List Nat}{k:Nat}(h:st.length=8)(hm:sm.length=8)(hk:k<8):(mixed st sm k).set k (Ck (st.getD k 0) (sm.getD k 0))=mixed st sm (k+1):=by
 unfold mixed;have hl:((List.zipWith Ck st sm).take k).length=k:=by simp[h,hm];omega
 have e1:(List.zipWith Ck st sm)[k]? = some (Ck (st.getD k 0) (sm.getD k 0)):=by
  rw[List.getElem?_zipWith,Dn,Dn,List.getElem?_eq_getElem (by omega),List.getElem?_eq_getElem (by omega)];rfl
 rw[List.set_append_right _ _ (by omega),hl,Nat.sub_self,List.take_add_one,e1,List.drop_eq_getElem_cons (show k<st.length by omega),List.set_cons_zero];simp
theorem qT (a b c d e f g h k:Nat)(hk:k<8)(w:World) :
  (Instr.index 276 (.agg #[Value.int .u32 (a:Nat),Value.int .u32 (b:Nat),Value.int .u32 (c:Nat),Value.int .u32 (d:Nat),Value.int .u32 (e:Nat),Value.int .u32 (f:Nat),Value.int .u32 (g:Nat),Value.int .u32 (h:Nat)]) (.int .i64 (k:Nat))).run Tryz.prog w =
   .ok (.int .u32 ([a,b,c,d,e,f,g,h].getD k 0:Nat)) w:=by
 rcases(by omega:k=0 ∨ k=1 ∨ k=2 ∨ k=3 ∨ k=4 ∨ k=5 ∨ k=6 ∨ k=7) with rfl|rfl|rfl|rfl|rfl|rfl|rfl|rfl<;>kernel_rfl
theorem pL (W:List Nat)(h:W.length=64):(Tryz.prog.info? 249).map (·.size)=some (W.map fun(x:Nat)=>Value.int .u32 x).toArray.size:=by
 rw[show (W.map fun(x:Nat)=>Value.int .u32 x).toArray.size=64 by simp[h]];kernel_rfl
theorem pD (W V:List Nat)(h:W.length=64)(hv:V.length=64):(V.map fun(x:Nat)=>Value.int .u32 x).toArray.size=(W.map fun(x:Nat)=>Value.int .u32 x).toArray.size:=by simp[h,hv]
theorem bT (w:World)(g:Nat)(st pend:List Nat)(len:Nat)(hT:Tabs w)(hs:st.length=8)(hst:Words st)(hp:pend.length=64)(h8:Bc pend)(hH:Ej w g st pend len)(_hg:(max (0 : Nat) 2 + 1)<=g) :
  Calls Tryz.prog 224 #[.pointer (some ⟨g,0,none⟩),.pointer (some ⟨g,8,none⟩)] w fun e w'=>e=.returned (.tuple #[])/\Ev g w w'/\Ej w' g (Xp st pend) pend len:=by
 have hgl:=hH.lt;go_enter Tryz.func224,Tryz.ntmps224
 go_wp2_with fail
 refine(Yf w g 8 pend hp h8 hgl (fun i x hx=>?_)).mono ?_
 .have hi:i<64:=by have:=(List.getElem?_eq_some_iff.1 hx).1;omega
  refine hH.cell ?_;rw[Qk hs hp hi,Dn,hx];rfl
 rintro e w1 ⟨rfl,hb1⟩;have hWl:=Bw pend 64;have hWw:=Pt h8 64;obtain⟨W,hW⟩:∃W,Cb pend 64=W:=⟨_,rfl⟩
 have HW:Aa (Cb pend 64=W):=⟨hW⟩
 rw[hW]at hWl hWw
 simp only[hW];clear hW;have hi64:=Ai (pL W hWl);have h1:=Ai (Nx .u32 W);have hsz:=Ai (pD W (List.replicate 64 0) hWl (by simp));have hnew:=Ai (Bp.zeros w1 249 .u32 64)
 go_wp2_with (refine wpList_store_row rfl 249 _ _ rfl w1.heap.size (W.map fun(x:Nat)=>Value.int .u32 x).toArray rfl rfl 249 ((List.replicate 64 0).map fun(x:Nat)=>Value.int .u32 x).toArray hnew.out hi64.out hsz.out h1.out ?_)
 generalize hw2:World.setRow _ _ _=w2;have hb2:Below w.heap.size w w2:=by
  rw[<-hw2];exact below_setRow (hb1.alloc hb1.size _) hb1.size _
 have hblk:Bp w2 w1.heap.size 249 .u32 W:=by
  rw[<-hw2];exact setRow_heap _ w1.heap.size _ _ 249 (0,0) hnew.out
 have hs2:w1.heap.size<w2.heap.size:=hblk.lt;have hs1:=hb1.size;clear hw2 hnew hi64 h1 hsz hb1;have hH2:=hH.below hb2 hgl;have hT2:=hT.below hb2 hT.size;obtain⟨s0,hs0⟩:∃s:St,St.of st=s:=⟨_,rfl⟩
 have hok0:s0.ok:=by rw[<-hs0];exact St.of_ok hst
 have hcl:=fun(i:Nat) (hi:i<8)=>hH2.cell (Gv hs hi)
 have k0:w2.cell? ⟨g,0,none⟩=some (.int .u32 (s0.a:Nat)):=by rw[<-hs0];exact hcl 0 (by omega)
 have k1:w2.cell? ⟨g,1,none⟩=some (.int .u32 (s0.b:Nat)):=by rw[<-hs0];exact hcl 1 (by omega)
 have k2:w2.cell? ⟨g,2,none⟩=some (.int .u32 (s0.c:Nat)):=by rw[<-hs0];exact hcl 2 (by omega)
 have k3:w2.cell? ⟨g,3,none⟩=some (.int .u32 (s0.d:Nat)):=by rw[<-hs0];exact hcl 3 (by omega)
 have k4:w2.cell? ⟨g,4,none⟩=some (.int .u32 (s0.e:Nat)):=by rw[<-hs0];exact hcl 4 (by omega)
 have k5:w2.cell? ⟨g,5,none⟩=some (.int .u32 (s0.f:Nat)):=by rw[<-hs0];exact hcl 5 (by omega)
 have k6:w2.cell? ⟨g,6,none⟩=some (.int .u32 (s0.g:Nat)):=by rw[<-hs0];exact hcl 6 (by omega)
 have k7:w2.cell? ⟨g,7,none⟩=some (.int .u32 (s0.h:Nat)):=by rw[<-hs0];exact hcl 7 (by omega)
 have HS0:Aa (St.of st=s0):=⟨hs0⟩
 clear hcl hs0
 go_quiet (fail)
 have hb3:Below w.heap.size w (w2.drewN nq):=below_drewN hb2 _;have hblk3:Bp (w2.drewN nq) w1.heap.size 249 .u32 W:=hblk;have hs3:w1.heap.size<(w2.drewN nq).heap.size:=hs2;have hH3:Ej (w2.drewN nq) g st pend len:=hH2;have hT3:Tabs (w2.drewN nq):=⟨hT2.first,hT2.size,hT2.kay⟩
 clear k0 k1 k2 k3 k4 k5 k6 k7 hb2 hblk hs2 hH2 hT2;generalize w2.drewN nq=w3 at *;have HH3:Aa (Ej w3 g st pend len):=⟨hH3⟩
 have HT3:Aa (Tabs w3):=⟨hT3⟩
 have HB3:Aa (Bp w3 w1.heap.size 249 .u32 W):=⟨hblk3⟩
 clear hH3 hT3 hblk3;go_wp2
 go_loopw [53,5,6,7,8,9,10,11,12] (fun i va vb vc vd ve vf vg vh wr=>∃(t:Nat) (s:St),t<=64/\i=.int .i64 t/\s=cF Nw W s0 t/\va=.int .u32 s.a/\vb=.int .u32 s.b/\vc=.int .u32 s.c/\vd=.int .u32 s.d/\ve=.int .u32 s.e/\vf=.int .u32 s.f/\vg=.int .u32 s.g/\vh=.int .u32 s.h /\
  Below w3.heap.size w3 wr) (fun i _ _ _ _ _ _ _ _ _=>64-(intOf i).toNat)
 case atStart=>exact⟨0,s0,by omega,rfl,rfl,rfl,rfl,rfl,rfl,rfl,rfl,rfl,rfl,Ba _ _⟩
 case round=>
  obtain⟨t,s,ht,rfl,hs,rfl,rfl,rfl,rfl,rfl,rfl,rfl,rfl,hbw⟩:=hrel;have hsok:s.ok:=by rw[hs];exact eL hok0 t
  have HS:Aa (s=cF Nw W s0 t):=⟨hs⟩
  clear hs
  by_cases ht64:t<64
  .have kk:wr.cell? ⟨2,t,none⟩=some (.int .u32 (Nw.getD t 0:Nat)):=(HT3.out.below hbw HT3.out.size).kay t ht64;have kw:wr.cell? ⟨w1.heap.size,t,none⟩=some (.int .u32 (W.getD t 0:Nat)):=by
    rw[(Cp hbw).1 _ _ hs3];exact HB3.out.cell (by rw[Dn,List.getElem?_eq_getElem (by omega)];rfl)
   have HBW:Aa (Below w3.heap.size w3 wr):=⟨hbw⟩
   clear hbw;have bk:=dB.get t;have bw:=hWw.get t;obtain⟨z,hz⟩:∃z,Nw.getD t 0=z:=⟨_,rfl⟩
   obtain⟨y,hy⟩:∃y,W.getD t 0=y:=⟨_,rfl⟩
   rw[hz]at kk bk
   rw[hy]at kw bw
   have HZ:Aa (Nw.getD t 0=z):=⟨hz⟩
   have HY:Aa (W.getD t 0=y):=⟨hy⟩
   clear hz hy;obtain⟨a,b,c,d,e,f,h,x⟩:=s;obtain⟨oa,ob,oc,od,oe,of,og,oh⟩:=hsok
   dsimp only at *
   go_wp2;obtain⟨e6,h6⟩:∃v,rr e 6=v:=⟨_,rfl⟩
   obtain⟨e11,h11⟩:∃v,rr e 11=v:=⟨_,rfl⟩
   obtain⟨e25,h25⟩:∃v,rr e 25=v:=⟨_,rfl⟩
   have R6:∀wx,Calls Tryz.prog 244 #[.int .u32 e,.int .i64 6] wx fun e w'=>e=.returned (.int .u32 e6)/\w'=wx:=fun wx=>by rw[<-h6];exact Dd wx e 6 oe (by omega) (by omega)
   have R11:∀wx,Calls Tryz.prog 244 #[.int .u32 e,.int .i64 11] wx fun e w'=>e=.returned (.int .u32 e11)/\w'=wx:=fun wx=>by rw[<-h11];exact Dd wx e 11 oe (by omega) (by omega)
   have R25:∀wx,Calls Tryz.prog 244 #[.int .u32 e,.int .i64 25] wx fun e w'=>e=.returned (.int .u32 e25)/\w'=wx:=fun wx=>by rw[<-h25];exact Dd wx e 25 oe (by omega) (by omega)
   have b6:e6<4294967296:=by rw[<-h6];exact Fs oe
   have b11:e11<4294967296:=by rw[<-h11];exact Fs oe
   have b25:e25<4294967296:=by rw[<-h25];exact Fs oe
   obtain⟨v1,hv1⟩:∃v,e6 ^^^ e11=v:=⟨_,rfl⟩
   have F1:bits BinOp.xor IntKind.u32 (e6:Int) (e11:Int)=(v1:Int):=by rw[<-hv1];exact u32_xor_nat _ _ b6 b11
   have c1:v1<4294967296:=by rw[<-hv1];exact Dh b6 b11
   obtain⟨v2,hv2⟩:∃v,v1 ^^^ e25=v:=⟨_,rfl⟩
   have F2:bits BinOp.xor IntKind.u32 (v1:Int) (e25:Int)=(v2:Int):=by rw[<-hv2];exact u32_xor_nat _ _ c1 b25
   have c2:v2<4294967296:=by rw[<-hv2];exact Dh c1 b25
   obtain⟨v3,hv3⟩:∃v,Ck x v2=v:=⟨_,rfl⟩
   have F3:IntKind.u32.wrap ((x:Int)+v2)=(v3:Int):=by rw[<-hv3];rfl
   have c3:v3<4294967296:=by rw[<-hv3];exact Hi _ _
   obtain⟨v4,hv4⟩:∃v,e &&& f=v:=⟨_,rfl⟩
   have F4:bits BinOp.and IntKind.u32 (e:Int) (f:Int)=(v4:Int):=by rw[<-hv4];exact u32_and_nat _ _ oe of
   have c4:v4<4294967296:=by rw[<-hv4];exact Li of
   obtain⟨v5,hv5⟩:∃v,4294967295-e=v:=⟨_,rfl⟩
   have F5:bits BinOp.xor IntKind.u32 (if IntKind.u32.signed=true then -1 else IntKind.u32.max) (e:Int)=(v5:Int):=by rw[<-hv5];exact qH oe
   have c5:v5<4294967296:=by omega
   obtain⟨v6,hv6⟩:∃v,v5 &&& h=v:=⟨_,rfl⟩
   have F6:bits BinOp.and IntKind.u32 (v5:Int) (h:Int)=(v6:Int):=by rw[<-hv6];exact u32_and_nat _ _ c5 og
   have c6:v6<4294967296:=by rw[<-hv6];exact Li og
   obtain⟨v7,hv7⟩:∃v,v4 ^^^ v6=v:=⟨_,rfl⟩
   have F7:bits BinOp.xor IntKind.u32 (v4:Int) (v6:Int)=(v7:Int):=by rw[<-hv7];exact u32_xor_nat _ _ c4 c6
   have c7:v7<4294967296:=by rw[<-hv7];exact Dh c4 c6
   obtain⟨v8,hv8⟩:∃v,Ck v3 v7=v:=⟨_,rfl⟩
   have F8:IntKind.u32.wrap ((v3:Int)+v7)=(v8:Int):=by rw[<-hv8];rfl
   obtain⟨v9,hv9⟩:∃v,Ck v8 z=v:=⟨_,rfl⟩
   have F9:IntKind.u32.wrap ((v8:Int)+z)=(v9:Int):=by rw[<-hv9];rfl
   obtain⟨v10,hv10⟩:∃v,Ck v9 y=v:=⟨_,rfl⟩
   have F10:IntKind.u32.wrap ((v9:Int)+y)=(v10:Int):=by rw[<-hv10];rfl
   have c10:v10<4294967296:=by rw[<-hv10];exact Hi _ _
   have HTone:Aa (v10=nD ⟨a,b,c,d,e,f,h,x⟩ z y):=⟨by
    unfold nD qW ch
    dsimp only
    rw[h6,h11,h25,hv1,hv2,hv3,hv4,hv5,hv6,hv7,hv8,hv9,hv10]⟩
   have tt:(t:Int)<64:=by omega
   clear h6 h11 h25 hv1 hv2 hv3 hv4 hv5 hv6 hv7 hv8 hv9 hv10;refine Ak (by kernel_rfl) (by kernel_rfl)
    [some (.int .u32 (x:Nat)),some (.int .u32 (e:Nat)),some (.int .u32 (e6:Nat)),some (.int .u32 (e:Nat)),some (.int .u32 (e11:Nat)),some (.int .u32 (v1:Nat)),some (.int .u32 (e:Nat)),some (.int .u32 (e25:Nat)),some (.int .u32 (v2:Nat)),some (.int .u32 (v3:Nat)),some (.int .u32 (e:Nat)),some (.int .u32 (f:Nat)),some (.int .u32 (v4:Nat)),some (.int .u32 (e:Nat)),some (.int .u32 (v5:Nat)),some (.int .u32 (h:Nat)),some (.int .u32 (v6:Nat)),some (.int .u32 (v7:Nat)),some (.int .u32 (v8:Nat)),some (.int .i64 (t:Nat)),some (.pointer (some ⟨2,t,none⟩)),some (.int .u32 (z:Nat)),some (.int .u32 (v9:Nat)),some (.int .i64 (t:Nat)),some (.pointer (some ⟨w1.heap.size,t,none⟩)),some (.int .u32 (y:Nat)),some (.int .u32 (v10:Nat)),some (.int .u32 (v10:Nat))]
    [false,false,false,false,false,false,false,false,false,false,false,false,false,false,false,false,false,false,false,false,false,false,false,false,false,false,false,false] rfl
    (fun _ _=>True) (fun _ w'=>w'=wr.drew) (fun _ _ _=>True) (fun _ _ _ _ h _=>h) rfl ?_ ?_
   .simp only[Bb,Nat.reduceAdd];refine⟨?_,?_,?_,?_,?_,?_,?_,?_,?_,?_,?_,?_,?_,?_,?_,?_,?_,?_,?_,?_,?_,?_,?_,?_,?_,?_,?_,?_,trivial⟩
    case refine_3=>
     intro D sp w' hD hW hdp hG
     (with_reducible refine Ac (w1:=w') (f := 244) (args:=#[.int .u32 e,.int .i64 6]) ?_ ?_ ?_)
     .simp[Region.wanted,go_sem]
     .simp[Act.eval,Act.put,go_sem]
     .refine(R6 w').mono ?_;rintro e w5 ⟨rfl,rfl⟩;exact⟨_,rfl,rfl,rfl⟩
    case refine_5=>
     intro D sp w' hD hW hdp hG
     (with_reducible refine Ac (w1:=w') (f := 244) (args:=#[.int .u32 e,.int .i64 11]) ?_ ?_ ?_)
     .simp[Region.wanted,go_sem]
     .simp[Act.eval,Act.put,go_sem]
     .refine(R11 w').mono ?_;rintro e w5 ⟨rfl,rfl⟩;exact⟨_,rfl,rfl,rfl⟩
    case refine_8=>
     intro D sp w' hD hW hdp hG
     (with_reducible refine Ac (w1:=w') (f := 244) (args:=#[.int .u32 e,.int .i64 25]) ?_ ?_ ?_)
     .simp[Region.wanted,go_sem]
     .simp[Act.eval,Act.put,go_sem]
     .refine(R25 w').mono ?_;rintro e w5 ⟨rfl,rfl⟩;exact⟨_,rfl,rfl,rfl⟩
    all_goals
     intro D sp w' hD hW hdp hG;subst hG;simp[asked,Region.wanted,Oper.gives,execOp,Act.eval,Act.put,go_sem,F1,F2,F3,F4,F5,F6,F7,F8,F9,F10,kk,kw,tt]
   .intro sp w' hsp hG;subst hG;have HBW5:Aa (Below w3.heap.size w3 wr.drew):=⟨HBW.out.drew⟩
    clear HBW kk kw R6 R11 R25 F1 F2 F3 F4 F5 F6 F7 F8 F9 F10 hsp c1 c2 c3 c4 c5 c6 c7 b6 b11 b25;generalize wr.drew=w5 at *;obtain⟨p2,h2⟩:∃v,rr a 2=v:=⟨_,rfl⟩
    obtain⟨p13,h13⟩:∃v,rr a 13=v:=⟨_,rfl⟩
    obtain⟨p22,h22⟩:∃v,rr a 22=v:=⟨_,rfl⟩
    have R2:∀wx,Calls Tryz.prog 244 #[.int .u32 a,.int .i64 2] wx fun e w'=>e=.returned (.int .u32 p2)/\w'=wx:=fun wx=>by rw[<-h2];exact Dd wx a 2 oa (by omega) (by omega)
    have R13:∀wx,Calls Tryz.prog 244 #[.int .u32 a,.int .i64 13] wx fun e w'=>e=.returned (.int .u32 p13)/\w'=wx:=fun wx=>by rw[<-h13];exact Dd wx a 13 oa (by omega) (by omega)
    have R22:∀wx,Calls Tryz.prog 244 #[.int .u32 a,.int .i64 22] wx fun e w'=>e=.returned (.int .u32 p22)/\w'=wx:=fun wx=>by rw[<-h22];exact Dd wx a 22 oa (by omega) (by omega)
    have b2:p2<4294967296:=by rw[<-h2];exact Fs oa
    have b13:p13<4294967296:=by rw[<-h13];exact Fs oa
    have b22:p22<4294967296:=by rw[<-h22];exact Fs oa
    obtain⟨y1,hy1⟩:∃v,p2 ^^^ p13=v:=⟨_,rfl⟩
    have G1:bits BinOp.xor IntKind.u32 (p2:Int) (p13:Int)=(y1:Int):=by rw[<-hy1];exact u32_xor_nat _ _ b2 b13
    have c1:y1<4294967296:=by rw[<-hy1];exact Dh b2 b13
    obtain⟨y2,hy2⟩:∃v,y1 ^^^ p22=v:=⟨_,rfl⟩
    have G2:bits BinOp.xor IntKind.u32 (y1:Int) (p22:Int)=(y2:Int):=by rw[<-hy2];exact u32_xor_nat _ _ c1 b22
    have c2:y2<4294967296:=by rw[<-hy2];exact Dh c1 b22
    obtain⟨m1,hm1⟩:∃v,a &&& b=v:=⟨_,rfl⟩
    have G3:bits BinOp.and IntKind.u32 (a:Int) (b:Int)=(m1:Int):=by rw[<-hm1];exact u32_and_nat _ _ oa ob
    have d1:m1<4294967296:=by rw[<-hm1];exact Li ob
    obtain⟨m2,hm2⟩:∃v,a &&& c=v:=⟨_,rfl⟩
    have G4:bits BinOp.and IntKind.u32 (a:Int) (c:Int)=(m2:Int):=by rw[<-hm2];exact u32_and_nat _ _ oa oc
    have d2:m2<4294967296:=by rw[<-hm2];exact Li oc
    obtain⟨m3,hm3⟩:∃v,m1 ^^^ m2=v:=⟨_,rfl⟩
    have G5:bits BinOp.xor IntKind.u32 (m1:Int) (m2:Int)=(m3:Int):=by rw[<-hm3];exact u32_xor_nat _ _ d1 d2
    have d3:m3<4294967296:=by rw[<-hm3];exact Dh d1 d2
    obtain⟨m4,hm4⟩:∃v,b &&& c=v:=⟨_,rfl⟩
    have G6:bits BinOp.and IntKind.u32 (b:Int) (c:Int)=(m4:Int):=by rw[<-hm4];exact u32_and_nat _ _ ob oc
    have d4:m4<4294967296:=by rw[<-hm4];exact Li oc
    obtain⟨m5,hm5⟩:∃v,m3 ^^^ m4=v:=⟨_,rfl⟩
    have G7:bits BinOp.xor IntKind.u32 (m3:Int) (m4:Int)=(m5:Int):=by rw[<-hm5];exact u32_xor_nat _ _ d3 d4
    obtain⟨y3,hy3⟩:∃v,Ck y2 m5=v:=⟨_,rfl⟩
    have G8:((y2:Int)+m5)%4294967296=(y3:Int):=by rw[<-hy3];rfl
    have G8':IntKind.u32.wrap ((y2:Int)+m5)=(y3:Int):=by rw[<-hy3];rfl
    have HTwo:Aa (y3=pB ⟨a,b,c,d,e,f,h,x⟩):=⟨by
     unfold pB qX qV
     dsimp only
     rw[h2,h13,h22,hy1,hy2,hm1,hm2,hm3,hm4,hm5,hy3]⟩
    have d5:m5<4294967296:=by rw[<-hm5];exact Dh d3 d4
    have c3:y3<4294967296:=by rw[<-hy3];exact Hi _ _
    obtain⟨n1,hn1⟩:∃v,Ck v10 y3=v:=⟨_,rfl⟩
    have K1:((v10:Int)+y3)%4294967296=(n1:Int):=by rw[<-hn1];rfl
    have K1':IntKind.u32.wrap ((v10:Int)+y3)=(n1:Int):=by rw[<-hn1];rfl
    obtain⟨n2,hn2⟩:∃v,Ck d v10=v:=⟨_,rfl⟩
    have K2:((d:Int)+v10)%4294967296=(n2:Int):=by rw[<-hn2];rfl
    have K2':IntKind.u32.wrap ((d:Int)+v10)=(n2:Int):=by rw[<-hn2];rfl
    have HR:Aa (⟨n1,a,b,c,n2,e,f,h⟩=cF Nw W s0 (t+1)):=⟨by
     rw[cF,<-HS.out,HZ.out,HY.out,qR,<-HTone.out,<-HTwo.out,hn1,hn2]⟩
    clear h2 h13 h22 hy1 hy2 hm1 hm2 hm3 hm4 hm5 hy3 hn1 hn2 HTone HTwo HS HZ HY;simp only[Al]
    go_wp2_with fail
    refine(R2 _).mono ?_;rintro e9 w9 ⟨rfl,rfl⟩
    go_wp2_with fail
    refine(R13 _).mono ?_;rintro e9 w9 ⟨rfl,rfl⟩
    go_wp2_with fail
    refine(R22 _).mono ?_;rintro e9 w9 ⟨rfl,rfl⟩;go_wp2;go_roundw
    case rel=>exact⟨t+1,⟨n1,a,b,c,n2,e,f,h⟩,by omega,by go_num,HR.out,rfl,rfl,rfl,rfl,rfl,rfl,rfl,rfl,HBW5.out⟩
    case measure=>simp[intOf];omega
  .obtain rfl:t=64:=by omega
   have hbw2:Below w.heap.size w wr:=hb3.trans (hbw.mono hb3.size);have hH5:=hH.below hbw2 hgl;have hsz5:=hbw2.size;go_wp2
   go_loopw [126] (fun i w6=>∃k:Nat,k<=8/\i=.int .i64 k/\Ev g w w6/\Ej w6 g (mixed st s.list k) pend len) (fun i _=>8-(intOf i).toNat)
   case atStart=>exact⟨0,by omega,rfl,Ev.of (hbw2.alloc hsz5 _),by rw[cV];exact hH5.below ((Ba _ _).alloc (Aw _) _) hH5.lt⟩
   case round=>
    obtain⟨k,hk,rfl,hbut,hbox⟩:=hrel;have hml:=Ww hs (show s.list.length=8 from rfl) hk
    by_cases hk8:k<8
    .obtain⟨u,hu⟩:∃u,s.list.getD k 0=u:=⟨_,rfl⟩
     obtain⟨v,hv⟩:∃v,st.getD k 0=v:=⟨_,rfl⟩
     have hik:∀wx:World,(Instr.index 276 (.agg #[Value.int .u32 (s.a:Nat),Value.int .u32 (s.b:Nat),Value.int .u32 (s.c:Nat),Value.int .u32 (s.d:Nat),Value.int .u32 (s.e:Nat),Value.int .u32 (s.f:Nat),Value.int .u32 (s.g:Nat),Value.int .u32 (s.h:Nat)]) (.int .i64 (k:Nat))).run Tryz.prog wx=.ok (.int .u32 (u:Nat)) wx:=fun wx=>by
      rw[<-hu];exact qT _ _ _ _ _ _ _ _ k hk8 wx
     have hub:u<4294967296:=by rw[<-hu];exact(St.list_words hsok).get k
     have hvb:v<4294967296:=by rw[<-hv];exact hst.get k
     have ck:=hbox.cell (Gv hml hk8);rw[gI hs hk8,hv]at ck
     have fk:=hbox.free k;have hm:=gF hs (show s.list.length=8 from rfl) hk8;rw[hu,hv]at hm
     have HM:Aa ((mixed st s.list k).set k (Ck v u)=mixed st s.list (k+1)):=⟨hm⟩
     have HSet:Aa ((Bg (mixed st s.list k) pend len).set k (.int .u32 (Ck v u:Nat))=Bg ((mixed st s.list k).set k (Ck v u)) pend len):=⟨Pg hml hk8⟩
     have HBox1:Aa (Ej wr g (mixed st s.list k) pend len):=⟨hbox⟩
     have HBut1:Aa (Ev g w wr):=⟨hbut⟩
     have kk8:(k:Int)<8:=by omega
     clear hm hu hv hbox hbut hml hH hT hst hbw2 hbw hH5;go_wp2
     go_region
     have hsum:((v:Int)+u)%4294967296=((Ck v u:Nat):Int):=rfl;have hsum':IntKind.u32.wrap ((v:Int)+u)=((Ck v u:Nat):Int):=rfl
     try rw[hsum]
     try rw[hsum']
     go_wp2;go_roundw
     case rel=>
      refine⟨k+1,by omega,by go_num,(HBut1.out.trans (Ev.setCell _ _ _)).drew,?_⟩;exact HBox1.out.set k _ (by rw[HSet.out,HM.out])
     case measure=>simp[intOf];omega
    .obtain rfl:k=8:=by omega
     have hfin:Ej wr g (Xp st pend) pend len:=by
      have h:=hbox;rw[gJ hs (show s.list.length=8 from rfl),HS.out,<-HS0.out,<-HW.out]at h
      exact h
     go_wp2
     go_end0
     exact⟨rfl,hbut,hfin⟩
end Go.Proofs.YtokhckjemidbpaaGreatDoor
