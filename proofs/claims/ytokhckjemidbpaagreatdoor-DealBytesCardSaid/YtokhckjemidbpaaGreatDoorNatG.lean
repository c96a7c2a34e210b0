/- The product of two numbers. -/
import Derived.Test.YtokhckjemidbpaaGreatDoorNatB
import Derived.Test.YtokhckjemidbpaaGreatDoorFlow
set_option maxRecDepth 1000000
set_option maxHeartbeats 16000000
set_option linter.all false
namespace Go.Proofs.YtokhckjemidbpaaGreatDoor
open Go Go.RowKit
structure Pw (W X:List Nat) (t k:Nat) (S:List Nat) (cy:Nat):Prop where
 len:S.length=k
 words:Words S
 carry:cy<4294967296
 eq:val S+Al k*cy=val (W.take k)*t+val (X.take k)
theorem Pw.start (W X:List Nat)(t:Nat):Pw W X t 0 [] 0:=⟨rfl,Words.nil,by omega,by simp[val]⟩
theorem Jy {x t:Nat}(hx:x<4294967296)(ht:t<4294967296):x*t<=18446744065119617025:=by
 have:=Nat.mul_le_mul (Nat.le_of_lt_succ (show x<4294967295+1 by omega)) (Nat.le_of_lt_succ (show t<4294967295+1 by omega));omega
theorem Pw.step {W X:List Nat}{t k:Nat}{S:List Nat}{cy:Nat}(h:Pw W X t k S cy)(hW:Words W)(hX:Words X)(ht:t<4294967296) :
  Pw W X t (k+1) (S++[(cy+(W.getD k 0*t+X.getD k 0))%4294967296]) ((cy+(W.getD k 0*t+X.getD k 0))/4294967296):=by
 have h1:=hW.get k;have h2:=hX.get k;have h3:=h.carry;have h4:=Jy h1 ht;refine⟨by simp[h.len],h.words.snoc (Nat.mod_lt _ (by omega)),by omega,?_⟩;rw[Da,h.len,Ar,Ar,Bk];have e:=h.eq;generalize W.getD k 0=x at *;generalize X.getD k 0=y at *;have hd:=Nat.div_add_mod (cy+(x*t+y)) 4294967296;generalize (cy+(x*t+y))/4294967296=q at *;generalize (cy+(x*t+y))%4294967296=r at *;generalize Al k=b at *;have e2:b*r+4294967296*b*q=b*(cy+(x*t+y)):=by
  rw[<-hd,Nat.mul_add,Nat.mul_comm 4294967296 b,Nat.mul_assoc,Nat.add_comm]
 have e3:(val (W.take k)+b*x)*t=val (W.take k)*t+b*(x*t):=by rw[Nat.add_mul,Nat.mul_assoc]
 simp only[Nat.mul_add]at e2;omega
def He (W X:List Nat)(t:Nat):Nat->List Nat×Nat
 | 0=>([],0)
 | k+1=>((He W X t k).1++[((He W X t k).2+(W.getD k 0*t+X.getD k 0))%4294967296],((He W X t k).2+(W.getD k 0*t+X.getD k 0))/4294967296)
theorem Lm {W X:List Nat}{t:Nat}(hW:Words W)(hX:Words X)(ht:t<4294967296):∀k,Pw W X t k (He W X t k).1 (He W X t k).2
 | 0=>Pw.start W X t
 | k+1=>(Lm hW hX ht k).step hW hX ht
theorem Bi.mid {w:World}{g:Nat}{e:TypeId}{k:IntKind}{xs S:List Nat}{o i:Nat}(h:Bi w g e k (xs.take o++S++xs.drop (o+i)))(hs:S.length=i)(ho:o+i<xs.length)(x:Nat) :
  w.cell? ⟨g,o+i,none⟩=some (.int k (xs.getD (o+i) 0:Nat))/\Bi (w.setCell ⟨g,o+i,none⟩ (.int k x)) g e k (xs.take o++(S++[x])++xs.drop (o+(i+1))):=by
 have hl:(xs.take o++S).length=o+i:=by simp;omega
 have hd:xs.drop (o+i)=xs.getD (o+i) 0::xs.drop (o+(i+1)):=by
  rw[List.drop_eq_getElem_cons ho,Dv];simp[ho,Nat.add_assoc]
 rw[hd]at h
 constructor
 .refine h.cell ?_;rw[List.getElem?_append_right (by omega),hl];simp
 .have:=h.set (o+i) x;rw[List.set_append_right _ _ (by omega),hl,Nat.sub_self,List.set_cons_zero]at this
  rw[show xs.take o++(S++[x])++xs.drop (o+(i+1))=xs.take o++S++x::xs.drop (o+(i+1)) by simp];exact this
theorem grownBy_refl (w:World)(r:Option Nat):w.grownBy w r:=⟨rfl,rfl,rfl,Av _,fun _ _ _=>rfl⟩
theorem grownBy_trans {a b c:World}{r:Option Nat}(h:a.grownBy b r)(k:b.grownBy c r):a.grownBy c r :=
 ⟨k.os.trans h.os,k.tape.trans h.tape,k.output.trans h.output,Eo h.size k.size,fun i hi hr=>(k.block i (Dk hi h.size) hr).trans (h.block i hi hr)⟩
theorem grownBy_setCell (w:World)(g i:Nat)(u:Value):w.grownBy (w.setCell ⟨g,i,none⟩ u) (some g) :=
 ⟨rfl,rfl,rfl,by simp,fun k _ hk=>heap_setCell_other w ⟨g,i,none⟩ k u (fun e=>hk (by simp[e]))⟩
theorem Row.grown {w w':World}{k:IntKind}{p:Option Addr}{n c:Nat}{xs:List Nat}{g:Nat}(h:Row w k p n c xs)(hg:w.grownBy w' (some g))(hp:∀q,p=some q->q.block≠g):Row w' k p n c xs:=by
 refine⟨h.len,h.cap,h.max,?_⟩;rcases h.at_ with h1|⟨b,off,h1,h2,h3⟩
 .exact .inl h1
 .have hne:=hp _ h1;refine .inr ⟨b,off,h1,Dk h2 hg.size,fun i x hx=>?_⟩;exact hg.cell (h3 i x hx) (fun e=>hne (Option.some.inj e))
def aW (W xs:List Nat)(t o g:Nat)(e:TypeId)(w:World)(en:Ending)(w':World):Prop :=
 en=.returned (.int .u32 ((He W (xs.drop o) t W.length).2:Nat))/\Bi w' g e .u32 (xs.take o++(He W (xs.drop o) t W.length).1++xs.drop (o+W.length))/\w.grownBy w' (some g)/\w'.heap.size=w.heap.size
theorem Ms (w:World)(g o n c:Nat)(xs:List Nat)(q:Option Addr)(m d:Nat)(W:List Nat)(t:Nat)(hg:Bi w g 129 .u32 xs)(hx:Words xs)(hW:Row w .u32 q m d W)(wW:Words W)(ht:t<4294967296)(hq:∀a,q=some a->a.block≠g)(hm:m<1000000)(ho:o+m<=xs.length)(hn:m<=n)(hc:n<=c)(hc2:c<9223372036854775807) :
  Calls Tryz.prog 158 #[.slice (some ⟨g,o,none⟩) n c,.slice q m d,.int .u32 t] w (aW W xs t o g 129 w):=by
 have HW:=Af hW.len;go_enter Tryz.func158,Tryz.ntmps158;go_wp2
 go_loopw [7,12] (fun cy i wr=>∃k y:Nat,∃S,k<=m/\i=.int .i64 k/\cy=.int .u64 y/\He W (xs.drop o) t k=(S,y)/\Bi wr g 129 .u32 (xs.take o++S++xs.drop (o+k))/\w.grownBy wr (some g)/\wr.heap.size<=w.heap.size) (fun _ i _=>m-(intOf i).toNat)
 case atStart=>exact⟨0,0,[],by omega,rfl,rfl,rfl,by rw[List.append_nil,Nat.add_zero,List.take_append_drop];exact hg,grownBy_refl _ _,Av _⟩
 case round=>
  obtain⟨k,y,S,hk,rfl,rfl,hS,hblk,hgr,hsz⟩:=hrel;have hst:=Lm wW (hx.drop o) ht k;rw[hS]at hst
  have hy:=hst.carry;have hsl:=hst.len;simp only at hy hsl;have HS:=Af hS;have HSL:=Af hsl;clear hS hst hsl
  by_cases hkm:k<m
  .obtain⟨b,off,rfl,hb,hcell⟩:=(hW.grown hgr hq).pos (by omega);obtain⟨x,hxk⟩:∃x,W.getD k 0=x:=⟨_,rfl⟩
   obtain⟨z,hz⟩:∃z,xs.getD (o+k) 0=z:=⟨_,rfl⟩
   have hci:wr.cell? ⟨b,off+k,none⟩=some (.int .u32 (x:Nat)):=hcell k x (by rw[<-hxk,Dv];simp[show k<W.length by have:=HW.out;omega]);have hmid:=fun u=>Bi.mid hblk HSL.out (by omega) u
   have hcz:=(hmid 0).1;rw[hz]at hcz
   have hfz:=hblk.free (o+k);have hx1:x<4294967296:=by rw[<-hxk];exact wW.get k
   have hz1:z<4294967296:=by rw[<-hz];exact hx.get _
   have hp:=Jy hx1 ht;have hp':(x:Int)*t<=18446744065119617025:=by rw[<-Int.natCast_mul];omega
   have hp0:0<=(x:Int)*t:=by rw[<-Int.natCast_mul];omega
   have HX:=Af hxk;have HZ:=Af hz;have HM:=Af (fun u=>(hmid u).2);clear hcell hxk hz hmid hp;go_wp2;go_roundw
   case rel=>
    have hzd:(xs.drop o).getD k 0=z:=by rw[Dv,List.getElem?_drop,<-Dv];exact HZ.out
    refine⟨k+1,(y+(x*t+z))/4294967296,S++[(y+(x*t+z))%4294967296],by omega,by go_num,?_,by rw[He,HS.out,HX.out,hzd],?_,?_,by simpa using hsz⟩
    .exact congrArg (Value.int .u64) (by rw[<-Int.natCast_mul];omega)
    .have:=HM.out ((y+(x*t+z))%4294967296);have e:(((y+(x*t+z))%4294967296:Nat):Int)=((y:Int)+((x:Int)*t+z))%4294967296:=by rw[<-Int.natCast_mul];omega
     rw[e]at this
     exact this
    .exact grownBy_trans hgr (grownBy_setCell _ _ _ _)
   case measure=>simp[intOf];omega
  .have hkm':m<=k:=by omega
   have hkl:k=W.length:=by have:=HW.out;omega
   have HK:=Af hkl;clear hkl;go_wp2;go_ret;refine⟨?_,by rw[<-HK.out,HS.out];exact hblk,hgr,Nat.le_antisymm hsz hgr.size⟩;rw[<-HK.out,HS.out];exact congrArg (fun z=>Ending.returned (.int .u32 z)) (by omega)
open Go Go.RowKit Go.Proofs.YtokhckjemidbpaaGreatDoor.Flow
structure La (A B:List Nat) (k:Nat) (X:List Nat):Prop where
 len:X.length=A.length+B.length
 words:Words X
 eq:val X=val (A.take k)*val B
 rest:X.drop (k+B.length)=List.replicate (A.length-k) 0
theorem La.start (A B:List Nat):La A B 0 (List.replicate (A.length+B.length) 0) :=
 ⟨by simp,Words.zeros _,by rw[Hb];simp[val],by simp⟩
def Ew (A B X:List Nat)(k:Nat):List Nat:=X.take k++(He B (X.drop k) (A.getD k 0) B.length).1++X.drop (k+B.length)
def Ko (A B X:List Nat)(k:Nat):Nat:=(He B (X.drop k) (A.getD k 0) B.length).2
theorem La.step {A B X:List Nat}{k:Nat}(h:La A B k X)(hA:Words A)(hB:Words B)(hk:k<A.length):La A B (k+1) ((Ew A B X k).set (k+B.length) (Ko A B X k)):=by
 have hs:=Lm hB (h.words.drop k) (hA.get k) B.length;unfold Ew Ko;generalize (He B (X.drop k) (A.getD k 0) B.length).1=S at *;generalize (He B (X.drop k) (A.getD k 0) B.length).2=c at *;have hl:=h.len;have hx:X=X.take k++(X.drop k).take B.length++X.drop (k+B.length):=by
  rw[List.append_assoc,<-List.drop_drop,List.take_append_drop,List.take_append_drop]
 have hpl:(X.take k).length=k:=by simp;omega
 have hml:((X.drop k).take B.length).length=B.length:=by simp;omega
 have e1:val X=val (X.take k)+Al k*val ((X.drop k).take B.length):=by
  conv=>lhs;rw[hx]
  rw[val_append,val_append,h.rest,Hb,hpl];simp
 have e2:=hs.eq;rw[List.take_of_length_le (Av _)]at e2
 have e3:X.take k++S++X.drop (k+B.length)=(X.take k++S)++List.replicate (A.length-k-1+1) 0:=by
  rw[h.rest];congr 2;omega
 have hsl:(X.take k++S).length=k+B.length:=by simp[hs.len];omega
 have e4:(X.take k++S++X.drop (k+B.length)).set (k+B.length) c=X.take k++S++[c]++List.replicate (A.length-k-1) 0:=by
  rw[e3,<-hsl,Jv]
 rw[e4];refine⟨?_,?_,?_,?_⟩
 .simp[hs.len];omega
 .exact(((h.words.take k).append hs.words).snoc hs.carry).append (Words.zeros _)
 .rw[val_append,Hb,Da,hsl,val_append,hpl,Ar,Nat.add_mul,<-h.eq,e1];have hb:Al (k+B.length)=Al k*Al B.length:=by unfold Al;rw[Nat.pow_add]
  rw[hb];generalize Al k=b at *;generalize Al B.length=b2 at *;generalize A.getD k 0=x at *;have e5:b*(val S+b2*c)=b*(val B*x+val ((X.drop k).take B.length)):=by rw[e2]
  rw[Nat.mul_add,Nat.mul_add]at e5
  have e6:b*x*val B=b*(val B*x):=by rw[Nat.mul_assoc,Nat.mul_comm x]
  have e7:b*b2*c=b*(b2*c):=Nat.mul_assoc _ _ _;omega
 .rw[List.drop_append_of_le_length (by simp[hs.len];omega),List.drop_of_length_le (by simp[hs.len];omega)];simp;omega
theorem eY (w:World)(pa:Option Addr)(na ca:Nat)(A:List Nat)(pb:Option Addr)(nb cb:Nat)(B:List Nat)(hA:Row w .u32 pa na ca A)(wA:Words A)(hB:Row w .u32 pb nb cb B)(wB:Words B)(hs:na<1000000)(hsb:nb<1000000) :
  Calls Tryz.prog 95 #[.agg #[.slice pa na ca],.agg #[.slice pb nb cb]] w (Fg (val A*val B) w):=by
 have HA:=Af hA.len;have HB:=Af hB.len;have hmk:∀w,(Instr.makeSlice 35 (.int .i64 ((na:Int)+nb)) (.int .i64 ((na:Int)+nb))).run Tryz.prog w=.ok (.slice (some ⟨w.heap.size,0,none⟩) (na+nb) (na+nb)) (w.alloc (.cells (zeros .u32 (na+nb)) 129)) :=
  fun w=>Fz (na+nb) (by omega) w
 go_enter Tryz.func95,Tryz.ntmps95;go_wp2
 go_loopw [19] (fun i wr=>∃k:Nat,∃X,k<=na/\i=.int .i64 k/\Ci w wr (.slice pa na ca) (.slice pb nb cb) (.slice none 0 0)/\La A B k X/\Bi wr (w.heap.size+1+1+1) 129 .u32 X) (fun i _=>na-(intOf i).toNat)
 case atStart=>
  refine⟨0,_,by omega,rfl,Ci.mk' _ _ _ _ _ _ _ _ _,La.start A B,?_⟩;have:=Bi.zeros (((w.alloc (.cells #[.slice pa na ca] 37)).alloc (.cells #[.slice pb nb cb] 37)).alloc (.cells #[.slice none 0 0] 37)) 129 .u32 (na+nb);rw[<-HA.out,<-HB.out];simpa using this
 case round=>
  obtain⟨k,X,hk,rfl,hbx,hX,hblk⟩:=hrel;have c0:=hbx.c0;have c1:=hbx.c1;have c2:=hbx.c2;have f2:=hbx.f2
  by_cases hkn:k<na
  .obtain⟨b,off,rfl,hb,hc⟩:=hA.pos (by omega);obtain⟨x,hx⟩:∃x,A.getD k 0=x:=⟨_,rfl⟩
   have hci:wr.cell? ⟨b,off+k,none⟩=some (.int .u32 (x:Nat)):=by
    rw[(Cd hbx.bel).1 _ _ hb];exact hc k x (by rw[<-hx,Dv];simp[show k<A.length by have:=HA.out;omega])
   have HX:=Af hx;clear hc hx;go_wp2;refine Aj (by kernel_rfl) (by kernel_rfl)
    [some (.slice (some ⟨w.heap.size+1+1+1,0,none⟩) (na+nb) (na+nb)),some (.int .i64 k),some (.pointer (some ⟨w.heap.size+1,0,none⟩)),some (.slice pb nb cb),some (.int .i64 nb),some (.int .i64 ((k:Int)+nb)),
     some (.slice (some ⟨w.heap.size+1+1+1,0,none⟩) (na+nb) (na+nb)),some (.int .i64 k),some (.slice (some ⟨w.heap.size+1+1+1,k,none⟩) (na+nb-k) (na+nb-k)),some (.pointer (some ⟨w.heap.size+1,0,none⟩)),
     some (.slice pb nb cb),some (.int .u32 x),none,some (.pointer (some ⟨w.heap.size+1+1+1,k+nb,none⟩)),none]
    [false,false,false,false,false,false,false,false,false,false,false,false,true,false,true] rfl
    (fun _ _=>True)
    (fun D w'=>Ci w w' (.slice (some ⟨b,off,none⟩) na ca) (.slice pb nb cb) (.slice none 0 0)/\Bi w' (w.heap.size+1+1+1) 129 .u32 (if D 14 then (Ew A B X k).set (k+B.length) (Ko A B X k) else if D 12 then Ew A B X k else X))
    (fun i v _=>i=12->v=.int .u32 (Ko A B X k:Nat))
    (fun _ _ _ _ h _=>h) ⟨hbx.below (Bd _ _).drew (Av _),hblk⟩ ?_ ?_
   .have hk1:(k:Int)<=(na:Int)+nb:=by omega
    have hk2:¬na+nb=k:=by omega
    have hk3:(k:Int)+nb<(na:Int)+nb:=by omega
    have hk4:IntKind.i64.wrap ((k:Int)+nb)=(k:Int)+nb:=IntWalk.i64_in _ (by omega);have hk5:0<=(k:Int)+nb:=by omega
    have hk6:((k:Int)+nb).toNat=k+nb:=by omega
    have hx4:x<4294967296:=by rw[<-HX.out];exact wA.get k
    have hml:(Ew A B X k).length=na+nb:=by
     have h1:=(Lm wB (hX.words.drop k) (wA.get k) B.length).len;have h2:=hX.len;have h3:=HA.out;have h4:=HB.out;rw[Ew,List.length_append,List.length_append,h1,List.length_take,List.length_drop];omega
    simp only[Bh,Nat.reduceAdd];refine⟨?_,?_,?_,?_,?_,?_,?_,?_,?_,?_,?_,?_,?_,?_,?_,trivial⟩
    case refine_13=>
     intro D sp w' hD hW hdp ⟨hbx',hblk'⟩;have h14:D 14=false:=hW 14 (mq (by kernel_rfl));rw[h14,hD]at hblk'
     simp only[Bool.false_eq_true,if_false]at hblk';refine Ad (w1:=w') (f := 158) (args:=#[.slice (some ⟨w.heap.size+1+1+1,k,none⟩) (na+nb-k) (na+nb-k),.slice pb nb cb,.int .u32 x]) rfl (by simp[Act.eval,Act.put,go_sem]) ?_;refine(Ms w' _ k _ _ X pb nb cb B x hblk' hX.words (hB.below hbx'.bel) wB hx4 (fun a ha=>by have:=hB.lt a ha;omega) hsb (by have:=hX.len;have:=HA.out;have:=HB.out;omega) (by omega) (Av _) (by omega)).mono ?_;rintro e w2 ⟨he,hb2,hg2,hs2⟩;refine⟨_,he,trivial,fun _=>?_,hbx'.grown hg2 (by omega),?_⟩
     .rw[Ko,HX.out]
     .simp only[h14,Bool.false_or,decide_true,Bool.or_true,if_true];rw[Ew,HX.out];exact hb2
    case refine_15=>
     intro D sp w' hD hW hdp ⟨hbx',hblk'⟩;have hdp12:=hdp 12 (mq (by kernel_rfl));have h12:=hdp12.1;have hs12':=hdp12.2 rfl;rw[h12,hD]at hblk'
     simp only[Bool.false_eq_true,if_false,if_true]at hblk';have hcl:w'.cell? ⟨w.heap.size+1+1+1,k+nb,none⟩=some (.int .u32 ((Ew A B X k).getD (k+nb) 0:Nat)):=hblk'.cell (by rw[Dv];simp[show k+nb<(Ew A B X k).length by omega]);have hfr:=hblk'.free (k+nb)
     (with_reducible refine Aq (w1:=w'.setCell ⟨w.heap.size+1+1+1,k+nb,none⟩ (.int .u32 (Ko A B X k:Nat))) ?_ ?_ ?_)
     .simp only[Region.wanted]
     .simp[execOp,Act.eval,Act.put,go_sem,hs12',hcl,hfr]
     .refine⟨trivial,fun h=>by simp at h,hbx'.below (B:=w.heap.size+3) ((Bd _ _).setCell (by simp) _) (Av _),?_⟩;simp only[decide_true,Bool.or_true,if_true];rw[<-HB.out];exact hblk'.set _ _
    all_goals
     clear c0 c1 c2 f2;intro D sp w' hD hW hdp ⟨hbx',hblk'⟩;have c1:=hbx'.c1;simp[asked,Region.wanted,Oper.gives,execOp,Act.eval,Act.put,go_sem,c1,hk1,hk2,hk3,hk4,hk5,hk6]
   .intro sp w' hsp ⟨hbx',hblk'⟩;simp only[Ak,Nat.reduceAdd];have hblk2:Bi w' (w.heap.size+1+1+1) 129 .u32 ((Ew A B X k).set (k+B.length) (Ko A B X k)):=hblk';clear hblk' hsp
    go_simp
    go_wp2;go_roundw
    case rel=>
     refine⟨k+1,_,by omega,by go_num,hbx',hX.step wA wB (by have:=HA.out;omega),hblk2⟩
    case measure=>simp[intOf];omega
  .have hkn':na<=k:=by omega
   have hrow:=hblk.row (n:=na+nb) (c:=na+nb) (by have:=hX.len;have:=HA.out;have:=HB.out;omega) (Av _) (by omega)
   go_wp2_with fail
   refine(Ca _ _ _ _ _ hrow hX.words).mono ?_;rintro e w2 ⟨p,n,c,rfl,hn,hb2,hp⟩;have hbx3:=hbx.later hb2;have k2:=hbx3.c2;have e2:=hbx3.f2;have hn':El (w.heap.size+3) p:=by
    intro q hq;rcases hp with rfl|rfl
    .cases hq
    .cases hq;simp
   have hv:val X=val A*val B:=by
    rw[hX.eq,List.take_of_length_le (by have:=HA.out;omega)]
   have HV:=Af hv;clear hv;go_wp2;refine bodyPost_ret (v:=.agg #[.slice p n c]) (by simp[results,Tryz.results95,go_sem,k2]) rfl ⟨p,n,c,rfl,?_,?_,hn'.mono (by omega)⟩
   .rw[<-HV.out];exact hn.setCell (a:=⟨w.heap.size+1+1,0,none⟩) (hn'.ne (show w.heap.size+1+1<w.heap.size+3 by omega)) (.slice p n c)
   .exact hbx3.bel.setCell (by simp;omega) _
theorem Zh (w:World)(pa:Option Addr)(na ca N:Nat)(pb:Option Addr)(nb cb M:Nat)(hA:Ah w pa na ca N)(hB:Ah w pb nb cb M)(ha:na<1000000)(hb:nb<1000000) :
  Calls Tryz.prog 95 #[.agg #[.slice pa na ca],.agg #[.slice pb nb cb]] w (Fg (N*M) w):=by
 obtain⟨A,h1,h2,_,rfl⟩:=hA.ex;obtain⟨B,k1,k2,_,rfl⟩:=hB.ex;exact eY w pa na ca A pb nb cb B h1 h2 k1 k2 ha hb
end Go.Proofs.YtokhckjemidbpaaGreatDoor
