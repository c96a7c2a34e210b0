/- Contracts as the laws use them. -/
import Derived.Test.YtokhckjemidbpaaGreatDoorShaA
import Derived.Laws.BytesArg
import Derived.Laws.BytesString
import Derived.WideShapes
import Derived.Test.YtokhckjemidbpaaGreatDoorNatU
import Derived.Test.YtokhckjemidbpaaGreatDoorFlowR
set_option maxRecDepth 1000000
set_option maxHeartbeats 16000000
set_option linter.all false
namespace Go.Proofs.YtokhckjemidbpaaGreatDoor
open Go Go.RowKit
structure Qj (W X:List Nat) (t k:Nat) (S:List Nat) (cy:Nat):Prop where
 len:S.length=k
 words:Words S
 carry:cy<4294967296
 eq:val S+Al k*cy=val (W.take k)*t+val (X.take k)
theorem Qj.start (W X:List Nat)(t:Nat):Qj W X t 0 [] 0:=⟨rfl,Words.nil,by omega,by simp[val]⟩
theorem Ke {x t:Nat}(hx:x<4294967296)(ht:t<4294967296):x*t<=18446744065119617025:=by
 have:=Nat.mul_le_mul (Nat.le_of_lt_succ (show x<4294967295+1 by omega)) (Nat.le_of_lt_succ (show t<4294967295+1 by omega));omega
theorem Qj.step {W X:List Nat}{t k:Nat}{S:List Nat}{cy:Nat}(h:Qj W X t k S cy)(hW:Words W)(hX:Words X)(ht:t<4294967296) :
  Qj W X t (k+1) (S++[(cy+(W.getD k 0*t+X.getD k 0))%4294967296]) ((cy+(W.getD k 0*t+X.getD k 0))/4294967296):=by
 have h1:=hW.get k;have h2:=hX.get k;have h3:=h.carry;have h4:=Ke h1 ht;refine⟨by simp[h.len],h.words.snoc (Nat.mod_lt _ (by omega)),by omega,?_⟩;rw[Db,h.len,Au,Au,Bl];have e:=h.eq;generalize W.getD k 0=x at *;generalize X.getD k 0=y at *;have hd:=Nat.div_add_mod (cy+(x*t+y)) 4294967296;generalize (cy+(x*t+y))/4294967296=q at *;generalize (cy+(x*t+y))%4294967296=r at *;generalize Al k=b at *;have e2:b*r+4294967296*b*q=b*(cy+(x*t+y)):=by
  rw[<-hd,Nat.mul_add,Nat.mul_comm 4294967296 b,Nat.mul_assoc,Nat.add_comm]
 have e3:(val (W.take k)+b*x)*t=val (W.take k)*t+b*(x*t):=by rw[Nat.add_mul,Nat.mul_assoc]
 simp only[Nat.mul_add]at e2;omega
def Hl (W X:List Nat)(t:Nat):Nat->List Nat×Nat
 | 0=>([],0)
 | k+1=>((Hl W X t k).1++[((Hl W X t k).2+(W.getD k 0*t+X.getD k 0))%4294967296],((Hl W X t k).2+(W.getD k 0*t+X.getD k 0))/4294967296)
theorem Lw {W X:List Nat}{t:Nat}(hW:Words W)(hX:Words X)(ht:t<4294967296):∀k,Qj W X t k (Hl W X t k).1 (Hl W X t k).2
 | 0=>Qj.start W X t
 | k+1=>(Lw hW hX ht k).step hW hX ht
theorem Bj.mid {w:World}{g:Nat}{e:TypeId}{k:IntKind}{xs S:List Nat}{o i:Nat}(h:Bj w g e k (xs.take o++S++xs.drop (o+i)))(hs:S.length=i)(ho:o+i<xs.length)(x:Nat) :
  w.cell? ⟨g,o+i,none⟩=some (.int k (xs.getD (o+i) 0:Nat))/\Bj (w.setCell ⟨g,o+i,none⟩ (.int k x)) g e k (xs.take o++(S++[x])++xs.drop (o+(i+1))):=by
 have hl:(xs.take o++S).length=o+i:=by simp;omega
 have hd:xs.drop (o+i)=xs.getD (o+i) 0::xs.drop (o+(i+1)):=by
  rw[List.drop_eq_getElem_cons ho,Dw];simp[ho,Nat.add_assoc]
 rw[hd]at h
 constructor
 .refine h.cell ?_;rw[List.getElem?_append_right (by omega),hl];simp
 .have:=h.set (o+i) x;rw[List.set_append_right _ _ (by omega),hl,Nat.sub_self,List.set_cons_zero]at this
  rw[show xs.take o++(S++[x])++xs.drop (o+(i+1))=xs.take o++S++x::xs.drop (o+(i+1)) by simp];exact this
theorem grownBy_refl (w:World)(r:Option Nat):w.grownBy w r:=⟨rfl,rfl,rfl,Ar _,fun _ _ _=>rfl⟩
theorem grownBy_trans {a b c:World}{r:Option Nat}(h:a.grownBy b r)(k:b.grownBy c r):a.grownBy c r :=
 ⟨k.os.trans h.os,k.tape.trans h.tape,k.output.trans h.output,Ep h.size k.size,fun i hi hr=>(k.block i (De hi h.size) hr).trans (h.block i hi hr)⟩
theorem grownBy_setCell (w:World)(g i:Nat)(u:Value):w.grownBy (w.setCell ⟨g,i,none⟩ u) (some g) :=
 ⟨rfl,rfl,rfl,by simp,fun k _ hk=>heap_setCell_other w ⟨g,i,none⟩ k u (fun e=>hk (by simp[e]))⟩
theorem Row.grown {w w':World}{k:IntKind}{p:Option Addr}{n c:Nat}{xs:List Nat}{g:Nat}(h:Row w k p n c xs)(hg:w.grownBy w' (some g))(hp:∀q,p=some q->q.block≠g):Row w' k p n c xs:=by
 refine⟨h.len,h.cap,h.max,?_⟩;rcases h.at_ with h1|⟨b,off,h1,h2,h3⟩
 .exact .inl h1
 .have hne:=hp _ h1;refine .inr ⟨b,off,h1,De h2 hg.size,fun i x hx=>?_⟩;exact hg.cell (h3 i x hx) (fun e=>hne (Option.some.inj e))
def cL (W xs:List Nat)(t o g:Nat)(e:TypeId)(w:World)(en:Ending)(w':World):Prop :=
 en=.returned (.int .u32 ((Hl W (xs.drop o) t W.length).2:Nat))/\Bj w' g e .u32 (xs.take o++(Hl W (xs.drop o) t W.length).1++xs.drop (o+W.length))/\w.grownBy w' (some g)/\w'.heap.size=w.heap.size
theorem Ng (w:World)(g o n c:Nat)(xs:List Nat)(q:Option Addr)(m d:Nat)(W:List Nat)(t:Nat)(hg:Bj w g 129 .u32 xs)(hx:Words xs)(hW:Row w .u32 q m d W)(wW:Words W)(ht:t<4294967296)(hq:∀a,q=some a->a.block≠g)(hm:m<1000000)(ho:o+m<=xs.length)(hn:m<=n)(hc:n<=c)(hc2:c<9223372036854775807) :
  Calls Tryz.prog 158 #[.slice (some ⟨g,o,none⟩) n c,.slice q m d,.int .u32 t] w (cL W xs t o g 129 w):=by
 have HW:=Ag hW.len;go_enter Tryz.func158,Tryz.ntmps158;go_wp2
 go_loopw [7,12] (fun cy i wr=>∃k y:Nat,∃S,k<=m/\i=.int .i64 k/\cy=.int .u64 y/\Hl W (xs.drop o) t k=(S,y)/\Bj wr g 129 .u32 (xs.take o++S++xs.drop (o+k))/\w.grownBy wr (some g)/\wr.heap.size<=w.heap.size) (fun _ i _=>m-(intOf i).toNat)
 case atStart=>exact⟨0,0,[],by omega,rfl,rfl,rfl,by rw[List.append_nil,Nat.add_zero,List.take_append_drop];exact hg,grownBy_refl _ _,Ar _⟩
 case round=>
  obtain⟨k,y,S,hk,rfl,rfl,hS,hblk,hgr,hsz⟩:=hrel;have hst:=Lw wW (hx.drop o) ht k;rw[hS]at hst
  have hy:=hst.carry;have hsl:=hst.len;simp only at hy hsl;have HS:=Ag hS;have HSL:=Ag hsl;clear hS hst hsl
  by_cases hkm:k<m
  .obtain⟨b,off,rfl,hb,hcell⟩:=(hW.grown hgr hq).pos (by omega);obtain⟨x,hxk⟩:∃x,W.getD k 0=x:=⟨_,rfl⟩
   obtain⟨z,hz⟩:∃z,xs.getD (o+k) 0=z:=⟨_,rfl⟩
   have hci:wr.cell? ⟨b,off+k,none⟩=some (.int .u32 (x:Nat)):=hcell k x (by rw[<-hxk,Dw];simp[show k<W.length by have:=HW.out;omega]);have hmid:=fun u=>Bj.mid hblk HSL.out (by omega) u
   have hcz:=(hmid 0).1;rw[hz]at hcz
   have hfz:=hblk.free (o+k);have hx1:x<4294967296:=by rw[<-hxk];exact wW.get k
   have hz1:z<4294967296:=by rw[<-hz];exact hx.get _
   have hp:=Ke hx1 ht;have hp':(x:Int)*t<=18446744065119617025:=by rw[<-Int.natCast_mul];omega
   have hp0:0<=(x:Int)*t:=by rw[<-Int.natCast_mul];omega
   have HX:=Ag hxk;have HZ:=Ag hz;have HM:=Ag (fun u=>(hmid u).2);clear hcell hxk hz hmid hp;go_wp2;go_roundw
   case rel=>
    have hzd:(xs.drop o).getD k 0=z:=by rw[Dw,List.getElem?_drop,<-Dw];exact HZ.out
    refine⟨k+1,(y+(x*t+z))/4294967296,S++[(y+(x*t+z))%4294967296],by omega,by go_num,?_,by rw[Hl,HS.out,HX.out,hzd],?_,?_,by simpa using hsz⟩
    .exact congrArg (Value.int .u64) (by rw[<-Int.natCast_mul];omega)
    .have:=HM.out ((y+(x*t+z))%4294967296);have e:(((y+(x*t+z))%4294967296:Nat):Int)=((y:Int)+((x:Int)*t+z))%4294967296:=by rw[<-Int.natCast_mul];omega
     rw[e]at this
     exact this
    .exact grownBy_trans hgr (grownBy_setCell _ _ _ _)
   case measure=>simp[intOf];omega
  .have hkm':m<=k:=by omega
   have hkl:k=W.length:=by have:=HW.out;omega
   have HK:=Ag hkl;clear hkl;go_wp2;go_ret;refine⟨?_,by rw[<-HK.out,HS.out];exact hblk,hgr,Nat.le_antisymm hsz hgr.size⟩;rw[<-HK.out,HS.out];exact congrArg (fun z=>Ending.returned (.int .u32 z)) (by omega)
open Go Go.RowKit Go.Proofs.YtokhckjemidbpaaGreatDoor.Flow
structure Ll (A B:List Nat) (k:Nat) (X:List Nat):Prop where
 len:X.length=A.length+B.length
 words:Words X
 eq:val X=val (A.take k)*val B
 rest:X.drop (k+B.length)=List.replicate (A.length-k) 0
theorem Ll.start (A B:List Nat):Ll A B 0 (List.replicate (A.length+B.length) 0) :=
 ⟨by simp,Words.zeros _,by rw[Hj];simp[val],by simp⟩
def Ff (A B X:List Nat)(k:Nat):List Nat:=X.take k++(Hl B (X.drop k) (A.getD k 0) B.length).1++X.drop (k+B.length)
def Kz (A B X:List Nat)(k:Nat):Nat:=(Hl B (X.drop k) (A.getD k 0) B.length).2
theorem Ll.step {A B X:List Nat}{k:Nat}(h:Ll A B k X)(hA:Words A)(hB:Words B)(hk:k<A.length):Ll A B (k+1) ((Ff A B X k).set (k+B.length) (Kz A B X k)):=by
 have hs:=Lw hB (h.words.drop k) (hA.get k) B.length;unfold Ff Kz;generalize (Hl B (X.drop k) (A.getD k 0) B.length).1=S at *;generalize (Hl B (X.drop k) (A.getD k 0) B.length).2=c at *;have hl:=h.len;have hx:X=X.take k++(X.drop k).take B.length++X.drop (k+B.length):=by
  rw[List.append_assoc,<-List.drop_drop,List.take_append_drop,List.take_append_drop]
 have hpl:(X.take k).length=k:=by simp;omega
 have hml:((X.drop k).take B.length).length=B.length:=by simp;omega
 have e1:val X=val (X.take k)+Al k*val ((X.drop k).take B.length):=by
  conv=>lhs;rw[hx]
  rw[val_append,val_append,h.rest,Hj,hpl];simp
 have e2:=hs.eq;rw[List.take_of_length_le (Ar _)]at e2
 have e3:X.take k++S++X.drop (k+B.length)=(X.take k++S)++List.replicate (A.length-k-1+1) 0:=by
  rw[h.rest];congr 2;omega
 have hsl:(X.take k++S).length=k+B.length:=by simp[hs.len];omega
 have e4:(X.take k++S++X.drop (k+B.length)).set (k+B.length) c=X.take k++S++[c]++List.replicate (A.length-k-1) 0:=by
  rw[e3,<-hsl,Kc]
 rw[e4];refine⟨?_,?_,?_,?_⟩
 .simp[hs.len];omega
 .exact(((h.words.take k).append hs.words).snoc hs.carry).append (Words.zeros _)
 .rw[val_append,Hj,Db,hsl,val_append,hpl,Au,Nat.add_mul,<-h.eq,e1];have hb:Al (k+B.length)=Al k*Al B.length:=by unfold Al;rw[Nat.pow_add]
  rw[hb];generalize Al k=b at *;generalize Al B.length=b2 at *;generalize A.getD k 0=x at *;have e5:b*(val S+b2*c)=b*(val B*x+val ((X.drop k).take B.length)):=by rw[e2]
  rw[Nat.mul_add,Nat.mul_add]at e5
  have e6:b*x*val B=b*(val B*x):=by rw[Nat.mul_assoc,Nat.mul_comm x]
  have e7:b*b2*c=b*(b2*c):=Nat.mul_assoc _ _ _;omega
 .rw[List.drop_append_of_le_length (by simp[hs.len];omega),List.drop_of_length_le (by simp[hs.len];omega)];simp;omega
theorem gT (w:World)(pa:Option Addr)(na ca:Nat)(A:List Nat)(pb:Option Addr)(nb cb:Nat)(B:List Nat)(hA:Row w .u32 pa na ca A)(wA:Words A)(hB:Row w .u32 pb nb cb B)(wB:Words B)(hs:na<1000000)(hsb:nb<1000000) :
  Calls Tryz.prog 95 #[.agg #[.slice pa na ca],.agg #[.slice pb nb cb]] w (Fn (val A*val B) w):=by
 have HA:=Ag hA.len;have HB:=Ag hB.len;have hmk:∀w,(Instr.makeSlice 35 (.int .i64 ((na:Int)+nb)) (.int .i64 ((na:Int)+nb))).run Tryz.prog w=.ok (.slice (some ⟨w.heap.size,0,none⟩) (na+nb) (na+nb)) (w.alloc (.cells (zeros .u32 (na+nb)) 129)) :=
  fun w=>Gj (na+nb) (by omega) w
 go_enter Tryz.func95,Tryz.ntmps95;go_wp2
 go_loopw [19] (fun i wr=>∃k:Nat,∃X,k<=na/\i=.int .i64 k/\Cj w wr (.slice pa na ca) (.slice pb nb cb) (.slice none 0 0)/\Ll A B k X/\Bj wr (w.heap.size+1+1+1) 129 .u32 X) (fun i _=>na-(intOf i).toNat)
 case atStart=>
  refine⟨0,_,by omega,rfl,Cj.mk' _ _ _ _ _ _ _ _ _,Ll.start A B,?_⟩;have:=Bj.zeros (((w.alloc (.cells #[.slice pa na ca] 37)).alloc (.cells #[.slice pb nb cb] 37)).alloc (.cells #[.slice none 0 0] 37)) 129 .u32 (na+nb);rw[<-HA.out,<-HB.out];simpa using this
 case round=>
  obtain⟨k,X,hk,rfl,hbx,hX,hblk⟩:=hrel;have c0:=hbx.c0;have c1:=hbx.c1;have c2:=hbx.c2;have f2:=hbx.f2
  by_cases hkn:k<na
  .obtain⟨b,off,rfl,hb,hc⟩:=hA.pos (by omega);obtain⟨x,hx⟩:∃x,A.getD k 0=x:=⟨_,rfl⟩
   have hci:wr.cell? ⟨b,off+k,none⟩=some (.int .u32 (x:Nat)):=by
    rw[(Ce hbx.bel).1 _ _ hb];exact hc k x (by rw[<-hx,Dw];simp[show k<A.length by have:=HA.out;omega])
   have HX:=Ag hx;clear hc hx;go_wp2;refine Aj (by kernel_rfl) (by kernel_rfl)
    [some (.slice (some ⟨w.heap.size+1+1+1,0,none⟩) (na+nb) (na+nb)),some (.int .i64 k),some (.pointer (some ⟨w.heap.size+1,0,none⟩)),some (.slice pb nb cb),some (.int .i64 nb),some (.int .i64 ((k:Int)+nb)),
     some (.slice (some ⟨w.heap.size+1+1+1,0,none⟩) (na+nb) (na+nb)),some (.int .i64 k),some (.slice (some ⟨w.heap.size+1+1+1,k,none⟩) (na+nb-k) (na+nb-k)),some (.pointer (some ⟨w.heap.size+1,0,none⟩)),
     some (.slice pb nb cb),some (.int .u32 x),none,some (.pointer (some ⟨w.heap.size+1+1+1,k+nb,none⟩)),none]
    [false,false,false,false,false,false,false,false,false,false,false,false,true,false,true] rfl
    (fun _ _=>True)
    (fun D w'=>Cj w w' (.slice (some ⟨b,off,none⟩) na ca) (.slice pb nb cb) (.slice none 0 0)/\Bj w' (w.heap.size+1+1+1) 129 .u32 (if D 14 then (Ff A B X k).set (k+B.length) (Kz A B X k) else if D 12 then Ff A B X k else X))
    (fun i v _=>i=12->v=.int .u32 (Kz A B X k:Nat))
    (fun _ _ _ _ h _=>h) ⟨hbx.below (Bf _ _).drew (Ar _),hblk⟩ ?_ ?_
   .have hk1:(k:Int)<=(na:Int)+nb:=by omega
    have hk2:¬na+nb=k:=by omega
    have hk3:(k:Int)+nb<(na:Int)+nb:=by omega
    have hk4:IntKind.i64.wrap ((k:Int)+nb)=(k:Int)+nb:=IntWalk.i64_in _ (by omega);have hk5:0<=(k:Int)+nb:=by omega
    have hk6:((k:Int)+nb).toNat=k+nb:=by omega
    have hx4:x<4294967296:=by rw[<-HX.out];exact wA.get k
    have hml:(Ff A B X k).length=na+nb:=by
     have h1:=(Lw wB (hX.words.drop k) (wA.get k) B.length).len;have h2:=hX.len;have h3:=HA.out;have h4:=HB.out;rw[Ff,List.length_append,List.length_append,h1,List.length_take,List.length_drop];omega
    simp only[Bi,Nat.reduceAdd];refine⟨?_,?_,?_,?_,?_,?_,?_,?_,?_,?_,?_,?_,?_,?_,?_,trivial⟩
    case refine_13=>
     intro D sp w' hD hW hdp ⟨hbx',hblk'⟩;have h14:D 14=false:=hW 14 (mq (by kernel_rfl));rw[h14,hD]at hblk'
     simp only[Bool.false_eq_true,if_false]at hblk';refine Ad (w1:=w') (f := 158) (args:=#[.slice (some ⟨w.heap.size+1+1+1,k,none⟩) (na+nb-k) (na+nb-k),.slice pb nb cb,.int .u32 x]) rfl (by simp[Act.eval,Act.put,go_sem]) ?_;refine(Ng w' _ k _ _ X pb nb cb B x hblk' hX.words (hB.below hbx'.bel) wB hx4 (fun a ha=>by have:=hB.lt a ha;omega) hsb (by have:=hX.len;have:=HA.out;have:=HB.out;omega) (by omega) (Ar _) (by omega)).mono ?_;rintro e w2 ⟨he,hb2,hg2,hs2⟩;refine⟨_,he,trivial,fun _=>?_,hbx'.grown hg2 (by omega),?_⟩
     .rw[Kz,HX.out]
     .simp only[h14,Bool.false_or,decide_true,Bool.or_true,if_true];rw[Ff,HX.out];exact hb2
    case refine_15=>
     intro D sp w' hD hW hdp ⟨hbx',hblk'⟩;have hdp12:=hdp 12 (mq (by kernel_rfl));have h12:=hdp12.1;have hs12':=hdp12.2 rfl;rw[h12,hD]at hblk'
     simp only[Bool.false_eq_true,if_false,if_true]at hblk';have hcl:w'.cell? ⟨w.heap.size+1+1+1,k+nb,none⟩=some (.int .u32 ((Ff A B X k).getD (k+nb) 0:Nat)):=hblk'.cell (by rw[Dw];simp[show k+nb<(Ff A B X k).length by omega]);have hfr:=hblk'.free (k+nb)
     (with_reducible refine Ap (w1:=w'.setCell ⟨w.heap.size+1+1+1,k+nb,none⟩ (.int .u32 (Kz A B X k:Nat))) ?_ ?_ ?_)
     .simp only[Region.wanted]
     .simp[execOp,Act.eval,Act.put,go_sem,hs12',hcl,hfr]
     .refine⟨trivial,fun h=>by simp at h,hbx'.below (B:=w.heap.size+3) ((Bf _ _).setCell (by simp) _) (Ar _),?_⟩;simp only[decide_true,Bool.or_true,if_true];rw[<-HB.out];exact hblk'.set _ _
    all_goals
     clear c0 c1 c2 f2;intro D sp w' hD hW hdp ⟨hbx',hblk'⟩;have c1:=hbx'.c1;simp[asked,Region.wanted,Oper.gives,execOp,Act.eval,Act.put,go_sem,c1,hk1,hk2,hk3,hk4,hk5,hk6]
   .intro sp w' hsp ⟨hbx',hblk'⟩;simp only[Am,Nat.reduceAdd];have hblk2:Bj w' (w.heap.size+1+1+1) 129 .u32 ((Ff A B X k).set (k+B.length) (Kz A B X k)):=hblk';clear hblk' hsp
    go_simp
    go_wp2;go_roundw
    case rel=>
     refine⟨k+1,_,by omega,by go_num,hbx',hX.step wA wB (by have:=HA.out;omega),hblk2⟩
    case measure=>simp[intOf];omega
  .have hkn':na<=k:=by omega
   have hrow:=hblk.row (n:=na+nb) (c:=na+nb) (by have:=hX.len;have:=HA.out;have:=HB.out;omega) (Ar _) (by omega)
   go_wp2_with fail
   refine(Cb _ _ _ _ _ hrow hX.words).mono ?_;rintro e w2 ⟨p,n,c,rfl,hn,hb2,hp⟩;have hbx3:=hbx.later hb2;have k2:=hbx3.c2;have e2:=hbx3.f2;have hn':Et (w.heap.size+3) p:=by
    intro q hq;rcases hp with rfl|rfl
    .cases hq
    .cases hq;simp
   have hv:val X=val A*val B:=by
    rw[hX.eq,List.take_of_length_le (by have:=HA.out;omega)]
   have HV:=Ag hv;clear hv;go_wp2;refine bodyPost_ret (v:=.agg #[.slice p n c]) (by simp[results,Tryz.results95,go_sem,k2]) rfl ⟨p,n,c,rfl,?_,?_,hn'.mono (by omega)⟩
   .rw[<-HV.out];exact hn.setCell (a:=⟨w.heap.size+1+1,0,none⟩) (hn'.ne (show w.heap.size+1+1<w.heap.size+3 by omega)) (.slice p n c)
   .exact hbx3.bel.setCell (by simp;omega) _
theorem aK (w:World)(pa:Option Addr)(na ca N:Nat)(pb:Option Addr)(nb cb M:Nat)(hA:Ah w pa na ca N)(hB:Ah w pb nb cb M)(ha:na<1000000)(hb:nb<1000000) :
  Calls Tryz.prog 95 #[.agg #[.slice pa na ca],.agg #[.slice pb nb cb]] w (Fn (N*M) w):=by
 obtain⟨A,h1,h2,_,rfl⟩:=hA.ex;obtain⟨B,k1,k2,_,rfl⟩:=hB.ex;exact gT w pa na ca A pb nb cb B h1 h2 k1 k2 ha hb
def Nk (m:List Nat)(w:World)(e:Ending)(w':World):Prop:=∃g,e=.returned (.pointer (some ⟨g,0,none⟩))/\w.heap.size<=g/\Below w.heap.size w w'/\Bm w' g m
theorem Bm.new {w:World}{g:Nat}(h:Dr w g Hm (List.replicate 64 0) 0):Bm w g [] :=
 ⟨List.replicate 64 0,by simp,fun x hx=>by have:=(List.mem_replicate.1 hx).2;omega,h,rfl⟩
def Ru:List Value:=Bn (List.replicate 8 0) (List.replicate 64 0) 0
def hlen (L:Nat):List Value:=Bn (List.replicate 8 0) (List.replicate 64 0) L
theorem Vn (L:Nat):(hlen L).length=73:=rfl
theorem Ma:Ru.length=73:=rfl
theorem Rd (w:World):(zeroValue 278).run Tryz.prog w=.ok (.agg Ru.toArray) w:=by
 have h:(Tryz.prog.info? 278).map (·.zero)=some (some (.agg Ru.toArray)):=by kernel_rfl
 cases hi:Tryz.prog.info? 278 with
 | none=>rw[hi]at h;cases h
 | some i=>
  rw[hi]at h
  have hz:i.zero=some (.agg Ru.toArray):=by simpa using h
  simp[zeroValue,typeInfo,hi,hz]
theorem Lt (w:World)(hT:Tabs w):Calls Tryz.prog 187 #[] w (Nk [] w):=by
 have hz:=Rd;have hzl:=Ma;obtain⟨t0,fr0,hf0⟩:=hT.first
 have hi8:(Tryz.prog.info? 276).map (·.size)=some (Hm.map fun(x:Nat)=>Value.int .u32 x).toArray.size:=by
  rw[show (Hm.map fun(x:Nat)=>Value.int .u32 x).toArray.size=8 by rfl];kernel_rfl
 go_enter Tryz.func187,Tryz.ntmps187
 go_wp2_with (refine wpList_load_row rfl 276 _ rfl 0 rfl t0 (Hm.map fun(x:Nat)=>Value.int .u32 x).toArray fr0 _ hf0 Tryz.underlying276 rfl hi8 ?_)
 have hf:(List.foldl (fun(cs:Array Value) x=>cs.setIfInBounds x.snd x.fst) Ru.toArray (Hm.map fun(x:Nat)=>Value.int .u32 x).zipIdx)=(Bn Hm (List.replicate 64 0) 0).toArray:=by kernel_rfl
 refine bodyPost_ret (v:=.pointer (some ⟨w.heap.size,0,none⟩)) (by simp[results,Tryz.results187,go_sem]) rfl ⟨_,rfl,Ar _,(Bf _ _).alloc (Ar _) _,Bm.new ?_⟩;rw[hf];exact heap_alloc_new w _
theorem Ul (w:World)(b off:Nat) :
  (Instr.sliceAt 276 (.pointer (some ⟨b,off,none⟩)) none none none).run Tryz.prog w=.ok (.slice (some ⟨b,off,none⟩) 8 8) w:=by
 have hlen:Tryz.prog.arrayLen 276 = 8:=by kernel_rfl
 rw[run_sliceAt_array_all w 276 ⟨b,off,none⟩ Tryz.underlying276,hlen];have hs:(sizeOf (Tryz.prog.elem 276)).run Tryz.prog w=.ok 1 w:=by
  have:Tryz.prog.elem 276 = 129 := by kernel_rfl
  rw[this];simp[go_sem]
 rw[hs];simp[slicedAt,Addr.add]
theorem Um (w:World)(b off:Nat) :
  (Instr.sliceAt 272 (.pointer (some ⟨b,off,none⟩)) none none none).run Tryz.prog w=.ok (.slice (some ⟨b,off,none⟩) 64 64) w:=by
 have hlen:Tryz.prog.arrayLen 272 = 64:=by kernel_rfl
 rw[run_sliceAt_array_all w 272 ⟨b,off,none⟩ Tryz.underlying272,hlen];have hs:(sizeOf (Tryz.prog.elem 272)).run Tryz.prog w=.ok 1 w:=by
  have:Tryz.prog.elem 272 = 5 := by kernel_rfl
  rw[this];simp[go_sem]
 rw[hs];simp[slicedAt,Addr.add]
theorem Lh (w:World)(g:Nat)(m:List Nat)(hH:Bm w g m):Calls Tryz.prog 223 #[.pointer (some ⟨g,0,none⟩)] w (Nk m w):=by
 obtain⟨pend,q1,q2,q3,q4⟩:=hH.ex;have hst8:=Df m (m.length/64);obtain⟨st,hst⟩:∃st,blocks m (m.length/64)=st:=⟨_,rfl⟩
 obtain⟨L,hL⟩:∃L,m.length%18446744073709551616=L:=⟨_,rfl⟩
 have c72:=q3.cell (Hz hst8 q1);have HST:=Ag hst;have HL:=Ag hL;rw[hL]at c72 q3
 rw[hst]at q3 hst8
 have hlt:=q3.lt;have hz:=Rd;have hzl:=Ma;have HQ3:=Ag q3;have hcS:∀(j:Nat) (v:Value),(st.map fun(x:Nat)=>Value.int .u32 x)[j]? = some v->w.cell? ((⟨g,0,none⟩:Addr).add j)=some v:=fun j v hv=>by
  rw[List.getElem?_map]at hv
  obtain⟨x,hx,rfl⟩:=Option.map_eq_some_iff.1 hv;have hj:j<8:=by have:=(List.getElem?_eq_some_iff.1 hx).1;omega
  rw[add_plain,Nat.zero_add];refine q3.cell ?_;rw[Fw hst8 hj,Dw,hx];rfl
 have hcP:∀(j:Nat) (v:Value),(pend.map fun(x:Nat)=>Value.int .u8 x)[j]? = some v->w.cell? ((⟨g,8,none⟩:Addr).add j)=some v:=fun j v hv=>by
  rw[List.getElem?_map]at hv
  obtain⟨x,hx,rfl⟩:=Option.map_eq_some_iff.1 hv;have hj:j<64:=by have:=(List.getElem?_eq_some_iff.1 hx).1;omega
  rw[add_plain];refine q3.cell ?_;rw[Oa hst8 q1 hj,Dw,hx];rfl
 have HS8:=Ag hst8;have HQ1:=Ag q1;have HCS:=Ag hcS;have HCP:=Ag hcP;have hOne:∀(k:IntKind) (xs:List Nat),∀v∈(xs.map fun(x:Nat)=>Value.int k x),v.oneCell'=true:=fun k xs v hv=>by
  obtain⟨x,_,rfl⟩:=List.mem_map.1 hv;rfl
 have HON:=Ag hOne;have hset:Ru.set 72 (.int .u64 (L:Nat))=hlen L:=Jk (by simp) (by simp);clear hL hst q3 hcS hcP hOne;obtain⟨csS,hcsS⟩:∃cs,(st.map fun(x:Nat)=>Value.int .u32 x)=cs:=⟨_,rfl⟩
 obtain⟨csP,hcsP⟩:∃cs,(pend.map fun(x:Nat)=>Value.int .u8 x)=cs:=⟨_,rfl⟩
 have hlS:csS.length=8:=by rw[<-hcsS,List.length_map];exact hst8
 have hlP:csP.length=64:=by rw[<-hcsP,List.length_map];exact q1
 have HSP1:Hid (splice (hlen L) 0 csS=Bn st (List.replicate 64 0) L):=by rw[<-hcsS];exact Sk (by simp) hst8
 have HSP2:Hid (splice (Bn st (List.replicate 64 0) L) 8 csP=Bn st pend L):=by
  rw[<-hcsP];have h:=Nq (st:=st) (pend:=List.replicate 64 0) (len:=L) (xs:=pend) (r:=0) hst8 (by simp[q1]);refine h.trans ?_
  congr 1
  unfold splice;rw[List.take_zero,List.nil_append,List.drop_of_length_le (by simp[q1]),List.append_nil]
 rw[hcsS]at HCS
 rw[hcsP]at HCP
 have HO1:Hid (∀v∈csS,v.oneCell'=true):=by rw[<-hcsS];exact HON.out _ _
 have HO2:Hid (∀v∈csP,v.oneCell'=true):=by rw[<-hcsP];exact HON.out _ _
 clear hcsS hcsP hst8 q1;go_enter Tryz.func223,Tryz.ntmps223;go_wp2;have hn0:=heap_alloc_new w (.cells (hlen L).toArray 278);have hb0:Below w.heap.size w (w.alloc (.cells (hlen L).toArray 278)):=Bt;have hsz0:w.heap.size<(w.alloc (.cells (hlen L).toArray 278)).heap.size:=by simp
 generalize w.alloc (.cells (hlen L).toArray 278)=w1 at *;have HN0:=Ag hn0;have hcS1:∀(j:Nat) (v:Value),csS[j]? = some v->w1.cell? ((⟨g,0,none⟩:Addr).add j)=some v:=fun j v hv=>by
  have h:=HCS.out j v hv;rw[add_plain]at h ⊢
  rw[(Ce hb0).1 _ _ hlt];exact h
 have HCS1:=Ag hcS1;have HF1:Hid (0+csS.length<=(hlen L).length):=by show 0+csS.length<=(hlen L).length;rw[hlS,Vn];omega
 have HM1:Hid (csS.length=Nat.min 8 8):=hlS;clear hcS1 hn0 hset;have hsl1:=Ul;have hsl2:=Um
 go_region_law (refine Hc rfl (.tmp 15) (.tmp 19) 35 35 rfl 129 Tryz.underlying35 (by kernel_rfl) (some ⟨w.heap.size,0,none⟩) (some ⟨g,0,none⟩) 8 8 8 8 (by simp[Act.eval,Act.put,go_sem]) (by simp[Act.eval,Act.put,go_sem]) w.heap.size 0 (hlen L) 278 HN0.out csS HM1.out (fun _=>⟨rfl,_,rfl,HCS1.out⟩) HF1.out HO1.out ?_;intro w4 hg4 hb4)
 rw[HSP1.out]at hg4
 have hb5:Below w.heap.size w w4:=hb0.trans ((hb4.of_drew).below (Ar _) (Nat.le_of_lt hsz0));have hcP1:∀(j:Nat) (v:Value),csP[j]? = some v->w4.cell? ((⟨g,8,none⟩:Addr).add j)=some v:=fun j v hv=>by
  have h:=HCP.out j v hv;rw[add_plain]at h ⊢
  rw[(Ce hb5).1 _ _ hlt];exact h
 have HCP1:=Ag hcP1;have HB5:=Ag hb5;have HF2:Hid (8+csP.length<=(Bn st (List.replicate 64 0) L).length):=by show 8+csP.length<=List.length _;rw[hlP,Ku HS8.out (by simp)];omega
 have HM2:Hid (csP.length=Nat.min 64 64):=hlP;obtain⟨cur,hcur⟩:∃cur,Bn st (List.replicate 64 0) L=cur:=⟨_,rfl⟩
 rw[hcur]at hg4 HF2 HSP2
 have HC4:=hg4;clear hcP1 hb5 hcur hg4 HN0 hb4 hb0 hsz0;go_wp2;have hs4:w.heap.size<w4.heap.size:=(Hu HC4.out).1
 go_region_law (refine Hc rfl (.tmp 24) (.tmp 28) 23 23 rfl 5 Tryz.underlying23 (by kernel_rfl) (some ⟨w.heap.size,8,none⟩) (some ⟨g,8,none⟩) 64 64 64 64 (by simp[Act.eval,Act.put,go_sem]) (by simp[Act.eval,Act.put,go_sem]) w.heap.size 8 cur 278 HC4.out csP HM2.out (fun _=>⟨rfl,_,rfl,HCP1.out⟩) HF2.out HO2.out ?_;intro w6 hg6 hb6)
 rw[HSP2.out]at hg6
 have hb7:Below w.heap.size w w6:=HB5.out.trans ((hb6.of_drew).below (Ar _) (Nat.le_of_lt hs4));have HB7:=Ag hb7;clear hb6 hb7;go_wp2;go_ret;refine⟨_,rfl,Ar _,HB7.out,⟨pend,HQ1.out,q2,?_,q4⟩⟩;rw[HST.out,HL.out];exact hg6.out
def Jz (m:List Nat)(w:World)(e:Ending)(w':World):Prop:=∃q,e=.returned (.slice (some ⟨q,0,none⟩) 32 32)/\w.heap.size<=q/\Below w.heap.size w w'/\Bj w' q 5 .u8 (Wv m)
theorem Lc (w:World)(g:Nat)(m:List Nat)(hT:Tabs w)(hH:Bm w g m):Calls Tryz.prog 190 #[.pointer (some ⟨g,0,none⟩)] w (Jz m w):=by
 have hlt:=hH.lt;obtain⟨L,hL⟩:∃L,m.length%18446744073709551616=L:=⟨_,rfl⟩
 have hL64:L<18446744073709551616:=by omega
 have HL:=Ag hL;clear hL;go_enter Tryz.func190,Tryz.ntmps190
 go_wp2_with fail
 refine(Lh w g m hH).mono ?_;rintro e w1 ⟨q,rfl,hq,hb1,hh1⟩;have hT1:=hT.below hb1 hT.size;have c72:w1.cell? ⟨g,72,none⟩=some (.int .u64 (L:Nat)):=by
  obtain⟨pend,q1,_,q3,_⟩:=(hH.below hb1 hlt).ex;have h:=q3.cell (Hz (Df m _) q1);rw[HL.out]at h
  exact h
 go_wp2_with fail
 refine(Tt w1 L hL64).mono ?_;rintro e w2 ⟨rfl,hb2,hk2⟩;have hh2:=hh1.below hb2 hh1.lt;have hT2:=hT1.below hb2 hT1.size;have hz12:=hb1.size;have hz22:=hb2.size;have hbl:behind L=behind m.length:=by rw[<-HL.out,Yu]
 rw[hbl]at hk2
 have hnl:Cz L+9=(behind m.length).length:=by rw[<-hbl,Qz]
 have hrow:Bd w2 .u8 (some ⟨w1.heap.size,0,none⟩) (Cz L+9) (Cz L+9) (behind m.length) :=
  ⟨hnl,Ar _,by have:Cz L<64:=Nat.mod_lt _ (by omega);omega,fun _=>hk2.row hnl (Ar _) (by have:Cz L<64:=Nat.mod_lt _ (by omega);omega)⟩
 have hqlt:=hh1.lt;clear hbl hnl
 go_wp2_with fail
 refine(Ej w2 q m _ _ _ (behind m.length) hT2 hh2 (by have:=hT.size;omega) hrow (Tu _) (fun _ a ha=>by cases ha;show w1.heap.size≠q;omega)).mono ?_;rintro e w3 ⟨rfl,hb3,hh3⟩;have hb13:Below w.heap.size w w3:=(hb1.trans (hb2.mono hz12)).trans (hb3.below hq (by omega));obtain⟨pend,q1,q2,q3,q4⟩:=hh3.ex;have hz13:=hb13.size
 go_wp2_with fail
 refine(Pg w3 q _ pend _ (Df _ _) (Mh _ _) q3).mono ?_;rintro e w4 ⟨rfl,hb4,hk4⟩;rw[List.length_append]at hk4
 go_wp2;go_ret;exact⟨_,rfl,hz13,hb13.trans (hb4.mono hz13),hk4⟩
def eT (x y c:Nat):Nat:=if x<y+c then 1 else 0
theorem jK (x y c:Nat):eT x y c<=1:=by unfold eT;split<;>omega
theorem Lq (n:Nat)(h:n<4294967296):n.testBit 31=decide (2147483648<=n):=by
 rw[Nat.testBit_eq_decide_div_mod_eq];simp only[Nat.reducePow];rw[decide_eq_decide];omega
theorem gC (n:Nat)(h:n<4294967296):n/2147483648=(n.testBit 31).toNat:=by
 rw[Lq n h]
 by_cases h1:2147483648<=n
 .simp[h1];omega
 .simp[h1];omega
theorem Kk {a b:Nat}(h:b<4294967296):a &&& b<4294967296:=Nat.lt_of_le_of_lt Nat.and_le_right h
theorem Kb {a b:Nat}(ha:a<4294967296)(hb:b<4294967296):a ^^^ b<4294967296:=Nat.xor_lt_two_pow (n:=32) ha hb
theorem dK {a b:Nat}(ha:a<4294967296)(hb:b<4294967296):a ||| b<4294967296:=Nat.or_lt_two_pow (n:=32) ha hb
theorem Zv (x y c d:Nat)(hx:x<4294967296)(hy:y<4294967296)(hc:c<=1)(hd:d=(x+8589934592-y-c)%4294967296) :
  (((4294967295 ^^^ x) &&& y) ||| ((4294967295 ^^^ (x ^^^ y)) &&& d))/2147483648=eT x y c:=by
 have hdl:d<4294967296:=by rw[hd];exact Nat.mod_lt _ (by omega)
 rw[gC _ (dK (Kk hy) (Kk hdl))];simp only[Nat.testBit_or,Nat.testBit_and,Nat.testBit_xor];rw[Lq x hx,Lq y hy,Lq d hdl,Lq 4294967295 (by omega)];unfold eT
 by_cases h1:2147483648<=x<;>by_cases h2:2147483648<=y<;>by_cases h3:2147483648<=d<;>by_cases h4:x<y+c<;>simp[h1,h2,h3,h4]<;>omega
theorem Xc (x y c:Nat)(hx:x<4294967296)(hy:y<4294967296)(hc:c<=1) :
  bits BinOp.or IntKind.u32 (bits BinOp.and IntKind.u32 (bits BinOp.xor IntKind.u32 IntKind.u32.max ↑x) ↑y)
        (bits BinOp.and IntKind.u32
         (bits BinOp.xor IntKind.u32 IntKind.u32.max (bits BinOp.xor IntKind.u32 ↑x ↑y))
         (((x:Int)-y-c)%4294967296))/2147483648=(eT x y c:Nat):=by
 have hm:IntKind.u32.max=((4294967295:Nat):Int):=rfl;obtain⟨d,hd⟩:∃d,d=(x+8589934592-y-c)%4294967296:=⟨_,rfl⟩
 have hd':((x:Int)-y-c)%4294967296=(d:Nat):=by omega
 have hdl:d<4294967296:=by omega
 rw[hm,hd',u32_xor_nat _ _ (by omega) hx,u32_xor_nat _ _ hx hy,u32_xor_nat _ _ (by omega) (Kb hx hy),u32_and_nat _ _ (Kb (by omega) hx) hy,
  u32_and_nat _ _ (Kb (by omega) (Kb hx hy)) hdl,u32_or_nat _ _ (Kk hy) (Kk hdl)]
 have:=Zv x y c d hx hy hc hd;omega
theorem Uj (x y c:Nat)(w:World)(hx:x<4294967296)(hy:y<4294967296)(hc:c<=1) :
  Calls Tryz.prog 172 #[.int .u32 x,.int .u32 y,.int .u32 c] w fun e w'=>
   e=.returned (.tuple #[.int .u32 (((x:Int)-y-c)%4294967296),.int .u32 (eT x y c:Nat)])/\w=w':=by
 have hs:IntKind.u32.signed=false:=rfl;have hq:=Ag (Xc x y c hx hy hc);go_enter Tryz.func172,Tryz.ntmps172;go_wp2
 go_ret2
 have e6:(((x:Int)-y)%4294967296-c)%4294967296=((x:Int)-y-c)%4294967296:=by omega
 exact⟨by rw[hq.out];exact congrArg (fun z=>Ending.returned (.tuple #[.int .u32 z,.int .u32 (eT x y c:Nat)])) e6,rfl⟩
structure Mo (A B:List Nat) (k:Nat) (S:List Nat) (bw:Nat):Prop where
 len:S.length=k
 words:Words S
 carry:bw<=1
 eq:val S+val (B.take k)=val (A.take k)+Al k*bw
theorem Mo.start (A B:List Nat):Mo A B 0 [] 0:=⟨rfl,Words.nil,by omega,by simp[val]⟩
theorem Mo.step {A B:List Nat}{k:Nat}{S:List Nat}{bw d:Nat}(h:Mo A B k S bw)(hA:Words A)(hB:Words B)(hd:(d:Int)=(((A.getD k 0:Nat):Int)-(B.getD k 0:Nat)-bw)%4294967296) :
  Mo A B (k+1) (S++[d]) (eT (A.getD k 0) (B.getD k 0) bw):=by
 have h1:=hA.get k;have h2:=hB.get k;have h3:=h.carry;refine⟨by simp[h.len],h.words.snoc (by omega),jK _ _ _,?_⟩;rw[Db,h.len,Au,Au,Bl];have e:=h.eq;have hb:d+B.getD k 0+bw=A.getD k 0+4294967296*eT (A.getD k 0) (B.getD k 0) bw:=by
  unfold eT;split<;>omega
 generalize A.getD k 0=x at *;generalize B.getD k 0=y at *;generalize eT x y bw=q at *;generalize Al k=b at *;have e2:b*(d+y+bw)=b*(x+4294967296*q):=by rw[hb]
 have e3:b*(4294967296*q)=4294967296*b*q:=by rw[<-Nat.mul_assoc,Nat.mul_comm b]
 rw[Nat.mul_add,Nat.mul_add,Nat.mul_add,e3]at e2
 omega
theorem Mo.last {A B:List Nat}{k:Nat}{S:List Nat}{bw:Nat}(h:Mo A B k S bw)(hA:A.length=k)(hB:B.length<=k)(hle:val B<=val A):val S=val A-val B:=by
 have e:=h.eq;rw[List.take_of_length_le (l:=A) (by omega),List.take_of_length_le hB]at e
 have h1:=h.words.lt;rw[h.len]at h1
 have h2:=h.carry;rcases Nat.lt_or_ge bw 1 with h3|h3
 .obtain rfl:bw=0:=by omega
  omega
 .obtain rfl:bw=1:=by omega
  omega
def fR (N M:Nat)(w:World)(e:Ending)(w':World):Prop:=∃p n c,e=.returned (.tuple #[.agg #[.slice p n c],.bool (decide (M<=N))])/\Ah w' p n c (N-M)/\Below w.heap.size w w'/\Et w.heap.size p
theorem Zu (w:World)(pa:Option Addr)(na ca N:Nat)(pb:Option Addr)(nb cb M:Nat)(hA:Ah w pa na ca N)(hB:Ah w pb nb cb M)(hs:na<1000000)(hsb:nb<1000000) :
  Calls Tryz.prog 113 #[.agg #[.slice pa na ca],.agg #[.slice pb nb cb]] w (fR N M w):=by
 have hb0:Below w.heap.size w (((w.alloc (.cells #[.slice pa na ca] 37)).alloc (.cells #[.slice pb nb cb] 37)).alloc (.cells #[.slice none 0 0] 37)) :=
  (((Bf _ w).alloc (Ar _) _).alloc (by simp) _).alloc (by simp;omega) _
 by_cases hlt:N<M
 .have hcm:Br N M = -1:=Du hlt;go_enter Tryz.func113,Tryz.ntmps113
  go_wp2_with fail
  refine(Gc _ pa pb na ca N nb cb M (hA.below hb0) (hB.below hb0) hs hsb).mono ?_;rintro e w1 ⟨rfl,hb1⟩;obtain⟨hc,hf⟩:=Ce hb1;have hz:=hb1.size;simp only[World.size_alloc]at hz;go_wp2;refine bodyPost_ret (v:=.tuple #[.agg #[.slice none 0 0],.bool false]) (by simp[results,Tryz.results113,go_sem,hc]) rfl ⟨none,0,0,by simp[show ¬M<=N by omega],?_,?_,Et.none _⟩
  .exact⟨[],Row.nil _ _,Words.nil,by simp,by simp[val];omega⟩
  .exact(hb0.trans (hb1.mono (by simp;omega))).setCell (by simp;omega) _
 .have hcm:¬Br N M<0:=by
   unfold Br;rw[if_neg hlt];split<;>omega
  obtain⟨A,a1,a2,a3,rfl⟩:=hA.ex;obtain⟨B,b1,b2,b3,rfl⟩:=hB.ex;have HA:=Ag a1.len;have HB:=Ag b1.len;have hle:nb<=na:=by
   rcases Nat.lt_or_ge na nb with h|h
   .exact absurd (hA.len_lt hB h) hlt
   .exact h
  have hmk:=Gj na (by omega);go_enter Tryz.func113,Tryz.ntmps113
  go_wp2_with fail
  refine(Gc _ pa pb na ca _ nb cb _ (hA.below hb0) (hB.below hb0) hs hsb).mono ?_;rintro e w1 ⟨rfl,hb1⟩;have hbx:=(Cj.mk3 w (.slice pa na ca) (.slice pb nb cb) (.slice none 0 0) 37 37 37).later hb1;have c0:=hbx.c0;have c1:=hbx.c1;have c2:=hbx.c2;have f2:=hbx.f2;have hz0:w.heap.size<w1.heap.size:=by have:=hbx.size;omega
  have hz1:w.heap.size+1<w1.heap.size:=by have:=hbx.size;omega
  have hz2:w.heap.size+1+1<w1.heap.size:=by have:=hbx.size;omega
  have HC:=Ag (show decide (Br (val A) (val B)<0)=false by simpa using hcm);go_wp2
  go_loopw [7,22] (fun cy i wr=>∃k c:Nat,∃S,k<=na/\i=.int .i64 k/\cy=.int .u32 c/\Cj w wr (.slice pa na ca) (.slice pb nb cb) (.slice none 0 0)/\w1.heap.size<wr.heap.size/\Below w1.heap.size w1 wr/\Mo A B k S c/\Bj wr w1.heap.size 129 .u32 (S++List.replicate (na-k) 0)) (fun _ i _=>na-(intOf i).toNat)
  case atStart=>
   refine⟨0,0,[],by omega,rfl,rfl,hbx.alloc _,by simp,(Bf _ _).alloc (Ar _) _,Mo.start A B,?_⟩;exact Bj.zeros _ _ _ _
  case round=>
   obtain⟨k,bw,S,hk,rfl,rfl,hbr,hsr,hbw,hS,hblk⟩:=hrel;clear c0 c1 c2 f2;have d0:=hbr.c0;have d1:=hbr.c1;have d2:=hbr.c2;have g2:=hbr.f2
   by_cases hkn:k<na
   .obtain⟨b,off,rfl,hb,hc⟩:=a1.pos (by omega);obtain⟨x,hx⟩:∃x,A.getD k 0=x:=⟨_,rfl⟩
    obtain⟨y,hy⟩:∃y,B.getD k 0=y:=⟨_,rfl⟩
    have hci:wr.cell? ⟨b,off+k,none⟩=some (.int .u32 (x:Nat)):=by
     rw[(Ce hbr.bel).1 _ _ hb];exact hc k x (by rw[<-hx,Dw];simp[show k<A.length by have:=HA.out;omega])
    have HX:=Ag hx;have HY:=Ag hy;have HSk:=Ag hS.len;clear hc hx hy;have hg0:=hblk.zero_cell HSk.out (by omega);have hgf:=hblk.free k
    go_wp2_with fail
    refine(Ew wr pb nb cb B k y (b1.below hbr.bel) (by omega) HY.out).mono ?_;rintro e w2 ⟨rfl,hb2⟩;have hy:y<4294967296:=by rw[<-HY.out];exact b2.get k
    have hx':x<4294967296:=by rw[<-HX.out];exact a2.get k
    have hcy:=hS.carry;have hg0':=((Ce hb2).1 _ k hblk.lt).trans hg0;have hgf':=((Ce hb2).2 _ k hblk.lt).trans hgf;obtain⟨d,hd⟩:∃d:Nat,(d:Int)=((x:Int)-y-bw)%4294967296:=⟨(((x:Int)-y-bw)%4294967296).toNat,by omega⟩
    have HD:=Ag hd;clear hd
    go_wp2_with fail
    refine(Uj x y bw _ hx' hy hcy).mono ?_;rintro e w3 ⟨rfl,rfl⟩;rw[<-HD.out];go_wp2;go_roundw
    case rel=>
     refine⟨k+1,_,S++[d],by omega,by go_num,rfl,(hbr.later hb2).below (B:=w.heap.size+3) ((Bf _ _).setCell (by simp;omega) _) (Ar _),by have:=hb2.size;simp;omega,(hbw.trans (hb2.mono (by omega))).setCell (by simp) _,?_,?_⟩
     .have:=hS.step (d:=d) a2 b2 (by rw[HX.out,HY.out];exact HD.out);rw[HX.out,HY.out]at this
      exact this
     .exact(hblk.below hb2 hblk.lt).next HSk.out (by omega) d
    case measure=>clear HD;simp[intOf];omega
   .have hkn':na<=k:=by omega
    have hrow:=(hblk.row (n:=na) (c:=na) (by have:=hS.len;simp;omega) (Ar _) (by omega))
    have hw2:Words (S++List.replicate (na-k) 0):=hS.words.append (Words.zeros _)
    go_wp2_with fail
    refine(Cb _ _ _ _ _ hrow hw2).mono ?_;rintro e w2 ⟨p,n,c,rfl,hn,hb2,hp⟩;have hbx3:=hbr.later hb2;have k2:=hbx3.c2;have e2:=hbx3.f2;have hn':Et w1.heap.size p:=by
     intro q hq;rcases hp with rfl|rfl
     .cases hq
     .cases hq;simp
    have hv:val (S++List.replicate (na-k) 0)=val A-val B:=by
     rw[val_append,Hj,Nat.mul_zero,Nat.add_zero];exact hS.last (by have:=HA.out;omega) (by have:=HB.out;omega) (by omega)
    have HV:=Ag hv;clear hv;go_wp2;refine bodyPost_ret (v:=.tuple #[.agg #[.slice p n c],.bool true]) (by simp[results,Tryz.results113,go_sem,k2]) rfl ⟨p,n,c,by simp[show val B<=val A by omega],?_,?_,hn'.mono (by omega)⟩
    .rw[<-HV.out];exact hn.setCell (a:=⟨w.heap.size+1+1,0,none⟩) (hn'.ne hz2) (.slice p n c)
    .exact hbx3.bel.setCell (by simp;omega) _
structure Part where
 p:Option Addr
 n:Nat
 c:Nat
 bs:List Nat
structure Bw (w:World) (P:Part):Prop where
 row:Bd w .u8 P.p P.n P.c P.bs
 bytes:Ay P.bs
theorem Bw.below {w w':World}{P:Part}(h:Bw w P)(hb:Below w.heap.size w w'):Bw w' P:=⟨h.row.below hb,h.bytes⟩
def whole (L:List Part):List Nat:=L.flatMap (·.bs)
theorem Oz (L:List Part)(P:Part):whole (L++[P])=whole L++P.bs:=by simp[whole]
structure En (w:World) (p:Option Addr) (n c:Nat) (L:List Part):Prop where
 len:n=L.length
 cap:n<=c
 max:c<=9223372036854775807
 ok:∀(i:Nat) (P:Part),L[i]? = some P->Bw w P
 cells:0<n->∃b off,p=some ⟨b,off,none⟩/\b<w.heap.size/\∀(i:Nat) (P:Part),L[i]? = some P->w.cell? ⟨b,off+i,none⟩=some (.slice P.p P.n P.c)
theorem En.below {w w':World}{p:Option Addr}{n c:Nat}{L:List Part}(h:En w p n c L)(hb:Below w.heap.size w w'):En w' p n c L :=
 ⟨h.len,h.cap,h.max,fun i P hP=>(h.ok i P hP).below hb,fun h0=>by
  obtain⟨b,off,h1,h2,h3⟩:=h.cells h0;exact⟨b,off,h1,De h2 hb.size,fun i P hP=>by rw[hb.cell (p:=⟨b,off+i,none⟩) h2];exact h3 i P hP⟩⟩
theorem Zt (w:World)(p:Option Addr)(n c:Nat)(L:List Part)(hT:Tabs w)(hL:En w p n c L):Calls Tryz.prog 242 #[.slice p n c] w (Jz (whole L) w):=by
 have HL:Aa (En w p n c L):=⟨hL⟩
 have hlen:Aa (n=L.length):=⟨hL.len⟩
 have hcap:=hL.cap;have hmax:=hL.max;clear hL;go_enter Tryz.func242,Tryz.ntmps242
 go_wp2_with fail
 refine(Lt w hT).mono ?_;rintro e w1 ⟨g,rfl,hg,hb1,hh1⟩;go_wp2
 go_loopw [9] (fun i wr=>∃k:Nat,k<=n/\i=.int .i64 k/\Below w.heap.size w wr/\Bm wr g (whole (L.take k))) (fun i _=>n-(intOf i).toNat)
 case atStart=>exact⟨0,by omega,rfl,hb1,hh1⟩
 case round=>
  obtain⟨k,hk,rfl,hbel,hash⟩:=hrel;have hTr:=hT.below hbel hT.size;have hsz:=hT.size
  by_cases hkn:k<n
  .obtain⟨b,off,rfl,hb,hc⟩:=HL.out.cells (by omega);obtain⟨P,hP⟩:∃P,L[k]? = some P:=⟨_,List.getElem?_eq_getElem (by have:=hlen.out;omega)⟩
   have hok:=(HL.out.ok k P hP).below hbel;have hblt:0<P.n->∀q,P.p=some q->q.block≠g:=fun h0 q hq=>by
    obtain⟨b',off',e,h2,_⟩:=((HL.out.ok k P hP).row.row h0).pos h0;rw[hq]at e;cases e
    show b'≠g;omega
   have hck:wr.cell? ⟨b,off+k,none⟩=some (.slice P.p P.n P.c):=by
    rw[(Ce hbel).1 _ _ hb];exact hc k P hP
   have htk:Aa (whole (L.take (k+1))=whole (L.take k)++P.bs):=⟨by rw[List.take_add_one,hP];exact Oz _ _⟩
   have HOK:Aa (Bw wr P):=⟨hok⟩
   have HNE:Aa (0<P.n->∀q,P.p=some q->q.block≠g):=⟨hblt⟩
   clear hc hP hok hblt;obtain⟨pp,pn,pc,pb⟩:=P
   dsimp only at *
   go_wp2_with fail
   refine(Ej wr g _ pp pn pc pb hTr hash (by omega) HOK.out.row HOK.out.bytes HNE.out).mono ?_;rintro e w2 ⟨rfl,hb2,hh2⟩;rw[<-htk.out]at hh2
   have hz:w.heap.size<=wr.heap.size:=hbel.size;have hbel2:=hbel.trans (hb2.below hg hz);go_wp2;go_roundw
   case rel=>exact⟨k+1,by omega,by go_num,hbel2,hh2⟩
   case measure=>simp[intOf];omega
  .obtain rfl:k=n:=by omega
   rw[List.take_of_length_le (by have:=hlen.out;omega)]at hash
   have hz:w.heap.size<=wr.heap.size:=hbel.size
   go_wp2_with fail
   refine(Lc wr g _ hTr hash).mono ?_;rintro e w3 ⟨q,rfl,hq,hb3,hk3⟩;go_wp2;go_ret;exact⟨q,rfl,by omega,hbel.trans (hb3.mono hz),hk3⟩
def strOf (bs:List Nat):ByteArray:=strOfNums (bs.map fun(x:Nat)=>(x:Int))
theorem Wh {w:World}{p:Option Addr}{n c:Nat}{bs:List Nat}(h:Row w .u8 p n c bs) :
  (convert 23 9 (.slice p n c)).run Tryz.prog w=.ok (.string (strOf bs)) w:=by
 rcases h.at_ with ⟨rfl,rfl,rfl⟩|⟨b,off,rfl,hb,hc⟩
 .have hl:=h.len;have:bs=[]:=List.eq_nil_of_length_eq_zero hl.symm;subst this;rw[run_convert_bytes_nil w 23 5 (by kernel_rfl) (by kernel_rfl) _ _ _ (by kernel_rfl)];rfl
 .refine run_convert_bytes_arg w 23 5 (by kernel_rfl) (by kernel_rfl) b off n c _ (by simp[h.len]) ?_ _ (by kernel_rfl);intro i hi;have hl:=h.len;rw[hc i (bs.getD i 0) (by rw[Dw];simp[show i<bs.length by omega])];simp[Dw,show i<bs.length by omega]
theorem Qx (w:World)(p:Option Addr)(c:Nat):(convert 23 9 (.slice p 0 c)).run Tryz.prog w=.ok (.string (strOf [])) w:=by
 rw[run_convert_bytes_string w 23 9 5 p 0 c (by kernel_rfl) (by kernel_rfl) (by kernel_rfl)]
 cases p with
 | none=>rfl
 | some a=>rfl
theorem Do {w:World}{p:Option Addr}{n c:Nat}{bs:List Nat}(h:Bd w .u8 p n c bs) :
  (convert 23 9 (.slice p n c)).run Tryz.prog w=.ok (.string (strOf bs)) w:=by
 rcases Nat.eq_zero_or_pos n with rfl|h0
 .have:bs=[]:=List.eq_nil_of_length_eq_zero h.len.symm;rw[this];exact Qx w p c
 .exact Wh (h.row h0)
theorem dH (w:World)(P:Part)(hP:Bw w P):En (w.alloc (.cells #[.slice P.p P.n P.c] 23)) (some ⟨w.heap.size,0,none⟩) 1 1 [P]:=by
 have hb:Below w.heap.size w (w.alloc (.cells #[.slice P.p P.n P.c] 23)):=Bt;have hn:=heap_alloc_new w (.cells #[.slice P.p P.n P.c] 23);refine⟨rfl,Ar _,by omega,fun i X hX=>?_,fun _=>⟨w.heap.size,0,rfl,by simp,fun i X hX=>?_⟩⟩
 .match i,hX with
  | 0,h=>cases h;exact hP.below hb
 .match i,hX with
  | 0,h=>cases h;unfold World.cell?;dsimp only;rw[hn];rfl
theorem Re (P:Part):whole [P]=P.bs:=by simp[whole]
theorem iX (w:World)(P Q R:Part)(hP:Bw w P)(hQ:Bw w Q)(hR:Bw w R):En (w.alloc (.cells #[.slice P.p P.n P.c,.slice Q.p Q.n Q.c,.slice R.p R.n R.c] 23)) (some ⟨w.heap.size,0,none⟩) 3 3 [P,Q,R]:=by
 have hb:Below w.heap.size w (w.alloc (.cells #[.slice P.p P.n P.c,.slice Q.p Q.n Q.c,.slice R.p R.n R.c] 23)):=Bt;have hn:=heap_alloc_new w (.cells #[.slice P.p P.n P.c,.slice Q.p Q.n Q.c,.slice R.p R.n R.c] 23);refine⟨rfl,Ar _,by omega,fun i X hX=>?_,fun _=>⟨w.heap.size,0,rfl,by simp,fun i X hX=>?_⟩⟩
 .match i,hX with
  | 0,h=>cases h;exact hP.below hb
  | 1,h=>cases h;exact hQ.below hb
  | 2,h=>cases h;exact hR.below hb
 .match i,hX with
  | 0,h=>cases h;unfold World.cell?;dsimp only;rw[hn];rfl
  | 1,h=>cases h;unfold World.cell?;dsimp only;rw[hn];rfl
  | 2,h=>cases h;unfold World.cell?;dsimp only;rw[hn];rfl
def Fit (e N:Nat)(v:Value)(w:World):Prop:=∃p n c,v=.agg #[.slice p n c]/\Ah w p n c N/\N<Al e
theorem Fit.below {e N:Nat}{v:Value}{w w':World}(h:Fit e N v w)(hb:Below w.heap.size w w'):Fit e N v w' :=
 let ⟨p,n,c,h1,h2,h3⟩:=h
 ⟨p,n,c,h1,h2.below hb,h3⟩
theorem Fit.of {e N p n c}{w:World}(h:Ah w p n c N)(hN:N<Al e):Fit e N (.agg #[.slice p n c]) w:=⟨p,n,c,rfl,h,hN⟩
theorem Fit.lim {e N:Nat}{v:Value}{w:World}(h:Fit e N v w):N<Al e:=let ⟨_,_,_,_,_,h3⟩:=h;h3
theorem gV {e f N M:Nat}(h:N<Al e)(k:M<Al f):N+M<Al (e+f+1):=by
 have h1:Al e<=Al (e+f):=Ca (by omega);have h2:Al f<=Al (e+f):=Ca (by omega);rw[Bl];omega
theorem gU {e f N M:Nat}(h:N<Al e)(k:M<Al f):N*M<Al (e+f):=by
 rw[Ty];exact Nat.mul_lt_mul'' h k
theorem Mm {w:World}{v u:Value}{e f N M:Nat}(h:Fit e N v w)(k:Fit f M u w)(he:e<=900000)(hf:f<=900000) :
  Calls Tryz.prog 94 #[v,u] w fun en w'=>∃x,en=.returned x/\Fit (e+f+1) (N+M) x w'/\Below w.heap.size w w':=by
 obtain⟨p,n,c,rfl,h1,h2⟩:=h;obtain⟨q,m,d,rfl,k1,k2⟩:=k;have l1:=h1.len_le h2;have l2:=k1.len_le k2;refine(Se w p n c N q m d M h1 k1 (by omega) (by omega)).mono ?_;rintro en w' ⟨r,l,g,rfl,hr,hb,_⟩;exact⟨_,rfl,Fit.of hr (gV h2 k2),hb⟩
theorem Lv {w:World}{v u:Value}{e f N M:Nat}(h:Fit e N v w)(k:Fit f M u w)(he:e<=900000)(hf:f<=900000) :
  Calls Tryz.prog 95 #[v,u] w fun en w'=>∃x,en=.returned x/\Fit (e+f) (N*M) x w'/\Below w.heap.size w w':=by
 obtain⟨p,n,c,rfl,h1,h2⟩:=h;obtain⟨q,m,d,rfl,k1,k2⟩:=k;have l1:=h1.len_le h2;have l2:=k1.len_le k2;refine(aK w p n c N q m d M h1 k1 (by omega) (by omega)).mono ?_;rintro en w' ⟨r,l,g,rfl,hr,hb,_⟩;exact⟨_,rfl,Fit.of hr (gU h2 k2),hb⟩
theorem Tm {w:World}{v u:Value}{e f N M:Nat}(h:Fit e N v w)(k:Fit f M u w)(he:e<=900000)(hf:f<=900000) :
  Calls Tryz.prog 24 #[v,u] w fun en w'=>∃x,en=.returned x/\x=.int .i64 (Br N M)/\Below w.heap.size w w':=by
 obtain⟨p,n,c,rfl,h1,h2⟩:=h;obtain⟨q,m,d,rfl,k1,k2⟩:=k;have l1:=h1.len_le h2;have l2:=k1.len_le k2;refine(Gc w p q n c N m d M h1 k1 (by omega) (by omega)).mono ?_;rintro en w' ⟨rfl,hb⟩;exact⟨_,rfl,rfl,hb⟩
theorem Sj {w:World}{v u:Value}{e f N M:Nat}(h:Fit e N v w)(k:Fit f M u w)(he:e<=900000)(hf:f<=900000) :
  Calls Tryz.prog 113 #[v,u] w fun en w'=>∃x,en=.returned (.tuple #[x,.bool (decide (M<=N))])/\Fit e (N-M) x w'/\Below w.heap.size w w':=by
 obtain⟨p,n,c,rfl,h1,h2⟩:=h;obtain⟨q,m,d,rfl,k1,k2⟩:=k;have l1:=h1.len_le h2;have l2:=k1.len_le k2;refine(Zu w p n c N q m d M h1 k1 (by omega) (by omega)).mono ?_;rintro en w' ⟨r,l,g,rfl,hr,hb,_⟩;exact⟨_,rfl,Fit.of hr (by omega),hb⟩
theorem Kh (N:Nat):Br N N=0:=by simp[Br]
structure Ao (B:Nat) (w w':World):Prop where
 bel:Below B w w'
 nat:∀p n c N,Ah w p n c N->Ah w' p n c N
theorem Ao.of {B:Nat}{w w':World}(h:Below w.heap.size w w')(hB:B<=w.heap.size):Ao B w w':=⟨h.mono hB,fun _ _ _ _ k=>k.below h⟩
theorem Fit.keep {e N B:Nat}{v:Value}{w w':World}(h:Fit e N v w)(k:Ao B w w'):Fit e N v w' :=
 let ⟨p,n,c,h1,h2,h3⟩:=h
 ⟨p,n,c,h1,k.nat _ _ _ _ h2,h3⟩
def Ae (w:World)(b:Nat)(u:Value):Prop:=w.heap[b]? = some (.cells #[u] 37 (0,0))
theorem Ae.below {w w':World}{b B:Nat}{u:Value}(h:Ae w b u)(hb:Below B w w')(hB:b<B):Ae w' b u:=by
 unfold Ae at *;rw[hb.block b hB];exact h
theorem Ae.cell {w:World}{b:Nat}{u:Value}(h:Ae w b u):w.cell? ⟨b,0,none⟩=some u:=by
 unfold Ae at h;simp[World.cell?,h]
theorem Ae.free {w:World}{b:Nat}{u:Value}(h:Ae w b u):w.frozen? ⟨b,0,none⟩=false:=by
 unfold Ae at h;simp[World.frozen?,h]
theorem Ae.lt {w:World}{b:Nat}{u:Value}(h:Ae w b u):b<w.heap.size:=(Hu h).1
theorem Ae.set {w:World}{b:Nat}{u:Value}(h:Ae w b u)(v:Value):Ae (w.setCell ⟨b,0,none⟩ v) b v:=by
 unfold Ae at *;simp[World.setCell,Array.getElem?_modify,h]
theorem Ae.made (w:World)(u:Value):Ae (w.alloc (.cells #[u] 37)) w.heap.size u:=by
 show (w.heap.push _)[w.heap.size]? = _;simp
theorem Ah.store {w:World}{p:Option Addr}{n c N b m d:Nat}{q:Option Addr}(h:Ah w p n c N)(hb:Ae w b (.slice q m d))(v:Value):Ah (w.setCell ⟨b,0,none⟩ v) p n c N:=by
 obtain⟨ws,r1,r2,r3,r4⟩:=h.ex;rcases Nat.eq_zero_or_pos n with h0|h0
 .refine⟨ws,⟨r1.len,r1.cap,r1.max,?_⟩,r2,r3,r4⟩;rcases r1.at_ with k|⟨b',off,k1,k2,_⟩
  .exact .inl k
  .refine .inr ⟨b',off,k1,by simpa using k2,fun i x hx=>?_⟩;have:ws=[]:=List.eq_nil_of_length_eq_zero (by rw[<-r1.len];exact h0);rw[this]at hx;cases hx
 .refine h.setCell (a:=⟨b,0,none⟩) ?_ v;intro a ha hab;obtain⟨b',off,k1,k2,k3⟩:=r1.pos h0;rw[k1]at ha;cases ha
  have hbb:b'=b:=hab;subst hbb;have h1:=k3 0 (ws.getD 0 0) (by rw[Dw];simp[show 0<ws.length by rw[<-r1.len];exact h0]);unfold Ae at hb;simp only[World.cell?,hb,Nat.add_zero]at h1
  cases off with
  | zero=>simp at h1
  | succ k=>simp at h1
theorem Ao.store {B:Nat}{w:World}{b m d:Nat}{q:Option Addr}(hb:Ae w b (.slice q m d))(hB:B<=b)(v:Value):Ao B w (w.setCell ⟨b,0,none⟩ v) :=
 ⟨(Bf _ _).setCell hB _,fun _ _ _ _ k=>k.store hb v⟩
end Go.Proofs.YtokhckjemidbpaaGreatDoor
