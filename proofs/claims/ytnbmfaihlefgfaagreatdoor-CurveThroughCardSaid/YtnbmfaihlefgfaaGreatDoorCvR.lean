/- Small numbers as a row of one's own (law10's Nums); are two lists the same (law10's same)? -/
import Derived.Test.YtnbmfaihlefgfaaGreatDoorCuV
set_option maxRecDepth 1000000
set_option maxHeartbeats 16000000
set_option linter.all false
namespace Go.Proofs.YtnbmfaihlefgfaaGreatDoor
open Go Go.RowKit Go.Proofs.YtnbmfaihlefgfaaGreatDoor.Flow
def dG (xs:List Nat)(w:World)(e:Ending)(w':World):Prop:=∃v us,e=.returned v/\Do w' w.heap.size v us/\Cs w' 2 us xs/\Below w.heap.size w w'
theorem Tz (w:World)(p:Option Addr)(n c:Nat)(xs:List Nat)(h:Bm w .u64 p n c xs)(h64:∀x∈xs,fG x)(hn:n<=1000) :
  Calls Tryz.prog 18 #[.slice p n c] w (dG xs w):=by
 have HX:=Ab h;have H6:=Ab h64;have HLn:=Ab h.len;clear h h64;go_enter Tryz.func18,Tryz.ntmps18;go_wp2
 go_loopw [3,5,8] (fun vv _ iv wr=>∃(k:Nat) (us:List (Option Addr×Nat×Nat)),k<=n/\iv=.int .i64 k/\Aa (Below w.heap.size w wr)/\Aa (Do wr w.heap.size vv us)/\Aa (Cs wr 2 us (xs.take k))) (fun _ _ iv _=>n-(intOf iv).toNat)
 case atStart=>exact⟨0,[],by omega,rfl,⟨Aw _ _⟩,⟨Do.nil _ _⟩,⟨Cs.nil _ _⟩⟩
 case round=>
  obtain⟨k,us,hk,rfl,HB,HS,HT⟩:=hrel
  by_cases hkn:k<n
  .obtain⟨S,hSk⟩:∃s,xs[k]? = some s:=⟨xs[k]'(by rw[<-HLn.out];exact hkn),List.getElem?_eq_getElem _⟩
   obtain⟨bb,off,rfl,hb,hc⟩:=(HX.out.row (by omega)).pos (by omega);have hx:wr.cell? ⟨bb,off+k,none⟩=some (.int .u64 (S:Nat)):=(HB.out.cell (p:=⟨bb,off+k,none⟩) hb).trans (hc k S hSk);have HTk:Aa (xs.take (k+1)=xs.take k++[S]):=⟨Dg hSk⟩
   have HSU:Aa (S<18446744073709551616):=⟨H6.out S (List.mem_of_getElem? hSk)⟩
   have HSB:Aa (S<Am 2):=⟨Xr (H6.out S (List.mem_of_getElem? hSk))⟩
   have HUS:Aa (us.length<=100000):=⟨by rw[HT.out.len,List.length_take];omega⟩
   obtain⟨pv,cv,hv⟩:=HS.out.slice;obtain⟨n1,hn1⟩:∃l,us.length=l:=⟨_,rfl⟩
   rw[hn1]at hv
   subst hv;have hkn':(k:Int)<n:=by omega
   clear hc hSk hb hn1
   go_wp2_with fail
   refine(Bw S wr HSU.out).mono ?_;rintro en w3 ⟨q,m,d,rfl,hn3,b3,_⟩;have hb4:Below w3.heap.size w3 (w3.alloc (.cells #[.slice q m d] 36)):=Cu;have hx4:(w3.alloc (.cells #[.slice q m d] 36)).cell? ⟨w3.heap.size,0,none⟩=some (.slice q m d):=(Ad.made w3 (.slice q m d)).cell;have hn4:=hn3.below hb4;obtain⟨w4,hw4⟩:∃w4,w3.alloc (.cells #[.slice q m d] 36)=w4:=⟨_,rfl⟩
   rw[hw4]at hb4 hx4 hn4
   have hb34:=Ae b3 hb4;have hs4:=HS.out.below hb34;have hsz:w.heap.size<=w4.heap.size:=(Ae HB.out hb34).size;obtain⟨v9,w9,happ,hr9,hg9,_⟩:=hs4.app (x:=(q,m,d)) hx4 hsz HUS.out 32 (c:=1);have HB9:Aa (Below w.heap.size w w9):=⟨(Ae HB.out hb34).grown hg9 hsz (fun g hg=>(hs4.own hg).1)⟩
   have HS9:=Ab hr9;have HT9:Aa (Cs w9 2 (us++[(q,m,d)]) (xs.take (k+1))):=⟨by
    rw[HTk.out];exact((HT.out.below hb34).grown hs4 hg9).snoc (Jg hs4 hg9 hn4) HSB.out⟩
   clear b3 hn3 hb4 hx4 hn4 hb34 hs4 hsz hr9 hg9
   go_wp2_with (at_builtin;refine Lib.wpList_append_run _ rfl _ _ _ _ rfl _ _ rfl rfl _ _ happ ?_;refine Ko.out ?_)
   refine⟨?_⟩;clear happ;go_wp2;go_roundw
   case rel=>exact⟨k+1,_,by omega,by go_num,HB9,HS9,HT9⟩
   case measure=>simp[intOf];omega
  .obtain rfl:k=n:=by omega
   have hkn':¬(k:Int)<k:=by omega
   rw[List.take_of_length_le (by rw[<-HLn.out];exact Ar _)]at HT
   go_wp2;go_ret;exact⟨_,us,rfl,HS.out,HT.out,HB.out⟩
theorem Sa {w:World}{p q:Option Addr}{n c m d e f:Nat}{Ns:List Nat}(h:Au w e p n c Ns)(k:Au w f q m d Ns)(he:e<=30000)(hf:f<=30000) :
  Calls Tryz.prog 35 #[.slice p n c,.slice q m d] w fun en w'=>∃x,en=.returned x/\x=.bool true/\Below w.heap.size w w':=by
 obtain rfl:n=m:=by rw[h.len,k.len]
 have HX:=Ab h;have HY:=Ab k;have HLN:=Ab h.len;have hcap:n<=c:=h.cap;have hmax:c<=9223372036854775807:=h.max;clear h k;go_enter Tryz.func35,Tryz.ntmps35;go_wp2
 go_loopw [5,13] (fun _ iv wr=>∃k:Nat,k<=n/\iv=.int .i64 k/\Aa (Below w.heap.size w wr)) (fun _ iv _=>n-(intOf iv).toNat)
 case atStart=>exact⟨0,by omega,rfl,⟨Aw _ _⟩⟩
 case round=>
  obtain⟨k,hk,rfl,HB⟩:=hrel
  by_cases hkn:k<n
  .obtain⟨a,hak⟩:∃a,Ns[k]? = some a:=⟨Ns[k]'(by rw[<-HLN.out];exact hkn),List.getElem?_eq_getElem _⟩
   obtain⟨bx,ox,rfl,hbx,hcx'⟩:=HX.out.at_ (by omega)
   obtain⟨u1,u2,u3,x1,x2,x3⟩:=hcx' k a hak;obtain⟨by_,oy,rfl,hby,hcy'⟩:=HY.out.at_ (by omega)
   obtain⟨t1,t2,t3,y1,y2,y3⟩:=hcy' k a hak;have HCX:Aa (∀w',Below wr.heap.size wr w'->w'.cell? ⟨bx,ox+k,none⟩=some (.slice u1 u2 u3)):=⟨fun w' hb=>((Ae HB.out hb).cell (p:=⟨bx,ox+k,none⟩) hbx).trans x1⟩
   have HCY:Aa (∀w',Below wr.heap.size wr w'->w'.cell? ⟨by_,oy+k,none⟩=some (.slice t1 t2 t3)):=⟨fun w' hb=>((Ae HB.out hb).cell (p:=⟨by_,oy+k,none⟩) hby).trans y1⟩
   have HFX:=Ab ((Fit.of x2 x3).below HB.out);have HFY:=Ab ((Fit.of y2 y3).below HB.out);have hkn':(k:Int)<n:=by omega
   have hnk:¬n<=k:=by omega
   clear hak hbx hcx' x1 x2 hby hcy' y1 y2;go_wp2;refine Aj (by kernel_rfl) (by kernel_rfl)
    [some (.slice (some ⟨bx,ox,none⟩) n c),some (.int .i64 (k:Nat)),some (.pointer (some ⟨bx,ox+k,none⟩)),some (.agg #[.slice u1 u2 u3]),some (.slice (some ⟨by_,oy,none⟩) n d),some (.int .i64 (k:Nat)),some (.pointer (some ⟨by_,oy+k,none⟩)),some (.agg #[.slice t1 t2 t3]),none,some (.bool false)]
    [false,false,false,false,false,false,false,false,true,false] rfl
    (fun w1 w2=>Below w1.heap.size w1 w2)
    (fun _ w'=>Below wr.heap.size wr w')
    (fun i v w'=>match i with
     | 8=>v=.int .i64 0
     | _=>True)
    ?_ (Aw _ _).drew ?_ ?_
   .intro i v w1 w2 hf hb;split at hf
    .exact hf
    .trivial
   .simp only[Bc,Nat.reduceAdd];refine⟨?_,?_,?_,?_,?_,?_,?_,?_,?_,?_,trivial⟩
    all_goals intro D sp w' hD hW hdp hbx'
    case refine_3=>
     (with_reducible refine Ai (w1:=w') (v:=.pointer (some ⟨bx,ox+k,none⟩)) ?_ ?_ ?_)
     .simp[Region.wanted,yielded,Act.put,go_sem]
     .simp[execOp,Act.eval,Act.put,go_sem,hkn]
     .exact⟨rfl,rfl⟩
    case refine_4=>
     have c0:=HCX.out w' hbx'
     with_reducible refine Af ?_ ?_
     all_goals simp[Region.wanted,yielded,execOp,Act.eval,Act.put,go_sem,c0]
    case refine_7=>
     (with_reducible refine Ai (w1:=w') (v:=.pointer (some ⟨by_,oy+k,none⟩)) ?_ ?_ ?_)
     .simp[Region.wanted,yielded,Act.put,go_sem]
     .simp[execOp,Act.eval,Act.put,go_sem,hkn]
     .exact⟨rfl,rfl⟩
    case refine_8=>
     have c0:=HCY.out w' hbx'
     with_reducible refine Af ?_ ?_
     all_goals simp[Region.wanted,yielded,execOp,Act.eval,Act.put,go_sem,c0]
    case refine_9=>
     (with_reducible refine Ac (w1:=w') (f := 34) (args:=#[.agg #[.slice u1 u2 u3],.agg #[.slice t1 t2 t3]]) ?_ ?_ ?_)
     .simp[Region.wanted,yielded,Act.put,go_sem]
     .simp[Act.eval,Act.put,go_sem]
     .refine(Bj (HFX.out.below hbx') (HFY.out.below hbx') (by omega) (by omega) (Bt.2 rfl)).mono ?_;rintro en w9 ⟨_,rfl,rfl,hb⟩;exact⟨_,rfl,hb,rfl,Ae hbx' hb⟩
    case refine_10=>
     have k8:(sp 8)=.int .i64 0:=(hdp 8 (mq (by kernel_rfl))).2
     with_reducible refine Af ?_ ?_
     all_goals simp[Region.wanted,yielded,execOp,Act.eval,Act.put,go_sem,k8]
    all_goals ((with_reducible refine Af ?_ ?_);all_goals first|(simp only[Region.wanted];done)|simp[Region.wanted,yielded,execOp,Act.eval,Act.put,go_sem])
   .intro sp w9 hsp hbx';have HB9:=Ab (Ae HB.out hbx');clear hsp hbx';simp only[Al,Nat.reduceAdd];generalize sp 8=y8 at *
    go_simp
    go_wp2;go_roundw
    case rel=>exact⟨k+1,by omega,by go_num,HB9⟩
    case measure=>simp[intOf];omega
  .obtain rfl:k=n:=by omega
   have hkn':¬(k:Int)<k:=by omega
   go_wp2;go_ret;exact⟨_,rfl,rfl,HB.out⟩
theorem Gw.at_ {q:Nat}{xs ys p s:List Nat}{n j x y:Nat}(hq:2<=q)(h:Gw q (xs.map fun x=>x%q) ys n p s)(hj:j<n)(hx:xs[j]? = some x)(hy:ys[j]? = some y)(hyq:y<q):Dq q x p=y:=by
 have h1:=h.pval j (x%q) y hj (by rw[List.getElem?_map,hx];rfl) hy;have h2:=Fx (x:=x) hq p;have h3:(q:Int) ∣ ev (ints p) x-ev (ints p) ((x%q:Nat):Int):=Rl (x:=x) (y:=x%q) (by
  have:=(Is.of (by omega:0<q) x).dvd;have h4:=Int.dvd_neg.2 this
  rwa [Int.neg_sub]at h4) (ints p)
 have h5:Is q y (y:Int):=⟨hyq,by simp⟩
 refine h2.uniq h5 ?_;have:=Int.dvd_add h3 h1
 rwa [show ev (ints p) (x:Int)-ev (ints p) ((x%q:Nat):Int)+(ev (ints p) ((x%q:Nat):Int)-y)=ev (ints p) (x:Int)-y by omega]at this
end Go.Proofs.YtnbmfaihlefgfaaGreatDoor
