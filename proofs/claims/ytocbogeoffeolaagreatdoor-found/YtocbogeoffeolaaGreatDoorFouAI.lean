import Derived.Test.YtocbogeoffeolaaGreatDoorFouAH
set_option linter.all false
set_option maxHeartbeats 8000000
set_option maxRecDepth 1000000
open Go renaming cell_later->a1,Calls->a2
open Array renaming getElem?_eq_some_iff->b3,getElem?_ofFn->b4
open List renaming range->b5,all->b6
open Go.RowKit renaming Hid->b7
open Int renaming tmod_eq_emod_of_nonneg->b8,tdiv_eq_ediv_of_nonneg->b9
open Nat renaming div_le_self->b',le_trans->bA,le_refl->bB
namespace Go.Proofs.YtocbogeoffeolaaGreatDoor
open Go.Proofs.Tryz
section
open Go.RowKit
variable {l:List dq} {told:List Nat} {b i:Nat} {ok:Nat->Bool}
def Gc:Option Nat->Int
 |none=>-1|some b=>(b:Int)
def P3(w:World)(W:Nat)(l:List dq)(y:Nat->Bool):Prop:=∀i,i<12->∃e:dq,
 w.cell? ⟨W,1+i*5,none⟩=some (.string ⟨e.name.toArray⟩)/\w.cell? ⟨W,1+i*5+1,none⟩=some (.string ⟨e.text.toArray⟩)/\w.cell? ⟨W,1+i*5+2,none⟩=some (.int .i64 e.dp)/\w.cell? ⟨W,1+i*5+3,none⟩=some (.int .i64 e.dA)/\w.cell? ⟨W,1+i*5+4,none⟩=some (.bool (y i))/\
 (y i=true->e=l.getD i fP/\e.text.length<=400/\e.name.length<=400/\0<=e.dp/\e.dp<=1000000/\0<=e.dA/\e.dA<=255)
def py(told:List Nat):Array Value:=Array.ofFn (n:=12) λi=>.bool (told.contains i.val)
def lenOf:Value->Nat
 |.slice _ n _=>n|_=>0
theorem Nn:#[Value.bool false,.bool false,.bool false,.bool false,.bool false,.bool false,.bool false,.bool false,.bool false,.bool false,.bool false,.bool false]=py []:=rfl
theorem DT(told:List Nat)(h:i<12):(py told)[i]?=some (.bool (told.contains i)):=by
 unfold py;rw[b4,dif_pos h]
theorem Iu{n:Nat}(h:fM l ok n []=told++fM l ok (n-told.length) told)(B:told.length<n)(hb:gS l (λi=>ok i && !told.contains i) l.length=some b) :
  fM l ok n []=(told++[b])++fM l ok (n-(told++[b]).length) (told++[b]):=by
 rw[h];obtain⟨r,y⟩:∃r,n-told.length=r+1:=⟨n-told.length-1,by omega⟩;rw[y,fM,hb,show n-(told++[b]).length=r by simp;omega];simp
theorem Ik{n:Nat}(h:fM l ok n []=told++fM l ok (n-told.length) told)(hb:gS l (λi=>ok i && !told.contains i) l.length=none):fM l ok n []=told:=by
 rw[h]
 cases n-told.length with
 |zero=>simp[fM]|succ r=>rw[fM,hb];simp
theorem GY{n:Nat}(h:fM l ok n []=told++fM l ok (n-told.length) told)(y:¬told.length<n):fM l ok n []=told:=by
 rw[h,show n-told.length=0 by omega];simp[fM]
theorem Dh(h:ok i=false):gS l ok (i+1)=gS l ok i:=by
 rw[gS];cases gS l ok i<;>simp[h]
theorem Is(h:ok i=true)(hb:gS l ok i=none):gS l ok (i+1)=some i:=by
 rw[gS,hb];simp[h]
theorem M8(h:ok i=true)(hb:gS l ok i=some b):gS l ok (i+1)=if dY (l.getD i fP) (l.getD b fP)=true then some i else some b:=by
 rw[gS,hb];simp[h]
theorem OK(told:List Nat)(h:b<12):(py told).setIfInBounds b (.bool true)=py (told++[b]):=by
 apply Array.ext_getElem?;intro j;rw[Array.getElem?_setIfInBounds];unfold py;simp only[b4,Array.size_ofFn];by_cases e:b=j;subst e;simp[h];rw[if_neg e];split;simp[Ne.symm e];rfl
theorem MS{t g j:Nat}:((b5 (j+1)).all λi=>tP t g i)=(((b5 j).all λi=>tP t g i)&&((t / 2 ^ j % 2==0) || (g / 2 ^ j % 2==1))):=by
 rw[List.range_succ,List.all_append];simp[tP]
def o9(l:List dq)(told:List Nat):List Wd:=told.map λi=>fq (l.getD i fP)
theorem DM{w:World}{W:Nat}{th:Nat->Bool}{m t n:Nat}{qb:ByteArray}(hK:P3 w W l th)(hl:l.length=12)(aC:(l.map dq.name).Nodup)(hm:m<=3)(ht:t<=255)(hn:n<=20)(hq:qb.size<=400) :
  a2 prog 18 #[.pointer (some ⟨W,0,none⟩),.int .i64 m,.string qb,.int .i64 t,.int .i64 n] w λe w'=>∃v,e=.returned v/\
   w'.ownsRow (w.heap.size+1) 9 1 v (fM l (λi=>th i&&lG m t qb.data.toList (l.getD i fP)) n []).length (dn (o9 l (fM l (λi=>th i&&lG m t qb.data.toList (l.getD i fP)) n [])))/\Below w.heap.size w w':=by
 obtain⟨ok,a0⟩:∃ok:Nat->Bool,ok=λi=>th i&&lG m t qb.data.toList (l.getD i fP):=⟨_,rfl⟩;rw[<-a0];have an:b7 _:=a0;clear a0;go_enter func18,ntmps18;go_wp2;rw[Nn];have HB0:b7 (Below w.heap.size w (w.alloc (.cells (py []) 98))/\(w.alloc (.cells (py []) 98)).heap[w.heap.size]?=some (.cells (py []) 98 (0,0))):=⟨(Below.refl _ _).alloc (bB _) _,o8 _ _⟩;have HK:b7 _:=hK;have aD:b7 _:=aC;clear hK aC;go_loopw [12] (λv wr=>∃told:List Nat,told.length<=n/\fM l ok n []=told++fM l ok (n-told.length) told/\wr.heap[w.heap.size]?=some (.cells (py told) 98 (0,0))/\wr.ownsRow (w.heap.size+1) 9 1 v told.length (dn (o9 l told))/\Below w.heap.size w wr) (λv _=>n-(lenOf v))
 case atStart=>exact⟨[],by simp,by simp,HB0.out.2,World.ownsRow_nil _ _ _ _,HB0.out.1⟩
 case round=>
  obtain⟨told,bn,aE,aF,aj,ab⟩:=hrel;obtain⟨aR,cR,rfl,bo⟩:=dK aj;have HP:b7 _:=aE;have HU:b7 _:=aF;have HO:b7 (wr.ownsRow (w.heap.size+1) 9 1 (.slice aR told.length cR) told.length (dn (o9 l told))):=aj;have HB:b7 _:=ab;clear aE aF aj ab HB0;by_cases aG:told.length<n
  .have bm:(told.length:Int)<(n:Int):=by omega
   obtain⟨O,ay⟩:∃O:Nat->Bool,O=λi=>ok i && !told.contains i:=⟨_,rfl⟩;have HT:b7 _:=ay;clear ay;generalize wr=wo at *;go_wp2;go_loopw [13,14] (λbv iv wr=>∃i:Nat,i<=12/\iv=.int .i64 i/\bv=.int .i64 (Gc (gS l O i))/\Below wo.heap.size wo wr) (λ_ i _=>12-(intOf i).toNat)
   case atStart=>exact⟨0,by omega,rfl,rfl,Below.refl _ _⟩
   case round=>
    obtain⟨i,hi,rfl,rfl,ab⟩:=hrel;have U:b7 _:=ab;clear ab;by_cases az:i<12
    .have aU:(i:Int)<12:=by omega
     obtain⟨e,c0,c1,c2,c3,c4,ac⟩:=HK.out i az;have B:Below w.heap.size w wr:=HB.out.trans (U.out.mono HB.out.size);have d0:=a1 B c0;have d1:=a1 B c1;have d2:=a1 B c2;have d3:=a1 B c3;have d4:=a1 B c4;have HG:b7 _:=ac;clear c0 c1 c2 c3 c4 B ac;obtain⟨a3,ak⟩:∃c,c=told.contains i:=⟨_,rfl⟩
     have aH:b7 (∀o,(wr.alloc o).cell? ⟨w.heap.size,i,none⟩=some (.bool a3)):=λo=>by
      have hz:=(b3.1 HU.out).1;rw[dh ((Below.heap_alloc _ _ _ (Nat.lt_of_lt_of_le hz U.out.size)).trans ((U.out.block _ hz).trans HU.out)),DT _ az,ak]
     have ao:b7 (O i=(ok i && !a3)):=by show _=_;rw[HT.out,ak]
     clear ak;have ap:b7 (∀o,Below wo.heap.size wo (wr.alloc o)):=λo=>U.out.alloc U.out.size o
     cases ag:th i with
     |false=>
      rw[ag]at d4;have HN:b7 (gS l O (i+1)=gS l O i):=Dh (by rw[ao.out,congrFun an.out i];show(th i&&_&&_)=_;rw[ag];rfl);go_wp2;exact⟨⟨i+1,by omega,by go_num,by rw[HN.out],ap.out _⟩,by simp[intOf];omega⟩
     |true=>
     rw[ag]at d4;have hU:=aH.out (.cells #[.string ⟨e.name.toArray⟩,.string ⟨e.text.toArray⟩,.int .i64 e.dp,.int .i64 e.dA,.bool true] 36);clear aH
     cases a3 with
     |true=>
      have HN:b7 (gS l O (i+1)=gS l O i):=Dh (by rw[ao.out];simp);go_wp2;exact⟨⟨i+1,by omega,by go_num,by rw[HN.out],ap.out _⟩,by simp[intOf];omega⟩
     |false=>
     obtain⟨e1,e2,e3,e4,e5,e6,e7⟩:=HG.out ag;obtain⟨g,hg⟩:∃g:Nat,e.dA=(g:Int):=⟨e.dA.toNat,by omega⟩
     have aq:b7 (O i=(lL t g&&gD m (dO qb.data.toList) (dO e.text))):=by
      show _=_;rw[ao.out,congrFun an.out i];show(th i&&_&&_)=_;rw[ag,<-e1];simp[lG,hg,dE]
     rw[hg]at d3 hU;have aI:b7 (zD e true=.agg #[.string ⟨e.name.toArray⟩,.string ⟨e.text.toArray⟩,.int .i64 e.dp,.int .i64 (g:Int),.bool true]):=by show _=_;rw[<-hg];rfl
     have aJ:b7 _:=e1;have aK:b7 _:=e2;have aL:b7 (∀y,a2 prog 52 #[.int .i64 m,.string qb,.string ⟨e.text.toArray⟩] y λee w'=>ee=.returned (.bool (gD m (dO qb.data.toList) (dO e.text)))/\Below y.heap.size y w'):=λy=>LN m qb ⟨e.text.toArray⟩ y hm hq (by show e.text.toArray.size<=_;simpa using e2);have aV:g<=255:=by omega
     clear e1 e2 e3 e4 e5 e6 e7 hg HG ao ag;generalize gD m (dO qb.data.toList) (dO e.text)=ft at *;generalize (⟨e.name.toArray⟩:ByteArray)=nb at *;generalize (⟨e.text.toArray⟩:ByteArray)=tb at *;generalize e.dp=wt at *;go_wp2;have a4:b7 _:=ap.out (.cells #[.string nb,.string tb,.int .i64 wt,.int .i64 (g:Int),.bool true] 36);have hX:(wr.alloc (.cells #[.string nb,.string tb,.int .i64 wt,.int .i64 (g:Int),.bool true] 36)).heap[wr.heap.size]?=some (.cells #[.string nb,.string tb,.int .i64 wt,.int .i64 (g:Int),.bool true] 36 (0,0)):=o8 _ _;have x0:_=some (Value.string nb):=(dh hX 0).trans rfl;have x1:_=some (Value.string tb):=(dh hX 1).trans rfl;have x2:_=some (Value.int .i64 wt):=(dh hX 2).trans rfl;have x3:_=some (Value.int .i64 (g:Int)):=(dh hX 3).trans rfl;have x4:_=some (Value.bool true):=(dh hX 4).trans rfl;clear hX ap d0 d1 d2 d3 d4 hU;generalize wr.alloc _=wx at *;generalize wr.heap.size=X at *;go_loopw [16,17] (λhv bv wy=>∃j:Nat,j<=8/\bv=.int .i64 ((2 ^ j:Nat):Int)/\hv=.bool ((b5 j).all λi=>tP t g i)/\wy=wx) (λ_ b _=>256-(intOf b).toNat)
     case atStart=>exact⟨0,by omega,rfl,rfl,rfl⟩
     case round=>
      obtain⟨j,hj,rfl,rfl,rfl⟩:=hrel;by_cases bp:j<8
      .have hp:0<2 ^ j/\2 ^ j<=128:=⟨Nat.two_pow_pos j,Nat.pow_le_pow_right (by omega) (show j<=7 by omega)⟩;have HM:b7 _:=MS (t:=t) (g:=g) (j:=j);have aM:2 ^ (j+1)=2*2 ^ j:=by rw[Nat.pow_succ,Nat.mul_comm]
       generalize 2 ^ j=p at *;generalize aN:2 ^ (j+1)=p2 at *;have bq:(p:Int)≠0:=by omega
       have br:(p:Int)<256:=by omega
       have bs:IntKind.i64.wrap (2*(p:Int))=((p2:Nat):Int):=by simp only[IntKind.wrap_i64];omega
       have q1:(t:Int).tdiv (p:Int)=((t / p:Nat):Int):=by rw[b9 (by omega)];rfl
       have q2:(g:Int).tdiv (p:Int)=((g / p:Nat):Int):=by rw[b9 (by omega)];rfl
       have b1:t / p<=255:=bA (b' _ _) ht;have b2:g / p<=255:=bA (b' _ _) aV;generalize t / p=d1 at *;generalize g / p=d2 at *;generalize aO:(b6 (b5 (j+1)) λi=>tP t g i)=nw at *;generalize (b6 (b5 j) λi=>tP t g i)=od at *;have w1:IntKind.i64.wrap (d1:Int)=(d1:Int):=by simp only[IntKind.wrap_i64];omega
       have w2:IntKind.i64.wrap (d2:Int)=(d2:Int):=by simp only[IntKind.wrap_i64];omega
       have HZ:b7 (p2=2*p/\2 ^ (j+1)=p2):=⟨aM,aN⟩;have aW:b7 _:=aO;have r1:(d1:Int).tmod 2=((d1 % 2:Nat):Int):=by rw[b8 (by omega)];rfl
       have r2:(d2:Int).tmod 2=((d2 % 2:Nat):Int):=by rw[b8 (by omega)];rfl
       have s1:d1 % 2=0\/d1 % 2=1:=by omega
       have s2:d2 % 2=0\/d2 % 2=1:=by omega
       generalize d1 % 2=m1 at *;generalize d2 % 2=m2 at *;clear aM aN aO;have al:b7 (∀v,nw=v->(∃j:Nat,j<=8/\Value.int .i64 (p2:Int)=.int .i64 ((2 ^ j:Nat):Int)/\Value.bool v=.bool ((b5 j).all λi=>tP t g i)/\True)/\256-(intOf (.int .i64 (p2:Int))).toNat<256-(intOf (.int .i64 (p:Int))).toNat):=λv hv=>⟨⟨j+1,by omega,by rw[HZ.out.2],by rw[aW.out,hv],trivial⟩,by have:=HZ.out.1;simp[intOf];omega⟩
       cases od with
       |false=>
        go_wp2;exact al.out _ HM.out
       |true=>
        rcases s1 with rfl|rfl
        go_wp2;exact al.out _ HM.out;rcases s2 with rfl|rfl
        all_goals
         go_wp2;exact al.out _ HM.out
      obtain rfl:j=8:=by omega
      rw[<-Lk (by omega)];generalize lL t g=hs at *;go_wp2_with fail;refine(aL.out _).mono ?_;rintro ee wf ⟨rfl,ad⟩;have y0:=a1 ad x0;have y1:=a1 ad x1;have y2:=a1 ad x2;have y3:=a1 ad x3;have y4:=a1 ad x4;have ai:b7 (Below wo.heap.size wo wf):=a4.out.trans (ad.mono a4.out.size);clear ad x0 x1 x2 x3 x4 aL a4;cases hs<;>cases ft
      case true.true=>
       cases Y:gS l O i with
       |none=>
        have HN:b7 (gS l O (i+1)=some i):=Is (by rw[aq.out];rfl) Y;rw[show Gc none = -1 from rfl];clear Y;go_wp2;exact⟨⟨i+1,by omega,by go_num,by rw[HN.out];rfl,ai.out⟩,by simp[intOf];omega⟩
       |some b=>
        obtain⟨ar,aa,_⟩:=sG aD.out i b (by omega) Y;have HN:b7 (gS l O (i+1)=if dY (l.getD i fP) (l.getD b fP)=true then some i else some b):=M8 (by rw[aq.out];rfl) Y
        have ae:th b=true:=by
         rw[congrFun HT.out b,congrFun an.out b]at aa;simp only[Bool.and_eq_true]at aa;exact aa.1.1
        obtain⟨e',c0,c1,c2,c3,c4,ac⟩:=HK.out b (by omega);have B:Below w.heap.size w wf:=HB.out.trans (ai.out.mono HB.out.size);have d0:=a1 B c0;have d1:=a1 B c1;have d2:=a1 B c2;have d3:=a1 B c3;have d4:=a1 B c4;rw[ae]at d4;obtain⟨e1,e2,_⟩:=ac ae;have HC:b7 (∀y,a2 prog 53 #[zD e true,zD e' true] y λee w'=>ee=.returned (.bool (dY e e'))/\Below y.heap.size y w'):=λy=>Jb e e' true true y (by have:=aK.out;omega) (by omega);rw[<-aJ.out,<-e1]at HN;clear c0 c1 c2 c3 c4 ac e1 e2 ae B aa Y;rw[show Gc (some b)=(b:Int)from rfl];have aP:(b:Int)<12:=by omega
        rw[aI.out]at HC;unfold zD at HC;generalize dY e e'=ah at *;generalize (⟨e'.name.toArray⟩:ByteArray)=bt at *;generalize (⟨e'.text.toArray⟩:ByteArray)=bu at *;generalize e'.dp=bw at *;generalize e'.dA=bx at *;clear aJ aK aI aq;go_wp2_with fail;refine gz (Sd:=λa y=>y.tape=wf.tape->mD _ _ _ [7,8] a y) (last:=7) (tl:=[8]) (by kernel_rfl) ?_ (λa y h ht=>h ht);refine dC 0 ?_ ?_<|dC 1 ?_ ?_<|dC 2 ?_ ?_ ?_
        any_goals(intro y hy;have q0:=eN hy y0;have q1:=eN hy y1;have q2:=eN hy y2;have q3:=eN hy y3;have q4:=eN hy y4;unfold gm;go_simp;refine⟨eV.refl _,?_⟩;with_reducible rfl)
        go_simp;refine dC 3 ?_ ?_<|dC 4 ?_ ?_<|dC 5 ?_ ?_<|dC 6 ?_ ?_ ?_
        any_goals(intro y hy;have q0:=eN hy d0;have q1:=eN hy d1;have q2:=eN hy d2;have q3:=eN hy d3;have q4:=eN hy d4;unfold gm;go_simp;refine⟨eV.refl _,?_⟩;with_reducible rfl)
        go_simp;refine mP (by kernel_rfl) (λt=>tK (by kernel_rfl) (by kernel_rfl) _ _) ?_;intro y hy ht;have hF:=HC.out y;have a5:b7 (Below wo.heap.size wo y):=ai.out.trans (Below.mono (Gy hy ht) ai.out.size);clear hy ht d0 d1 d2 d3 d4 y0 y1 y2 y3 y4 HC ai;refine jv rfl rfl ?_;unfold gm;go_simp;refine⟨rfl,hF.mono ?_⟩;rintro ee y3 ⟨rfl,aQ⟩;have aX:b7 (Below wo.heap.size wo y3):=a5.out.trans (aQ.mono a5.out.size);clear hF aQ a5;refine⟨_,rfl,?_⟩;refine jv rfl rfl ?_;unfold gm;go_simp;refine na ?_;cases ah
        all_goals
         go_wp2;exact⟨⟨i+1,by omega,by go_num,by rw[HN.out];rfl,aX.out⟩,by simp[intOf];omega⟩
      all_goals
       have HN:b7 (gS l O (i+1)=gS l O i):=Dh (by rw[aq.out];rfl);go_wp2;exact⟨⟨i+1,by omega,by go_num,by rw[HN.out],ai.out⟩,by simp[intOf];omega⟩
    obtain rfl:i=12:=by omega
    have bz:¬(12:Int)<12:=by omega
    cases Y:gS l O 12 with
    |none=>
     have HF:b7 _:=Ik HP.out (by rw[hl,<-HT.out];exact Y);rw[show Gc none = -1 from rfl];have HR:b7 (wr.ownsRow (w.heap.size+1) 9 1 (.slice aR told.length cR) told.length (dn (o9 l told))):=eh HO.out λk hk=>U.out.block k (HO.out.lt k hk).2;have aY:b7 (Below w.heap.size w wr):=HB.out.trans (U.out.mono HB.out.size);clear Y;go_wp2;go_ret;refine⟨_,rfl,?_,aY.out⟩;rw[HF.out];exact HR.out
    |some b=>
     obtain⟨ar,aa,_⟩:=sG aD.out 12 b (by omega) Y;have aZ:b7 _:=Iu HP.out aG (by rw[hl,<-HT.out];exact Y)
     have ae:th b=true:=by
      rw[congrFun HT.out b,congrFun an.out b]at aa;simp only[Bool.and_eq_true]at aa;exact aa.1.1
     obtain⟨e',c0,c1,c2,c3,c4,ac⟩:=HK.out b ar;have hz:=(b3.1 HU.out).1;have au:=(U.out.block _ hz).trans HU.out;have ba:wr.cell? ⟨w.heap.size,b,none⟩=some (.bool (told.contains b)):=by rw[dh au,DT _ ar]
     have bc:=dI au b;have B:Below w.heap.size w wr:=HB.out.trans (U.out.mono HB.out.size);obtain⟨ws,av⟩:∃ws,wr.setCell ⟨w.heap.size,b,none⟩ (.bool true)=ws:=⟨_,rfl⟩;have af:Below w.heap.size w ws:=by rw[<-av];exact B.setCell (bB _) _
     have d0:=a1 af c0;have d1:=a1 af c1;have d2:=a1 af c2;have d3:=a1 af c3;have d4:=a1 af c4;rw[ae]at d4;obtain⟨e1,e2,e3,e4,e5,_⟩:=ac ae;have HC:b7 (∀y,a2 prog 28 #[zD e' true] y λee w'=>ee=.returned (.string ⟨(fq e').toArray⟩)/\Below y.heap.size y w'):=λy=>MU e' true y (by omega) (by omega) e4 e5
     have a6:b7 (ws.heap[w.heap.size]?=some (.cells (py (told++[b])) 98 (0,0))):=by
      show _=_;rw[<-av,heap_set au,OK _ ar]
     have a7:b7 (ws.ownsRow (w.heap.size+1) 9 1 (.slice aR told.length cR) told.length (dn (o9 l told))):=eh HO.out λk hk=>by
      have h1:=HO.out.lt k hk;rw[<-av,Below.heap_setCell _ _ _ _ (show k≠w.heap.size by omega)];exact U.out.block k h1.2
     have bd:b7 (o9 l (told++[b])=o9 l told++[fq e']):=by show _=_;unfold o9;rw[List.map_append,e1];rfl
     have a9:b7 _:=af;rw[show Gc (some b)=(b:Int)from rfl];have aP:(b:Int)<12:=by omega
     clear Y aa ae c0 c1 c2 c3 c4 ac hz au B af e1 e2 e3 e4 e5 HU HO HP HT U;unfold zD at HC;obtain⟨lb,a'⟩:∃lb:ByteArray,lb=⟨(fq e').toArray⟩:=⟨_,rfl⟩;rw[<-a']at HC;have be:b7 _:=a';clear a';generalize (⟨e'.name.toArray⟩:ByteArray)=nb at *;generalize (⟨e'.text.toArray⟩:ByteArray)=tb at *;generalize e'.dp=wt at *;generalize e'.dA=tg at *;obtain⟨i9,bf,bg,bh,bi⟩:=info_parts tW;go_wp2_with fail;refine(HC.out _).mono ?_;rintro ee wl ⟨rfl,aw⟩;have ax:b7 (wl.ownsRow (w.heap.size+1) 9 1 (.slice aR told.length cR) told.length (dn (o9 l told))):=eh a7.out λk hk=>aw.block k (a7.out.lt k hk).2;have aA:b7 (Below w.heap.size w wl):=a9.out.trans (aw.mono a9.out.size);have HUL:b7 (wl.heap[w.heap.size]?=some (.cells (py (told++[b])) 98 (0,0))):=(aw.block _ (b3.1 a6.out).1).trans a6.out;clear aw a7 a9 a6 ba bc av d0 d1 d2 d3 d4 HC
     go_wp2_with (first
      |(at_builtin;refine fc _ rfl _ _ 31 rfl (w.heap.size+1) 9 i9 (.string ⟨#[]⟩) 16 underlying31 bf bg bh bi rfl _ _ _ rfl (ax.out.alloc _) _ [.string lb] rfl (Rd.one iz) (by simp[Value.oneCell']) ?c1 ?c2 ?c3 ?_))
     case c1=>simp;omega
     case c2=>unfold maxLen;simp;omega
     case c3=>have:=(b3.1 HUL.out).1;simp;omega
     intro v8 w8 am aB bj;have aS:=(b3.1 HUL.out).1;have bk:b7 (Below w.heap.size w w8):=(aA.out.alloc aA.out.size _).grown aB (by simp;omega) λk hk=>by have:=(ax.out.lt k hk).1;omega
     have bl:b7 (w8.heap[w.heap.size]?=some (.cells (py (told++[b])) 98 (0,0))):=by
      show _=_;rw[aB.block _ (by simp;omega) (λe=>by have:=(ax.out.lt _ e.symm).1;omega),Below.heap_alloc _ _ _ aS];exact HUL.out
     have aT:b7 (w8.ownsRow (w.heap.size+1) 9 1 v8 (told++[b]).length (dn (o9 l (told++[b])))):=by
      show World.ownsRow _ _ _ _ _ _ _;rw[bd.out,kZ,List.length_append,<-be.out];exact am
     obtain⟨a8,c8,rfl,_⟩:=dK aT.out;clear am aB bj aS ax aA HUL;go_wp2;exact⟨⟨told++[b],by simp;omega,aZ.out,bl.out,aT.out,bk.out⟩,by simp[lenOf];omega⟩
  have b0:¬(told.length:Int)<(n:Int):=by omega
  have HF:b7 _:=GY HP.out aG;go_wp2;go_ret;refine⟨_,rfl,?_,HB.out⟩;rw[HF.out];exact HO.out
end
end Go.Proofs.YtocbogeoffeolaaGreatDoor
