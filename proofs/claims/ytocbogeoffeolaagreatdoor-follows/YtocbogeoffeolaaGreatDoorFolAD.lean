import Derived.Test.YtocbogeoffeolaaGreatDoorFolAC
import Derived.Laws.MakeOwn
set_option linter.unusedVariables false
set_option linter.unusedSimpArgs false
set_option maxHeartbeats 8000000
set_option maxRecDepth 1000000
open Go renaming cell_later->bb,Calls->bg,maxLen->bh,info_parts->bi
open Go.World renaming cell?_alloc_at->bj,ownsRow_nil->bk
open Nat renaming le_refl->bl,zero_le->bm
open List renaming take_succ_eq_append_getElem->bn
namespace Go.Proofs.YtocbogeoffeolaaGreatDoor
open Go.Proofs.Tryz
section
open Go.RowKit Go.Sort
theorem Nc(a b:Wd)(p q r t:Nat)(w:World)(hp:p<=419430400)(hq:q<=16777217)(hr:r<=419430400)(ht:t<=16777217) :
  bg prog 97 #[.agg #[.string ⟨a.toArray⟩,.int .u64 (p:Int),.int .u64 (q:Int)],.agg #[.string ⟨b.toArray⟩,.int .u64 (r:Int),.int .u64 (t:Int)]] w λe w'=>e=.returned (.int .i64 (if zz (r*q) (p*t)≠0 then zz (r*q) (p*t)else Lib.compareBytes a b))/\∃k os,w'=grow (w.drewN k) os:=by
 have h1:=λW=>OV r t p q W hr ht hp hq
 have h2:∀W:World,bg prog 139 #[.string ⟨a.toArray⟩,.string ⟨b.toArray⟩] W λe w'=>e=.returned (.int .i64 (Lib.compareBytes a b))/\W=w':=λW=>by
  refine(Any.strings_Compare P4 ⟨a.toArray⟩ ⟨b.toArray⟩ W).mono ?_;rintro e w' ⟨rfl,rfl⟩;exact⟨rfl,rfl⟩
 obtain⟨z,hz⟩:∃z,z=zz (r*q) (p*t):=⟨_,rfl⟩;obtain⟨y,hy⟩:∃y,y=Lib.compareBytes a b:=⟨_,rfl⟩;rw[<-hz]at h1⊢;rw[<-hy]at h2⊢;obtain⟨ux,D⟩:∃ux,ux=if z≠0 then z else y:=⟨_,rfl⟩
 rw[<-D]
 have aa:∀(g:Nat)(W:World),W.cell? ⟨g,0,none⟩=some (.int .i64 z)->W.cell? ⟨g,1,none⟩=some (.int .i64 y)->bg prog 126 #[.slice (some ⟨g,0,none⟩) 2 2] W λe w'=>e=.returned (.int .i64 ux)/\W=w':=λg W k1 k2=>by
  rw[D];exact CW z y g W k1 k2
 clear hz hy D;obtain⟨h,B⟩:∃h,h=(w.alloc (.cells #[.string ⟨a.toArray⟩,.int .u64 (p:Int),.int .u64 (q:Int)] 150)).alloc (.cells #[.string ⟨b.toArray⟩,.int .u64 (r:Int),.int .u64 (t:Int)] 150):=⟨_,rfl⟩
 have U:∀j,h.cell? ⟨w.heap.size,j,none⟩=(#[Value.string ⟨a.toArray⟩,.int .u64 (p:Int),.int .u64 (q:Int)]:Array Value)[j]?:=λj=>by
  rw[B,World.cell?_alloc_past _ _ _ (by simp),bj _ _ _ _ rfl]
 have O:∀j,h.cell? ⟨w.heap.size+1,j,none⟩=(#[Value.string ⟨b.toArray⟩,.int .u64 (r:Int),.int .u64 (t:Int)]:Array Value)[j]?:=λj=>by
  rw[B,bj _ _ _ _ (by simp)]
 have ab:h.heap.size=w.heap.size+2:=by rw[B]; simp
 have Y:∃os,h=grow w os:=⟨_,by rw[B,alloc_eq_grow,alloc_eq_grow,grow_grow]⟩
 have ac:bg prog 138 #[.agg #[.int .u64 (r:Int),.int .u64 (t:Int)],.agg #[.int .u64 (p:Int),.int .u64 (q:Int)]] h.drew λe w1=>e=.returned (.int .i64 z)/\(∃k os,w1=grow (w.drewN k) os)/\w1.cell? ⟨w.heap.size,0,none⟩=some (.string ⟨a.toArray⟩)/\w1.cell? ⟨w.heap.size+1,0,none⟩=some (.string ⟨b.toArray⟩):=by
  refine(h1 h.drew).mono ?_;rintro e w1 ⟨rfl,k,os,rfl⟩;refine⟨rfl,?_,?_,?_⟩
  .obtain⟨ad,ae⟩:=Y;refine⟨1+k,ad++os,?_⟩;rw[ae,<-grow_grow,<-drew_drewN];rfl
  .rw[BW _ _ _ (by show w.heap.size<h.heap.size; omega)];exact U 0
  .rw[BW _ _ _ (by show w.heap.size+1<h.heap.size; omega)];exact O 0
 have a0:h.cell? ⟨w.heap.size,0,none⟩=some (.string ⟨a.toArray⟩):=U 0;have a1:h.cell? ⟨w.heap.size,1,none⟩=some (.int .u64 (p:Int)):=U 1;have a2:h.cell? ⟨w.heap.size,2,none⟩=some (.int .u64 (q:Int)):=U 2;have b0:h.cell? ⟨w.heap.size+1,0,none⟩=some (.string ⟨b.toArray⟩):=O 0;have b1:h.cell? ⟨w.heap.size+1,1,none⟩=some (.int .u64 (r:Int)):=O 1;have b2:h.cell? ⟨w.heap.size+1,2,none⟩=some (.int .u64 (t:Int)):=O 2;clear h1 U O ab Y;go_enter func97,ntmps97;go_wp2_with fail;rw[<-B];clear B
 go_region_law (first
  |(go_simp
    go_at_call 138
    refine ac.mono ?_
    rintro e w1 ⟨rfl,af,ag,ah⟩)
  |(go_simp
    go_at_call 139
    refine(h2 _).mono ?_
    rintro e w' ⟨rfl,rfl⟩)
  |(go_simp
    go_at_call 126
    refine(aa _ _ (BZ (by rfl)).1 (BZ (by rfl)).2).mono ?_
    rintro e w' ⟨rfl,rfl⟩))
 all_goals
  go_wp2;go_ret;obtain⟨k,os,rfl⟩:=af;exact⟨rfl,k,_,by rw[alloc_eq_grow,grow_grow]⟩
end
section
open Go.RowKit Go.Maps Go.Sort
theorem MG:(prog.info? 150).map (λi=>(i.zero,i.size,i.bytes))=some (some (.agg #[.string ⟨#[]⟩,.int .u64 0,.int .u64 0]),3,32):=by kernel_rfl
theorem Mc(h:List (List Wd))(l:List Wd)(B:jE h<=16777216)(blk off size:Nat)(w:World):CmpLays prog 97 #[] (mN (wX h l)) 3 (Su (wX h l)) blk off size w:=by
 intro m os D _ x y;have O:=O7 h l x;have U:=O7 h l y;exact Nc x y _ _ _ _ _ (by omega) (by omega) (by omega) (by omega)
theorem Lc(y:List (List Wd))(l:List Wd)(most:Nat)(kn:List Wd)(hk:kn.Perm (iA y))(aa:jE y<=16777216)(W:Option Addr)(Y:Nat)(w wr:World)
  (D:wr.ownsRow w.heap.size 150 3 (.slice W kn.length Y) kn.length (m6 (wX y l) kn)) (hb:Below w.heap.size w wr) :
  bg prog 96 #[.slice W kn.length Y,.func (.func 97) #[] #[]] wr λe w2=>e=.returned (.tuple #[])/\Below w.heap.size w w2/\
   ∃d:List Wd,kQ y l most=d.take (min most kn.length)/\d.length=kn.length/\∀i(h:i<d.length),∃g,W=some ⟨g,0,none⟩/\w2.cell? ⟨g,i*3,none⟩=some (.string ⟨d[i].toArray⟩)/\(∃a,w2.cell? ⟨g,i*3+1,none⟩=some (.int .u64 a))/\(∃a,w2.cell? ⟨g,i*3+2,none⟩=some (.int .u64 a)):=by
 by_cases h0:kn=[]
 .subst h0;have B:=AnyF.slices_SortFunc_none EW W Y (.func (.func 97) #[] #[]) wr;change bg prog 96 _ _ _ at B;refine B.mono ?_;rintro e w2 ⟨rfl,rfl⟩;refine⟨rfl,hb,[],?_,rfl,λi h=>by simp at h⟩;have ab:iA y=[]:=List.Perm.eq_nil hk.symm;unfold kQ;rw[ab];simp[AE]
 .obtain⟨g,rfl⟩:∃g,W=some ⟨g,0,none⟩:=by
   rcases D.2 with⟨he,hn⟩|⟨g,cap,ad,he,_⟩
   .exact absurd (List.length_eq_zero_iff.1 (by simpa using hn)) h0
   .simp only[Value.slice.injEq]at he;exact⟨g,he.1⟩
  have U:=D.lt g rfl
  have B:=AnyQ.slices_SortFunc EW 3 isAgg150 sizeOf150 (mN (wX y l)) (λ_=>rfl) (Kz (wX y l)) (Su (wX y l)) (P8 y l) 97 #[] g 0 Y kn.toArray wr
   (enters_of func97 (by kernel_rfl) rfl) (Mc y l aa g 0 _ wr) (Af (wX y l) D rfl) U.2 (by have h2:=hk.length_eq; have h3:=IX y y.length (bl _); rw[List.take_length]at h3; simp; omega)
  change bg prog 96 _ _ _ at B;have e1:kn.toArray.size=kn.length:=by simp
  refine B.mono ?_;rintro e w2 ⟨rfl,d',nq,os,hp,hs,rfl⟩;have ac:d'.size=kn.length:=by rw[hp.1]; simp
  have hH:HoldsK (mN (wX y l)) 3 (sortWorldK (mN (wX y l)) 3 wr g 0 nq d' os) g 0 d':=by
   unfold sortWorldK;refine holdsK_grow _ _ _ _ _ _ _ ?_ (holdsK_putRowK _ _ _ _ _ kn.toArray _ (holdsK_ahead _ _ _ _ _ _ _ (Af (wX y l) D rfl)) hp.1);unfold putRowK putRow mapBlock;simp[Sort.ahead];exact U.2
  refine⟨rfl,Gv hb U.1,d'.toList,?_,by simpa using ac,λi hi=>?_⟩
  .exact AK y l kn most d' hk hp hs
  .have O:i<d'.size:=by simpa using hi
   have g0:=(HoldsK.cell hH O (c:=0) (by decide)).1;have g1:=(HoldsK.cell hH O (c:=1) (by decide)).1;have g2:=(HoldsK.cell hH O (c:=2) (by decide)).1;have e2:d'[i]! = d'.toList[i]:=by rw[getElem!_pos d' i O]; rfl
   rw[e2]at g0 g1 g2;rw[Nat.zero_add]at g0 g1 g2;exact⟨g,rfl,g0,⟨_,g1⟩,⟨_,g2⟩⟩
theorem PB{w:World}{x y z:Value}{t:TypeId}{g:Nat}(B:g=w.heap.size):pA (w.alloc (.cells #[x,y,z] t)) 3 (.slice (some ⟨g,0,none⟩) 1 1) 1 [x,y,z]:=by
 subst B;refine⟨some ⟨w.heap.size,0,none⟩,1,rfl,bl _,by unfold bh; omega,rfl,λj u h=>⟨w.heap.size,0,rfl,?_⟩⟩;rw[bj _ _ _ _ rfl]
 match j,h with
 |0,h=>simpa using h
 |1,h=>simpa using h
 |2,h=>simpa using h
 |j+3,h=>simp at h
theorem Oq(F:Nat->Prop)(b:Nat)(vB vS:Value)(U:List (List Wd))(B n:Nat)(vK:Value)(kn l:List Wd)(vl:Value)(most:Nat)(w:World)(hW:Jd w)(hP:PW w F b vB vS U B n vK kn)
  (hl:Rd w vl (gQ l)) (a8:∀y∈l,y≠[]/\y.length<=24) (aP:l.length<=24) (h1:1<=most) (aQ:most<=20) (ar:jE U<=16777216) :
  bg prog 68 #[.pointer (some ⟨b,2,none⟩),vl,.int .i64 (most:Int)] w λe w'=>∃v,e=.returned v/\w'.ownsRow w.heap.size 9 1 v (kQ U l most).length (gQ (kQ U l most))/\Below w.heap.size w w':=by
 obtain⟨i0,hi,av,aw,ax⟩:=bi MG;obtain⟨i9,a9,a',aA,aB⟩:=bi tW;obtain⟨al,cl,rfl,mL,hml,_⟩:=id hl;rw[gY]at hl mL⊢;unfold bh at hml;obtain⟨aK,cK,rfl,aR⟩:=ib hP.row;have aL:=hP.yE
 have aC:Hid (∀i u,(gQ kn)[i]?=some u->∃b off,aK=some ⟨b,off,none⟩/\w.cell? ⟨b,off+i,none⟩=some u):=by
  obtain⟨aS,aT,ay,_,_,aD⟩:=Rd.lr hP.row;simp only[Value.slice.injEq]at ay;obtain⟨rfl,_,rfl⟩:=ay;exact aD
 have az:w.cell? ⟨b,2,none⟩=some (.map (some B)):=by rw[Ps hP.blk]; rfl
 have a0:w.cell? ⟨b,3,none⟩=some (.slice aK kn.length cK):=by rw[Ps hP.blk]; rfl
 obtain⟨k,hk⟩:∃k,k=l.length-2:=⟨_,rfl⟩;have aU:max (0:Int) ((l.length:Int)-3+1)=(k:Int):=by omega
 have aV:(k:Int)<=(l.length:Int):=by omega
 have aj:Rd w (.slice (if cl=k then al else Option.map (λx=>x.add k) al) (l.length-k) (cl-k)) (gQ (pq l)):=by
  unfold pq;rw[<-hk];exact hl.Ar k (by omega)
 have aM:(pq l).length=l.length-k:=by unfold pq; rw[<-hk]; simp
 generalize aW:(if cl=k then al else Option.map (λx=>x.add k) al)=aa at aj;obtain⟨W0,aE,hown0,ak⟩:=run_make_own (P:=prog) w w.heap.size 145 150 i0 _ 3 underlying145 hi av aw .i64 .i64 kn.length (by rw[ax]; omega) (by unfold bh; omega) (bl _);have hb0:Below w.heap.size w W0:=(Below.refl _ w).grown ak (bl _) (λk hk=>by cases hk);have a1:=bb hb0 a0;have HP:Hid (PW _ _ _ _ _ _ _ _ _ _):=hP;clear hP hl hk;go_enter func68,ntmps68;go_wp2_with fail;go_loopw [7,31] (λu i wr=>∃j:Nat,j<=kn.length/\i=.int .i64 j/\wr.ownsRow w.heap.size 150 3 u j (m6 (wX U l) (kn.take j))/\Below w.heap.size w wr) (λ_ i _=>kn.length-(intOf i).toNat)
 case atStart=>exact⟨0,bm _,rfl,hown0,hb0⟩
 case round=>
  obtain⟨j,hj,rfl,D,hb⟩:=hrel;have HS:=hb.size;obtain⟨au,cu,rfl,aX⟩:=lS D;by_cases am:j<kn.length
  .obtain⟨bK,oK,rfl,ab⟩:=aC.out j _ (kW kn j am);have a7:=bb hb ab;have ac:kn[j]∈iA U:=HP.out.perm.mem_iff.1 (List.getElem_mem am)
   have hx:kn[j]≠[]/\kn[j].length<=24:=by
    obtain⟨t,ht,aF⟩:=(lc U _).1 ac;exact HP.out.ok t ht _ aF
   have HE:Hid (kn.take (j+1)=kn.take j++[kn[j]]):=bn am;have ae:=Ha b 2 B n U _ (pq l) kn[j] wr (hW.below hb) (bb hb az) (HP.out.cnt.below hb) (aj.below hb) (KF l) (λy hy=>a8 y (List.mem_of_mem_drop hy)) hx ar;rw[<-GJ U l kn[j] ac]at ae;clear ac ab;generalize kn[j]=x at *;obtain⟨p1,an⟩:∃p1:Int,p1=((wX U l x).1:Int):=⟨_,rfl⟩;obtain⟨p2,ao⟩:∃p2:Int,p2=((wX U l x).2:Int):=⟨_,rfl⟩;rw[<-an,<-ao]at ae
   have HC:Hid (mN (wX U l) x=[.string ⟨x.toArray⟩,.int .u64 p1,.int .u64 p2]):=by
    show mN (wX U l) x=_;unfold mN;rw[an,ao]
   clear an ao;go_wp2_with fail;refine ae.mono ?_;rintro e w1 ⟨rfl,ap⟩;clear ae;have aN:=ap.size;have a2:Below w.heap.size w w1:=hb.trans (ap.mono HS);have ad:=kE D (λk hk=>ap.block k (D.lt k hk).2);go_wp2_with (at_builtin; go_must (refine yj _ rfl _ _ 145 rfl w.heap.size 150 i0 _ 3 32 underlying145 hi av aw ax rfl (by decide) _ _ _ rfl (ad.alloc _) _ 1 [.string ⟨x.toArray⟩,.int .u64 p1,.int .u64 p2] rfl ?cr ?c0 ?c1 ?c2 ?c3 ?_))
   case cr=>exact PB rfl
   case c0=>intro u hu; simp at hu; rcases hu with rfl|rfl|rfl<;>rfl
   case c1=>omega
   case c2=>unfold bh; omega
   case c3=>first|omega|(simp; omega)
   intro v' w2 hown2 a3 _;rw[<-HC.out,<-Bh,<-HE.out]at hown2;have hb2:Below w.heap.size w w2:=(a2.alloc (by omega) _).grown a3 (by simp; omega) (λk hk=>(ad.lt k hk).1);go_wp2_with fail;go_roundw
   case rel=>exact⟨j+1,by omega,by go_num,hown2,hb2⟩
   case measure=>simp[intOf]; omega
  .have ej:j=kn.length:=by omega
   subst ej;rw[List.take_of_length_le (bl _)]at D;have W:=Lc U l most kn HP.out.perm ar au cu w wr D hb;clear az a0 a1 aE hown0 ak hb0 D hb aj;obtain⟨m,hm⟩:∃m,m=min most kn.length:=⟨_,rfl⟩;have aY:min (most:Int) (kn.length:Int)=(m:Int):=by omega
   have aZ:(m:Int)<=(cu:Int):=by omega
   have ba:m<=20:=by omega
   rw[<-hm]at W;clear hm;go_wp2_with fail;refine W.mono ?_;rintro e w2 ⟨rfl,hb2,d,a4,bc,a5⟩;clear W;have aG:Hid (kQ U l most=d.take m):=a4;have aH:Hid (∀i(h:i<d.length),∃g,au=some ⟨g,0,none⟩/\w2.cell? ⟨g,i*3,none⟩=some (.string ⟨d[i].toArray⟩)/\(∃a,w2.cell? ⟨g,i*3+1,none⟩=some (.int .u64 a))/\(∃a,w2.cell? ⟨g,i*3+2,none⟩=some (.int .u64 a))):=a5;have bd:m<=d.length:=by omega
   clear a4 a5;have af:=hb2.size;go_wp2_with fail;go_loopw [10,54] (λu i wx=>∃q:Nat,q<=m/\i=.int .i64 q/\wx.ownsRow w2.heap.size 9 1 u q (gQ (d.take q))/\Below w2.heap.size w2 wx) (λ_ i _=>m-(intOf i).toNat)
   case atStart=>exact⟨0,bm _,rfl,bk _ _ _ _,Below.refl _ _⟩
   case round=>
    obtain⟨q,hq,rfl,O,Y⟩:=hrel;have aI:=Y.size;have a6:Below w.heap.size w wr:=hb2.trans (Y.mono af);obtain⟨aq,cq,rfl,be⟩:=ib O;by_cases aO:q<m
    .obtain⟨g,rfl,ag,⟨y1,ah⟩,⟨y2,ai⟩⟩:=aH.out q (by omega);have ak:=bb Y ag;have bf:=bb Y ah;have a3:=bb Y ai;have HE:Hid (d.take (q+1)=d.take q++[d[q]'(by omega)]):=bn (by omega);clear ag ah ai;generalize d[q]'(by omega)=x at *;go_wp2_with (at_builtin; go_must (refine jp _ rfl _ _ 31 rfl w2.heap.size 9 i9 (.string ⟨#[]⟩) 16 underlying31 a9 a' aA aB rfl _ _ _ rfl ((O.alloc _).alloc _) ⟨wr.heap.size+1,0,none⟩ (.string ⟨x.toArray⟩) rfl ?c0 rfl ?c1 ?c2 ?c3 ?_))
     case c0=>exact Ld (by simp)
     case c1=>omega
     case c2=>unfold bh; omega
     case c3=>first|omega|(simp; omega)
     intro v' w4 hown4 aJ _;rw[<-lH,<-HE.out]at hown4;have hb4:Below w2.heap.size w2 w4:=((Y.alloc aI _).alloc (by simp; omega) _).grown aJ (by simp; omega) (λk hk=>(O.lt k hk).1);go_wp2_with fail;go_roundw
     case rel=>exact⟨q+1,by omega,by go_num,hown4,hb4⟩
     case measure=>simp[intOf]; omega
    .have eq:q=m:=by omega
     subst eq;go_wp2;go_ret;refine⟨_,rfl,?_,a6⟩;rw[aG.out];have:(d.take q).length=q:=by simp; omega
     rw[this];exact mH O af
end
section
open Go.RowKit Go.Maps
theorem ES(most:Int)(w:World):bg prog 47 #[.int .i64 most] w λe w'=>e=.returned (.bool (decide (1<=most/\most<=20)))/\w=w':=by
 by_cases y:1<=most
 .by_cases B:most<=20
  .rw[decide_eq_true ⟨y,B⟩];go_enter func47,ntmps47;go_wp2;go_ret;exact⟨iR (by simp),rfl⟩
  .rw[decide_eq_false (λh=>B h.2)];go_enter func47,ntmps47;go_wp2;go_ret;exact⟨iR (by simp),rfl⟩
 .rw[decide_eq_false (λh=>y h.1)];go_enter func47,ntmps47;go_wp2;go_ret;exact⟨iR (by simp),rfl⟩
theorem EK(w:World)(F:Nat->Prop)(b:Nat)(U:List (List Wd))(s:ByteArray)(most:Int)(hW:Jd w)(hP:PE w F b U)(hB:jE U<=16777216)(hs:s.size<=bh) :
  bg prog 35 #[.pointer (some ⟨b,0,none⟩),.string s,.int .i64 most] w λe w'=>∃v,e=.returned (.tuple #[v,.int .i64 (tf U s.data.toList most).2])/\
   w'.ownsRow w.heap.size 9 1 v (tf U s.data.toList most).1.length (gQ (tf U s.data.toList most).1)/\Below w.heap.size w w':=by
 have hT:=ES most w;by_cases h:most<1\/20<most
 .have e:tf U s.data.toList most=([],3):=by unfold tf; rw[if_pos h]
  rw[e];rw[decide_eq_false (by omega)]at hT;clear h e;go_enter func35,ntmps35;go_wp2_with fail;refine hT.mono ?_;rintro e w' ⟨rfl,rfl⟩;go_wp2;go_ret2;exact⟨_,rfl,bk _ _ _ _,Below.refl _ _⟩
 .rw[decide_eq_true (by omega)]at hT;have hY:=sL s w hs;by_cases Y:iX s.data.toList=true
  .rw[Y]at hY;obtain⟨m,rfl⟩:∃m:Nat,most=(m:Int):=⟨most.toNat,by omega⟩;have e:tf U s.data.toList (m:Int)=(kQ U (jK (iD s.data.toList)) m,0):=by unfold tf; rw[if_neg h,if_pos Y]; rfl
   rw[e];obtain⟨ad,ae⟩:=xH s Y;have af:=xF s w.drew Y;have ai:1<=m:=by omega
   have aj:m<=20:=by omega
   clear h e Y;generalize jK (iD s.data.toList)=l at *;obtain⟨hF,vB,vS,B,n,vK,kn,ag⟩:=hP
   have ah:bg prog 67 #[.string s] w.drew λe w1=>∃a c,e=.returned (.slice a l.length c)/\Below w.heap.size w w1/\
     bg prog 68 #[.pointer (some ⟨b,2,none⟩),.slice a l.length c,.int .i64 (m:Int)] w1 λe w2=>∃a' c',e=.returned (.slice a' (kQ U l m).length c')/\w2.ownsRow w.heap.size 9 1 (.slice a' (kQ U l m).length c') (kQ U l m).length (gQ (kQ U l m))/\Below w.heap.size w w2:=by
    refine af.mono ?_;rintro e w1 ⟨v,rfl,W,y⟩;have aa:w1.ownsRow w.heap.size 9 1 v l.length (gQ l):=W;have O:Below w.heap.size w w1:=⟨y.os,y.tape,y.output,y.size,y.block⟩;clear W y;obtain⟨a,c,rfl,_⟩:=ib aa;refine⟨a,c,rfl,O,?_⟩;refine(Oq F b vB vS U B n vK kn l _ m w1 (hW.below O) (ag.stay (λk hk=>O.block k (hF k hk))) (Rd.lr aa) ad ae ai aj hB).mono ?_;rintro e w2 ⟨v2,rfl,D,ab⟩;obtain⟨a',c',rfl,_⟩:=ib D;exact⟨a',c',rfl,mH D O.size,O.trans (ab.mono O.size)⟩
   clear af ad ae ag;go_enter func35,ntmps35;go_wp2_with fail;refine hT.mono ?_;rintro e w' ⟨rfl,rfl⟩;go_wp2_with fail;refine hY.mono ?_;rintro e w' ⟨rfl,rfl⟩;clear hT hY;go_wp2_with fail
   go_region_law (first
    |(go_simp
      go_at_call 67
      refine ah.mono ?_
      rintro e w1 ⟨a,c,rfl,O,ac⟩)
    |(go_simp
      go_at_call 68
      refine ac.mono ?_
      rintro e w2 ⟨a',c',rfl,D,ab⟩))
   all_goals
    go_wp2;go_ret2;exact⟨_,rfl,D,ab⟩
  .have ak:iX s.data.toList=false:=by simpa using Y
   rw[ak]at hY;have e:tf U s.data.toList most=([],2):=by unfold tf; rw[if_neg h,if_neg Y]
   rw[e];clear h e Y;go_enter func35,ntmps35;go_wp2_with fail;refine hT.mono ?_;rintro e w' ⟨rfl,rfl⟩;go_wp2_with fail;refine hY.mono ?_;rintro e w' ⟨rfl,rfl⟩;go_wp2;go_ret2;exact⟨_,rfl,bk _ _ _ _,Below.refl _ _⟩
end
end Go.Proofs.YtocbogeoffeolaaGreatDoor
