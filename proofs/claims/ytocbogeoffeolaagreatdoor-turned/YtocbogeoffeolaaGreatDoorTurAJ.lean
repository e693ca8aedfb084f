import Derived.Test.YtocbogeoffeolaaGreatDoorTurAI
set_option linter.all false
set_option maxHeartbeats 8000000
set_option maxRecDepth 1000000
open List renaming getD_eq_getElem?_getD->a1,getElem?_eq_getElem->a2,replicate->aU,getElem_mem->aV,range->aW,replicate_succ->aX,getElem?_append_left->aY,map_set->aZ
open Go renaming cell_later->ba,Calls->bc,madeCells->bd,bodyPost_ret->be,wpList_make_full->bf,wp_region_held->bg,results->bh,wpAnyH_done->bi,info_parts->bj
open Go.World renaming size_alloc->bk,cell?_alloc_at->bl,ownsRow->bm,cell?_alloc_past->bn,cell?_setCell_other->bo,cell?_setCell_far->bp
open Nat renaming le_refl->bq,zero_add->br,lt_or_ge->bs,zero_le->bu
open Option.some renaming injEq->bv
open Go.RowKit.Below renaming refl->bw,setCell->bx
open Go.Addr.mk renaming injEq->bz
open Go.RowKit renaming Hid->b3
namespace Go.Proofs.YtocbogeoffeolaaGreatDoor
open Go.Proofs.Tryz
section
open Go.RowKit
theorem F9(s p:ByteArray)(w:World) :
  bc prog 267 #[.string s,.string p] w λe w'=>e=.returned (.bool (qo s.data.toList p.data.toList))/\w=w':=by
 by_cases h:p.size<=s.size
 .go_wp2;go_ret;rw[JJ,ByteArray.toList_eq,ByteArray.toList_eq];simp[h]
 .go_wp2;go_ret;rw[JJ];simp[h]
theorem z8(s p:ByteArray)(w:World) :
  bc prog 240 #[.string s,.string p] w λe w'=>e=.returned (.bool (qo s.data.toList p.data.toList))/\w=w':=by
 go_enter func240,ntmps240;go_wp2_with fail;refine(F9 s p w).mono ?_;rintro e w' ⟨rfl,rfl⟩;go_wp2;go_ret;exact⟨rfl,rfl⟩
theorem yJ(s:ByteArray)(k:Nat)(w:World)(hs:s.size<=1099511627776)(hk:k<s.size) :
  bc prog 268 #[.string s,.int .i64 k] w λe w'=>e=.returned (.bool (fM s.data.toList k))/\w=w':=by
 have e1:=lu s k hk;have ab:(k:Int)<(s.size:Int):=by omega
 obtain⟨U,y⟩:∃U,U=fc s[k]:=⟨_,rfl⟩;have B:=mI s[k] w;rw[<-y]at B;by_cases h0:k=0
 .subst h0
  have W:b3 (fM s.data.toList 0=U):=by
   show _=_;unfold fM;rw[e1,<-y]; simp
  clear e1 y;go_enter func268,ntmps268;go_wp2_with fail;refine B.mono ?_;rintro e w' ⟨rfl,rfl⟩;clear B
  cases U with
  |false=>
   go_wp2;go_ret;exact⟨eG W.out.symm,rfl⟩
  |true=>
   go_wp2;go_ret;exact⟨eG W.out.symm,rfl⟩
 .have ac:((k:Int)==0)=false:=by rw[beq_eq_false_iff_ne]; omega
  have aa:k-1<s.size:=by omega
  have e2:=lu s (k-1) aa;obtain⟨b2,O⟩:∃b2,b2=fc s[k-1]:=⟨_,rfl⟩;have Y:=mI s[k-1] w;rw[<-O]at Y
  have W:b3 (fM s.data.toList k=(U && !b2)):=by
   show _=_;unfold fM;rw[e1,e2,<-y,<-O]; simp[h0]
  have ad:(k:Int)-1=((k-1:Nat):Int):=by omega
  have ae:(k:Int)-1<(s.size:Int):=by omega
  have af:(0:Int)<=k-1:=by omega
  clear e1 e2 y O;go_enter func268,ntmps268;go_wp2_with fail;refine B.mono ?_;rintro e w' ⟨rfl,rfl⟩
  cases U with
  |false=>
   go_wp2;go_ret;exact⟨eG (by rw[W.out]; rfl),rfl⟩
  |true=>
   go_wp2_with fail;refine Y.mono ?_;rintro e w' ⟨rfl,rfl⟩;go_wp2;go_ret;exact⟨eG (by rw[W.out]; rfl),rfl⟩
end
section
open Go.RowKit
theorem BV(B y:ByteArray)(w:World)(hs:y.size<=1048576) :
  bc prog 241 #[.string B,.string y] w λe w'=>e=.returned (.bool (kz 1 B.data.toList y.data.toList))/\w=w':=by
 have HF:b3 (kz 1 B.data.toList y.data.toList=(aW y.size).any λi=>fM y.data.toList i&&qo (y.data.toList.drop i) B.data.toList):=by
  show _=_;unfold kz;simp
 go_enter func241,ntmps241;go_wp2;go_loopw [8] (λiv wr=>∃i:Nat,i<=y.size/\iv=.int .i64 i/\(∀j,j<i->(fM y.data.toList j&&qo (y.data.toList.drop j) B.data.toList)=false)/\w=wr) (λi _=>y.size-(intOf i).toNat)
 case atStart=>exact⟨0,bu _,rfl,λj hj=>by omega,rfl⟩
 case round=>
  obtain⟨i,hi,rfl,ab,rfl⟩:=hrel;have O:b3 (∀j,j<i->(fM y.data.toList j&&qo (y.data.toList.drop j) B.data.toList)=false):=ab;clear ab;by_cases ac:i<y.size
  .have ag:(i:Int)<(y.size:Int):=by omega
   have ah:(i:Int)<=(y.size:Int):=by omega
   obtain⟨b1,U⟩:∃b1,b1=fM y.data.toList i:=⟨_,rfl⟩;obtain⟨b2,W⟩:∃b2,b2=qo (y.data.toList.drop i) B.data.toList:=⟨_,rfl⟩;have Y:=yJ y i w (by omega) ac;have aa:=z8 (y.extract i y.size) B w;rw[<-U]at Y;rw[O8,<-W]at aa;have ad:b3 (b1=fM y.data.toList i):=U;have ae:b3 (b2=qo (y.data.toList.drop i) B.data.toList):=W;clear U W;go_wp2_with fail;refine Y.mono ?_;rintro e w3 ⟨rfl,rfl⟩;clear Y
   cases b1 with
   |false=>
    go_wp2;go_roundw
    case rel=>exact⟨i+1,by omega,by go_num,λj hj=>by
     rcases bs j i with h|h
     .exact O.out j h
     .have e:j=i:=by omega
      subst e; rw[<-ad.out]; rfl,trivial⟩
    case measure=>simp[intOf]; omega
   |true=>
    go_wp2_with fail;refine aa.mono ?_;rintro e w4 ⟨rfl,rfl⟩;clear aa
    cases b2 with
    |false=>
     go_wp2;go_roundw
     case rel=>exact⟨i+1,by omega,by go_num,λj hj=>by
      rcases bs j i with h|h
      .exact O.out j h
      .have e:j=i:=by omega
       subst e; rw[<-ae.out]; simp,trivial⟩
     case measure=>simp[intOf]; omega
    |true=>
     have HY:b3 (kz 1 B.data.toList y.data.toList=true):=by
      show _=_;rw[HF.out];exact any_some i ac (by rw[<-ad.out,<-ae.out]; rfl)
     go_wp2;go_ret;exact⟨eG HY.out.symm,rfl⟩
  .have af:i=y.size:=by omega
   subst af
   have HY:b3 (kz 1 B.data.toList y.data.toList=false):=by
    exact any_none O.out
   go_wp2;go_ret;exact⟨eG HY.out.symm,rfl⟩
end
section
open Go.RowKit
theorem A2(n:Nat):(bd #[Value.int .i64 0] n).toList=dT (aU n 0):=by
 apply List.ext_getElem
 .simp[bd,dT]
 .simp[bd,dT,Nat.mod_one]
def kM(n i:Nat):List Nat:=aW i++aU (n-i) 0
theorem G4{n i:Nat}(h:i<=n):(kM n i).length=n:=by simp[kM]; omega
theorem Eg{n i:Nat}(h:i<n):(dT (kM n i)).set i (.int .i64 (i:Int))=dT (kM n (i+1)):=by
 have e:n-i=(n-(i+1))+1:=by omega
 have y:kM n (i+1)=(kM n i).set i i:=by
  unfold kM;rw[e,aX,List.range_succ];simp
 rw[y];unfold dT;rw[aZ]
theorem GB(n:Nat):kM n n=aW n:=by simp[kM]
theorem wD(y:ByteArray)(w:World)(hq:y.size<=1048576) :
  bc prog 269 #[.string y] w λe w'=>∃g,e=.returned (.slice (some ⟨g,0,none⟩) (y.size+1) (y.size+1))/\w'.ownsRow w.heap.size 3 1 (.slice (some ⟨g,0,none⟩) (y.size+1) (y.size+1)) (y.size+1) (dT (aW (y.size+1)))/\Below w.heap.size w w':=by
 obtain⟨i3,ac,ad,ae,hy2⟩:=bj QI;go_enter func269,ntmps269;go_wp2_with (at_make; go_must (refine bf _ rfl _ _ 26 rfl w.heap.size 3 i3 (.int .i64 0) 1 underlying26 ac ad ae .i64 .i64 _ _ (y.size+1) rfl rfl rfl rfl ?m1 ?m2 ?m3 ?_))
 case m1=>rw[hy2]; omega
 case m2=>unfold maxLen; omega
 case m3=>exact bq _
 intro w5 W Y;have HB5:b3 (Below w.heap.size w w5):=(bw _ _).grown Y (bq _) (by simp)
 have HT5:b3 (w5.ownsRow w.heap.size 3 1 (.slice (some ⟨w.heap.size,0,none⟩) (y.size+1) (y.size+1)) (y.size+1) (dT (kM (y.size+1) 0))):=by
  show bm _ _ _ _ _ _ _;have e:(bd #[Value.int .i64 0] (y.size+1)).toList=dT (kM (y.size+1) 0):=by rw[A2]; simp[kM]
  rw[<-e];exact W
 clear W Y;generalize hg:w.heap.size=g at *;have aa:b3 (w.heap.size=g):=hg;clear hg;go_wp2;go_loopw [11] (λiv wr=>∃i:Nat,i<=y.size+1/\iv=.int .i64 i/\wr.ownsRow g 3 1 (.slice (some ⟨g,0,none⟩) (y.size+1) (y.size+1)) (y.size+1) (dT (kM (y.size+1) i))/\Below g w wr) (λi _=>y.size+1-(intOf i).toNat)
 case atStart=>exact⟨0,bu _,rfl,HT5.out,HB5.out⟩
 case round=>
  obtain⟨i,hi,rfl,B,O⟩:=hrel;by_cases U:i<y.size+1
  .have ah:(i:Int)<(y.size:Int)+1:=by omega
   obtain⟨bt,ot,ab,af⟩:=iX B i _ (iM _ i (by rw[G4 hi]; exact U));simp only[bv,bz]at ab;obtain⟨rfl,rfl,_⟩:=ab;rw[br]at af;have ai:=qP B i
   have HO6:b3 ((wr.setCell ⟨g,i,none⟩ (.int .i64 i)).ownsRow g 3 1 (.slice (some ⟨g,0,none⟩) (y.size+1) (y.size+1)) (y.size+1) (dT (kM (y.size+1) (i+1)))):=by
    show bm _ _ _ _ _ _ _;rw[<-Eg U];exact sY B i _ U
   have HB6:b3 (Below g w (wr.setCell ⟨g,i,none⟩ (.int .i64 i))):=by exact bx O (bq _) _
   clear B O;go_wp2;go_roundw
   case rel=>exact⟨i+1,by omega,by go_num,HO6.out,HB6.out⟩
   case measure=>simp[intOf]; omega
  .have ag:i=y.size+1:=by omega
   subst ag
   have HO6:b3 (wr.ownsRow g 3 1 (.slice (some ⟨g,0,none⟩) (y.size+1) (y.size+1)) (y.size+1) (dT (aW (y.size+1)))):=by
    rw[<-GB];exact B
   have HB6:b3 _:=O;go_wp2;go_ret;exact⟨g,rfl,by rw[aa.out]; exact HO6.out,by rw[aa.out]; exact HB6.out⟩
end
section
open Go.RowKit
variable {row:List Nat} {i n z:Nat} {c:UInt8} {q:Wd}
def jF(q:Wd)(c:UInt8)(row:List Nat)(z n i:Nat):List Nat:=iB q c row z i++aU (n-i) 0
theorem Bm(h:i<=n):(jF q c row z n i).length=n+1:=by
 unfold jF;rw[List.length_append,kh,List.length_replicate]; omega
theorem LR:(jF q c row z n i).getD i 0=(iB q c row z i).getD i 0:=by
 unfold jF;rw[a1,a1,aY (by rw[kh]; omega)]
theorem xT{m:Nat}(h:i<n)(hm:m=min (min (row.getD i 0+(if q.getD i 0=c then 0 else 1)) (row.getD (i+1) 0+1)) ((iB q c row z i).getD i 0+1)) :
  (dT (jF q c row z n i)).set (i+1) (.int .i64 (m:Int))=dT (jF q c row z n (i+1)):=by
 have e:n-i=(n-(i+1))+1:=by omega
 have y:jF q c row z n (i+1)=(jF q c row z n i).set (i+1) m:=by
  unfold jF;rw[List.set_append_right _ _ (by rw[kh]; omega),kh,e,aX,iB,<-hm];simp
 rw[y];unfold dT;rw[aZ]
theorem K9(q:Wd)(c:UInt8)(row:List Nat)(z n:Nat):jF q c row z n n=iB q c row z n:=by simp[jF]
theorem Hy(q:Wd)(c:UInt8)(row:List Nat)(z n:Nat):(dT (aU (n+1) 0)).set 0 (.int .i64 (z:Int))=dT (jF q c row z n 0):=by
 simp[jF,iB,dT,aX]
theorem Gw(row:List Nat)(B:ByteArray)(c:UInt8)(v:Value)(w:World)(hq:B.size<=1048576)(hv:Rd w v (dT row))(hl:row.length=B.size+1)(ar:∀x∈row,x<=2097152) :
  bc prog 270 #[v,.string B,.int .u8 c.toNat] w λe w'=>∃g,e=.returned (.slice (some ⟨g,0,none⟩) (B.size+1) (B.size+1))/\w'.ownsRow w.heap.size 3 1 (.slice (some ⟨g,0,none⟩) (B.size+1) (B.size+1)) (B.size+1) (dT (iB B.data.toList c row (row.getD 0 0+1) B.size))/\Below w.heap.size w w':=by
 obtain⟨i3,a7,a8,a9,hy2⟩:=bj QI;have ab:b3 (row.length=B.size+1):=hl;have ag:b3 (∀x∈row,x<=2097152):=ar;obtain⟨aQ,cQ,rfl,_,_,au⟩:=hv;have al:b3 (∀j u,(dT row)[j]?=some u->∃b off,aQ=some ⟨b,off,none⟩/\w.cell? ⟨b,off+j,none⟩=some u):=au;have av:(dT row).length=B.size+1:=by rw[yH,hl]
 rw[av];clear au hl ar av;obtain⟨bQ,oQ,rfl,qz⟩:=al.out 0 _ (iM row 0 (by rw[ab.out]; omega));rw[Nat.add_zero]at qz;obtain⟨z0,am⟩:∃z0,z0=row.getD 0 0:=⟨_,rfl⟩;have aE:z0<=2097152:=by rw[am,a1,a2 (by rw[ab.out]; omega)]; exact ag.out _ (aV _)
 rw[<-am]at qz⊢;clear am;have aM:(0:Int)<(B.size:Int)+1:=by omega
 have aN:bQ<w.heap.size:=World.block_lt_of_cell? w _ qz;go_enter func270,ntmps270;go_wp2_with (at_make; go_must (refine bf _ rfl _ _ 26 rfl w.heap.size 3 i3 (.int .i64 0) 1 underlying26 a7 a8 a9 .i64 .i64 _ _ (B.size+1) rfl rfl rfl rfl ?m1 ?m2 ?m3 ?_))
 case m1=>rw[hy2]; omega
 case m2=>unfold maxLen; omega
 case m3=>exact bq _
 intro w5 ac aw;have an:b3 (Below w.heap.size w w5):=(bw _ _).grown aw (bq _) (by simp);have e:(bd #[Value.int .i64 0] (B.size+1)).toList=dT (aU (B.size+1) 0):=A2 _;rw[e]at ac;have a':=ba an.out qz;obtain⟨bt,ot,aa,aj⟩:=iX ac 0 _ (iM _ 0 (by simp));simp only[bv,bz]at aa;obtain⟨rfl,rfl,_⟩:=aa;rw[br]at aj;have ax:=qP ac 0
 have HT6:b3 ((w5.setCell ⟨w.heap.size,0,none⟩ (.int .i64 ((z0:Int)+1))).ownsRow w.heap.size 3 1 (.slice (some ⟨w.heap.size,0,none⟩) (B.size+1) (B.size+1)) (B.size+1) (dT (jF B.data.toList c row (z0+1) B.size 0))):=by
  show bm _ _ _ _ _ _ _;rw[<-Hy];have h:=sY ac 0 (.int .i64 ((z0+1:Nat):Int)) (by omega);simpa using h
 have HB6:b3 (Below w.heap.size w (w5.setCell ⟨w.heap.size,0,none⟩ (.int .i64 ((z0:Int)+1)))):=by exact bx an.out (bq _) _
 clear ac aw e;go_wp2;go_loopw [22] (λiv wr=>∃i:Nat,i<=B.size/\iv=.int .i64 i/\wr.ownsRow w.heap.size 3 1 (.slice (some ⟨w.heap.size,0,none⟩) (B.size+1) (B.size+1)) (B.size+1) (dT (jF B.data.toList c row (z0+1) B.size i))/\Below w.heap.size w wr) (λi _=>B.size-(intOf i).toNat)
 case atStart=>exact⟨0,bu _,rfl,HT6.out,HB6.out⟩
 case round=>
  obtain⟨i,hi,rfl,U,Y⟩:=hrel;by_cases ao:i<B.size
  .have aF:(i:Int)<(B.size:Int):=by omega
   have aG:(i:Int)<(B.size:Int)+1:=by omega
   have aH:(i:Int)+1<(B.size:Int)+1:=by omega
   have aO:(0:Int)<=(i:Int)+1:=by omega
   obtain⟨r0,ah⟩:∃r0,r0=row.getD i 0:=⟨_,rfl⟩;obtain⟨W,ai⟩:∃W,W=row.getD (i+1) 0:=⟨_,rfl⟩;obtain⟨x,hx⟩:∃x,x=(iB B.data.toList c row (z0+1) i).getD i 0:=⟨_,rfl⟩;have aI:r0<=2097152:=by rw[ah,a1,a2 (by rw[ab.out]; omega)]; exact ag.out _ (aV _)
   have aJ:W<=2097152:=by rw[ai,a1,a2 (by rw[ab.out]; omega)]; exact ag.out _ (aV _)
   have aP:x<=4194304:=by
    rw[hx,a1,a2 (by rw[kh]; omega)];exact tM _ _ row (z0+1) 4194304 (by omega) (λy hy=>by have:=ag.out y hy; omega) i (by rw[ab.out]; omega) _ (aV _)
   obtain⟨b0,o0,ay,q0⟩:=al.out i _ (iM row i (by rw[ab.out]; omega));simp only[bv,bz]at ay;obtain⟨rfl,rfl,_⟩:=ay;obtain⟨b1,o1,az,q1⟩:=al.out (i+1) _ (iM row (i+1) (by rw[ab.out]; omega));simp only[bv,bz]at az;obtain⟨rfl,rfl,_⟩:=az;have p0:=ba Y q0;have p1:=ba Y q1;rw[<-ah]at p0;rw[<-ai]at p1;obtain⟨bt,ot,aa,ad⟩:=iX U i _ (iM _ i (by rw[Bm hi]; omega));simp only[bv,bz]at aa;obtain⟨rfl,rfl,_⟩:=aa;rw[br,LR,<-hx]at ad;obtain⟨bt,ot,aa,ap⟩:=iX U (i+1) _ (iM _ (i+1) (by rw[Bm hi]; omega));simp only[bv,bz]at aa;obtain⟨rfl,rfl,_⟩:=aa;rw[br]at ap;obtain⟨ov,aR⟩:∃ov:Int,wr.cell? ⟨w.heap.size,i+1,none⟩=some (.int .i64 ov):=⟨_,ap⟩;have aS:=qP U (i+1);have a0:b3 (row.getD i 0=r0):=ah.symm;have a3:b3 (row.getD (i+1) 0=W):=ai.symm;have a4:b3 ((iB B.data.toList c row (z0+1) i).getD i 0=x):=hx.symm;have aT:IntKind.i64.wrap ((i:Int)+1)=(i:Int)+1:=IX _ _ rfl (by omega) (by omega);have aK:IntKind.i64.wrap ((W:Int)+1)=(W:Int)+1:=IX _ _ rfl (by omega) (by omega);have aL:IntKind.i64.wrap ((x:Int)+1)=(x:Int)+1:=IX _ _ rfl (by omega) (by omega);have a5:b3 (B.data.toList.getD i 0=B[i]):=lu B i ao;have ak:b3 (wr.ownsRow w.heap.size 3 1 (.slice (some ⟨w.heap.size,0,none⟩) (B.size+1) (B.size+1)) (B.size+1) (dT (jF B.data.toList c row (z0+1) B.size i))):=U;have a6:b3 (Below _ _ _):=Y;clear q0 q1 ah ai hx U Y ap HT6 HB6 an aj ax a';by_cases hc:B[i]=c
   .have aA:((B[i].toNat:Int)==(c.toNat:Int))=true:=by rw[vF,hc]; simp
    have aq:b3 ((if B.data.toList.getD i 0=c then 0 else 1)=0):=by show _=_; rw[a5.out,if_pos hc]
    have HM:b3 (∀m:Nat,m=min (min (r0) (W+1)) (x+1)->(dT (jF B.data.toList c row (z0+1) B.size i)).set (i+1) (.int .i64 (m:Int))=dT (jF B.data.toList c row (z0+1) B.size (i+1))):=λm hm=>xT ao (by rw[a0.out,a3.out,a4.out,aq.out]; omega);clear hc;go_wp2;have s0:(wr.drew).cell? ⟨bQ,oQ+(i+1),none⟩=some (.int .i64 W):=p1;have O:(wr.drew).cell? ⟨w.heap.size,i,none⟩=some (.int .i64 x):=ad;refine bg (S:=λw'=>w'.cell? ⟨bQ,oQ+(i+1),none⟩=some (.int .i64 W)/\w'.cell? ⟨w.heap.size,i,none⟩=some (.int .i64 x)) (by kernel_rfl) ?_;refine fu 0 ?_ ⟨s0,O⟩ ?_<|fu 1 ?_ ⟨s0,O⟩ ?_<|fu 2 ?_ ⟨s0,O⟩ ?_<|fu 3 ?_ ⟨s0,O⟩ ?_<|fu 4 ?_ ⟨s0,O⟩ ?_<|fu 5 ?_ ⟨s0,O⟩ ?_<|fu 6 ?_ ⟨s0,O⟩ ?_<|fu 7 ?_ ⟨s0,O⟩ ?_<|fu 8 ?_ ⟨s0,O⟩ ?_<|fu 9 ?_ ⟨s0,O⟩ ?_<|fu 10 ?_ ⟨s0,O⟩ ?_<|fu 11 ?_ ⟨s0,O⟩ ?_<|fu 12 ?_ ⟨s0,O⟩ ?_<|fu 13 ?_ ⟨s0,O⟩ ?_<|fu 14 ?_ ⟨s0,O⟩ ?_<|fu 15 ?_ ⟨s0,O⟩ ?_<|fu 16 ?_ ⟨s0,O⟩ ?_ ?_
    any_goals(rintro w' ⟨t0,t1⟩; go_simp; first|done|with_reducible rfl)
    refine kY 17 λK' ae=>?_;unfold Oper.wp;go_simp;obtain⟨m,hm⟩:∃m:Nat,m=min (min (r0) (W+1)) (x+1):=⟨_,rfl⟩
    have af:(if(x:Int)+1<(if(W:Int)+1<(r0:Int)then(W:Int)+1 else(r0:Int))then(x:Int)+1 else(if(W:Int)+1<(r0:Int)then(W:Int)+1 else(r0:Int)))=(m:Int):=by
     rw[hm];split<;>split at * <;> omega
    rw[af]
    have HO8:b3 ((wr.setCell ⟨w.heap.size,i+1,none⟩ (.int .i64 m)).drew.ownsRow w.heap.size 3 1 (.slice (some ⟨w.heap.size,0,none⟩) (B.size+1) (B.size+1)) (B.size+1) (dT (jF B.data.toList c row (z0+1) B.size (i+1)))):=by
     show bm _ _ _ _ _ _ _;rw[<-HM.out m hm];exact sY ak.out (i+1) (.int .i64 m) (by omega)
    have HB8:b3 (Below w.heap.size w (wr.setCell ⟨w.heap.size,i+1,none⟩ (.int .i64 m)).drew):=(bx a6.out (bq _) _).drew;refine ae _ _ ⟨⟨?_,?_⟩,bi (by kernel_rfl) ?_ _⟩
    .show(wr.setCell ⟨w.heap.size,i+1,none⟩ (.int .i64 m)).cell? _=_;rw[bp _ _ _ _ (by show w.heap.size≠bQ; omega)];exact p1
    .show(wr.setCell ⟨w.heap.size,i+1,none⟩ (.int .i64 m)).cell? _=_;rw[bo _ _ _ _ (by intro e; simp at e)];exact ad
    clear ae af hm;go_wp2;go_roundw
    case rel=>exact⟨i+1,by omega,by go_num,HO8.out,HB8.out⟩
    case measure=>simp[intOf]; omega
   .have aA:((B[i].toNat:Int)==(c.toNat:Int))=false:=by rw[vF]; simpa using hc
    have aq:b3 ((if B.data.toList.getD i 0=c then 0 else 1)=1):=by show _=_; rw[a5.out,if_neg hc]
    have HM:b3 (∀m:Nat,m=min (min (r0+1) (W+1)) (x+1)->(dT (jF B.data.toList c row (z0+1) B.size i)).set (i+1) (.int .i64 (m:Int))=dT (jF B.data.toList c row (z0+1) B.size (i+1))):=λm hm=>xT ao (by rw[a0.out,a3.out,a4.out,aq.out]; omega);clear hc;go_wp2;have s0:(wr.drew).cell? ⟨bQ,oQ+(i+1),none⟩=some (.int .i64 W):=p1;have O:(wr.drew).cell? ⟨w.heap.size,i,none⟩=some (.int .i64 x):=ad;refine bg (S:=λw'=>w'.cell? ⟨bQ,oQ+(i+1),none⟩=some (.int .i64 W)/\w'.cell? ⟨w.heap.size,i,none⟩=some (.int .i64 x)) (by kernel_rfl) ?_;refine fu 0 ?_ ⟨s0,O⟩ ?_<|fu 1 ?_ ⟨s0,O⟩ ?_<|fu 2 ?_ ⟨s0,O⟩ ?_<|fu 3 ?_ ⟨s0,O⟩ ?_<|fu 4 ?_ ⟨s0,O⟩ ?_<|fu 5 ?_ ⟨s0,O⟩ ?_<|fu 6 ?_ ⟨s0,O⟩ ?_<|fu 7 ?_ ⟨s0,O⟩ ?_<|fu 8 ?_ ⟨s0,O⟩ ?_<|fu 9 ?_ ⟨s0,O⟩ ?_<|fu 10 ?_ ⟨s0,O⟩ ?_<|fu 11 ?_ ⟨s0,O⟩ ?_<|fu 12 ?_ ⟨s0,O⟩ ?_<|fu 13 ?_ ⟨s0,O⟩ ?_<|fu 14 ?_ ⟨s0,O⟩ ?_<|fu 15 ?_ ⟨s0,O⟩ ?_<|fu 16 ?_ ⟨s0,O⟩ ?_ ?_
    any_goals(rintro w' ⟨t0,t1⟩; go_simp; first|done|with_reducible rfl)
    refine kY 17 λK' ae=>?_;unfold Oper.wp;go_simp;obtain⟨m,hm⟩:∃m:Nat,m=min (min (r0+1) (W+1)) (x+1):=⟨_,rfl⟩
    have af:(if(x:Int)+1<(if W<r0 then(W:Int)+1 else((r0:Int)+1))then(x:Int)+1 else(if W<r0 then(W:Int)+1 else((r0:Int)+1)))=(m:Int):=by
     rw[hm];split<;>split at * <;> omega
    rw[af]
    have HO8:b3 ((wr.setCell ⟨w.heap.size,i+1,none⟩ (.int .i64 m)).drew.ownsRow w.heap.size 3 1 (.slice (some ⟨w.heap.size,0,none⟩) (B.size+1) (B.size+1)) (B.size+1) (dT (jF B.data.toList c row (z0+1) B.size (i+1)))):=by
     show bm _ _ _ _ _ _ _;rw[<-HM.out m hm];exact sY ak.out (i+1) (.int .i64 m) (by omega)
    have HB8:b3 (Below w.heap.size w (wr.setCell ⟨w.heap.size,i+1,none⟩ (.int .i64 m)).drew):=(bx a6.out (bq _) _).drew;refine ae _ _ ⟨⟨?_,?_⟩,bi (by kernel_rfl) ?_ _⟩
    .show(wr.setCell ⟨w.heap.size,i+1,none⟩ (.int .i64 m)).cell? _=_;rw[bp _ _ _ _ (by show w.heap.size≠bQ; omega)];exact p1
    .show(wr.setCell ⟨w.heap.size,i+1,none⟩ (.int .i64 m)).cell? _=_;rw[bo _ _ _ _ (by intro e; simp at e)];exact ad
    clear ae af hm;go_wp2;go_roundw
    case rel=>exact⟨i+1,by omega,by go_num,HO8.out,HB8.out⟩
    case measure=>simp[intOf]; omega
  .have aB:i=B.size:=by omega
   subst aB
   have aC:b3 (wr.ownsRow w.heap.size 3 1 (.slice (some ⟨w.heap.size,0,none⟩) (B.size+1) (B.size+1)) (B.size+1) (dT (iB B.data.toList c row (z0+1) B.size))):=by
    show bm _ _ _ _ _ _ _;rw[<-K9];exact U
   have aD:b3 (Below _ _ _):=Y;clear U Y;go_wp2;go_ret;exact⟨w.heap.size,rfl,aC.out,aD.out⟩
end
section
open Go.RowKit
theorem ES(a:Wd)(c:UInt8)(row:List Nat)(z:Nat):∀i,(iB a c row z i).getD 0 0=z:=by
 intro i
 induction i with
 |zero=>rfl
 |succ i y=>
  rw[iB,a1,aY (by rw[kh]; omega)];exact y
theorem Hk(a s:Wd)(k:Nat):(kR a s k).getD 0 0=k:=by
 cases k with
 |zero=>simp[kR]
 |succ k=>rw[kR,ES]
theorem qe(y B:ByteArray)(most:Nat)(w:World)(ar:1<=most)(au:most<=2)(hq:y.size<=1048576)(hs:B.size<=1048576) :
  bc prog 242 #[.string y,.string B,.int .i64 most] w λe w'=>e=.returned (.bool (kz (most+1) y.data.toList B.data.toList))/\Below w.heap.size w w':=by
 have ad:y.data.toList.length=y.size:=by simp
 have U:b3 (y.data.toList.length=y.size):=ad
 have HF:b3 (kz (most+1) y.data.toList B.data.toList=(aW (B.size+1)).any λk=>decide (yY y.data.toList B.data.toList k<most+1)):=by
  show _=_;unfold kz;rw[if_neg (by omega),if_neg (by omega)];simp
 clear ad;go_enter func242,ntmps242;go_wp2_with fail;refine(wD y w hq).mono ?_;rintro e w1 ⟨g1,rfl,ae,af⟩
 have HO1:b3 (w1.ownsRow w.heap.size 3 1 (.slice (some ⟨g1,0,none⟩) (y.size+1) (y.size+1)) (y.size+1) (dT (kR y.data.toList B.data.toList 0))):=by
  show bm _ _ _ _ _ _ _;rw[kR,U.out];exact ae
 have HB1:b3 (Below _ _ _):=af;clear ae af;go_wp2;go_loopw [7,13] (λv iv wr=>∃(k g:Nat),k<=B.size/\iv=.int .i64 k/\v=.slice (some ⟨g,0,none⟩) (y.size+1) (y.size+1)/\wr.ownsRow w.heap.size 3 1 (.slice (some ⟨g,0,none⟩) (y.size+1) (y.size+1)) (y.size+1) (dT (kR y.data.toList B.data.toList k))/\(∀j,j<k->¬yY y.data.toList B.data.toList j<most+1)/\Below w.heap.size w wr) (λ_ i _=>B.size-(intOf i).toNat)
 case atStart=>exact⟨0,g1,bu _,rfl,rfl,HO1.out,λj hj=>by omega,HB1.out⟩
 case round=>
  obtain⟨k,g,hk,rfl,rfl,O,ag,W⟩:=hrel;have ah:b3 (∀j,j<k->¬yY y.data.toList B.data.toList j<most+1):=ag;have ab:b3 (Below _ _ _):=W;have HS:=W.size;have av:(y.size:Int)<(y.size:Int)+1:=by omega
  obtain⟨dd,ac⟩:∃dd,dd=yY y.data.toList B.data.toList k:=⟨_,rfl⟩;obtain⟨bt,ot,ai,al⟩:=iX O y.size _ (iM _ y.size (by rw[uG,U.out]; omega));simp only[bv,bz]at ai;obtain⟨rfl,rfl,_⟩:=ai;have e1:(kR y.data.toList B.data.toList k).getD y.size 0=dd:=by rw[ac]; unfold yY; rw[U.out]
  rw[br,e1]at al;have Y:b3 (dd=yY y.data.toList B.data.toList k):=ac;clear ag W ac e1;by_cases am:k<B.size
  .have aq:(k:Int)<(B.size:Int):=by omega
   by_cases hd:dd<=most
   .have an:(dd:Int)<=(most:Int):=by omega
    have HY:b3 (kz (most+1) y.data.toList B.data.toList=true):=by
     show _=_;rw[HF.out];exact any_some k (by omega) (by rw[<-Y.out]; simp; omega)
    clear O;go_wp2;go_ret;exact⟨eG HY.out.symm,ab.out⟩
   .have an:¬((dd:Int)<=(most:Int)):=by omega
    have aa:=Gw (kR y.data.toList B.data.toList k) y B[k] (.slice (some ⟨g,0,none⟩) (y.size+1) (y.size+1)) wr hq (Rd.jj O) (by rw[uG,U.out]) (λx hx=>by have:=Ek _ _ _ x hx; rw[U.out]at this; omega);rw[Hk]at aa
    have e2:iB y.data.toList B[k] (kR y.data.toList B.data.toList k) (k+1) y.size=kR y.data.toList B.data.toList (k+1):=by
     rw[kR,U.out,lu B k am]
    rw[e2]at aa;clear O e2;go_wp2_with fail;refine aa.mono ?_;rintro e w3 ⟨g3,rfl,aj,ak⟩;have HO3:b3 (w3.ownsRow w.heap.size 3 1 (.slice (some ⟨g3,0,none⟩) (y.size+1) (y.size+1)) (y.size+1) (dT (kR y.data.toList B.data.toList (k+1)))):=j7 aj HS;have ao:b3 (Below w.heap.size w w3):=ab.out.trans (ak.mono HS);clear aa aj ak;go_wp2;go_roundw
    case rel=>exact⟨k+1,g3,by omega,by go_num,rfl,HO3.out,λj hj=>by
     rcases bs j k with h|h
     .exact ah.out j h
     .have e:j=k:=by omega
      subst e; rw[<-Y.out]; omega,ao.out⟩
    case measure=>simp[intOf]; omega
  .have ap:k=B.size:=by omega
   subst ap
   have HY:b3 (kz (most+1) y.data.toList B.data.toList=decide (dd<=most)):=by
    show _=_;rw[HF.out];by_cases hd:dd<=most
    .rw[any_some B.size (by omega) (by rw[<-Y.out]; simp; omega)];simp; omega
    .rw[any_none (λi hi=>?_)]
     .simp; omega
     .rcases bs i B.size with h|h
      .have:=ah.out i h; simpa using this
      .have e:i=B.size:=by omega
       subst e; rw[<-Y.out]; simp; omega
   go_wp2;go_ret;exact⟨eG HY.out.symm,ab.out⟩
theorem KJ(m:Nat)(y B:ByteArray)(w:World)(hm:m<=3)(U:y.size<=1048576)(O:B.size<=1048576) :
  bc prog 215 #[.int .i64 m,.string y,.string B] w λe w'=>e=.returned (.bool (kz m y.data.toList B.data.toList))/\Below w.heap.size w w':=by
 have W:m=0\/m=1\/m=2\/m=3:=by omega
 rcases W with rfl|rfl|rfl|rfl
 .have Y:b3 (kz 0 y.data.toList B.data.toList=qo B.data.toList y.data.toList):=rfl;go_enter func215,ntmps215;go_wp2_with fail;refine(z8 B y w).mono ?_;rintro e w' ⟨rfl,rfl⟩;go_wp2;go_ret;exact⟨eG Y.out.symm,bw _ _⟩
 .go_enter func215,ntmps215;go_wp2_with fail;refine(BV y B w O).mono ?_;rintro e w' ⟨rfl,rfl⟩;go_wp2;go_ret;exact⟨rfl,bw _ _⟩
 .go_enter func215,ntmps215;go_wp2_with fail;refine(qe y B 1 w (by omega) (by omega) U O).mono ?_;rintro e w' ⟨rfl,hb⟩;go_wp2;go_ret;exact⟨rfl,hb⟩
 .go_enter func215,ntmps215;go_wp2_with fail;refine(qe y B 2 w (by omega) (by omega) U O).mono ?_;rintro e w' ⟨rfl,hb⟩;go_wp2;go_ret;exact⟨rfl,hb⟩
end
section
open Go.RowKit
theorem nW{P:Program}{ops:Array Oper}{B:Region.Mode}{Q:Exit->Act->World->Prop}{i:Nat}{O:Oper}{y:Nat}{listed:Array Bool}{C:World->Prop}{a:Act}(hi:ops[i]?=some O)
  (U:Region.noSelect ops=true) (W:Region.free B ops listed i=true) (Y:(Region.ready B ops listed).contains i=true) (hC:gw eX C)
  (hw:Region.wanted O (yielded ops a.tmps)=false)
  (h:WX eX P B ops Q y (listed.setIfInBounds i true) C (a.put O.dst undef)):WX eX P B ops Q (y+1) listed C a:=
 D8 hi (Region.noSelect_spec U) y listed C a (Region.free_spec hi W) (by simpa using Y) hC (.inr ⟨hw,rfl⟩) h
theorem LO(x y:Nat)(B:x<256)(O:y<256):bits .and .i64 (x:Int) (y:Int)=((x &&& y:Nat):Int):=by
 show IntKind.i64.wrap ((BitVec.ofInt 64 x &&& BitVec.ofInt 64 y).toNat)=_;rw[BitVec.toNat_and]
 have e:∀n:Nat,n<256->(BitVec.ofInt 64 n).toNat=n:=λn U=>by
  rw[BitVec.toNat_ofInt]; omega
 rw[e x B,e y O];have W:x &&& y<=x:=Nat.and_le_left;exact IX _ _ rfl (by omega) (by omega)
theorem Pf(m tg:Nat)(W:ByteArray)(nm tx:ByteArray)(wt O:Int)(w:World)(hm:m<=3)(ah:tg<256)(al:0<=O)(am:O<=255)(hq:W.size<=1048576)(ht:tx.size<=1048576) :
  bc prog 160 #[.agg #[.int .i64 m,.string W,.int .i64 tg],.agg #[.string nm,.string tx,.int .i64 wt,.int .i64 O]] w λe w'=>e=.returned (.bool (pn tg O.toNat&&kz m W.data.toList (eo tx.data.toList)))/\Below w.heap.size w w':=by
 have hB:Below w.heap.size w ((w.alloc (.cells #[.int .i64 m,.string W,.int .i64 tg] 94)).alloc (.cells #[.string nm,.string tx,.int .i64 wt,.int .i64 O] 96)):=((bw _ _).alloc (bq _) _).alloc (by simp) _;have d0:((w.alloc (.cells #[.int .i64 m,.string W,.int .i64 tg] 94)).alloc (.cells #[.string nm,.string tx,.int .i64 wt,.int .i64 O] 96)).cell? ⟨w.heap.size,0,none⟩=some (.int .i64 m):=by rw[bn _ _ _ (by simp),bl _ _ _ _ rfl]; rfl
 have d1:((w.alloc (.cells #[.int .i64 m,.string W,.int .i64 tg] 94)).alloc (.cells #[.string nm,.string tx,.int .i64 wt,.int .i64 O] 96)).cell? ⟨w.heap.size,1,none⟩=some (.string W):=by rw[bn _ _ _ (by simp),bl _ _ _ _ rfl]; rfl
 have d2:((w.alloc (.cells #[.int .i64 m,.string W,.int .i64 tg] 94)).alloc (.cells #[.string nm,.string tx,.int .i64 wt,.int .i64 O] 96)).cell? ⟨w.heap.size,2,none⟩=some (.int .i64 tg):=by rw[bn _ _ _ (by simp),bl _ _ _ _ rfl]; rfl
 have d3:((w.alloc (.cells #[.int .i64 m,.string W,.int .i64 tg] 94)).alloc (.cells #[.string nm,.string tx,.int .i64 wt,.int .i64 O] 96)).cell? ⟨w.heap.size+1,3,none⟩=some (.int .i64 O):=by rw[bl _ _ _ _ (by simp)]; rfl
 have d4:((w.alloc (.cells #[.int .i64 m,.string W,.int .i64 tg] 94)).alloc (.cells #[.string nm,.string tx,.int .i64 wt,.int .i64 O] 96)).cell? ⟨w.heap.size+1,1,none⟩=some (.string tx):=by rw[bl _ _ _ _ (by simp)]; rfl
 go_enter func160,ntmps160;go_wp2_with fail;generalize ((w.alloc (.cells #[.int .i64 m,.string W,.int .i64 tg] 94)).alloc (.cells #[.string nm,.string tx,.int .i64 wt,.int .i64 O] 96))=w0 at *;have ab:b3 (Below _ _ _):=hB;clear hB;obtain⟨fb,ac⟩:∃fb,fb=kz m W.data.toList (eo tx.data.toList):=⟨_,rfl⟩;obtain⟨kb,ad⟩:∃kb:ByteArray,kb=⟨(eo tx.data.toList).toArray⟩:=⟨_,rfl⟩
 have ag:kb.size<=1048576:=by
  rw[ad];show(eo tx.data.toList).toArray.size<=_;rw[List.size_toArray,fY]; simp; omega
 have ai:b3 (∀y:World,bc prog 50 #[.string tx] y λe w'=>e=.returned (.string kb)/\eX y w'):=λy=>by rw[ad]; exact pb tx y (by omega)
 have aj:b3 (∀y:World,bc prog 215 #[.int .i64 m,.string W,.string kb] y λe w'=>e=.returned (.bool fb)/\eX y w'):=λy=>by
  have h:=KJ m W kb y hm hq ag;have e1:kb.data.toList=eo tx.data.toList:=by rw[ad]
  rw[e1,<-ac]at h;exact h
 have U:=LO O.toNat tg (by omega) ah;rw[show((O.toNat:Nat):Int)=O by omega]at U;clear ad ag hm hq ht;by_cases Y:O.toNat &&& tg=tg
 .have ak:bits .and .i64 O (tg:Int)=(tg:Int):=by rw[U,Y]
  have aa:b3 (fb=(pn tg O.toNat&&kz m W.data.toList (eo tx.data.toList))):=by
   show _=_;unfold pn;rw[Y,<-ac]; simp
  clear U Y ac;refine lZ (by kernel_rfl) ?_;refine dI 0 ?_ ?_<|dI 1 ?_ ?_<|dI 2 ?_ ?_<|dI 3 ?_ ?_<|dI 4 ?_ ?_<|dI 5 ?_ ?_<|dI 6 ?_ ?_<|dI 7 ?_ ?_<|dI 8 ?_ ?_ ?_
  any_goals(intro y B; have q:=ba B d3; have q1:=ba B d2; have q2:=ba B d0; have q3:=ba B d1; have q4:=ba B d4; unfold gm; go_simp; refine⟨eX.refl _,?_⟩; with_reducible rfl)
  go_simp;refine dI 9 ?_ ?_ ?_
  any_goals(intro y B; have q:=ba B d3; have q1:=ba B d2; have q2:=ba B d0; have q3:=ba B d1; have q4:=ba B d4; unfold gm; go_simp; refine⟨eX.refl _,?_⟩; with_reducible rfl)
  go_simp;refine dI 10 ?_ ?_ ?_
  any_goals(intro y B; have q:=ba B d3; have q1:=ba B d2; have q2:=ba B d0; have q3:=ba B d1; have q4:=ba B d4; unfold gm; go_simp; refine⟨eX.refl _,?_⟩; with_reducible rfl)
  go_simp;refine dI 11 ?_ ?_ ?_
  any_goals(intro y B; have q:=ba B d3; have q1:=ba B d2; have q2:=ba B d0; have q3:=ba B d1; have q4:=ba B d4; unfold gm; go_simp; refine⟨eX.refl _,?_⟩; with_reducible rfl)
  go_simp;refine dI 12 ?_ ?_ ?_
  any_goals(intro y B; have q:=ba B d3; have q1:=ba B d2; have q2:=ba B d0; have q3:=ba B d1; have q4:=ba B d4; unfold gm; go_simp; refine⟨eX.refl _,?_⟩; with_reducible rfl)
  go_simp;refine dI 13 ?_ ?_ ?_
  any_goals(intro y B; have q:=ba B d3; have q1:=ba B d2; have q2:=ba B d0; have q3:=ba B d1; have q4:=ba B d4; unfold gm; go_simp; refine⟨eX.refl _,?_⟩; with_reducible rfl)
  go_simp;refine dI 14 ?_ ?_ ?_
  any_goals(intro y B; have q:=ba B d3; have q1:=ba B d2; have q2:=ba B d0; have q3:=ba B d1; have q4:=ba B d4; unfold gm; go_simp; refine⟨eX.refl _,?_⟩; with_reducible rfl)
  go_simp;refine dI 15 ?_ ?_ ?_;rotate_left
  .intro y B; unfold gm; go_simp; refine⟨rfl,(ai.out y).mono ?_⟩; rintro e y2 ⟨rfl,h2⟩; refine⟨_,rfl,h2,?_⟩; with_reducible rfl
  go_simp;refine dI 16 ?_ ?_ ?_;rotate_left
  .intro y B; unfold gm; go_simp; refine⟨rfl,(aj.out y).mono ?_⟩; rintro e y2 ⟨rfl,h2⟩; refine⟨_,rfl,h2,?_⟩; with_reducible rfl
  go_simp;refine dI 17 ?_ ?_<|dI 18 ?_ ?_ ?_
  any_goals(intro y B; unfold gm; go_simp; refine⟨eX.refl _,?_⟩; with_reducible rfl)
  refine wT (by kernel_rfl) ?_ _;intro y B;have af:b3 (Below w.heap.size w y):=ab.out.trans (Below.mono B ab.out.size);clear B;go_simp;go_wp2;go_ret;exact⟨eG aa.out,af.out⟩
 .obtain⟨an,ae⟩:∃an:Nat,an=O.toNat &&& tg:=⟨_,rfl⟩;have ak:bits .and .i64 O (tg:Int)=(an:Int):=by rw[U,ae]
  have ap:((an:Int)==(tg:Int))=false:=by rw[beq_eq_false_iff_ne]; rw[ae]; omega
  have ao:¬an=tg:=by rw[ae]; exact Y
  have aa:b3 (false=(pn tg O.toNat&&kz m W.data.toList (eo tx.data.toList))):=by
   show _=_;unfold pn;rw[beq_eq_false_iff_ne.2 Y]; rfl
  clear U Y ac ae;refine lZ (by kernel_rfl) ?_;refine dI 0 ?_ ?_<|dI 1 ?_ ?_<|dI 2 ?_ ?_<|dI 3 ?_ ?_<|dI 4 ?_ ?_<|dI 5 ?_ ?_<|dI 6 ?_ ?_<|dI 7 ?_ ?_<|dI 8 ?_ ?_ ?_
  any_goals(intro y B; have q:=ba B d3; have q1:=ba B d2; unfold gm; go_simp; refine⟨eX.refl _,?_⟩; with_reducible rfl)
  go_simp;refine nW (i:=9) rfl (by kernel_rfl) (by kernel_rfl) (by kernel_rfl) (fG _) (by rfl) ?_;go_simp;refine nW (i:=10) rfl (by kernel_rfl) (by kernel_rfl) (by kernel_rfl) (fG _) (by rfl) ?_;go_simp;refine nW (i:=11) rfl (by kernel_rfl) (by kernel_rfl) (by kernel_rfl) (fG _) (by rfl) ?_;go_simp;refine nW (i:=12) rfl (by kernel_rfl) (by kernel_rfl) (by kernel_rfl) (fG _) (by rfl) ?_;go_simp;refine nW (i:=13) rfl (by kernel_rfl) (by kernel_rfl) (by kernel_rfl) (fG _) (by rfl) ?_;go_simp;refine nW (i:=14) rfl (by kernel_rfl) (by kernel_rfl) (by kernel_rfl) (fG _) (by rfl) ?_;go_simp;refine nW (i:=15) rfl (by kernel_rfl) (by kernel_rfl) (by kernel_rfl) (fG _) (by rfl) ?_;go_simp;refine nW (i:=16) rfl (by kernel_rfl) (by kernel_rfl) (by kernel_rfl) (fG _) (by rfl) ?_;go_simp;refine dI 17 ?_ ?_<|dI 18 ?_ ?_ ?_
  any_goals(intro y B; unfold gm; go_simp; refine⟨eX.refl _,?_⟩; with_reducible rfl)
  refine wT (by kernel_rfl) ?_ _;intro y B;have af:b3 (Below w.heap.size w y):=ab.out.trans (Below.mono B ab.out.size);clear B;go_simp;go_wp2;go_ret;exact⟨eG aa.out,af.out⟩
end
section
open Go.RowKit
theorem iu(w:World)(o:Obj){k:Nat}(h:k=w.heap.size):(w.alloc o).heap[k]?=some o:=by
 subst h;show(w.heap.push o)[w.heap.size]?=some o;simp
theorem fU(w:World)(o:Obj){k:Nat}(h:k<w.heap.size):(w.alloc o).heap[k]?=w.heap[k]?:=by
 exact Below.heap_alloc w o k h
def zO(k at':Int)(y:ByteArray)(b:Bool)(n2 tx:ByteArray)(wt B:Int):Value:=.agg #[.int .i64 k,.int .i64 at',.string y,.bool b,.string n2,.string tx,.int .i64 wt,.int .i64 B]
def N6:ByteArray:=⟨#[]⟩
theorem ET(k at':Int)(nm:ByteArray)(g:Bool)(n2 tx:ByteArray)(wt et:Int)(m tg:Nat)(qb:ByteArray)(w:World)(hm:m<=3)(ac:tg<256)(ab:g=false->0<=et/\et<=255)(hq:qb.size<=1048576)(ht:tx.size<=1048576) :
  bc prog 119 #[.agg #[.int .i64 k,.int .i64 at'],.string nm,.agg #[.bool g,.string n2,.string tx,.int .i64 wt,.int .i64 et],.agg #[.int .i64 m,.string qb,.int .i64 tg]] w λe w'=>
   e=.returned (if(!g&&(pn tg et.toNat&&kz m qb.data.toList (eo tx.data.toList)))=true then zO k at' nm true n2 tx wt et else zO k at' nm false N6 N6 0 0)/\Below w.heap.size w w':=by
 obtain⟨b,hb⟩:∃b,b=(pn tg et.toNat&&kz m qb.data.toList (eo tx.data.toList)):=⟨_,rfl⟩
 have HC:b3 (g=false->∀y:World,bc prog 160 #[.agg #[.int .i64 m,.string qb,.int .i64 tg],.agg #[.string n2,.string tx,.int .i64 wt,.int .i64 et]] y λe w'=>e=.returned (.bool b)/\Below y.heap.size y w'):=λhg y=>by
  rw[hb]; exact Pf m tg qb n2 tx wt et y hm ac (ab hg).1 (ab hg).2 hq ht
 rw[<-hb];clear hb hm ac ab hq ht;obtain⟨w0,Y⟩:∃w0,w0=(((w.alloc (.cells #[.int .i64 k,.int .i64 at'] 170)).alloc (.cells #[.bool g,.string n2,.string tx,.int .i64 wt,.int .i64 et] 111)).alloc (.cells #[.int .i64 m,.string qb,.int .i64 tg] 94)).alloc (.cells #[.int .i64 0,.int .i64 0,.string ⟨#[]⟩,.bool false,.string ⟨#[]⟩,.string ⟨#[]⟩,.int .i64 0,.int .i64 0] 172):=⟨_,rfl⟩;have hz:w0.heap.size=w.heap.size+4:=by rw[Y]; simp
 have hB:Below w.heap.size w w0:=by rw[Y]; exact((((bw _ _).alloc (bq _) _).alloc (by simp) _).alloc (by simp; omega) _).alloc (by simp; omega) _
 have g0:w0.heap[w.heap.size]?=some (.cells #[.int .i64 k,.int .i64 at'] 170 (0,0)):=by rw[Y]; (repeat(first|(rw[iu _ _ (by simp only[bk])]; done)|rw[fU _ _ (by simp only[bk]; omega)]))
 have g1:w0.heap[w.heap.size+1]?=some (.cells #[.bool g,.string n2,.string tx,.int .i64 wt,.int .i64 et] 111 (0,0)):=by rw[Y]; (repeat(first|(rw[iu _ _ (by simp only[bk])]; done)|rw[fU _ _ (by simp only[bk]; omega)]))
 have g2:w0.heap[w.heap.size+1+1]?=some (.cells #[.int .i64 m,.string qb,.int .i64 tg] 94 (0,0)):=by rw[Y]; (repeat(first|(rw[iu _ _ (by simp only[bk])]; done)|rw[fU _ _ (by simp only[bk]; omega)]))
 have g3:w0.heap[w.heap.size+1+1+1]?=some (.cells #[.int .i64 0,.int .i64 0,.string ⟨#[]⟩,.bool false,.string ⟨#[]⟩,.string ⟨#[]⟩,.int .i64 0,.int .i64 0] 172 (0,0)):=by rw[Y]; (repeat(first|(rw[iu _ _ (by simp only[bk])]; done)|rw[fU _ _ (by simp only[bk]; omega)]))
 go_enter func119,ntmps119;go_upto_region 1 with fail;rw[<-Y];obtain⟨B0,ad⟩:∃B,B=w.heap.size:=⟨_,rfl⟩;obtain⟨W,ae⟩:∃B,B=w.heap.size+1+1+1:=⟨_,rfl⟩;obtain⟨B2,af⟩:∃B,B=w.heap.size+1+1:=⟨_,rfl⟩;obtain⟨B1,ag⟩:∃B,B=w.heap.size+1:=⟨_,rfl⟩;rw[<-ae]at g3⊢;rw[<-af]at g2⊢;rw[<-ag]at g1⊢;rw[<-ad]at g0⊢;have HB:b3 (Below _ _ _):=hB;have HN:b3 (B0<w0.heap.size/\B1<w0.heap.size/\B2<w0.heap.size/\W<w0.heap.size/\w.heap.size<=W):=⟨by omega,by omega,by omega,by omega,by omega⟩;clear Y hB ad ag af ae hz;cases g
 .have c0:w0.cell? ⟨B1,0,none⟩=some (.bool false):=by rw[dh g1]; rfl
  have c1:w0.cell? ⟨B1,1,none⟩=some (.string n2):=by rw[dh g1]; rfl
  have c2:w0.cell? ⟨B1,2,none⟩=some (.string tx):=by rw[dh g1]; rfl
  have c3:w0.cell? ⟨B1,3,none⟩=some (.int .i64 wt):=by rw[dh g1]; rfl
  have c4:w0.cell? ⟨B1,4,none⟩=some (.int .i64 et):=by rw[dh g1]; rfl
  have c5:w0.cell? ⟨B2,0,none⟩=some (.int .i64 m):=by rw[dh g2]; rfl
  have c6:w0.cell? ⟨B2,1,none⟩=some (.string qb):=by rw[dh g2]; rfl
  have c7:w0.cell? ⟨B2,2,none⟩=some (.int .i64 tg):=by rw[dh g2]; rfl
  go_upto_if 17 with(go_at_call 160; refine(HC.out rfl _).mono ?_; rintro e y ⟨rfl,hy⟩);have ah:=(hy.block B0 HN.out.1).trans g0;have aa:=(hy.block B1 HN.out.2.1).trans g1;have U:=(hy.block W HN.out.2.2.2.1).trans g3;have HY:b3 (Below w.heap.size w y):=HB.out.trans (Below.mono hy HB.out.size);clear c0 c1 c2 c3 c4 c5 c6 c7 hy HC g0 g1 g2 g3 HB;have c0:y.cell? ⟨B0,0,none⟩=some (.int .i64 k):=by rw[dh ah]; rfl
  have c1:y.cell? ⟨B0,1,none⟩=some (.int .i64 at'):=by rw[dh ah]; rfl
  have c2:y.cell? ⟨B1,1,none⟩=some (.string n2):=by rw[dh aa]; rfl
  have c3:y.cell? ⟨B1,2,none⟩=some (.string tx):=by rw[dh aa]; rfl
  have c4:y.cell? ⟨B1,3,none⟩=some (.int .i64 wt):=by rw[dh aa]; rfl
  have c5:y.cell? ⟨B1,4,none⟩=some (.int .i64 et):=by rw[dh aa]; rfl
  have ai:=dJ U;have jv:=dh U;have e0:y.cell? ⟨W,0,none⟩=some (.int .i64 0):=by rw[dh U]; rfl
  have e1:y.cell? ⟨W,1,none⟩=some (.int .i64 0):=by rw[dh U]; rfl
  have e2:y.cell? ⟨W,2,none⟩=some (.string ⟨#[]⟩):=by rw[dh U]; rfl
  have e3:y.cell? ⟨W,3,none⟩=some (.bool false):=by rw[dh U]; rfl
  have e4:y.cell? ⟨W,4,none⟩=some (.string ⟨#[]⟩):=by rw[dh U]; rfl
  have e5:y.cell? ⟨W,5,none⟩=some (.string ⟨#[]⟩):=by rw[dh U]; rfl
  have e6:y.cell? ⟨W,6,none⟩=some (.int .i64 0):=by rw[dh U]; rfl
  have e7:y.cell? ⟨W,7,none⟩=some (.int .i64 0):=by rw[dh U]; rfl
  have O:=HN.out.2.2.2.2;cases b
  .go_wp2;refine be (v:=zO k at' nm false N6 N6 0 0) (by simp[bh,results119,go_sem,e0,e1,e2,e3,e4,e5,e6,e7,zO,N6]) rfl ⟨rfl,((((((((HY.out.setCell O _).setCell O _).setCell O _).setCell O _).setCell O _).setCell O _).setCell O _).setCell O _)⟩
  .go_wp2;refine be (v:=zO k at' nm true n2 tx wt et) (by simp[bh,results119,go_sem,e0,e1,e2,e3,e4,e5,e6,e7,zO,N6]) rfl ⟨rfl,((((((((HY.out.setCell O _).setCell O _).setCell O _).setCell O _).setCell O _).setCell O _).setCell O _).setCell O _)⟩
 .have c0:w0.cell? ⟨B0,0,none⟩=some (.int .i64 k):=by rw[dh g0]; rfl
  have c1:w0.cell? ⟨B0,1,none⟩=some (.int .i64 at'):=by rw[dh g0]; rfl
  have c2:w0.cell? ⟨B1,0,none⟩=some (.bool true):=by rw[dh g1]; rfl
  have ai:=dJ g3;have jv:=dh g3;have e0:w0.cell? ⟨W,0,none⟩=some (.int .i64 0):=by rw[dh g3]; rfl
  have e1:w0.cell? ⟨W,1,none⟩=some (.int .i64 0):=by rw[dh g3]; rfl
  have e2:w0.cell? ⟨W,2,none⟩=some (.string ⟨#[]⟩):=by rw[dh g3]; rfl
  have e3:w0.cell? ⟨W,3,none⟩=some (.bool false):=by rw[dh g3]; rfl
  have e4:w0.cell? ⟨W,4,none⟩=some (.string ⟨#[]⟩):=by rw[dh g3]; rfl
  have e5:w0.cell? ⟨W,5,none⟩=some (.string ⟨#[]⟩):=by rw[dh g3]; rfl
  have e6:w0.cell? ⟨W,6,none⟩=some (.int .i64 0):=by rw[dh g3]; rfl
  have e7:w0.cell? ⟨W,7,none⟩=some (.int .i64 0):=by rw[dh g3]; rfl
  have O:=HN.out.2.2.2.2;clear HC;go_wp2;refine be (v:=zO k at' nm false N6 N6 0 0) (by simp[bh,results119,go_sem,e0,e1,e2,e3,e4,e5,e6,e7,zO,N6]) rfl ⟨rfl,((((((((HB.out.setCell O _).setCell O _).setCell O _).setCell O _).setCell O _).setCell O _).setCell O _).setCell O _)⟩
end
end Go.Proofs.YtocbogeoffeolaaGreatDoor
