import Derived.Test.YtocbogeoffeolaaGreatDoorRefAI
set_option linter.all false
set_option maxHeartbeats 8000000
set_option maxRecDepth 1000000
open List renaming getD_eq_getElem?_getD->a1,getElem?_eq_getElem->a2,replicate->aU,getElem_mem->aV,range->aW,replicate_succ->aX,getElem?_append_left->aY,map_set->aZ
open Go renaming cell_later->ba,Calls->bc,madeCells->bd,bodyPost_ret->be,wpList_make_full->bf,results->bg,info_parts->bh
open Go.World renaming size_alloc->bi,cell?_alloc_at->bj,ownsRow->bk,cell?_alloc_past->bl
open Nat renaming le_refl->bm,zero_add->bn,lt_or_ge->bo,zero_le->bp
open Option.some renaming injEq->bq
open Go.Addr.mk renaming injEq->br
open Go.RowKit.Below renaming refl->bs,setCell->bu
open Go.RowKit renaming Hid->bv
namespace Go.Proofs.YtocbogeoffeolaaGreatDoor
open Go.Proofs.Tryz
section
open Go.RowKit
theorem Il(s p:ByteArray)(w:World) :
  bc prog 267 #[.string s,.string p] w λe w'=>e=.returned (.bool (sW s.data.toList p.data.toList))/\w=w':=by
 by_cases h:p.size<=s.size
 .go_wp2;go_ret;rw[KO,ByteArray.toList_eq,ByteArray.toList_eq];simp[h]
 .go_wp2;go_ret;rw[KO];simp[h]
theorem Bd(s p:ByteArray)(w:World) :
  bc prog 240 #[.string s,.string p] w λe w'=>e=.returned (.bool (sW s.data.toList p.data.toList))/\w=w':=by
 go_enter func240,ntmps240;go_wp2_with fail;refine(Il s p w).mono ?_;rintro e w' ⟨rfl,rfl⟩;go_wp2;go_ret;exact⟨rfl,rfl⟩
theorem AN(s:ByteArray)(k:Nat)(w:World)(hs:s.size<=1099511627776)(hk:k<s.size) :
  bc prog 268 #[.string s,.int .i64 k] w λe w'=>e=.returned (.bool (jy s.data.toList k))/\w=w':=by
 have e1:=nO s k hk;have ac:(k:Int)<(s.size:Int):=by omega
 obtain⟨Y,B⟩:∃Y,Y=ik s[k]:=⟨_,rfl⟩;have O:=pq s[k] w;rw[<-B]at O;by_cases h0:k=0
 .subst h0
  have HF:bv (jy s.data.toList 0=Y):=by
   show _=_;unfold jy;rw[e1,<-B]; simp
  clear e1 B;go_enter func268,ntmps268;go_wp2_with fail;refine O.mono ?_;rintro e w' ⟨rfl,rfl⟩;clear O
  cases Y with
  |false=>
   go_wp2;go_ret;exact⟨iy HF.out.symm,rfl⟩
  |true=>
   go_wp2;go_ret;exact⟨iy HF.out.symm,rfl⟩
 .have ad:((k:Int)==0)=false:=by rw[beq_eq_false_iff_ne]; omega
  have ab:k-1<s.size:=by omega
  have e2:=nO s (k-1) ab;obtain⟨b2,U⟩:∃b2,b2=ik s[k-1]:=⟨_,rfl⟩;have aa:=pq s[k-1] w;rw[<-U]at aa
  have HF:bv (jy s.data.toList k=(Y && !b2)):=by
   show _=_;unfold jy;rw[e1,e2,<-B,<-U]; simp[h0]
  have ae:(k:Int)-1=((k-1:Nat):Int):=by omega
  have af:(k:Int)-1<(s.size:Int):=by omega
  have ag:(0:Int)<=k-1:=by omega
  clear e1 e2 B U;go_enter func268,ntmps268;go_wp2_with fail;refine O.mono ?_;rintro e w' ⟨rfl,rfl⟩
  cases Y with
  |false=>
   go_wp2;go_ret;exact⟨iy (by rw[HF.out]; rfl),rfl⟩
  |true=>
   go_wp2_with fail;refine aa.mono ?_;rintro e w' ⟨rfl,rfl⟩;go_wp2;go_ret;exact⟨iy (by rw[HF.out]; rfl),rfl⟩
end
section
open Go.RowKit
theorem Es(O B:ByteArray)(w:World)(hs:B.size<=1048576) :
  bc prog 241 #[.string O,.string B] w λe w'=>e=.returned (.bool (ns 1 O.data.toList B.data.toList))/\w=w':=by
 have HF:bv (ns 1 O.data.toList B.data.toList=(aW B.size).any λi=>jy B.data.toList i&&sW (B.data.toList.drop i) O.data.toList):=by
  show _=_;unfold ns;simp
 go_enter func241,ntmps241;go_wp2;go_loopw [8] (λiv wr=>∃i:Nat,i<=B.size/\iv=.int .i64 i/\(∀j,j<i->(jy B.data.toList j&&sW (B.data.toList.drop j) O.data.toList)=false)/\w=wr) (λi _=>B.size-(intOf i).toNat)
 case atStart=>exact⟨0,bp _,rfl,λj hj=>by omega,rfl⟩
 case round=>
  obtain⟨i,hi,rfl,ad,rfl⟩:=hrel;have U:bv (∀j,j<i->(jy B.data.toList j&&sW (B.data.toList.drop j) O.data.toList)=false):=ad;clear ad;by_cases ae:i<B.size
  .have ai:(i:Int)<(B.size:Int):=by omega
   have aj:(i:Int)<=(B.size:Int):=by omega
   obtain⟨b1,Y⟩:∃b1,b1=jy B.data.toList i:=⟨_,rfl⟩;obtain⟨b2,aa⟩:∃b2,b2=sW (B.data.toList.drop i) O.data.toList:=⟨_,rfl⟩;have ab:=AN B i w (by omega) ae;have ac:=Bd (B.extract i B.size) O w;rw[<-Y]at ab;rw[Q1,<-aa]at ac;have af:bv (b1=jy B.data.toList i):=Y;have ag:bv (b2=sW (B.data.toList.drop i) O.data.toList):=aa;clear Y aa;go_wp2_with fail;refine ab.mono ?_;rintro e w3 ⟨rfl,rfl⟩;clear ab
   cases b1 with
   |false=>
    go_wp2;go_roundw
    case rel=>exact⟨i+1,by omega,by go_num,λj hj=>by
     rcases bo j i with h|h
     .exact U.out j h
     .have e:j=i:=by omega
      subst e; rw[<-af.out]; rfl,trivial⟩
    case measure=>simp[intOf]; omega
   |true=>
    go_wp2_with fail;refine ac.mono ?_;rintro e w4 ⟨rfl,rfl⟩;clear ac
    cases b2 with
    |false=>
     go_wp2;go_roundw
     case rel=>exact⟨i+1,by omega,by go_num,λj hj=>by
      rcases bo j i with h|h
      .exact U.out j h
      .have e:j=i:=by omega
       subst e; rw[<-ag.out]; simp,trivial⟩
     case measure=>simp[intOf]; omega
    |true=>
     have HY:bv (ns 1 O.data.toList B.data.toList=true):=by
      show _=_;rw[HF.out];exact any_some i ae (by rw[<-af.out,<-ag.out]; rfl)
     go_wp2;go_ret;exact⟨iy HY.out.symm,rfl⟩
  .have ah:i=B.size:=by omega
   subst ah
   have HY:bv (ns 1 O.data.toList B.data.toList=false):=by
    exact any_none U.out
   go_wp2;go_ret;exact⟨iy HY.out.symm,rfl⟩
end
section
open Go.RowKit
theorem CQ(n:Nat):(bd #[Value.int .i64 0] n).toList=ig (aU n 0):=by
 apply List.ext_getElem
 .simp[bd,ig]
 .simp[bd,ig,Nat.mod_one]
def nI(n i:Nat):List Nat:=aW i++aU (n-i) 0
theorem IV{n i:Nat}(h:i<=n):(nI n i).length=n:=by simp[nI]; omega
theorem I'{n i:Nat}(h:i<n):(ig (nI n i)).set i (.int .i64 (i:Int))=ig (nI n (i+1)):=by
 have e:n-i=(n-(i+1))+1:=by omega
 have B:nI n (i+1)=(nI n i).set i i:=by
  unfold nI;rw[e,aX,List.range_succ];simp
 rw[B];unfold ig;rw[aZ]
theorem J4(n:Nat):nI n n=aW n:=by simp[nI]
theorem yS(B:ByteArray)(w:World)(hq:B.size<=1048576) :
  bc prog 269 #[.string B] w λe w'=>∃g,e=.returned (.slice (some ⟨g,0,none⟩) (B.size+1) (B.size+1))/\w'.ownsRow w.heap.size 3 1 (.slice (some ⟨g,0,none⟩) (B.size+1) (B.size+1)) (B.size+1) (ig (aW (B.size+1)))/\Below w.heap.size w w':=by
 obtain⟨i3,ae,af,ag,hy2⟩:=bh SV;go_enter func269,ntmps269;go_wp2_with (at_make; go_must (refine bf _ rfl _ _ 26 rfl w.heap.size 3 i3 (.int .i64 0) 1 underlying26 ae af ag .i64 .i64 _ _ (B.size+1) rfl rfl rfl rfl ?m1 ?m2 ?m3 ?_))
 case m1=>rw[hy2]; omega
 case m2=>unfold maxLen; omega
 case m3=>exact bm _
 intro w5 aa ab;have HB5:bv (Below w.heap.size w w5):=(bs _ _).grown ab (bm _) (by simp)
 have HT5:bv (w5.ownsRow w.heap.size 3 1 (.slice (some ⟨w.heap.size,0,none⟩) (B.size+1) (B.size+1)) (B.size+1) (ig (nI (B.size+1) 0))):=by
  show bk _ _ _ _ _ _ _;have e:(bd #[Value.int .i64 0] (B.size+1)).toList=ig (nI (B.size+1) 0):=by rw[CQ]; simp[nI]
  rw[<-e];exact aa
 clear aa ab;generalize hg:w.heap.size=g at *;have ac:bv (w.heap.size=g):=hg;clear hg;go_wp2;go_loopw [11] (λiv wr=>∃i:Nat,i<=B.size+1/\iv=.int .i64 i/\wr.ownsRow g 3 1 (.slice (some ⟨g,0,none⟩) (B.size+1) (B.size+1)) (B.size+1) (ig (nI (B.size+1) i))/\Below g w wr) (λi _=>B.size+1-(intOf i).toNat)
 case atStart=>exact⟨0,bp _,rfl,HT5.out,HB5.out⟩
 case round=>
  obtain⟨i,hi,rfl,O,U⟩:=hrel;by_cases Y:i<B.size+1
  .have aj:(i:Int)<(B.size:Int)+1:=by omega
   obtain⟨bt,ot,ad,ah⟩:=lJ O i _ (l7 _ i (by rw[IV hi]; exact Y));simp only[bq,br]at ad;obtain⟨rfl,rfl,_⟩:=ad;rw[bn]at ah;have ak:=tR O i
   have HO6:bv ((wr.setCell ⟨g,i,none⟩ (.int .i64 i)).ownsRow g 3 1 (.slice (some ⟨g,0,none⟩) (B.size+1) (B.size+1)) (B.size+1) (ig (nI (B.size+1) (i+1)))):=by
    show bk _ _ _ _ _ _ _;rw[<-I' Y];exact A5 O i _ Y
   have HB6:bv (Below g w (wr.setCell ⟨g,i,none⟩ (.int .i64 i))):=by exact bu U (bm _) _
   clear O U;go_wp2;go_roundw
   case rel=>exact⟨i+1,by omega,by go_num,HO6.out,HB6.out⟩
   case measure=>simp[intOf]; omega
  .have ai:i=B.size+1:=by omega
   subst ai
   have HO6:bv (wr.ownsRow g 3 1 (.slice (some ⟨g,0,none⟩) (B.size+1) (B.size+1)) (B.size+1) (ig (aW (B.size+1)))):=by
    rw[<-J4];exact O
   have HB6:bv _:=U;go_wp2;go_ret;exact⟨g,rfl,by rw[ac.out]; exact HO6.out,by rw[ac.out]; exact HB6.out⟩
end
section
open Go.RowKit
variable {row:List Nat} {i n z:Nat} {c:UInt8} {q:Wd}
def mS(q:Wd)(c:UInt8)(row:List Nat)(z n i:Nat):List Nat:=kZ q c row z i++aU (n-i) 0
theorem D3(h:i<=n):(mS q c row z n i).length=n+1:=by
 unfold mS;rw[List.length_append,ni,List.length_replicate]; omega
theorem M5:(mS q c row z n i).getD i 0=(kZ q c row z i).getD i 0:=by
 unfold mS;rw[a1,a1,aY (by rw[ni]; omega)]
theorem Az{m:Nat}(h:i<n)(hm:m=min (min (row.getD i 0+(if q.getD i 0=c then 0 else 1)) (row.getD (i+1) 0+1)) ((kZ q c row z i).getD i 0+1)) :
  (ig (mS q c row z n i)).set (i+1) (.int .i64 (m:Int))=ig (mS q c row z n (i+1)):=by
 have e:n-i=(n-(i+1))+1:=by omega
 have B:mS q c row z n (i+1)=(mS q c row z n i).set (i+1) m:=by
  unfold mS;rw[List.set_append_right _ _ (by rw[ni]; omega),ni,e,aX,kZ,<-hm];simp
 rw[B];unfold ig;rw[aZ]
theorem Mu(q:Wd)(c:UInt8)(row:List Nat)(z n:Nat):mS q c row z n n=kZ q c row z n:=by simp[mS]
theorem JH(q:Wd)(c:UInt8)(row:List Nat)(z n:Nat):(ig (aU (n+1) 0)).set 0 (.int .i64 (z:Int))=ig (mS q c row z n 0):=by
 simp[mS,kZ,ig,aX]
theorem IR(row:List Nat)(B:ByteArray)(c:UInt8)(v:Value)(w:World)(hq:B.size<=1048576)(hv:Rd w v (ig row))(hl:row.length=B.size+1)(ap:∀x∈row,x<=2097152) :
  bc prog 270 #[v,.string B,.int .u8 c.toNat] w λe w'=>∃g,e=.returned (.slice (some ⟨g,0,none⟩) (B.size+1) (B.size+1))/\w'.ownsRow w.heap.size 3 1 (.slice (some ⟨g,0,none⟩) (B.size+1) (B.size+1)) (B.size+1) (ig (kZ B.data.toList c row (row.getD 0 0+1) B.size))/\Below w.heap.size w w':=by
 obtain⟨i3,a6,a7,a8,hy2⟩:=bh SV;have ab:bv (row.length=B.size+1):=hl;have ad:bv (∀x∈row,x<=2097152):=ap;obtain⟨aQ,cQ,rfl,_,_,aq⟩:=hv;have ai:bv (∀j u,(ig row)[j]?=some u->∃b off,aQ=some ⟨b,off,none⟩/\w.cell? ⟨b,off+j,none⟩=some u):=aq;have ar:(ig row).length=B.size+1:=by rw[Av,hl]
 rw[ar];clear aq hl ap ar;obtain⟨bQ,oQ,rfl,qz⟩:=ai.out 0 _ (l7 row 0 (by rw[ab.out]; omega));rw[Nat.add_zero]at qz;obtain⟨z0,aj⟩:∃z0,z0=row.getD 0 0:=⟨_,rfl⟩;have aE:z0<=2097152:=by rw[aj,a1,a2 (by rw[ab.out]; omega)]; exact ad.out _ (aV _)
 rw[<-aj]at qz⊢;clear aj;have aM:(0:Int)<(B.size:Int)+1:=by omega
 have aN:bQ<w.heap.size:=World.block_lt_of_cell? w _ qz;go_enter func270,ntmps270;go_wp2_with (at_make; go_must (refine bf _ rfl _ _ 26 rfl w.heap.size 3 i3 (.int .i64 0) 1 underlying26 a6 a7 a8 .i64 .i64 _ _ (B.size+1) rfl rfl rfl rfl ?m1 ?m2 ?m3 ?_))
 case m1=>rw[hy2]; omega
 case m2=>unfold maxLen; omega
 case m3=>exact bm _
 intro w5 ac au;have ak:bv (Below w.heap.size w w5):=(bs _ _).grown au (bm _) (by simp);have e:(bd #[Value.int .i64 0] (B.size+1)).toList=ig (aU (B.size+1) 0):=CQ _;rw[e]at ac;have a9:=ba ak.out qz;obtain⟨bt,ot,aa,ah⟩:=lJ ac 0 _ (l7 _ 0 (by simp));simp only[bq,br]at aa;obtain⟨rfl,rfl,_⟩:=aa;rw[bn]at ah;have av:=tR ac 0
 have HT6:bv ((w5.setCell ⟨w.heap.size,0,none⟩ (.int .i64 ((z0:Int)+1))).ownsRow w.heap.size 3 1 (.slice (some ⟨w.heap.size,0,none⟩) (B.size+1) (B.size+1)) (B.size+1) (ig (mS B.data.toList c row (z0+1) B.size 0))):=by
  show bk _ _ _ _ _ _ _;rw[<-JH];have h:=A5 ac 0 (.int .i64 ((z0+1:Nat):Int)) (by omega);simpa using h
 have HB6:bv (Below w.heap.size w (w5.setCell ⟨w.heap.size,0,none⟩ (.int .i64 ((z0:Int)+1)))):=by exact bu ak.out (bm _) _
 clear ac au e;go_wp2;go_loopw [22] (λiv wr=>∃i:Nat,i<=B.size/\iv=.int .i64 i/\wr.ownsRow w.heap.size 3 1 (.slice (some ⟨w.heap.size,0,none⟩) (B.size+1) (B.size+1)) (B.size+1) (ig (mS B.data.toList c row (z0+1) B.size i))/\Below w.heap.size w wr) (λi _=>B.size-(intOf i).toNat)
 case atStart=>exact⟨0,bp _,rfl,HT6.out,HB6.out⟩
 case round=>
  obtain⟨i,hi,rfl,O,U⟩:=hrel;by_cases al:i<B.size
  .have aF:(i:Int)<(B.size:Int):=by omega
   have aG:(i:Int)<(B.size:Int)+1:=by omega
   have aH:(i:Int)+1<(B.size:Int)+1:=by omega
   have aO:(0:Int)<=(i:Int)+1:=by omega
   obtain⟨r0,ae⟩:∃r0,r0=row.getD i 0:=⟨_,rfl⟩;obtain⟨Y,af⟩:∃Y,Y=row.getD (i+1) 0:=⟨_,rfl⟩;obtain⟨x,hx⟩:∃x,x=(kZ B.data.toList c row (z0+1) i).getD i 0:=⟨_,rfl⟩;have aI:r0<=2097152:=by rw[ae,a1,a2 (by rw[ab.out]; omega)]; exact ad.out _ (aV _)
   have aJ:Y<=2097152:=by rw[af,a1,a2 (by rw[ab.out]; omega)]; exact ad.out _ (aV _)
   have aP:x<=4194304:=by
    rw[hx,a1,a2 (by rw[ni]; omega)];exact vF _ _ row (z0+1) 4194304 (by omega) (λy hy=>by have:=ad.out y hy; omega) i (by rw[ab.out]; omega) _ (aV _)
   obtain⟨b0,o0,aw,q0⟩:=ai.out i _ (l7 row i (by rw[ab.out]; omega));simp only[bq,br]at aw;obtain⟨rfl,rfl,_⟩:=aw;obtain⟨b1,o1,ax,q1⟩:=ai.out (i+1) _ (l7 row (i+1) (by rw[ab.out]; omega));simp only[bq,br]at ax;obtain⟨rfl,rfl,_⟩:=ax;have p0:=ba U q0;have p1:=ba U q1;rw[<-ae]at p0;rw[<-af]at p1;obtain⟨bt,ot,aa,am⟩:=lJ O i _ (l7 _ i (by rw[D3 hi]; omega));simp only[bq,br]at aa;obtain⟨rfl,rfl,_⟩:=aa;rw[bn,M5,<-hx]at am;obtain⟨bt,ot,aa,an⟩:=lJ O (i+1) _ (l7 _ (i+1) (by rw[D3 hi]; omega));simp only[bq,br]at aa;obtain⟨rfl,rfl,_⟩:=aa;rw[bn]at an;obtain⟨ov,aR⟩:∃ov:Int,wr.cell? ⟨w.heap.size,i+1,none⟩=some (.int .i64 ov):=⟨_,an⟩;have aS:=tR O (i+1);have ay:bv (row.getD i 0=r0):=ae.symm;have az:bv (row.getD (i+1) 0=Y):=af.symm;have a0:bv ((kZ B.data.toList c row (z0+1) i).getD i 0=x):=hx.symm;have aT:IntKind.i64.wrap ((i:Int)+1)=(i:Int)+1:=Ly _ _ rfl (by omega) (by omega);have aK:IntKind.i64.wrap ((Y:Int)+1)=(Y:Int)+1:=Ly _ _ rfl (by omega) (by omega);have aL:IntKind.i64.wrap ((x:Int)+1)=(x:Int)+1:=Ly _ _ rfl (by omega) (by omega);have a3:bv (B.data.toList.getD i 0=B[i]):=nO B i al;have a4:bv (wr.ownsRow w.heap.size 3 1 (.slice (some ⟨w.heap.size,0,none⟩) (B.size+1) (B.size+1)) (B.size+1) (ig (mS B.data.toList c row (z0+1) B.size i))):=O;have a':bv (Below _ _ _):=U;clear q0 q1 ae af hx O U an HT6 HB6 ak ah av a9;by_cases hc:B[i]=c
   case' pos=>
    have aA:((B[i].toNat:Int)==(c.toNat:Int))=true:=by rw[xV,hc]; simp
    have ao:bv ((if B.data.toList.getD i 0=c then 0 else 1)=0):=by show _=_; rw[a3.out,if_pos hc]
    have HM:bv (∀m:Nat,m=min (min (r0) (Y+1)) (x+1)->(ig (mS B.data.toList c row (z0+1) B.size i)).set (i+1) (.int .i64 (m:Int))=ig (mS B.data.toList c row (z0+1) B.size (i+1))):=λm hm=>Az al (by rw[ay.out,az.out,a0.out,ao.out]; omega);clear hc;go_wp2
   case' neg=>
    have aA:((B[i].toNat:Int)==(c.toNat:Int))=false:=by rw[xV]; simpa using hc
    have ao:bv ((if B.data.toList.getD i 0=c then 0 else 1)=1):=by show _=_; rw[a3.out,if_neg hc]
    have HM:bv (∀m:Nat,m=min (min (r0+1) (Y+1)) (x+1)->(ig (mS B.data.toList c row (z0+1) B.size i)).set (i+1) (.int .i64 (m:Int))=ig (mS B.data.toList c row (z0+1) B.size (i+1))):=λm hm=>Az al (by rw[ay.out,az.out,a0.out,ao.out]; omega);clear hc;go_wp2
   all_goals
    have s0:(wr.drew).cell? ⟨bQ,oQ+(i+1),none⟩=some (.int .i64 Y):=p1;have s1:(wr.drew).cell? ⟨w.heap.size,i,none⟩=some (.int .i64 x):=am;refine wp_region_held (S:=λw'=>w'.cell? ⟨bQ,oQ+(i+1),none⟩=some (.int .i64 Y)/\w'.cell? ⟨w.heap.size,i,none⟩=some (.int .i64 x)) (by kernel_rfl) ?_;refine j7 0 ?_ ⟨s0,s1⟩ ?_<|j7 1 ?_ ⟨s0,s1⟩ ?_<|j7 2 ?_ ⟨s0,s1⟩ ?_<|j7 3 ?_ ⟨s0,s1⟩ ?_<|j7 4 ?_ ⟨s0,s1⟩ ?_<|j7 5 ?_ ⟨s0,s1⟩ ?_<|j7 6 ?_ ⟨s0,s1⟩ ?_<|j7 7 ?_ ⟨s0,s1⟩ ?_<|j7 8 ?_ ⟨s0,s1⟩ ?_<|j7 9 ?_ ⟨s0,s1⟩ ?_<|j7 10 ?_ ⟨s0,s1⟩ ?_<|j7 11 ?_ ⟨s0,s1⟩ ?_<|j7 12 ?_ ⟨s0,s1⟩ ?_<|j7 13 ?_ ⟨s0,s1⟩ ?_<|j7 14 ?_ ⟨s0,s1⟩ ?_<|j7 15 ?_ ⟨s0,s1⟩ ?_<|j7 16 ?_ ⟨s0,s1⟩ ?_ ?_
    any_goals(rintro w' ⟨t0,t1⟩; go_simp; first|done|with_reducible rfl)
    refine nY 17 λK' a5=>?_;unfold Oper.wp;go_simp
   case' pos=>
    obtain⟨m,hm⟩:∃m:Nat,m=min (min (r0) (Y+1)) (x+1):=⟨_,rfl⟩
    have ag:(if(x:Int)+1<(if(Y:Int)+1<(r0:Int)then(Y:Int)+1 else(r0:Int))then(x:Int)+1 else(if(Y:Int)+1<(r0:Int)then(Y:Int)+1 else(r0:Int)))=(m:Int):=by
     rw[hm];split<;>split at * <;> omega
    rw[ag]
   case' neg=>
    obtain⟨m,hm⟩:∃m:Nat,m=min (min (r0+1) (Y+1)) (x+1):=⟨_,rfl⟩
    have ag:(if(x:Int)+1<(if Y<r0 then(Y:Int)+1 else((r0:Int)+1))then(x:Int)+1 else(if Y<r0 then(Y:Int)+1 else((r0:Int)+1)))=(m:Int):=by
     rw[hm];split<;>split at * <;> omega
    rw[ag]
   all_goals
    have HO8:bv ((wr.setCell ⟨w.heap.size,i+1,none⟩ (.int .i64 m)).drew.ownsRow w.heap.size 3 1 (.slice (some ⟨w.heap.size,0,none⟩) (B.size+1) (B.size+1)) (B.size+1) (ig (mS B.data.toList c row (z0+1) B.size (i+1)))):=by
     show bk _ _ _ _ _ _ _;rw[<-HM.out m hm];exact A5 a4.out (i+1) (.int .i64 m) (by omega)
    have HB8:bv (Below w.heap.size w (wr.setCell ⟨w.heap.size,i+1,none⟩ (.int .i64 m)).drew):=(bu a'.out (bm _) _).drew;refine a5 _ _ ⟨⟨?_,?_⟩,wpAnyH_done (by kernel_rfl) ?_ _⟩
    .show(wr.setCell ⟨w.heap.size,i+1,none⟩ (.int .i64 m)).cell? _=_;rw[World.cell?_setCell_far _ _ _ _ (by show w.heap.size≠bQ; omega)];exact p1
    .show(wr.setCell ⟨w.heap.size,i+1,none⟩ (.int .i64 m)).cell? _=_;rw[World.cell?_setCell_other _ _ _ _ (by intro e; simp at e)];exact am
    clear a5 ag hm;go_wp2;go_roundw
    case rel=>exact⟨i+1,by omega,by go_num,HO8.out,HB8.out⟩
    case measure=>simp[intOf]; omega
  .have aB:i=B.size:=by omega
   subst aB
   have aC:bv (wr.ownsRow w.heap.size 3 1 (.slice (some ⟨w.heap.size,0,none⟩) (B.size+1) (B.size+1)) (B.size+1) (ig (kZ B.data.toList c row (z0+1) B.size))):=by
    show bk _ _ _ _ _ _ _;rw[<-Mu];exact O
   have aD:bv (Below _ _ _):=U;clear O U;go_wp2;go_ret;exact⟨w.heap.size,rfl,aC.out,aD.out⟩
end
section
open Go.RowKit
theorem Hf(a:Wd)(c:UInt8)(row:List Nat)(z:Nat):∀i,(kZ a c row z i).getD 0 0=z:=by
 intro i
 induction i with
 |zero=>rfl
 |succ i B=>
  rw[kZ,a1,aY (by rw[ni]; omega)];exact B
theorem Ku(a s:Wd)(k:Nat):(nS a s k).getD 0 0=k:=by
 cases k with
 |zero=>simp[nS]
 |succ k=>rw[nS,Hf]
theorem sS(B O:ByteArray)(most:Nat)(w:World)(av:1<=most)(aw:most<=2)(hq:B.size<=1048576)(hs:O.size<=1048576) :
  bc prog 242 #[.string B,.string O,.int .i64 most] w λe w'=>e=.returned (.bool (ns (most+1) B.data.toList O.data.toList))/\Below w.heap.size w w':=by
 have af:B.data.toList.length=B.size:=by simp
 have Y:bv (B.data.toList.length=B.size):=af
 have HF:bv (ns (most+1) B.data.toList O.data.toList=(aW (O.size+1)).any λk=>decide (AY B.data.toList O.data.toList k<most+1)):=by
  show _=_;unfold ns;rw[if_neg (by omega),if_neg (by omega)];simp
 clear af;go_enter func242,ntmps242;go_wp2_with fail;refine(yS B w hq).mono ?_;rintro e w1 ⟨g1,rfl,ag,ah⟩
 have HO1:bv (w1.ownsRow w.heap.size 3 1 (.slice (some ⟨g1,0,none⟩) (B.size+1) (B.size+1)) (B.size+1) (ig (nS B.data.toList O.data.toList 0))):=by
  show bk _ _ _ _ _ _ _;rw[nS,Y.out];exact ag
 have HB1:bv (Below _ _ _):=ah;clear ag ah;go_wp2;go_loopw [7,13] (λv iv wr=>∃(k g:Nat),k<=O.size/\iv=.int .i64 k/\v=.slice (some ⟨g,0,none⟩) (B.size+1) (B.size+1)/\wr.ownsRow w.heap.size 3 1 (.slice (some ⟨g,0,none⟩) (B.size+1) (B.size+1)) (B.size+1) (ig (nS B.data.toList O.data.toList k))/\(∀j,j<k->¬AY B.data.toList O.data.toList j<most+1)/\Below w.heap.size w wr) (λ_ i _=>O.size-(intOf i).toNat)
 case atStart=>exact⟨0,g1,bp _,rfl,rfl,HO1.out,λj hj=>by omega,HB1.out⟩
 case round=>
  obtain⟨k,g,hk,rfl,rfl,U,ai,aa⟩:=hrel;have aj:bv (∀j,j<k->¬AY B.data.toList O.data.toList j<most+1):=ai;have ad:bv (Below _ _ _):=aa;have HS:=aa.size;have ax:(B.size:Int)<(B.size:Int)+1:=by omega
  obtain⟨dd,ae⟩:∃dd,dd=AY B.data.toList O.data.toList k:=⟨_,rfl⟩;obtain⟨bt,ot,ak,an⟩:=lJ U B.size _ (l7 _ B.size (by rw[xa,Y.out]; omega));simp only[bq,br]at ak;obtain⟨rfl,rfl,_⟩:=ak;have e1:(nS B.data.toList O.data.toList k).getD B.size 0=dd:=by rw[ae]; unfold AY; rw[Y.out]
  rw[bn,e1]at an;have ab:bv (dd=AY B.data.toList O.data.toList k):=ae;clear ai aa ae e1;by_cases ao:k<O.size
  .have au:(k:Int)<(O.size:Int):=by omega
   by_cases hd:dd<=most
   .have ap:(dd:Int)<=(most:Int):=by omega
    have HY:bv (ns (most+1) B.data.toList O.data.toList=true):=by
     show _=_;rw[HF.out];exact any_some k (by omega) (by rw[<-ab.out]; simp; omega)
    clear U;go_wp2;go_ret;exact⟨iy HY.out.symm,ad.out⟩
   .have ap:¬((dd:Int)<=(most:Int)):=by omega
    have ac:=IR (nS B.data.toList O.data.toList k) B O[k] (.slice (some ⟨g,0,none⟩) (B.size+1) (B.size+1)) wr hq (Rd.lT U) (by rw[xa,Y.out]) (λx hx=>by have:=Hb _ _ _ x hx; rw[Y.out]at this; omega);rw[Ku]at ac
    have e2:kZ B.data.toList O[k] (nS B.data.toList O.data.toList k) (k+1) B.size=nS B.data.toList O.data.toList (k+1):=by
     rw[nS,Y.out,nO O k ao]
    rw[e2]at ac;clear U e2;go_wp2_with fail;refine ac.mono ?_;rintro e w3 ⟨g3,rfl,al,am⟩;have HO3:bv (w3.ownsRow w.heap.size 3 1 (.slice (some ⟨g3,0,none⟩) (B.size+1) (B.size+1)) (B.size+1) (ig (nS B.data.toList O.data.toList (k+1)))):=mA al HS;have aq:bv (Below w.heap.size w w3):=ad.out.trans (am.mono HS);clear ac al am;go_wp2;go_roundw
    case rel=>exact⟨k+1,g3,by omega,by go_num,rfl,HO3.out,λj hj=>by
     rcases bo j k with h|h
     .exact aj.out j h
     .have e:j=k:=by omega
      subst e; rw[<-ab.out]; omega,aq.out⟩
    case measure=>simp[intOf]; omega
  .have ar:k=O.size:=by omega
   subst ar
   have HY:bv (ns (most+1) B.data.toList O.data.toList=decide (dd<=most)):=by
    show _=_;rw[HF.out];by_cases hd:dd<=most
    .rw[any_some O.size (by omega) (by rw[<-ab.out]; simp; omega)];simp; omega
    .rw[any_none (λi hi=>?_)]
     .simp; omega
     .rcases bo i O.size with h|h
      .have:=aj.out i h; simpa using this
      .have e:i=O.size:=by omega
       subst e; rw[<-ab.out]; simp; omega
   go_wp2;go_ret;exact⟨iy HY.out.symm,ad.out⟩
theorem N9(m:Nat)(B O:ByteArray)(w:World)(hm:m<=3)(Y:B.size<=1048576)(U:O.size<=1048576) :
  bc prog 215 #[.int .i64 m,.string B,.string O] w λe w'=>e=.returned (.bool (ns m B.data.toList O.data.toList))/\Below w.heap.size w w':=by
 have hc:m=0\/m=1\/m=2\/m=3:=by omega
 rcases hc with rfl|rfl|rfl|rfl
 .have HF:bv (ns 0 B.data.toList O.data.toList=sW O.data.toList B.data.toList):=rfl;go_enter func215,ntmps215;go_wp2_with fail;refine(Bd O B w).mono ?_;rintro e w' ⟨rfl,rfl⟩;go_wp2;go_ret;exact⟨iy HF.out.symm,bs _ _⟩
 .go_enter func215,ntmps215;go_wp2_with fail;refine(Es B O w U).mono ?_;rintro e w' ⟨rfl,rfl⟩;go_wp2;go_ret;exact⟨rfl,bs _ _⟩
 .go_enter func215,ntmps215;go_wp2_with fail;refine(sS B O 1 w (by omega) (by omega) Y U).mono ?_;rintro e w' ⟨rfl,hb⟩;go_wp2;go_ret;exact⟨rfl,hb⟩
 .go_enter func215,ntmps215;go_wp2_with fail;refine(sS B O 2 w (by omega) (by omega) Y U).mono ?_;rintro e w' ⟨rfl,hb⟩;go_wp2;go_ret;exact⟨rfl,hb⟩
end
section
open Go.RowKit
theorem qE{P:Program}{ops:Array Oper}{O:Region.Mode}{Q:Exit->Act->World->Prop}{i:Nat}{U:Oper}{B:Nat}{listed:Array Bool}{C:World->Prop}{a:Act}(hi:ops[i]?=some U)
  (Y:Region.noSelect ops=true) (hf:Region.free O ops listed i=true) (hr:(Region.ready O ops listed).contains i=true) (hC:jR iT C)
  (hw:Region.wanted U (yielded ops a.tmps)=false)
  (h:WX iT P O ops Q B (listed.setIfInBounds i true) C (a.put U.dst undef)):WX iT P O ops Q (B+1) listed C a:=
 Hw hi (Region.noSelect_spec Y) B listed C a (Region.free_spec hi hf) (by simpa using hr) hC (.inr ⟨hw,rfl⟩) h
theorem ND(x y:Nat)(B:x<256)(O:y<256):bits .and .i64 (x:Int) (y:Int)=((x &&& y:Nat):Int):=by
 show IntKind.i64.wrap ((BitVec.ofInt 64 x &&& BitVec.ofInt 64 y).toNat)=_;rw[BitVec.toNat_and]
 have e:∀n:Nat,n<256->(BitVec.ofInt 64 n).toNat=n:=λn U=>by
  rw[BitVec.toNat_ofInt]; omega
 rw[e x B,e y O];have Y:x &&& y<=x:=Nat.and_le_left;exact Ly _ _ rfl (by omega) (by omega)
theorem Rz(m tg:Nat)(Y:ByteArray)(nm tx:ByteArray)(wt O:Int)(w:World)(hm:m<=3)(ai:tg<256)(am:0<=O)(ao:O<=255)(hq:Y.size<=1048576)(ht:tx.size<=1048576) :
  bc prog 160 #[.agg #[.int .i64 m,.string Y,.int .i64 tg],.agg #[.string nm,.string tx,.int .i64 wt,.int .i64 O]] w λe w'=>e=.returned (.bool (sk tg O.toNat&&ns m Y.data.toList (ir tx.data.toList)))/\Below w.heap.size w w':=by
 have hB:Below w.heap.size w ((w.alloc (.cells #[.int .i64 m,.string Y,.int .i64 tg] 94)).alloc (.cells #[.string nm,.string tx,.int .i64 wt,.int .i64 O] 96)):=((bs _ _).alloc (bm _) _).alloc (by simp) _;have d0:((w.alloc (.cells #[.int .i64 m,.string Y,.int .i64 tg] 94)).alloc (.cells #[.string nm,.string tx,.int .i64 wt,.int .i64 O] 96)).cell? ⟨w.heap.size,0,none⟩=some (.int .i64 m):=by rw[bl _ _ _ (by simp),bj _ _ _ _ rfl]; rfl
 have d1:((w.alloc (.cells #[.int .i64 m,.string Y,.int .i64 tg] 94)).alloc (.cells #[.string nm,.string tx,.int .i64 wt,.int .i64 O] 96)).cell? ⟨w.heap.size,1,none⟩=some (.string Y):=by rw[bl _ _ _ (by simp),bj _ _ _ _ rfl]; rfl
 have d2:((w.alloc (.cells #[.int .i64 m,.string Y,.int .i64 tg] 94)).alloc (.cells #[.string nm,.string tx,.int .i64 wt,.int .i64 O] 96)).cell? ⟨w.heap.size,2,none⟩=some (.int .i64 tg):=by rw[bl _ _ _ (by simp),bj _ _ _ _ rfl]; rfl
 have d3:((w.alloc (.cells #[.int .i64 m,.string Y,.int .i64 tg] 94)).alloc (.cells #[.string nm,.string tx,.int .i64 wt,.int .i64 O] 96)).cell? ⟨w.heap.size+1,3,none⟩=some (.int .i64 O):=by rw[bj _ _ _ _ (by simp)]; rfl
 have d4:((w.alloc (.cells #[.int .i64 m,.string Y,.int .i64 tg] 94)).alloc (.cells #[.string nm,.string tx,.int .i64 wt,.int .i64 O] 96)).cell? ⟨w.heap.size+1,1,none⟩=some (.string tx):=by rw[bj _ _ _ _ (by simp)]; rfl
 go_enter func160,ntmps160;go_wp2_with fail;generalize ((w.alloc (.cells #[.int .i64 m,.string Y,.int .i64 tg] 94)).alloc (.cells #[.string nm,.string tx,.int .i64 wt,.int .i64 O] 96))=w0 at *;have ac:bv (Below _ _ _):=hB;clear hB;obtain⟨fb,ad⟩:∃fb,fb=ns m Y.data.toList (ir tx.data.toList):=⟨_,rfl⟩;obtain⟨kb,ae⟩:∃kb:ByteArray,kb=⟨(ir tx.data.toList).toArray⟩:=⟨_,rfl⟩
 have ah:kb.size<=1048576:=by
  rw[ae];show(ir tx.data.toList).toArray.size<=_;rw[List.size_toArray,jH]; simp; omega
 have aj:bv (∀y:World,bc prog 50 #[.string tx] y λe w'=>e=.returned (.string kb)/\iT y w'):=λy=>by rw[ae]; exact rb tx y (by omega)
 have ak:bv (∀y:World,bc prog 215 #[.int .i64 m,.string Y,.string kb] y λe w'=>e=.returned (.bool fb)/\iT y w'):=λy=>by
  have h:=N9 m Y kb y hm hq ah;have e1:kb.data.toList=ir tx.data.toList:=by rw[ae]
  rw[e1,<-ad]at h;exact h
 have U:=ND O.toNat tg (by omega) ai;rw[show((O.toNat:Nat):Int)=O by omega]at U;clear ae ah hm hq ht;by_cases aa:O.toNat &&& tg=tg
 .have al:bits .and .i64 O (tg:Int)=(tg:Int):=by rw[U,aa]
  have ab:bv (fb=(sk tg O.toNat&&ns m Y.data.toList (ir tx.data.toList))):=by
   show _=_;unfold sk;rw[aa,<-ad]; simp
  clear U aa ad;refine oS (by kernel_rfl) ?_;refine gO 0 ?_ ?_<|gO 1 ?_ ?_<|gO 2 ?_ ?_<|gO 3 ?_ ?_<|gO 4 ?_ ?_<|gO 5 ?_ ?_<|gO 6 ?_ ?_<|gO 7 ?_ ?_<|gO 8 ?_ ?_ ?_
  any_goals(intro y B; have q:=ba B d3; have q1:=ba B d2; have q2:=ba B d0; have q3:=ba B d1; have q4:=ba B d4; unfold jC; go_simp; refine⟨iT.refl _,?_⟩; with_reducible rfl)
  go_simp;refine gO 9 ?_ ?_ ?_
  any_goals(intro y B; have q:=ba B d3; have q1:=ba B d2; have q2:=ba B d0; have q3:=ba B d1; have q4:=ba B d4; unfold jC; go_simp; refine⟨iT.refl _,?_⟩; with_reducible rfl)
  go_simp;refine gO 10 ?_ ?_ ?_
  any_goals(intro y B; have q:=ba B d3; have q1:=ba B d2; have q2:=ba B d0; have q3:=ba B d1; have q4:=ba B d4; unfold jC; go_simp; refine⟨iT.refl _,?_⟩; with_reducible rfl)
  go_simp;refine gO 11 ?_ ?_ ?_
  any_goals(intro y B; have q:=ba B d3; have q1:=ba B d2; have q2:=ba B d0; have q3:=ba B d1; have q4:=ba B d4; unfold jC; go_simp; refine⟨iT.refl _,?_⟩; with_reducible rfl)
  go_simp;refine gO 12 ?_ ?_ ?_
  any_goals(intro y B; have q:=ba B d3; have q1:=ba B d2; have q2:=ba B d0; have q3:=ba B d1; have q4:=ba B d4; unfold jC; go_simp; refine⟨iT.refl _,?_⟩; with_reducible rfl)
  go_simp;refine gO 13 ?_ ?_ ?_
  any_goals(intro y B; have q:=ba B d3; have q1:=ba B d2; have q2:=ba B d0; have q3:=ba B d1; have q4:=ba B d4; unfold jC; go_simp; refine⟨iT.refl _,?_⟩; with_reducible rfl)
  go_simp;refine gO 14 ?_ ?_ ?_
  any_goals(intro y B; have q:=ba B d3; have q1:=ba B d2; have q2:=ba B d0; have q3:=ba B d1; have q4:=ba B d4; unfold jC; go_simp; refine⟨iT.refl _,?_⟩; with_reducible rfl)
  go_simp;refine gO 15 ?_ ?_ ?_;rotate_left
  .intro y B; unfold jC; go_simp; refine⟨rfl,(aj.out y).mono ?_⟩; rintro e y2 ⟨rfl,h2⟩; refine⟨_,rfl,h2,?_⟩; with_reducible rfl
  go_simp;refine gO 16 ?_ ?_ ?_;rotate_left
  .intro y B; unfold jC; go_simp; refine⟨rfl,(ak.out y).mono ?_⟩; rintro e y2 ⟨rfl,h2⟩; refine⟨_,rfl,h2,?_⟩; with_reducible rfl
  go_simp;refine gO 17 ?_ ?_<|gO 18 ?_ ?_ ?_
  any_goals(intro y B; unfold jC; go_simp; refine⟨iT.refl _,?_⟩; with_reducible rfl)
  refine zw (by kernel_rfl) ?_ _;intro y B;have ag:bv (Below w.heap.size w y):=ac.out.trans (Below.mono B ac.out.size);clear B;go_simp;go_wp2;go_ret;exact⟨iy ab.out,ag.out⟩
 .obtain⟨an,af⟩:∃an:Nat,an=O.toNat &&& tg:=⟨_,rfl⟩;have al:bits .and .i64 O (tg:Int)=(an:Int):=by rw[U,af]
  have aq:((an:Int)==(tg:Int))=false:=by rw[beq_eq_false_iff_ne]; rw[af]; omega
  have ap:¬an=tg:=by rw[af]; exact aa
  have ab:bv (false=(sk tg O.toNat&&ns m Y.data.toList (ir tx.data.toList))):=by
   show _=_;unfold sk;rw[beq_eq_false_iff_ne.2 aa]; rfl
  clear U aa ad af;refine oS (by kernel_rfl) ?_;refine gO 0 ?_ ?_<|gO 1 ?_ ?_<|gO 2 ?_ ?_<|gO 3 ?_ ?_<|gO 4 ?_ ?_<|gO 5 ?_ ?_<|gO 6 ?_ ?_<|gO 7 ?_ ?_<|gO 8 ?_ ?_ ?_
  any_goals(intro y B; have q:=ba B d3; have q1:=ba B d2; unfold jC; go_simp; refine⟨iT.refl _,?_⟩; with_reducible rfl)
  go_simp;refine qE (i:=9) rfl (by kernel_rfl) (by kernel_rfl) (by kernel_rfl) (ju _) (by rfl) ?_;go_simp;refine qE (i:=10) rfl (by kernel_rfl) (by kernel_rfl) (by kernel_rfl) (ju _) (by rfl) ?_;go_simp;refine qE (i:=11) rfl (by kernel_rfl) (by kernel_rfl) (by kernel_rfl) (ju _) (by rfl) ?_;go_simp;refine qE (i:=12) rfl (by kernel_rfl) (by kernel_rfl) (by kernel_rfl) (ju _) (by rfl) ?_;go_simp;refine qE (i:=13) rfl (by kernel_rfl) (by kernel_rfl) (by kernel_rfl) (ju _) (by rfl) ?_;go_simp;refine qE (i:=14) rfl (by kernel_rfl) (by kernel_rfl) (by kernel_rfl) (ju _) (by rfl) ?_;go_simp;refine qE (i:=15) rfl (by kernel_rfl) (by kernel_rfl) (by kernel_rfl) (ju _) (by rfl) ?_;go_simp;refine qE (i:=16) rfl (by kernel_rfl) (by kernel_rfl) (by kernel_rfl) (ju _) (by rfl) ?_;go_simp;refine gO 17 ?_ ?_<|gO 18 ?_ ?_ ?_
  any_goals(intro y B; unfold jC; go_simp; refine⟨iT.refl _,?_⟩; with_reducible rfl)
  refine zw (by kernel_rfl) ?_ _;intro y B;have ag:bv (Below w.heap.size w y):=ac.out.trans (Below.mono B ac.out.size);clear B;go_simp;go_wp2;go_ret;exact⟨iy ab.out,ag.out⟩
end
section
open Go.RowKit
theorem kV(w:World)(o:Obj){k:Nat}(h:k=w.heap.size):(w.alloc o).heap[k]?=some o:=by
 subst h;show(w.heap.push o)[w.heap.size]?=some o;simp
theorem jD(w:World)(o:Obj){k:Nat}(h:k<w.heap.size):(w.alloc o).heap[k]?=w.heap[k]?:=by
 exact Below.heap_alloc w o k h
def Cg(k at':Int)(B:ByteArray)(b:Bool)(n2 tx:ByteArray)(wt O:Int):Value:=.agg #[.int .i64 k,.int .i64 at',.string B,.bool b,.string n2,.string tx,.int .i64 wt,.int .i64 O]
def Q5:ByteArray:=⟨#[]⟩
theorem Ip(k at':Int)(nm:ByteArray)(g:Bool)(n2 tx:ByteArray)(wt et:Int)(m tg:Nat)(qb:ByteArray)(w:World)(hm:m<=3)(ad:tg<256)(ac:g=false->0<=et/\et<=255)(hq:qb.size<=1048576)(ht:tx.size<=1048576) :
  bc prog 119 #[.agg #[.int .i64 k,.int .i64 at'],.string nm,.agg #[.bool g,.string n2,.string tx,.int .i64 wt,.int .i64 et],.agg #[.int .i64 m,.string qb,.int .i64 tg]] w λe w'=>
   e=.returned (if(!g&&(sk tg et.toNat&&ns m qb.data.toList (ir tx.data.toList)))=true then Cg k at' nm true n2 tx wt et else Cg k at' nm false Q5 Q5 0 0)/\Below w.heap.size w w':=by
 obtain⟨b,hb⟩:∃b,b=(sk tg et.toNat&&ns m qb.data.toList (ir tx.data.toList)):=⟨_,rfl⟩
 have HC:bv (g=false->∀y:World,bc prog 160 #[.agg #[.int .i64 m,.string qb,.int .i64 tg],.agg #[.string n2,.string tx,.int .i64 wt,.int .i64 et]] y λe w'=>e=.returned (.bool b)/\Below y.heap.size y w'):=λhg y=>by
  rw[hb]; exact Rz m tg qb n2 tx wt et y hm ad (ac hg).1 (ac hg).2 hq ht
 rw[<-hb];clear hb hm ad ac hq ht;obtain⟨w0,aa⟩:∃w0,w0=(((w.alloc (.cells #[.int .i64 k,.int .i64 at'] 170)).alloc (.cells #[.bool g,.string n2,.string tx,.int .i64 wt,.int .i64 et] 111)).alloc (.cells #[.int .i64 m,.string qb,.int .i64 tg] 94)).alloc (.cells #[.int .i64 0,.int .i64 0,.string ⟨#[]⟩,.bool false,.string ⟨#[]⟩,.string ⟨#[]⟩,.int .i64 0,.int .i64 0] 172):=⟨_,rfl⟩;have hz:w0.heap.size=w.heap.size+4:=by rw[aa]; simp
 have hB:Below w.heap.size w w0:=by rw[aa]; exact((((bs _ _).alloc (bm _) _).alloc (by simp) _).alloc (by simp; omega) _).alloc (by simp; omega) _
 have g0:w0.heap[w.heap.size]?=some (.cells #[.int .i64 k,.int .i64 at'] 170 (0,0)):=by rw[aa]; (repeat(first|(rw[kV _ _ (by simp only[bi])]; done)|rw[jD _ _ (by simp only[bi]; omega)]))
 have g1:w0.heap[w.heap.size+1]?=some (.cells #[.bool g,.string n2,.string tx,.int .i64 wt,.int .i64 et] 111 (0,0)):=by rw[aa]; (repeat(first|(rw[kV _ _ (by simp only[bi])]; done)|rw[jD _ _ (by simp only[bi]; omega)]))
 have g2:w0.heap[w.heap.size+1+1]?=some (.cells #[.int .i64 m,.string qb,.int .i64 tg] 94 (0,0)):=by rw[aa]; (repeat(first|(rw[kV _ _ (by simp only[bi])]; done)|rw[jD _ _ (by simp only[bi]; omega)]))
 have g3:w0.heap[w.heap.size+1+1+1]?=some (.cells #[.int .i64 0,.int .i64 0,.string ⟨#[]⟩,.bool false,.string ⟨#[]⟩,.string ⟨#[]⟩,.int .i64 0,.int .i64 0] 172 (0,0)):=by rw[aa]; (repeat(first|(rw[kV _ _ (by simp only[bi])]; done)|rw[jD _ _ (by simp only[bi]; omega)]))
 go_enter func119,ntmps119;go_upto_region 1 with fail;rw[<-aa];obtain⟨B0,ae⟩:∃B,B=w.heap.size:=⟨_,rfl⟩;obtain⟨Y,af⟩:∃B,B=w.heap.size+1+1+1:=⟨_,rfl⟩;obtain⟨B2,ag⟩:∃B,B=w.heap.size+1+1:=⟨_,rfl⟩;obtain⟨B1,ah⟩:∃B,B=w.heap.size+1:=⟨_,rfl⟩;rw[<-af]at g3⊢;rw[<-ag]at g2⊢;rw[<-ah]at g1⊢;rw[<-ae]at g0⊢;have HB:bv (Below _ _ _):=hB;have HN:bv (B0<w0.heap.size/\B1<w0.heap.size/\B2<w0.heap.size/\Y<w0.heap.size/\w.heap.size<=Y):=⟨by omega,by omega,by omega,by omega,by omega⟩;clear aa hB ae ah ag af hz;cases g
 .have c0:w0.cell? ⟨B1,0,none⟩=some (.bool false):=by rw[gq g1]; rfl
  have c1:w0.cell? ⟨B1,1,none⟩=some (.string n2):=by rw[gq g1]; rfl
  have c2:w0.cell? ⟨B1,2,none⟩=some (.string tx):=by rw[gq g1]; rfl
  have c3:w0.cell? ⟨B1,3,none⟩=some (.int .i64 wt):=by rw[gq g1]; rfl
  have c4:w0.cell? ⟨B1,4,none⟩=some (.int .i64 et):=by rw[gq g1]; rfl
  have c5:w0.cell? ⟨B2,0,none⟩=some (.int .i64 m):=by rw[gq g2]; rfl
  have c6:w0.cell? ⟨B2,1,none⟩=some (.string qb):=by rw[gq g2]; rfl
  have c7:w0.cell? ⟨B2,2,none⟩=some (.int .i64 tg):=by rw[gq g2]; rfl
  go_upto_if 17 with(go_at_call 160; refine(HC.out rfl _).mono ?_; rintro e y ⟨rfl,hy⟩);have ai:=(hy.block B0 HN.out.1).trans g0;have ab:=(hy.block B1 HN.out.2.1).trans g1;have U:=(hy.block Y HN.out.2.2.2.1).trans g3;have HY:bv (Below w.heap.size w y):=HB.out.trans (Below.mono hy HB.out.size);clear c0 c1 c2 c3 c4 c5 c6 c7 hy HC g0 g1 g2 g3 HB;have c0:y.cell? ⟨B0,0,none⟩=some (.int .i64 k):=by rw[gq ai]; rfl
  have c1:y.cell? ⟨B0,1,none⟩=some (.int .i64 at'):=by rw[gq ai]; rfl
  have c2:y.cell? ⟨B1,1,none⟩=some (.string n2):=by rw[gq ab]; rfl
  have c3:y.cell? ⟨B1,2,none⟩=some (.string tx):=by rw[gq ab]; rfl
  have c4:y.cell? ⟨B1,3,none⟩=some (.int .i64 wt):=by rw[gq ab]; rfl
  have c5:y.cell? ⟨B1,4,none⟩=some (.int .i64 et):=by rw[gq ab]; rfl
  have aj:=gP U;have mP:=gq U;have e0:y.cell? ⟨Y,0,none⟩=some (.int .i64 0):=by rw[gq U]; rfl
  have e1:y.cell? ⟨Y,1,none⟩=some (.int .i64 0):=by rw[gq U]; rfl
  have e2:y.cell? ⟨Y,2,none⟩=some (.string ⟨#[]⟩):=by rw[gq U]; rfl
  have e3:y.cell? ⟨Y,3,none⟩=some (.bool false):=by rw[gq U]; rfl
  have e4:y.cell? ⟨Y,4,none⟩=some (.string ⟨#[]⟩):=by rw[gq U]; rfl
  have e5:y.cell? ⟨Y,5,none⟩=some (.string ⟨#[]⟩):=by rw[gq U]; rfl
  have e6:y.cell? ⟨Y,6,none⟩=some (.int .i64 0):=by rw[gq U]; rfl
  have e7:y.cell? ⟨Y,7,none⟩=some (.int .i64 0):=by rw[gq U]; rfl
  have O:=HN.out.2.2.2.2;cases b
  .go_wp2;refine be (v:=Cg k at' nm false Q5 Q5 0 0) (by simp[bg,results119,go_sem,e0,e1,e2,e3,e4,e5,e6,e7,Cg,Q5]) rfl ⟨rfl,((((((((HY.out.setCell O _).setCell O _).setCell O _).setCell O _).setCell O _).setCell O _).setCell O _).setCell O _)⟩
  .go_wp2;refine be (v:=Cg k at' nm true n2 tx wt et) (by simp[bg,results119,go_sem,e0,e1,e2,e3,e4,e5,e6,e7,Cg,Q5]) rfl ⟨rfl,((((((((HY.out.setCell O _).setCell O _).setCell O _).setCell O _).setCell O _).setCell O _).setCell O _).setCell O _)⟩
 .have c0:w0.cell? ⟨B0,0,none⟩=some (.int .i64 k):=by rw[gq g0]; rfl
  have c1:w0.cell? ⟨B0,1,none⟩=some (.int .i64 at'):=by rw[gq g0]; rfl
  have c2:w0.cell? ⟨B1,0,none⟩=some (.bool true):=by rw[gq g1]; rfl
  have aj:=gP g3;have mP:=gq g3;have e0:w0.cell? ⟨Y,0,none⟩=some (.int .i64 0):=by rw[gq g3]; rfl
  have e1:w0.cell? ⟨Y,1,none⟩=some (.int .i64 0):=by rw[gq g3]; rfl
  have e2:w0.cell? ⟨Y,2,none⟩=some (.string ⟨#[]⟩):=by rw[gq g3]; rfl
  have e3:w0.cell? ⟨Y,3,none⟩=some (.bool false):=by rw[gq g3]; rfl
  have e4:w0.cell? ⟨Y,4,none⟩=some (.string ⟨#[]⟩):=by rw[gq g3]; rfl
  have e5:w0.cell? ⟨Y,5,none⟩=some (.string ⟨#[]⟩):=by rw[gq g3]; rfl
  have e6:w0.cell? ⟨Y,6,none⟩=some (.int .i64 0):=by rw[gq g3]; rfl
  have e7:w0.cell? ⟨Y,7,none⟩=some (.int .i64 0):=by rw[gq g3]; rfl
  have O:=HN.out.2.2.2.2;clear HC;go_wp2;refine be (v:=Cg k at' nm false Q5 Q5 0 0) (by simp[bg,results119,go_sem,e0,e1,e2,e3,e4,e5,e6,e7,Cg,Q5]) rfl ⟨rfl,((((((((HB.out.setCell O _).setCell O _).setCell O _).setCell O _).setCell O _).setCell O _).setCell O _).setCell O _)⟩
end
end Go.Proofs.YtocbogeoffeolaaGreatDoor
