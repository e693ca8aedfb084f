import Derived.Test.YtocbogeoffeolaaGreatDoorFolAS
set_option linter.unusedVariables false
set_option linter.unusedSimpArgs false
set_option maxHeartbeats 8000000
set_option maxRecDepth 1000000
open List renaming getD_eq_getElem?_getD->aS,getElem?_eq_getElem->aT,replicate->aU,getElem_mem->aV,range->aW,replicate_succ->aX,getElem?_append_left->aY,set_append_right->aZ,mem_singleton->ba,map_set->bb
open Go renaming cell_later->bc,Calls->bd,madeCells->be,bodyPost_ret->bf,wpList_make_full->bg,wp_region_held->bh,results->bi,wpAnyH_done->bj,wpAnyH_all->bk,info_parts->bl
open Go.World renaming size_alloc->bm,ownsRow->bn,cell?_alloc_at->bo,cell?_alloc_past->bp,cell?_setCell_other->bq,cell?_setCell_far->br
open Nat renaming le_refl->bs,zero_add->bu,lt_or_ge->bv,zero_le->bw
open Option.some renaming injEq->bx
open Go.RowKit.Below renaming refl->bz,setCell->b3
open Go.Addr.mk renaming injEq->b4
open Go.RowKit renaming Hid->b5
namespace Go.Proofs.YtocbogeoffeolaaGreatDoor
open Go.Proofs.Tryz
section
open Go.RowKit
theorem Gl(s p:ByteArray)(w:World) :
  bd prog 267 #[.string s,.string p] w λe w'=>e=.returned (.bool (tN s.data.toList p.data.toList))/\w=w':=by
 go_enter func267,ntmps267;by_cases h:p.size<=s.size
 .have hi:(p.size:Int)<=(s.size:Int):=by omega
  go_wp2;go_ret;refine⟨iR ?_,rfl⟩;rw[JL,Oe,ByteArray.toList_eq,ByteArray.toList_eq];simp[h]
 .have hi:¬((p.size:Int)<=(s.size:Int)):=by omega
  go_wp2;go_ret;refine⟨iR ?_,rfl⟩;rw[JL];simp[h]
theorem zV(s p:ByteArray)(w:World) :
  bd prog 240 #[.string s,.string p] w λe w'=>e=.returned (.bool (tN s.data.toList p.data.toList))/\w=w':=by
 go_enter func240,ntmps240;go_wp2_with fail;refine(Gl s p w).mono ?_;rintro e w' ⟨rfl,rfl⟩;go_wp2;go_ret;exact⟨rfl,rfl⟩
theorem zu(s:ByteArray)(k:Nat)(w:World)(hs:s.size<=1099511627776)(hk:k<s.size) :
  bd prog 268 #[.string s,.int .i64 k] w λe w'=>e=.returned (.bool (jV s.data.toList k))/\w=w':=by
 have Y:=nR s k hk;have ab:(k:Int)<(s.size:Int):=by omega
 obtain⟨U,y⟩:∃U,U=jf s[k]:=⟨_,rfl⟩;have B:=py s[k] w;rw[<-y]at B;by_cases h0:k=0
 .subst h0
  have W:b5 (jV s.data.toList 0=U):=by
   show _=_;unfold jV;rw[Y,<-y]; simp
  clear Y y;go_enter func268,ntmps268;go_wp2_with fail;refine B.mono ?_;rintro e w' ⟨rfl,rfl⟩;clear B
  cases U with
  |false=>
   go_wp2;go_ret;exact⟨iR W.out.symm,rfl⟩
  |true=>
   go_wp2;go_ret;exact⟨iR W.out.symm,rfl⟩
 .have ac:((k:Int)==0)=false:=by rw[beq_eq_false_iff_ne]; omega
  have aa:k-1<s.size:=by omega
  have e2:=nR s (k-1) aa;obtain⟨b2,D⟩:∃b2,b2=jf s[k-1]:=⟨_,rfl⟩;have O:=py s[k-1] w;rw[<-D]at O
  have W:b5 (jV s.data.toList k=(U && !b2)):=by
   show _=_;unfold jV;rw[Y,e2,<-y,<-D]; simp[h0]
  have ad:(k:Int)-1=((k-1:Nat):Int):=by omega
  have ae:(k:Int)-1<(s.size:Int):=by omega
  have af:(0:Int)<=(k:Int)-1:=by omega
  clear Y e2 y D;go_enter func268,ntmps268;go_wp2_with fail;refine B.mono ?_;rintro e w' ⟨rfl,rfl⟩;clear B
  cases U with
  |false=>
   go_wp2;go_ret;exact⟨iR (by rw[W.out]; rfl),rfl⟩
  |true=>
   go_wp2_with fail;refine O.mono ?_;rintro e w' ⟨rfl,rfl⟩;clear O;go_wp2;go_ret;exact⟨iR (by rw[W.out]; rfl),rfl⟩
end
section
open Go.RowKit
theorem CE(B y:ByteArray)(w:World)(hs:y.size<=1048576) :
  bd prog 241 #[.string B,.string y] w λe w'=>e=.returned (.bool (nD 1 B.data.toList y.data.toList))/\w=w':=by
 have HF:b5 (nD 1 B.data.toList y.data.toList=(aW y.size).any λi=>jV y.data.toList i&&tN (y.data.toList.drop i) B.data.toList):=by
  show _=_;unfold nD;simp
 go_enter func241,ntmps241;go_wp2;go_loopw [8] (λiv wr=>∃i:Nat,i<=y.size/\iv=.int .i64 i/\(∀j,j<i->(jV y.data.toList j&&tN (y.data.toList.drop j) B.data.toList)=false)/\w=wr) (λi _=>y.size-(intOf i).toNat)
 case atStart=>exact⟨0,bw _,rfl,λj hj=>by omega,rfl⟩
 case round=>
  obtain⟨i,hi,rfl,aa,rfl⟩:=hrel;have D:b5 (∀j,j<i->(jV y.data.toList j&&tN (y.data.toList.drop j) B.data.toList)=false):=aa;clear aa;by_cases ab:i<y.size
  .have af:(i:Int)<(y.size:Int):=by omega
   have ag:(i:Int)<=(y.size:Int):=by omega
   obtain⟨b1,O⟩:∃b1,b1=jV y.data.toList i:=⟨_,rfl⟩;obtain⟨b2,U⟩:∃b2,b2=tN (y.data.toList.drop i) B.data.toList:=⟨_,rfl⟩;have W:=zu y i w (by omega) ab;have Y:=zV (y.extract i y.size) B w;rw[<-O]at W;rw[Pe,<-U]at Y;have ac:b5 (b1=jV y.data.toList i):=O;have ad:b5 (b2=tN (y.data.toList.drop i) B.data.toList):=U;clear O U;go_wp2_with fail;refine W.mono ?_;rintro e w3 ⟨rfl,rfl⟩;clear W
   cases b1 with
   |false=>
    go_wp2;go_roundw
    case rel=>exact⟨i+1,by omega,by go_num,λj hj=>by
     rcases bv j i with h|h
     .exact D.out j h
     .have e:j=i:=by omega
      subst e; rw[<-ac.out]; rfl,trivial⟩
    case measure=>simp[intOf]; omega
   |true=>
    go_wp2_with fail;refine Y.mono ?_;rintro e w4 ⟨rfl,rfl⟩;clear Y
    cases b2 with
    |false=>
     go_wp2;go_roundw
     case rel=>exact⟨i+1,by omega,by go_num,λj hj=>by
      rcases bv j i with h|h
      .exact D.out j h
      .have e:j=i:=by omega
       subst e; rw[<-ad.out]; simp,trivial⟩
     case measure=>simp[intOf]; omega
    |true=>
     have HY:b5 (nD 1 B.data.toList y.data.toList=true):=by
      show _=_;rw[HF.out];exact any_some i ab (by rw[<-ac.out,<-ad.out]; rfl)
     go_wp2;go_ret;exact⟨iR HY.out.symm,rfl⟩
  .have ae:i=y.size:=by omega
   subst ae
   have HY:b5 (nD 1 B.data.toList y.data.toList=false):=by
    show _=_;rw[HF.out];exact any_none D.out
   go_wp2;go_ret;exact⟨iR HY.out.symm,rfl⟩
end
section
open Go.RowKit
theorem Cw(n:Nat):(be #[Value.int .i64 0] n).toList=iK (aU n 0):=by
 apply List.ext_getElem
 .simp[be,iK]
 .intro i y B;simp[be,iK,Nat.mod_one]
def nW(n i:Nat):List Nat:=aW i++aU (n-i) 0
theorem Hc{n i:Nat}(h:i<=n):(nW n i).length=n:=by simp[nW]; omega
theorem E5{n i:Nat}(h:i<n):(iK (nW n i)).set i (.int .i64 (i:Int))=iK (nW n (i+1)):=by
 have e:n-i=(n-(i+1))+1:=by omega
 have y:nW n (i+1)=(nW n i).set i i:=by
  unfold nW;rw[aZ _ _ (by simp),e,aX,List.range_succ];simp
 rw[y];unfold iK;rw[bb]
theorem Ic(n:Nat):nW n n=aW n:=by simp[nW]
theorem yB(y:ByteArray)(w:World)(hq:y.size<=1048576) :
  bd prog 269 #[.string y] w λe w'=>∃g,e=.returned (.slice (some ⟨g,0,none⟩) (y.size+1) (y.size+1))/\w'.ownsRow w.heap.size 3 1 (.slice (some ⟨g,0,none⟩) (y.size+1) (y.size+1)) (y.size+1) (iK (aW (y.size+1)))/\Below w.heap.size w w':=by
 obtain⟨i3,ab,ac,ad,hy2⟩:=bl QR;go_enter func269,ntmps269;go_wp2_with (at_make; go_must (refine bg _ rfl _ _ 26 rfl w.heap.size 3 i3 (.int .i64 0) 1 underlying26 ab ac ad .i64 .i64 _ _ (y.size+1) rfl rfl rfl rfl ?m1 ?m2 ?m3 ?_))
 case m1=>rw[hy2]; omega
 case m2=>unfold maxLen; omega
 case m3=>exact bs _
 intro w5 U W;have HB5:b5 (Below w.heap.size w w5):=(bz _ _).grown W (bs _) (by simp)
 have HT5:b5 (w5.ownsRow w.heap.size 3 1 (.slice (some ⟨w.heap.size,0,none⟩) (y.size+1) (y.size+1)) (y.size+1) (iK (nW (y.size+1) 0))):=by
  show bn _ _ _ _ _ _ _;have e:(be #[Value.int .i64 0] (y.size+1)).toList=iK (nW (y.size+1) 0):=by rw[Cw]; simp[nW]
  rw[<-e];exact U
 clear U W;generalize hg:w.heap.size=g at *;have Y:b5 (w.heap.size=g):=hg;clear hg;go_wp2;go_loopw [11] (λiv wr=>∃i:Nat,i<=y.size+1/\iv=.int .i64 i/\wr.ownsRow g 3 1 (.slice (some ⟨g,0,none⟩) (y.size+1) (y.size+1)) (y.size+1) (iK (nW (y.size+1) i))/\Below g w wr) (λi _=>y.size+1-(intOf i).toNat)
 case atStart=>exact⟨0,bw _,rfl,HT5.out,HB5.out⟩
 case round=>
  obtain⟨i,hi,rfl,B,D⟩:=hrel;by_cases O:i<y.size+1
  .have ag:(i:Int)<(y.size:Int)+1:=by omega
   obtain⟨bt,ot,aa,ae⟩:=lV B i _ (lF _ i (by rw[Hc hi]; exact O));simp only[bx,b4]at aa;obtain⟨rfl,rfl,_⟩:=aa;rw[bu]at ae;have ah:=sX B i
   have HO6:b5 ((wr.setCell ⟨g,i,none⟩ (.int .i64 i)).ownsRow g 3 1 (.slice (some ⟨g,0,none⟩) (y.size+1) (y.size+1)) (y.size+1) (iK (nW (y.size+1) (i+1)))):=by
    show bn _ _ _ _ _ _ _;rw[<-E5 O];exact vc B i _ O
   have HB6:b5 (Below g w (wr.setCell ⟨g,i,none⟩ (.int .i64 i))):=by exact b3 D (bs _) _
   clear B D;go_wp2;go_roundw
   case rel=>exact⟨i+1,by omega,by go_num,HO6.out,HB6.out⟩
   case measure=>simp[intOf]; omega
  .have af:i=y.size+1:=by omega
   subst af
   have HO6:b5 (wr.ownsRow g 3 1 (.slice (some ⟨g,0,none⟩) (y.size+1) (y.size+1)) (y.size+1) (iK (aW (y.size+1)))):=by
    show bn _ _ _ _ _ _ _;rw[<-Ic];exact B
   have HB6:b5 (Below _ _ _):=D;clear B D;go_wp2;go_ret;exact⟨g,rfl,by rw[Y.out]; exact HO6.out,by rw[Y.out]; exact HB6.out⟩
end
section
open Go.RowKit
variable {row:List Nat} {i n z:Nat} {c:UInt8} {q:Wd}
def mU(q:Wd)(c:UInt8)(row:List Nat)(z n i:Nat):List Nat:=lC q c row z i++aU (n-i) 0
theorem Ch(h:i<=n):(mU q c row z n i).length=n+1:=by
 unfold mU;rw[List.length_append,ns,List.length_replicate]; omega
theorem LF:(mU q c row z n i).getD i 0=(lC q c row z i).getD i 0:=by
 unfold mU;rw[aS,aS,aY (by rw[ns]; omega)]
theorem A6{m:Nat}(h:i<n)(hm:m=min (min (row.getD i 0+(if q.getD i 0=c then 0 else 1)) (row.getD (i+1) 0+1)) ((lC q c row z i).getD i 0+1)) :
  (iK (mU q c row z n i)).set (i+1) (.int .i64 (m:Int))=iK (mU q c row z n (i+1)):=by
 have e:n-i=(n-(i+1))+1:=by omega
 have y:mU q c row z n (i+1)=(mU q c row z n i).set (i+1) m:=by
  unfold mU;rw[aZ _ _ (by rw[ns]; omega),ns,e,aX,lC,<-hm];simp
 rw[y];unfold iK;rw[bb]
theorem LO(q:Wd)(c:UInt8)(row:List Nat)(z n:Nat):mU q c row z n n=lC q c row z n:=by simp[mU]
theorem IL(q:Wd)(c:UInt8)(row:List Nat)(z n:Nat):(iK (aU (n+1) 0)).set 0 (.int .i64 (z:Int))=iK (mU q c row z n 0):=by
 simp[mU,lC,iK,aX]
theorem Ia(row:List Nat)(B:ByteArray)(c:UInt8)(v:Value)(w:World)(hq:B.size<=1048576)(hv:Rd w v (iK row))(hl:row.length=B.size+1)(ar:∀x∈row,x<=2097152) :
  bd prog 270 #[v,.string B,.int .u8 c.toNat] w λe w'=>∃g,e=.returned (.slice (some ⟨g,0,none⟩) (B.size+1) (B.size+1))/\w'.ownsRow w.heap.size 3 1 (.slice (some ⟨g,0,none⟩) (B.size+1) (B.size+1)) (B.size+1) (iK (lC B.data.toList c row (row.getD 0 0+1) B.size))/\Below w.heap.size w w':=by
 obtain⟨i3,a5,a6,a7,hy2⟩:=bl QR;have ab:b5 (row.length=B.size+1):=hl;have ag:b5 (∀x∈row,x<=2097152):=ar;obtain⟨aQ,cQ,rfl,_,_,au⟩:=hv;have al:b5 (∀j u,(iK row)[j]?=some u->∃b off,aQ=some ⟨b,off,none⟩/\w.cell? ⟨b,off+j,none⟩=some u):=au;have av:(iK row).length=B.size+1:=by rw[Am,hl]
 rw[av];clear au hl ar av;obtain⟨bQ,oQ,rfl,qz⟩:=al.out 0 _ (lF row 0 (by rw[ab.out]; omega));rw[Nat.add_zero]at qz;obtain⟨Y,am⟩:∃Y,Y=row.getD 0 0:=⟨_,rfl⟩;have aC:Y<=2097152:=by rw[am,aS,aT (by rw[ab.out]; omega)]; exact ag.out _ (aV _)
 rw[<-am]at qz⊢;clear am;have aK:(0:Int)<(B.size:Int)+1:=by omega
 have aL:bQ<w.heap.size:=World.block_lt_of_cell? w _ qz;go_enter func270,ntmps270;go_wp2_with (at_make; go_must (refine bg _ rfl _ _ 26 rfl w.heap.size 3 i3 (.int .i64 0) 1 underlying26 a5 a6 a7 .i64 .i64 _ _ (B.size+1) rfl rfl rfl rfl ?m1 ?m2 ?m3 ?_))
 case m1=>rw[hy2]; omega
 case m2=>unfold maxLen; omega
 case m3=>exact bs _
 intro w5 ac aw;have an:b5 (Below w.heap.size w w5):=(bz _ _).grown aw (bs _) (by simp);have e:(be #[Value.int .i64 0] (B.size+1)).toList=iK (aU (B.size+1) 0):=Cw _;rw[e]at ac;have a8:=bc an.out qz;obtain⟨bt,ot,aa,aj⟩:=lV ac 0 _ (lF _ 0 (by simp));simp only[bx,b4]at aa;obtain⟨rfl,rfl,_⟩:=aa;rw[bu]at aj;have ax:=sX ac 0
 have HT6:b5 ((w5.setCell ⟨w.heap.size,0,none⟩ (.int .i64 ((Y:Int)+1))).ownsRow w.heap.size 3 1 (.slice (some ⟨w.heap.size,0,none⟩) (B.size+1) (B.size+1)) (B.size+1) (iK (mU B.data.toList c row (Y+1) B.size 0))):=by
  show bn _ _ _ _ _ _ _;rw[<-IL];have h:=vc ac 0 (.int .i64 ((Y+1:Nat):Int)) (by omega);simpa using h
 have HB6:b5 (Below w.heap.size w (w5.setCell ⟨w.heap.size,0,none⟩ (.int .i64 ((Y:Int)+1)))):=by exact b3 an.out (bs _) _
 clear ac aw e;go_wp2;go_loopw [22] (λiv wr=>∃i:Nat,i<=B.size/\iv=.int .i64 i/\wr.ownsRow w.heap.size 3 1 (.slice (some ⟨w.heap.size,0,none⟩) (B.size+1) (B.size+1)) (B.size+1) (iK (mU B.data.toList c row (Y+1) B.size i))/\Below w.heap.size w wr) (λi _=>B.size-(intOf i).toNat)
 case atStart=>exact⟨0,bw _,rfl,HT6.out,HB6.out⟩
 case round=>
  obtain⟨i,hi,rfl,O,W⟩:=hrel;by_cases ao:i<B.size
  .have aD:(i:Int)<(B.size:Int):=by omega
   have aE:(i:Int)<(B.size:Int)+1:=by omega
   have aF:(i:Int)+1<(B.size:Int)+1:=by omega
   have aM:(0:Int)<=(i:Int)+1:=by omega
   obtain⟨r0,ah⟩:∃r0,r0=row.getD i 0:=⟨_,rfl⟩;obtain⟨U,ai⟩:∃U,U=row.getD (i+1) 0:=⟨_,rfl⟩;obtain⟨x,hx⟩:∃x,x=(lC B.data.toList c row (Y+1) i).getD i 0:=⟨_,rfl⟩;have aG:r0<=2097152:=by rw[ah,aS,aT (by rw[ab.out]; omega)]; exact ag.out _ (aV _)
   have aH:U<=2097152:=by rw[ai,aS,aT (by rw[ab.out]; omega)]; exact ag.out _ (aV _)
   have aN:x<=4194304:=by
    rw[hx,aS,aT (by rw[ns]; omega)];exact vC _ _ row (Y+1) 4194304 (by omega) (λy hy=>by have:=ag.out y hy; omega) i (by rw[ab.out]; omega) _ (aV _)
   obtain⟨b0,o0,ay,q0⟩:=al.out i _ (lF row i (by rw[ab.out]; omega));simp only[bx,b4]at ay;obtain⟨rfl,rfl,_⟩:=ay;obtain⟨b1,o1,az,q1⟩:=al.out (i+1) _ (lF row (i+1) (by rw[ab.out]; omega));simp only[bx,b4]at az;obtain⟨rfl,rfl,_⟩:=az;have p0:=bc W q0;have p1:=bc W q1;rw[<-ah]at p0;rw[<-ai]at p1;obtain⟨bt,ot,aa,ad⟩:=lV O i _ (lF _ i (by rw[Ch hi]; omega));simp only[bx,b4]at aa;obtain⟨rfl,rfl,_⟩:=aa;rw[bu,LF,<-hx]at ad;obtain⟨bt,ot,aa,ap⟩:=lV O (i+1) _ (lF _ (i+1) (by rw[Ch hi]; omega));simp only[bx,b4]at aa;obtain⟨rfl,rfl,_⟩:=aa;rw[bu]at ap;obtain⟨ov,aO⟩:∃ov:Int,wr.cell? ⟨w.heap.size,i+1,none⟩=some (.int .i64 ov):=⟨_,ap⟩;have aP:=sX O (i+1);have a0:b5 (row.getD i 0=r0):=ah.symm;have a1:b5 (row.getD (i+1) 0=U):=ai.symm;have a2:b5 ((lC B.data.toList c row (Y+1) i).getD i 0=x):=hx.symm;have aR:IntKind.i64.wrap ((i:Int)+1)=(i:Int)+1:=JC _ _ rfl (by omega) (by omega);have aI:IntKind.i64.wrap ((U:Int)+1)=(U:Int)+1:=JC _ _ rfl (by omega) (by omega);have aJ:IntKind.i64.wrap ((x:Int)+1)=(x:Int)+1:=JC _ _ rfl (by omega) (by omega);have a3:b5 (B.data.toList.getD i 0=B[i]):=nR B i ao;have ak:b5 (wr.ownsRow w.heap.size 3 1 (.slice (some ⟨w.heap.size,0,none⟩) (B.size+1) (B.size+1)) (B.size+1) (iK (mU B.data.toList c row (Y+1) B.size i))):=O;have a4:b5 (Below _ _ _):=W;clear q0 q1 ah ai hx O W ap HT6 HB6 an aj ax a8;by_cases hc:B[i]=c
   .have a9:((B[i].toNat:Int)==(c.toNat:Int))=true:=by rw[ye,hc]; simp
    have aq:b5 ((if B.data.toList.getD i 0=c then 0 else 1)=0):=by show _=_; rw[a3.out,if_pos hc]
    have HM:b5 (∀m:Nat,m=min (min (r0) (U+1)) (x+1)->(iK (mU B.data.toList c row (Y+1) B.size i)).set (i+1) (.int .i64 (m:Int))=iK (mU B.data.toList c row (Y+1) B.size (i+1))):=λm hm=>A6 ao (by rw[a0.out,a1.out,a2.out,aq.out]; omega);clear hc;go_wp2;have s0:(wr.drew).cell? ⟨bQ,oQ+(i+1),none⟩=some (.int .i64 U):=p1;have D:(wr.drew).cell? ⟨w.heap.size,i,none⟩=some (.int .i64 x):=ad;refine bh (S:=λw'=>w'.cell? ⟨bQ,oQ+(i+1),none⟩=some (.int .i64 U)/\w'.cell? ⟨w.heap.size,i,none⟩=some (.int .i64 x)) (by kernel_rfl) ?_;refine iV 0 ?_ ⟨s0,D⟩ ?_<|iV 1 ?_ ⟨s0,D⟩ ?_<|iV 2 ?_ ⟨s0,D⟩ ?_<|iV 3 ?_ ⟨s0,D⟩ ?_<|iV 4 ?_ ⟨s0,D⟩ ?_<|iV 5 ?_ ⟨s0,D⟩ ?_<|iV 6 ?_ ⟨s0,D⟩ ?_<|iV 7 ?_ ⟨s0,D⟩ ?_<|iV 8 ?_ ⟨s0,D⟩ ?_<|iV 9 ?_ ⟨s0,D⟩ ?_<|iV 10 ?_ ⟨s0,D⟩ ?_<|iV 11 ?_ ⟨s0,D⟩ ?_<|iV 12 ?_ ⟨s0,D⟩ ?_<|iV 13 ?_ ⟨s0,D⟩ ?_<|iV 14 ?_ ⟨s0,D⟩ ?_<|iV 15 ?_ ⟨s0,D⟩ ?_<|iV 16 ?_ ⟨s0,D⟩ ?_ ?_
    any_goals(rintro w' ⟨t0,t1⟩; go_simp; first|done|with_reducible rfl)
    refine bk (rs:=[17]) (by kernel_rfl) (by simp) ?_;intro j hj;simp only[ba]at hj;subst hj;refine wpOp_step (by rfl) λK' ae=>?_;rw[if_pos (by rfl)];unfold Oper.wp;go_simp;obtain⟨m,hm⟩:∃m:Nat,m=min (min (r0) (U+1)) (x+1):=⟨_,rfl⟩
    have af:(if(x:Int)+1<(if(U:Int)+1<(r0:Int)then(U:Int)+1 else(r0:Int))then(x:Int)+1 else(if(U:Int)+1<(r0:Int)then(U:Int)+1 else(r0:Int)))=(m:Int):=by
     rw[hm];split<;>split at * <;> omega
    rw[af]
    have HO8:b5 ((wr.setCell ⟨w.heap.size,i+1,none⟩ (.int .i64 m)).drew.ownsRow w.heap.size 3 1 (.slice (some ⟨w.heap.size,0,none⟩) (B.size+1) (B.size+1)) (B.size+1) (iK (mU B.data.toList c row (Y+1) B.size (i+1)))):=by
     show bn _ _ _ _ _ _ _;rw[<-HM.out m hm];exact vc ak.out (i+1) (.int .i64 m) (by omega)
    have HB8:b5 (Below w.heap.size w (wr.setCell ⟨w.heap.size,i+1,none⟩ (.int .i64 m)).drew):=(b3 a4.out (bs _) _).drew;refine ae _ _ ⟨⟨?_,?_⟩,bj (by kernel_rfl) ?_ _⟩
    .show(wr.setCell ⟨w.heap.size,i+1,none⟩ (.int .i64 m)).cell? _=_;rw[br _ _ _ _ (by show w.heap.size≠bQ; omega)];exact p1
    .show(wr.setCell ⟨w.heap.size,i+1,none⟩ (.int .i64 m)).cell? _=_;rw[bq _ _ _ _ (by intro e; simp at e)];exact ad
    clear ae af hm;go_wp2;go_roundw
    case rel=>exact⟨i+1,by omega,by go_num,HO8.out,HB8.out⟩
    case measure=>simp[intOf]; omega
   .have a9:((B[i].toNat:Int)==(c.toNat:Int))=false:=by rw[ye]; simpa using hc
    have aq:b5 ((if B.data.toList.getD i 0=c then 0 else 1)=1):=by show _=_; rw[a3.out,if_neg hc]
    have HM:b5 (∀m:Nat,m=min (min (r0+1) (U+1)) (x+1)->(iK (mU B.data.toList c row (Y+1) B.size i)).set (i+1) (.int .i64 (m:Int))=iK (mU B.data.toList c row (Y+1) B.size (i+1))):=λm hm=>A6 ao (by rw[a0.out,a1.out,a2.out,aq.out]; omega);clear hc;go_wp2;have s0:(wr.drew).cell? ⟨bQ,oQ+(i+1),none⟩=some (.int .i64 U):=p1;have D:(wr.drew).cell? ⟨w.heap.size,i,none⟩=some (.int .i64 x):=ad;refine bh (S:=λw'=>w'.cell? ⟨bQ,oQ+(i+1),none⟩=some (.int .i64 U)/\w'.cell? ⟨w.heap.size,i,none⟩=some (.int .i64 x)) (by kernel_rfl) ?_;refine iV 0 ?_ ⟨s0,D⟩ ?_<|iV 1 ?_ ⟨s0,D⟩ ?_<|iV 2 ?_ ⟨s0,D⟩ ?_<|iV 3 ?_ ⟨s0,D⟩ ?_<|iV 4 ?_ ⟨s0,D⟩ ?_<|iV 5 ?_ ⟨s0,D⟩ ?_<|iV 6 ?_ ⟨s0,D⟩ ?_<|iV 7 ?_ ⟨s0,D⟩ ?_<|iV 8 ?_ ⟨s0,D⟩ ?_<|iV 9 ?_ ⟨s0,D⟩ ?_<|iV 10 ?_ ⟨s0,D⟩ ?_<|iV 11 ?_ ⟨s0,D⟩ ?_<|iV 12 ?_ ⟨s0,D⟩ ?_<|iV 13 ?_ ⟨s0,D⟩ ?_<|iV 14 ?_ ⟨s0,D⟩ ?_<|iV 15 ?_ ⟨s0,D⟩ ?_<|iV 16 ?_ ⟨s0,D⟩ ?_ ?_
    any_goals(rintro w' ⟨t0,t1⟩; go_simp; first|done|with_reducible rfl)
    refine bk (rs:=[17]) (by kernel_rfl) (by simp) ?_;intro j hj;simp only[ba]at hj;subst hj;refine wpOp_step (by rfl) λK' ae=>?_;rw[if_pos (by rfl)];unfold Oper.wp;go_simp;obtain⟨m,hm⟩:∃m:Nat,m=min (min (r0+1) (U+1)) (x+1):=⟨_,rfl⟩
    have af:(if(x:Int)+1<(if U<r0 then(U:Int)+1 else((r0:Int)+1))then(x:Int)+1 else(if U<r0 then(U:Int)+1 else((r0:Int)+1)))=(m:Int):=by
     rw[hm];split<;>split at * <;> omega
    rw[af]
    have HO8:b5 ((wr.setCell ⟨w.heap.size,i+1,none⟩ (.int .i64 m)).drew.ownsRow w.heap.size 3 1 (.slice (some ⟨w.heap.size,0,none⟩) (B.size+1) (B.size+1)) (B.size+1) (iK (mU B.data.toList c row (Y+1) B.size (i+1)))):=by
     show bn _ _ _ _ _ _ _;rw[<-HM.out m hm];exact vc ak.out (i+1) (.int .i64 m) (by omega)
    have HB8:b5 (Below w.heap.size w (wr.setCell ⟨w.heap.size,i+1,none⟩ (.int .i64 m)).drew):=(b3 a4.out (bs _) _).drew;refine ae _ _ ⟨⟨?_,?_⟩,bj (by kernel_rfl) ?_ _⟩
    .show(wr.setCell ⟨w.heap.size,i+1,none⟩ (.int .i64 m)).cell? _=_;rw[br _ _ _ _ (by show w.heap.size≠bQ; omega)];exact p1
    .show(wr.setCell ⟨w.heap.size,i+1,none⟩ (.int .i64 m)).cell? _=_;rw[bq _ _ _ _ (by intro e; simp at e)];exact ad
    clear ae af hm;go_wp2;go_roundw
    case rel=>exact⟨i+1,by omega,by go_num,HO8.out,HB8.out⟩
    case measure=>simp[intOf]; omega
  .have a':i=B.size:=by omega
   subst a'
   have aA:b5 (wr.ownsRow w.heap.size 3 1 (.slice (some ⟨w.heap.size,0,none⟩) (B.size+1) (B.size+1)) (B.size+1) (iK (lC B.data.toList c row (Y+1) B.size))):=by
    show bn _ _ _ _ _ _ _;rw[<-LO];exact O
   have aB:b5 (Below _ _ _):=W;clear O W;go_wp2;go_ret;exact⟨w.heap.size,rfl,aA.out,aB.out⟩
end
section
open Go.RowKit
theorem EJ(a:Wd)(c:UInt8)(row:List Nat)(z:Nat):∀i,(lC a c row z i).getD 0 0=z:=by
 intro i
 induction i with
 |zero=>rfl
 |succ i y=>
  rw[lC,aS,aY (by rw[ns]; omega),<-aS];exact y
theorem Hl(a s:Wd)(k:Nat):(nQ a s k).getD 0 0=k:=by
 cases k with
 |zero=>simp[nQ]
 |succ k=>rw[nQ,EJ]
theorem sw(y B:ByteArray)(most:Nat)(w:World)(aq:1<=most)(ar:most<=2)(hq:y.size<=1048576)(hs:B.size<=1048576) :
  bd prog 242 #[.string y,.string B,.int .i64 most] w λe w'=>e=.returned (.bool (nD (most+1) y.data.toList B.data.toList))/\Below w.heap.size w w':=by
 have ac:y.data.toList.length=y.size:=by simp
 have O:b5 (y.data.toList.length=y.size):=ac
 have HF:b5 (nD (most+1) y.data.toList B.data.toList=(aW (B.size+1)).any λk=>decide (FE y.data.toList B.data.toList k<most+1)):=by
  show _=_;unfold nD;rw[if_neg (by omega),if_neg (by omega)];simp
 clear ac;go_enter func242,ntmps242;go_wp2_with fail;refine(yB y w hq).mono ?_;rintro e w1 ⟨g1,rfl,ad,ae⟩
 have HO1:b5 (w1.ownsRow w.heap.size 3 1 (.slice (some ⟨g1,0,none⟩) (y.size+1) (y.size+1)) (y.size+1) (iK (nQ y.data.toList B.data.toList 0))):=by
  show bn _ _ _ _ _ _ _;rw[nQ,O.out];exact ad
 have HB1:b5 (Below _ _ _):=ae;clear ad ae;go_wp2;go_loopw [7,13] (λv iv wr=>∃(k g:Nat),k<=B.size/\iv=.int .i64 k/\v=.slice (some ⟨g,0,none⟩) (y.size+1) (y.size+1)/\wr.ownsRow w.heap.size 3 1 (.slice (some ⟨g,0,none⟩) (y.size+1) (y.size+1)) (y.size+1) (iK (nQ y.data.toList B.data.toList k))/\(∀j,j<k->¬FE y.data.toList B.data.toList j<most+1)/\Below w.heap.size w wr) (λ_ i _=>B.size-(intOf i).toNat)
 case atStart=>exact⟨0,g1,bw _,rfl,rfl,HO1.out,λj hj=>by omega,HB1.out⟩
 case round=>
  obtain⟨k,g,hk,rfl,rfl,D,af,U⟩:=hrel;have ag:b5 (∀j,j<k->¬FE y.data.toList B.data.toList j<most+1):=af;have aa:b5 (Below _ _ _):=U;have HS:=U.size;have au:(y.size:Int)<(y.size:Int)+1:=by omega
  obtain⟨dd,ab⟩:∃dd,dd=FE y.data.toList B.data.toList k:=⟨_,rfl⟩;obtain⟨bt,ot,ah,ak⟩:=lV D y.size _ (lF _ y.size (by rw[wA,O.out]; omega));simp only[bx,b4]at ah;obtain⟨rfl,rfl,_⟩:=ah;have e1:(nQ y.data.toList B.data.toList k).getD y.size 0=dd:=by rw[ab]; unfold FE; rw[O.out]
  rw[bu,e1]at ak;have W:b5 (dd=FE y.data.toList B.data.toList k):=ab;clear af U ab e1;by_cases al:k<B.size
  .have ap:(k:Int)<(B.size:Int):=by omega
   by_cases hd:dd<=most
   .have am:(dd:Int)<=(most:Int):=by omega
    have HY:b5 (nD (most+1) y.data.toList B.data.toList=true):=by
     show _=_;rw[HF.out];exact any_some k (by omega) (by rw[<-W.out]; simp; omega)
    clear D;go_wp2;go_ret;exact⟨iR HY.out.symm,aa.out⟩
   .have am:¬((dd:Int)<=(most:Int)):=by omega
    have Y:=Ia (nQ y.data.toList B.data.toList k) y B[k] (.slice (some ⟨g,0,none⟩) (y.size+1) (y.size+1)) wr hq (Rd.lr D) (by rw[wA,O.out]) (λx hx=>by have:=Gb _ _ _ x hx; rw[O.out]at this; omega);rw[Hl]at Y
    have e2:lC y.data.toList B[k] (nQ y.data.toList B.data.toList k) (k+1) y.size=nQ y.data.toList B.data.toList (k+1):=by
     rw[nQ,O.out,nR B k al]
    rw[e2]at Y;clear D e2;go_wp2_with fail;refine Y.mono ?_;rintro e w3 ⟨g3,rfl,ai,aj⟩;have HO3:b5 (w3.ownsRow w.heap.size 3 1 (.slice (some ⟨g3,0,none⟩) (y.size+1) (y.size+1)) (y.size+1) (iK (nQ y.data.toList B.data.toList (k+1)))):=mH ai HS;have an:b5 (Below w.heap.size w w3):=aa.out.trans (aj.mono HS);clear Y ai aj;go_wp2;go_roundw
    case rel=>exact⟨k+1,g3,by omega,by go_num,rfl,HO3.out,λj hj=>by
     rcases bv j k with h|h
     .exact ag.out j h
     .have e:j=k:=by omega
      subst e; rw[<-W.out]; omega,an.out⟩
    case measure=>simp[intOf]; omega
  .have ao:k=B.size:=by omega
   subst ao
   have HY:b5 (nD (most+1) y.data.toList B.data.toList=decide (dd<=most)):=by
    show _=_;rw[HF.out];by_cases hd:dd<=most
    .rw[any_some B.size (by omega) (by rw[<-W.out]; simp; omega)];simp; omega
    .rw[any_none (λi hi=>?_)]
     .simp; omega
     .rcases bv i B.size with h|h
      .have:=ag.out i h; simpa using this
      .have e:i=B.size:=by omega
       subst e; rw[<-W.out]; simp; omega
   clear D;go_wp2;go_ret;exact⟨iR HY.out.symm,aa.out⟩
theorem Kl(m:Nat)(y B:ByteArray)(w:World)(hm:m<=3)(O:y.size<=1048576)(D:B.size<=1048576) :
  bd prog 215 #[.int .i64 m,.string y,.string B] w λe w'=>e=.returned (.bool (nD m y.data.toList B.data.toList))/\Below w.heap.size w w':=by
 have U:m=0\/m=1\/m=2\/m=3:=by omega
 rcases U with rfl|rfl|rfl|rfl
 .have W:b5 (nD 0 y.data.toList B.data.toList=tN B.data.toList y.data.toList):=rfl;go_enter func215,ntmps215;go_wp2_with fail;refine(zV B y w).mono ?_;rintro e w' ⟨rfl,rfl⟩;go_wp2;go_ret;exact⟨iR W.out.symm,bz _ _⟩
 .go_enter func215,ntmps215;go_wp2_with fail;refine(CE y B w D).mono ?_;rintro e w' ⟨rfl,rfl⟩;go_wp2;go_ret;exact⟨rfl,bz _ _⟩
 .go_enter func215,ntmps215;go_wp2_with fail;refine(sw y B 1 w (by omega) (by omega) O D).mono ?_;rintro e w' ⟨rfl,hb⟩;go_wp2;go_ret;exact⟨rfl,hb⟩
 .go_enter func215,ntmps215;go_wp2_with fail;refine(sw y B 2 w (by omega) (by omega) O D).mono ?_;rintro e w' ⟨rfl,hb⟩;go_wp2;go_ret;exact⟨rfl,hb⟩
end
section
open Go.RowKit
theorem qu{P:Program}{ops:Array Oper}{B:Region.Mode}{Q:Exit->Act->World->Prop}{i:Nat}{D:Oper}{y:Nat}{listed:Array Bool}{C:World->Prop}{a:Act}(hi:ops[i]?=some D)
  (O:Region.noSelect ops=true) (U:Region.free B ops listed i=true) (W:(Region.ready B ops listed).contains i=true) (hC:iZ C)
  (Y:Region.wanted D (yielded ops a.tmps)=false)
  (h:WX P B ops Q y (listed.setIfInBounds i true) C (a.put D.dst undef)):WX P B ops Q (y+1) listed C a:=
 vv hi (Region.noSelect_spec O) y listed C a (Region.free_spec hi U) (by simpa using W) hC (.inr ⟨Y,rfl⟩) h
theorem Kr(x y:Nat)(B:x<256)(D:y<256):bits .and .i64 (x:Int) (y:Int)=((x &&& y:Nat):Int):=by
 show IntKind.i64.wrap ((BitVec.ofInt 64 (x:Int) &&& BitVec.ofInt 64 (y:Int)).toNat:Int)=_;rw[BitVec.toNat_and]
 have e:∀n:Nat,n<256->(BitVec.ofInt 64 (n:Int)).toNat=n:=λn O=>by
  rw[BitVec.toNat_ofInt]; omega
 rw[e x B,e y D];have U:x &&& y<=x:=Nat.and_le_left;exact JC _ _ rfl (by omega) (by omega)
theorem Qh(m tg:Nat)(U:ByteArray)(nm tx:ByteArray)(wt D:Int)(w:World)(hm:m<=3)(ag:tg<256)(ak:0<=D)(al:D<=255)(hq:U.size<=1048576)(ht:tx.size<=1048576) :
  bd prog 160 #[.agg #[.int .i64 m,.string U,.int .i64 tg],.agg #[.string nm,.string tx,.int .i64 wt,.int .i64 D]] w λe w'=>e=.returned (.bool (r8 tg D.toNat&&nD m U.data.toList (iD tx.data.toList)))/\Below w.heap.size w w':=by
 have hB:Below w.heap.size w ((w.alloc (.cells #[.int .i64 m,.string U,.int .i64 tg] 94)).alloc (.cells #[.string nm,.string tx,.int .i64 wt,.int .i64 D] 96)):=((bz _ _).alloc (bs _) _).alloc (by simp) _;have d0:((w.alloc (.cells #[.int .i64 m,.string U,.int .i64 tg] 94)).alloc (.cells #[.string nm,.string tx,.int .i64 wt,.int .i64 D] 96)).cell? ⟨w.heap.size,0,none⟩=some (.int .i64 m):=by rw[bp _ _ _ (by simp),bo _ _ _ _ rfl]; rfl
 have d1:((w.alloc (.cells #[.int .i64 m,.string U,.int .i64 tg] 94)).alloc (.cells #[.string nm,.string tx,.int .i64 wt,.int .i64 D] 96)).cell? ⟨w.heap.size,1,none⟩=some (.string U):=by rw[bp _ _ _ (by simp),bo _ _ _ _ rfl]; rfl
 have d2:((w.alloc (.cells #[.int .i64 m,.string U,.int .i64 tg] 94)).alloc (.cells #[.string nm,.string tx,.int .i64 wt,.int .i64 D] 96)).cell? ⟨w.heap.size,2,none⟩=some (.int .i64 tg):=by rw[bp _ _ _ (by simp),bo _ _ _ _ rfl]; rfl
 have d3:((w.alloc (.cells #[.int .i64 m,.string U,.int .i64 tg] 94)).alloc (.cells #[.string nm,.string tx,.int .i64 wt,.int .i64 D] 96)).cell? ⟨w.heap.size+1,3,none⟩=some (.int .i64 D):=by rw[bo _ _ _ _ (by simp)]; rfl
 have d4:((w.alloc (.cells #[.int .i64 m,.string U,.int .i64 tg] 94)).alloc (.cells #[.string nm,.string tx,.int .i64 wt,.int .i64 D] 96)).cell? ⟨w.heap.size+1,1,none⟩=some (.string tx):=by rw[bo _ _ _ _ (by simp)]; rfl
 go_enter func160,ntmps160;go_wp2_with fail;generalize ((w.alloc (.cells #[.int .i64 m,.string U,.int .i64 tg] 94)).alloc (.cells #[.string nm,.string tx,.int .i64 wt,.int .i64 D] 96))=w0 at *;have aa:b5 (Below _ _ _):=hB;clear hB;obtain⟨fb,ab⟩:∃fb,fb=nD m U.data.toList (iD tx.data.toList):=⟨_,rfl⟩;obtain⟨kb,ac⟩:∃kb:ByteArray,kb=⟨(iD tx.data.toList).toArray⟩:=⟨_,rfl⟩
 have af:kb.size<=1048576:=by
  rw[ac];show(iD tx.data.toList).toArray.size<=_;rw[List.size_toArray,j9]; simp; omega
 have ah:b5 (∀y:World,bd prog 50 #[.string tx] y λe w'=>e=.returned (.string kb)/\kC y w'):=λy=>by rw[ac]; exact qV tx y (by omega)
 have ai:b5 (∀y:World,bd prog 215 #[.int .i64 m,.string U,.string kb] y λe w'=>e=.returned (.bool fb)/\kC y w'):=λy=>by
  have h:=Kl m U kb y hm hq af;have e1:kb.data.toList=iD tx.data.toList:=by rw[ac]
  rw[e1,<-ab]at h;exact h
 have O:=Kr D.toNat tg (by omega) ag;rw[show((D.toNat:Nat):Int)=D by omega]at O;clear ac af hm hq ht;by_cases W:D.toNat &&& tg=tg
 .have aj:bits .and .i64 D (tg:Int)=(tg:Int):=by rw[O,W]
  have Y:b5 (fb=(r8 tg D.toNat&&nD m U.data.toList (iD tx.data.toList))):=by
   show _=_;unfold r8;rw[W,<-ab]; simp
  clear O W ab;refine n8 (by kernel_rfl) ?_;refine ic 0 ?_ ?_<|ic 1 ?_ ?_<|ic 2 ?_ ?_<|ic 3 ?_ ?_<|ic 4 ?_ ?_<|ic 5 ?_ ?_<|ic 6 ?_ ?_<|ic 7 ?_ ?_<|ic 8 ?_ ?_ ?_
  any_goals(intro y B; have q:=bc B d3; have q1:=bc B d2; have q2:=bc B d0; have q3:=bc B d1; have q4:=bc B d4; unfold jh; go_simp; refine⟨kC.refl _,?_⟩; with_reducible rfl)
  go_simp;refine ic 9 ?_ ?_ ?_
  any_goals(intro y B; have q:=bc B d3; have q1:=bc B d2; have q2:=bc B d0; have q3:=bc B d1; have q4:=bc B d4; unfold jh; go_simp; refine⟨kC.refl _,?_⟩; with_reducible rfl)
  go_simp;refine ic 10 ?_ ?_ ?_
  any_goals(intro y B; have q:=bc B d3; have q1:=bc B d2; have q2:=bc B d0; have q3:=bc B d1; have q4:=bc B d4; unfold jh; go_simp; refine⟨kC.refl _,?_⟩; with_reducible rfl)
  go_simp;refine ic 11 ?_ ?_ ?_
  any_goals(intro y B; have q:=bc B d3; have q1:=bc B d2; have q2:=bc B d0; have q3:=bc B d1; have q4:=bc B d4; unfold jh; go_simp; refine⟨kC.refl _,?_⟩; with_reducible rfl)
  go_simp;refine ic 12 ?_ ?_ ?_
  any_goals(intro y B; have q:=bc B d3; have q1:=bc B d2; have q2:=bc B d0; have q3:=bc B d1; have q4:=bc B d4; unfold jh; go_simp; refine⟨kC.refl _,?_⟩; with_reducible rfl)
  go_simp;refine ic 13 ?_ ?_ ?_
  any_goals(intro y B; have q:=bc B d3; have q1:=bc B d2; have q2:=bc B d0; have q3:=bc B d1; have q4:=bc B d4; unfold jh; go_simp; refine⟨kC.refl _,?_⟩; with_reducible rfl)
  go_simp;refine ic 14 ?_ ?_ ?_
  any_goals(intro y B; have q:=bc B d3; have q1:=bc B d2; have q2:=bc B d0; have q3:=bc B d1; have q4:=bc B d4; unfold jh; go_simp; refine⟨kC.refl _,?_⟩; with_reducible rfl)
  go_simp;refine ic 15 ?_ ?_ ?_;rotate_left
  .intro y B; unfold jh; go_simp; refine⟨rfl,(ah.out y).mono ?_⟩; rintro e y2 ⟨rfl,h2⟩; refine⟨_,rfl,h2,?_⟩; with_reducible rfl
  go_simp;refine ic 16 ?_ ?_ ?_;rotate_left
  .intro y B; unfold jh; go_simp; refine⟨rfl,(ai.out y).mono ?_⟩; rintro e y2 ⟨rfl,h2⟩; refine⟨_,rfl,h2,?_⟩; with_reducible rfl
  go_simp;refine ic 17 ?_ ?_<|ic 18 ?_ ?_ ?_
  any_goals(intro y B; unfold jh; go_simp; refine⟨kC.refl _,?_⟩; with_reducible rfl)
  refine tD (by kernel_rfl) ?_ _;intro y B;have ae:b5 (Below w.heap.size w y):=aa.out.trans (Below.mono B aa.out.size);clear B;go_simp;go_wp2;go_ret;exact⟨iR Y.out,ae.out⟩
 .obtain⟨an,ad⟩:∃an:Nat,an=D.toNat &&& tg:=⟨_,rfl⟩;have aj:bits .and .i64 D (tg:Int)=(an:Int):=by rw[O,ad]
  have ao:((an:Int)==(tg:Int))=false:=by rw[beq_eq_false_iff_ne]; rw[ad]; omega
  have am:¬an=tg:=by rw[ad]; exact W
  have Y:b5 (false=(r8 tg D.toNat&&nD m U.data.toList (iD tx.data.toList))):=by
   show _=_;unfold r8;rw[beq_eq_false_iff_ne.2 W]; rfl
  clear O W ab ad;refine n8 (by kernel_rfl) ?_;refine ic 0 ?_ ?_<|ic 1 ?_ ?_<|ic 2 ?_ ?_<|ic 3 ?_ ?_<|ic 4 ?_ ?_<|ic 5 ?_ ?_<|ic 6 ?_ ?_<|ic 7 ?_ ?_<|ic 8 ?_ ?_ ?_
  any_goals(intro y B; have q:=bc B d3; have q1:=bc B d2; unfold jh; go_simp; refine⟨kC.refl _,?_⟩; with_reducible rfl)
  go_simp;refine qu (i:=9) rfl (by kernel_rfl) (by kernel_rfl) (by kernel_rfl) (j5 _) (by rfl) ?_;go_simp;refine qu (i:=10) rfl (by kernel_rfl) (by kernel_rfl) (by kernel_rfl) (j5 _) (by rfl) ?_;go_simp;refine qu (i:=11) rfl (by kernel_rfl) (by kernel_rfl) (by kernel_rfl) (j5 _) (by rfl) ?_;go_simp;refine qu (i:=12) rfl (by kernel_rfl) (by kernel_rfl) (by kernel_rfl) (j5 _) (by rfl) ?_;go_simp;refine qu (i:=13) rfl (by kernel_rfl) (by kernel_rfl) (by kernel_rfl) (j5 _) (by rfl) ?_;go_simp;refine qu (i:=14) rfl (by kernel_rfl) (by kernel_rfl) (by kernel_rfl) (j5 _) (by rfl) ?_;go_simp;refine qu (i:=15) rfl (by kernel_rfl) (by kernel_rfl) (by kernel_rfl) (j5 _) (by rfl) ?_;go_simp;refine qu (i:=16) rfl (by kernel_rfl) (by kernel_rfl) (by kernel_rfl) (j5 _) (by rfl) ?_;go_simp;refine ic 17 ?_ ?_<|ic 18 ?_ ?_ ?_
  any_goals(intro y B; unfold jh; go_simp; refine⟨kC.refl _,?_⟩; with_reducible rfl)
  refine tD (by kernel_rfl) ?_ _;intro y B;have ae:b5 (Below w.heap.size w y):=aa.out.trans (Below.mono B aa.out.size);clear B;go_simp;go_wp2;go_ret;exact⟨iR Y.out,ae.out⟩
end
section
open Go.RowKit
theorem nh(w:World)(o:Obj){k:Nat}(h:k=w.heap.size):(w.alloc o).heap[k]?=some o:=by
 subst h;show(w.heap.push o)[w.heap.size]?=some o;simp
theorem lD(w:World)(o:Obj){k:Nat}(h:k<w.heap.size):(w.alloc o).heap[k]?=w.heap[k]?:=by
 exact Below.heap_alloc w o k h
def Bn(k at':Int)(y:ByteArray)(b:Bool)(n2 tx:ByteArray)(wt B:Int):Value:=.agg #[.int .i64 k,.int .i64 at',.string y,.bool b,.string n2,.string tx,.int .i64 wt,.int .i64 B]
def OS:ByteArray:=⟨#[]⟩
theorem O8(k at':Int)(nm:ByteArray)(g:Bool)(n2 tx:ByteArray)(wt Y:Int)(m tg:Nat)(qb:ByteArray)(w:World)(hm:m<=3)(ac:tg<256)(ab:g=false->0<=Y/\Y<=255)(hq:qb.size<=1048576)(ht:tx.size<=1048576) :
  bd prog 119 #[.agg #[.int .i64 k,.int .i64 at'],.string nm,.agg #[.bool g,.string n2,.string tx,.int .i64 wt,.int .i64 Y],.agg #[.int .i64 m,.string qb,.int .i64 tg]] w λe w'=>
   e=.returned (if(!g&&(r8 tg Y.toNat&&nD m qb.data.toList (iD tx.data.toList)))=true then Bn k at' nm true n2 tx wt Y else Bn k at' nm false OS OS 0 0)/\Below w.heap.size w w':=by
 obtain⟨b,hb⟩:∃b,b=(r8 tg Y.toNat&&nD m qb.data.toList (iD tx.data.toList)):=⟨_,rfl⟩
 have HC:b5 (g=false->∀y:World,bd prog 160 #[.agg #[.int .i64 m,.string qb,.int .i64 tg],.agg #[.string n2,.string tx,.int .i64 wt,.int .i64 Y]] y λe w'=>e=.returned (.bool b)/\Below y.heap.size y w'):=λhg y=>by
  rw[hb]; exact Qh m tg qb n2 tx wt Y y hm ac (ab hg).1 (ab hg).2 hq ht
 rw[<-hb];clear hb hm ac ab hq ht;obtain⟨w0,W⟩:∃w0,w0=(((w.alloc (.cells #[.int .i64 k,.int .i64 at'] 170)).alloc (.cells #[.bool g,.string n2,.string tx,.int .i64 wt,.int .i64 Y] 111)).alloc (.cells #[.int .i64 m,.string qb,.int .i64 tg] 94)).alloc (.cells #[.int .i64 0,.int .i64 0,.string ⟨#[]⟩,.bool false,.string ⟨#[]⟩,.string ⟨#[]⟩,.int .i64 0,.int .i64 0] 172):=⟨_,rfl⟩;have hz:w0.heap.size=w.heap.size+4:=by rw[W]; simp
 have hB:Below w.heap.size w w0:=by rw[W]; exact((((bz _ _).alloc (bs _) _).alloc (by simp) _).alloc (by simp; omega) _).alloc (by simp; omega) _
 have g0:w0.heap[w.heap.size]?=some (.cells #[.int .i64 k,.int .i64 at'] 170 (0,0)):=by rw[W]; (repeat(first|(rw[nh _ _ (by simp only[bm])]; done)|rw[lD _ _ (by simp only[bm]; omega)]))
 have g1:w0.heap[w.heap.size+1]?=some (.cells #[.bool g,.string n2,.string tx,.int .i64 wt,.int .i64 Y] 111 (0,0)):=by rw[W]; (repeat(first|(rw[nh _ _ (by simp only[bm])]; done)|rw[lD _ _ (by simp only[bm]; omega)]))
 have g2:w0.heap[w.heap.size+1+1]?=some (.cells #[.int .i64 m,.string qb,.int .i64 tg] 94 (0,0)):=by rw[W]; (repeat(first|(rw[nh _ _ (by simp only[bm])]; done)|rw[lD _ _ (by simp only[bm]; omega)]))
 have g3:w0.heap[w.heap.size+1+1+1]?=some (.cells #[.int .i64 0,.int .i64 0,.string ⟨#[]⟩,.bool false,.string ⟨#[]⟩,.string ⟨#[]⟩,.int .i64 0,.int .i64 0] 172 (0,0)):=by rw[W]; (repeat(first|(rw[nh _ _ (by simp only[bm])]; done)|rw[lD _ _ (by simp only[bm]; omega)]))
 go_enter func119,ntmps119;go_upto_region 1 with fail;rw[<-W];obtain⟨B0,ad⟩:∃B,B=w.heap.size:=⟨_,rfl⟩;obtain⟨U,ae⟩:∃B,B=w.heap.size+1+1+1:=⟨_,rfl⟩;obtain⟨B2,af⟩:∃B,B=w.heap.size+1+1:=⟨_,rfl⟩;obtain⟨B1,ag⟩:∃B,B=w.heap.size+1:=⟨_,rfl⟩;rw[<-ae]at g3⊢;rw[<-af]at g2⊢;rw[<-ag]at g1⊢;rw[<-ad]at g0⊢;have HB:b5 (Below _ _ _):=hB;have HN:b5 (B0<w0.heap.size/\B1<w0.heap.size/\B2<w0.heap.size/\U<w0.heap.size/\w.heap.size<=U):=⟨by omega,by omega,by omega,by omega,by omega⟩;clear W hB ad ag af ae hz;cases g
 .have c0:w0.cell? ⟨B1,0,none⟩=some (.bool false):=by rw[Ps g1]; rfl
  have c1:w0.cell? ⟨B1,1,none⟩=some (.string n2):=by rw[Ps g1]; rfl
  have c2:w0.cell? ⟨B1,2,none⟩=some (.string tx):=by rw[Ps g1]; rfl
  have c3:w0.cell? ⟨B1,3,none⟩=some (.int .i64 wt):=by rw[Ps g1]; rfl
  have c4:w0.cell? ⟨B1,4,none⟩=some (.int .i64 Y):=by rw[Ps g1]; rfl
  have c5:w0.cell? ⟨B2,0,none⟩=some (.int .i64 m):=by rw[Ps g2]; rfl
  have c6:w0.cell? ⟨B2,1,none⟩=some (.string qb):=by rw[Ps g2]; rfl
  have c7:w0.cell? ⟨B2,2,none⟩=some (.int .i64 tg):=by rw[Ps g2]; rfl
  go_upto_if 17 with(go_at_call 160; refine(HC.out rfl _).mono ?_; rintro e y ⟨rfl,hy⟩);have ah:=(hy.block B0 HN.out.1).trans g0;have aa:=(hy.block B1 HN.out.2.1).trans g1;have O:=(hy.block U HN.out.2.2.2.1).trans g3;have HY:b5 (Below w.heap.size w y):=HB.out.trans (Below.mono hy HB.out.size);clear c0 c1 c2 c3 c4 c5 c6 c7 hy HC g0 g1 g2 g3 HB;have c0:y.cell? ⟨B0,0,none⟩=some (.int .i64 k):=by rw[Ps ah]; rfl
  have c1:y.cell? ⟨B0,1,none⟩=some (.int .i64 at'):=by rw[Ps ah]; rfl
  have c2:y.cell? ⟨B1,1,none⟩=some (.string n2):=by rw[Ps aa]; rfl
  have c3:y.cell? ⟨B1,2,none⟩=some (.string tx):=by rw[Ps aa]; rfl
  have c4:y.cell? ⟨B1,3,none⟩=some (.int .i64 wt):=by rw[Ps aa]; rfl
  have c5:y.cell? ⟨B1,4,none⟩=some (.int .i64 Y):=by rw[Ps aa]; rfl
  have ai:=Ue O;have mL:=Ps O;have e0:y.cell? ⟨U,0,none⟩=some (.int .i64 0):=by rw[Ps O]; rfl
  have e1:y.cell? ⟨U,1,none⟩=some (.int .i64 0):=by rw[Ps O]; rfl
  have e2:y.cell? ⟨U,2,none⟩=some (.string ⟨#[]⟩):=by rw[Ps O]; rfl
  have e3:y.cell? ⟨U,3,none⟩=some (.bool false):=by rw[Ps O]; rfl
  have e4:y.cell? ⟨U,4,none⟩=some (.string ⟨#[]⟩):=by rw[Ps O]; rfl
  have e5:y.cell? ⟨U,5,none⟩=some (.string ⟨#[]⟩):=by rw[Ps O]; rfl
  have e6:y.cell? ⟨U,6,none⟩=some (.int .i64 0):=by rw[Ps O]; rfl
  have e7:y.cell? ⟨U,7,none⟩=some (.int .i64 0):=by rw[Ps O]; rfl
  have D:=HN.out.2.2.2.2;cases b
  .go_wp2;refine bf (v:=Bn k at' nm false OS OS 0 0) (by simp[bi,results119,go_sem,e0,e1,e2,e3,e4,e5,e6,e7,Bn,OS]) rfl ⟨rfl,((((((((HY.out.setCell D _).setCell D _).setCell D _).setCell D _).setCell D _).setCell D _).setCell D _).setCell D _)⟩
  .go_wp2;refine bf (v:=Bn k at' nm true n2 tx wt Y) (by simp[bi,results119,go_sem,e0,e1,e2,e3,e4,e5,e6,e7,Bn,OS]) rfl ⟨rfl,((((((((HY.out.setCell D _).setCell D _).setCell D _).setCell D _).setCell D _).setCell D _).setCell D _).setCell D _)⟩
 .have c0:w0.cell? ⟨B0,0,none⟩=some (.int .i64 k):=by rw[Ps g0]; rfl
  have c1:w0.cell? ⟨B0,1,none⟩=some (.int .i64 at'):=by rw[Ps g0]; rfl
  have c2:w0.cell? ⟨B1,0,none⟩=some (.bool true):=by rw[Ps g1]; rfl
  have ai:=Ue g3;have mL:=Ps g3;have e0:w0.cell? ⟨U,0,none⟩=some (.int .i64 0):=by rw[Ps g3]; rfl
  have e1:w0.cell? ⟨U,1,none⟩=some (.int .i64 0):=by rw[Ps g3]; rfl
  have e2:w0.cell? ⟨U,2,none⟩=some (.string ⟨#[]⟩):=by rw[Ps g3]; rfl
  have e3:w0.cell? ⟨U,3,none⟩=some (.bool false):=by rw[Ps g3]; rfl
  have e4:w0.cell? ⟨U,4,none⟩=some (.string ⟨#[]⟩):=by rw[Ps g3]; rfl
  have e5:w0.cell? ⟨U,5,none⟩=some (.string ⟨#[]⟩):=by rw[Ps g3]; rfl
  have e6:w0.cell? ⟨U,6,none⟩=some (.int .i64 0):=by rw[Ps g3]; rfl
  have e7:w0.cell? ⟨U,7,none⟩=some (.int .i64 0):=by rw[Ps g3]; rfl
  have D:=HN.out.2.2.2.2;clear HC;go_wp2;refine bf (v:=Bn k at' nm false OS OS 0 0) (by simp[bi,results119,go_sem,e0,e1,e2,e3,e4,e5,e6,e7,Bn,OS]) rfl ⟨rfl,((((((((HB.out.setCell D _).setCell D _).setCell D _).setCell D _).setCell D _).setCell D _).setCell D _).setCell D _)⟩
end
end Go.Proofs.YtocbogeoffeolaaGreatDoor
