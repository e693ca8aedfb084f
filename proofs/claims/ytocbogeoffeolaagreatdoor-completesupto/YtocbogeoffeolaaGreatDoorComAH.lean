import Derived.Test.YtocbogeoffeolaaGreatDoorComAD
import Derived.Test.YtocbogeoffeolaaGreatDoorComAG
set_option linter.all false
set_option maxHeartbeats 8000000
set_option maxRecDepth 1000000
open List renaming getD_eq_getElem?_getD->aW,getElem?_eq_getElem->aX,range->aY,getElem_mem->aZ,replicate->ba,mem_range->bc,replicate_succ->bd,getElem?_range->be,size_toArray->bf,ext_getElem->bg,range_succ->bh,getElem?_append_left->bi,pairwise_cons->bj,mem_singleton->bk,getElem?_map->bl,map_set->bm
open Go renaming cell_later->bn,Calls->bo,rounds_succ->bp,wp_loop_rounds->bq,madeCells->br,bodyPost_ret->bs,maxLen->bu,info_parts->bv,wpList_make_full->bw,results->bx
open Nat renaming le_refl->bz,lt_or_ge->b4,zero_le->b5,zero_add->b6,testBit_and->b7
open Go.World renaming ownsRow->b8,size_alloc->b9,cell?_alloc_at->b',cell?_alloc_past->bA,alloc_eq->bB,alloc->bC
open Option.some renaming injEq->bD
open Go.RowKit renaming Hid->bE
open Go.ByteArray renaming toList_eq->bF
open Go.RowKit.Below renaming refl->bG,setCell->bH,heap_alloc->bI
open Go.Proofs.Tryz renaming underlying26->bJ,ntmps215->bK,ntmps126->bL,results119->bM,func215->bO,func126->bP,ntmps152->bR,func152->bS
open Go.Addr.mk renaming injEq->bT
open UInt8 renaming ofNat->bU
open Bool renaming eq_iff_iff->bV,or_eq_true->bW
open Go.Op renaming bytesLess->bX
open Bool renaming false->f?,true->t?
open Go renaming Program->P?,Value->v?,World->w?
open Go.Ending renaming returned->e?
open Go.IntKind renaming i64->i?
open Go.Obj renaming cells->c?
open Go.Value renaming int->n?,string->s?
open List renaming length->l?,toArray->a?
open Option renaming none->x?,some->y?
namespace Go.Proofs.YtocbogeoffeolaaGreatDoor
open Go.Proofs.Tryz
section
open Go.RowKit
def Hm{a c row z i m}(h:m=min (min (row.getD i 0+(if a.getD i 0=c then 0 else 1)) (row.getD (i+1) 0+1)) ((gp a c row z i).getD i 0+1)):dV (gp a c row z (i+1))=dV (gp a c row z i)++[n? i? m]:=by rw[gp,vq,h]
def sN{x y:UInt8}:(x.toNat==(y.toNat:Int))=decide (x=y):=by rw[bV,beq_iff_eq,decide_eq_true_eq];constructor;intro h;exact UInt8.toNat_inj.1 o!;intro h;rw[h]
def row_one{w:w?}{n}:(w.alloc (c? #[n? i? n] 3)).ownsRow w.1.size 3 1 (.slice (y? ⟨w.1.size,0,x?⟩) 1 1) 1 [n? i? n]:=
 World.ownsRow_lit (base:=w.1.size) (size:=1) (e:=3) w _ 1 (bz _) (by unfold bu;omega) rfl
def DX(a b)(w)(ha:a.size<=1048576)(hb:b.size<=1048576) :
  bo prog 208 #[s? a,s? b] w λe w'=>e=e? (n? i? (pw a.1.1 b.1.1 b.size))/\B? w w':=by
 obtain⟨i3,ao,ap,aq,ar⟩:=bv Pt;have au:l? a.1.1=a.size:=i!;have aa:bE _:=au;clear au;go_enter func208,ntmps208;go_wp2;go_loopw [5,6] (λv i wr=>∃k:Nat,k<=a.size+1/\i=n? i? k/\wr.ownsRow w.1.size 3 1 v k (dV (aY k))/\B? w wr) (λ_ i _=>a.size+1-(intOf i).toNat)
 case atStart=>exact⟨0,b5 _,q?,World.ownsRow_nil _ _ _ _,bG _ _⟩
 case round=>
  obtain⟨k,hk,rfl,B,O⟩:=hrel;have HS:=O.size;by_cases aj:k<=a.size
  .have av:(k:Int)<=(a.size:Int):=o!;go_wp2_with (at_builtin;go_must (refine dW _ q? _ _ 26 q? w.1.size 3 i3 (n? i? 0) 8 bJ ao ap aq ar q? _ _ _ q? (B.alloc _) _ [n? i? k] q? ?c0 ?c00 ?c1 ?c2 ?c3 ?_))
   case c0=>go_light;exact Rd.one (km q?)
   case c00=>intro u hu;simp at hu;subst hu;rfl
   case c1=>simp;omega
   case c2=>simp[bu];omega
   case c3=>simp;omega
   intro v' w1 ab ac _;have HB1:bE (B? w w1):=(O.alloc HS _).grown ac j! (λb hb=>(B.lt b hb).1)
   have HO1:bE (w1.ownsRow w.1.size 3 1 v' (k+1) (dV (aY (k+1)))):=by show b8 _ _ _ _ _ _ _;rw[bh,vq];exact ab
   clear ab ac;go_wp2;go_roundw
   case rel=>exact⟨k+1,o!,by go_num,HO1,HB1⟩
   case measure=>simp[intOf];omega
  have ak:k=a.size+1:=o!;subst ak;obtain⟨aR,cR,rfl,aH⟩:=dH B
  have HO:bE (wr.ownsRow w.1.size 3 1 (.slice aR (a.size+1) cR) (a.size+1) (dV (iT a.1.1 b.1.1 0))):=by show b8 _ _ _ _ _ _ _;rw[iT,aa.out];exact B
  have HB0:bE _:=O;have aI:¬((a.size:Int)+1<=(a.size:Int)):=o!;clear B O hk aj HS;go_wp2;go_loopw [5,7] (λv kv wx=>∃k:Nat,k<=b.size/\kv=n? i? k/\wx.ownsRow w.1.size 3 1 v (a.size+1) (dV (iT a.1.1 b.1.1 k))/\B? w wx) (λ_ i _=>b.size-(intOf i).toNat)
  case atStart=>exact⟨0,b5 _,q?,HO,HB0⟩
  case round=>
   obtain⟨k,hk,rfl,B,O⟩:=hrel;obtain⟨aQ,cQ,rfl,aJ⟩:=dH B;have HS:=O.size;by_cases aj:k<b.size
   .have av:(k:Int)<(b.size:Int):=o!;obtain⟨row,W⟩:∃row,row=iT a.1.1 b.1.1 k:=⟨_,q?⟩;have aw:l? row=a.size+1:=by rw[W,qI,aa.out]
    have ax:∀x∈row,x<=2097152:=λx hx=>by rw[W]at hx;have:=xC _ _ _ x hx;rw[aa.out]at this;omega
    rw[<-W]at B;have ag:bE _:=W;have az:bE (Rd wr (.slice aQ (a.size+1) cQ) (dV row)):=Rd.eL B;have al:bE _:=ax;have ad:bE _:=aw;have a0:bE _:=O;clear W B O ax aw HO HB0;generalize wr=wo at *;go_wp2;go_loopw [8,9] (λv iv wy=>∃i:Nat,i<=a.size/\iv=n? i? i/\wy.ownsRow wo.1.size 3 1 v (i+1) (dV (gp a.1.1 b[k] row (k+1) i))/\B? wo wy) (λ_ i _=>a.size-(intOf i).toNat)
    case atStart=>exact⟨0,b5 _,q?,row_one,(bG _ _).alloc (bz _) _⟩
    case round=>
     obtain⟨i,hi,rfl,B,O⟩:=hrel;obtain⟨aN,cN,rfl,aK⟩:=dH B;have am:bE _:=B;have a1:bE _:=O;have aL:=O.size;by_cases a2:i<a.size
     .have aD:(i:Int)<(a.size:Int):=o!;obtain⟨r0,ae⟩:∃r0,r0=row.getD i 0:=⟨_,q?⟩;obtain⟨Y,af⟩:∃Y,Y=row.getD (i+1) 0:=⟨_,q?⟩;obtain⟨x,hx⟩:∃x,x=(gp a.1.1 b[k] row (k+1) i).getD i 0:=⟨_,q?⟩;have aE:r0<=2097152:=by rw[ae,aW,aX (by rw[ad.out];omega)];exact al _ (aZ _)
      have aF:Y<=2097152:=by rw[af,aW,aX (by rw[ad.out];omega)];exact al _ (aZ _)
      have aM:x<=4194304:=by rw[hx,aW,aX (by rw[jX];omega)];exact qW _ _ row (k+1) 4194304 o! (λy hy=>by have:=al.out y hy;omega) i (by rw[ad.out];omega) _ (aZ _)
      obtain⟨aO,aP,he,_,_,hq⟩:=az.out;simp only[Value.slice.injEq]at he;obtain⟨rfl,a3,rfl⟩:=he;clear a3;obtain⟨bQ,oQ,rfl,q0⟩:=hq i _ (gR row i (by rw[ad.out];omega));obtain⟨aS,aT,ay,q1⟩:=hq (i+1) _ (gR row (i+1) (by rw[ad.out];omega));simp only[bD,bT]at ay;obtain⟨rfl,rfl,_⟩:=ay;obtain⟨bN,oN,rfl,q2⟩:=fy B i _ (gR _ i (by rw[jX];omega));have p0:=bn O q0;have p1:=bn O q1;rw[<-ae]at p0;rw[<-af]at p1;rw[<-hx]at q2;have a4:bE (row.getD i 0=r0):=ae.symm;have a5:bE (row.getD (i+1) 0=Y):=af.symm;have a6:bE ((gp a.1.1 b[k] row (k+1) i).getD i 0=x):=hx.symm;have aU:IntKind.i64.wrap ((i:Int)+1)=(i:Int)+1:=CG _ _ q? o! o!;have a7:bE (a.1.1.getD i 0=a[i]):=jr a i a2;have aG:(i:Int)+1<(a.size:Int)+1:=o!;clear hq q0 q1 ae af hx B O ag
      obtain⟨mm,HM,a8⟩:∃mm:Nat,bE (mm=min (min (r0+(if a.1.1.getD i 0=b[k]then 0 else 1)) (Y+1)) (x+1))/\
        ((((a[i].toNat:Int)==(b[k].toNat:Int))=t?/\(((Y:Int)+1<r0/\((x:Int)+1<(Y:Int)+1/\(mm:Int)=(x:Int)+1\/¬(x:Int)+1<(Y:Int)+1/\(mm:Int)=(Y:Int)+1))\/(¬(Y:Int)+1<r0/\((x:Int)+1<r0/\(mm:Int)=(x:Int)+1\/¬(x:Int)+1<r0/\(mm:Int)=r0))))\/
        (((a[i].toNat:Int)==(b[k].toNat:Int))=f?/\(((Y:Int)+1<(r0:Int)+1/\((x:Int)+1<(Y:Int)+1/\(mm:Int)=(x:Int)+1\/¬(x:Int)+1<(Y:Int)+1/\(mm:Int)=(Y:Int)+1))\/(¬(Y:Int)+1<(r0:Int)+1/\((x:Int)+1<(r0:Int)+1/\(mm:Int)=(x:Int)+1\/¬(x:Int)+1<(r0:Int)+1/\(mm:Int)=(r0:Int)+1))))):=by
       refine⟨_,q?,?_⟩;rw[a7.out,sN];by_cases hc:a[i]=b[k];rw[if_pos hc,decide_eq_true hc];refine .inl ⟨q?,?_⟩;omega;rw[if_neg hc,decide_eq_false hc];refine .inr ⟨q?,?_⟩;omega
      have HM:bE (dV (gp a.1.1 b[k] row (k+1) (i+1))=dV (gp a.1.1 b[k] row (k+1) i)++[n? i? (mm:Int)]):=Hm (by rw[a4.out,a5.out,a6.out];exact HM);obtain⟨a9,⟨h2,⟨h3,U⟩|⟨h3,U⟩⟩|⟨h2,⟨h3,U⟩|⟨h3,U⟩⟩⟩|⟨a9,⟨h2,⟨h3,U⟩|⟨h3,U⟩⟩|⟨h2,⟨h3,U⟩|⟨h3,U⟩⟩⟩:=a8
      all_goals
       have a':bE _:=U;clear U;go_wp2;go_quiet (fail);have ah:bE ((wr.drewN nq).ownsRow wo.1.size 3 1 (.slice (y? ⟨bN,oN,x?⟩) (i+1) cN) (i+1) (dV (gp a.1.1 b[k] row (k+1) i))):=am.out;have ai:bE (B? wo (wr.drewN nq)):=jn a1 nq;go_wp2_with (at_builtin;go_must (refine dW _ q? _ _ 26 q? wo.1.size 3 i3 (n? i? 0) 8 bJ ao ap aq ar q? _ _ _ q? (ah.alloc _) _ [n? i? (mm:Int)] q? ?c0 ?c00 ?c1 ?c2 ?c3 ?_))
       case c0=>go_light;rw[a'.out];exact Rd.one (km q?)
       case c00=>intro u hu;simp at hu;subst hu;rfl
       case c1=>simp;omega
       case c2=>simp[bu];omega
       case c3=>simp;omega
       intro v' w1 ab ac _;have HB1:bE (B? wo w1):=(ai.alloc ai.size _).grown ac j! (λb hb=>(ah.lt b hb).1)
       have HO1:bE (w1.ownsRow wo.1.size 3 1 v' (i+1+1) (dV (gp a.1.1 b[k] row (k+1) (i+1)))):=by show b8 _ _ _ _ _ _ _;rw[HM.out];exact ab
       clear ab ac;go_wp2;go_roundw
       case rel=>exact⟨i+1,o!,by go_num,HO1,HB1⟩
       case measure=>simp[intOf];omega
     have aA:i=a.size:=o!;subst aA
     have HON2:bE (wr.ownsRow w.1.size 3 1 (.slice aN (a.size+1) cN) (a.size+1) (dV (iT a.1.1 b.1.1 (k+1)))):=by
      show b8 _ _ _ _ _ _ _
      have e:iT a.1.1 b.1.1 (k+1)=gp a.1.1 b[k] row (k+1) a.size:=by rw[iT,aa.out,ag.out,jr b k aj]
      rw[e];exact fj am HS
     have HB2:bE (B? w wr):=a0.trans (O.mono HS);clear B O am;go_wp2;go_roundw
     case rel=>exact⟨k+1,o!,by go_num,HON2,HB2⟩
     case measure=>simp[intOf];omega
   have ak:k=b.size:=o!;subst ak;obtain⟨bQ,oQ,rfl,q0⟩:=fy B a.size _ (gR _ a.size (by rw[qI,aa.out];omega));have aB:bE ((iT a.1.1 b.1.1 b.size).getD a.size 0=pw a.1.1 b.1.1 b.size):=by show _=_;unfold pw;rw[aa.out]
   have aV:(a.size:Int)<(a.size:Int)+1:=o!;have HB2:bE _:=O;rw[aB.out]at q0;obtain⟨dd,an⟩:∃dd,dd=pw a.1.1 b.1.1 b.size:=⟨_,q?⟩;rw[<-an]at q0;have aC:bE _:=an;clear an;clear B O;go_wp2;go_ret;exact⟨dQ (by rw[aC.out]),HB2⟩
variable {n:Nat} {p:Nat->Bool}
def MU(q s)(k):pw q (s.take k) k=pw q s k:=by unfold pw;rw[Kg q s k k (bz _)]
def Gm(s:ByteArray)(n):(s.extract n s.size).1.1=s.1.1.drop n:=by simp;rw[List.take_of_length_le i!]
def any_none(h:∀i,i<n->p i=f?):(aY n).any p=f?:=by rw[List.any_eq_false];intro x B;rw[h x (bc.1 B)];simp
def any_some(i)(B:i<n)(h:p i=t?):(aY n).any p=t?:=
 List.any_eq_true.2 ⟨i,bc.2 B,h⟩
def OM(m:Nat)(query text)(w)(hm:m<=3)(hq:query.size<=1048576)(ht:text.size<=1048576) :
  bo prog 152 #[n? i? m,s? query,s? text] w λe w'=>e=e? (.bool (ik m (eA query.1.1) (eA text.1.1)))/\B? w w':=by
 obtain⟨qb,ad⟩:∃qb:ByteArray,qb=⟨(eA query.1.1).toArray⟩:=⟨_,q?⟩;obtain⟨B,ae⟩:∃B:ByteArray,B=⟨(eA text.1.1).toArray⟩:=⟨_,q?⟩;have HQ:bE (qb.1.1=eA query.1.1):=by show _=_;rw[ad]
 have aq:bE (B.1.1=eA text.1.1):=by show _=_;rw[ae]
 have ar:qb.size<=1048576:=by rw[ad];show(eA query.1.1).toArray.size<=_;rw[bf,fO];simp;omega
 have ay:B.size<=1048576:=by rw[ae];show(eA text.1.1).toArray.size<=_;rw[bf,fO];simp;omega
 have af:bE (∀y:w?,bo prog 200 #[s? query] y λe w'=>e=e? (s? qb)/\B? y w'):=λy=>by rw[ad];exact qi query y o!
 have ag:bE (∀y:w?,bo prog 200 #[s? text] y λe w'=>e=e? (s? B)/\B? y w'):=λy=>by rw[ae];exact qi text y o!
 have HR:bE (ik m (eA query.1.1) (eA text.1.1)=ik m qb.1.1 B.1.1):=by show _=_;rw[HQ.out,aq.out]
 clear ad ae hq ht;by_cases h0:m=0
 .subst h0;have HF:bE (ik 0 qb.1.1 B.1.1=iW B.1.1 qb.1.1):=rfl;go_enter bS,bR;go_wp2_with fail;refine(af _).mono ?_;rintro e w1 ⟨rfl,O⟩;go_wp2_with fail;refine(ag _).mono ?_;rintro e w2 ⟨rfl,U⟩;have HB2:bE (B? w w2):=O.trans (U.mono O.size);clear O U;go_wp2_with fail;refine(rh B qb _).mono ?_;rintro e w3 ⟨rfl,rfl⟩;go_wp2;go_ret;exact⟨dT (by rw[HR.out,HF.out]),HB2⟩
 by_cases h1:m=1
 .subst h1
  have HF:bE (ik 1 qb.1.1 B.1.1=(aY B.size).any λi=>io B.1.1 i&&iW (B.1.1.drop i) qb.1.1):=by show _=_;unfold ik;simp
  clear h0;go_enter bS,bR;go_wp2_with fail;refine(af _).mono ?_;rintro e w1 ⟨rfl,O⟩;go_wp2_with fail;refine(ag _).mono ?_;rintro e w2 ⟨rfl,U⟩;have HB2:bE (B? w w2):=O.trans (U.mono O.size);clear O U;go_wp2;go_loopw [9] (λiv wr=>∃i:Nat,i<=B.size/\iv=n? i? i/\(∀j,j<i->(io B.1.1 j&&iW (B.1.1.drop j) qb.1.1)=f?)/\B? w wr) (λi _=>B.size-(intOf i).toNat)
  case atStart=>exact⟨0,b5 _,q?,λj hj=>o!,HB2⟩
  case round=>
   obtain⟨i,hi,rfl,ab,W⟩:=hrel;have aa:bE _:=ab;have Y:bE _:=W;clear ab W;by_cases ah:i<B.size
   .have am:(i:Int)<(B.size:Int):=o!;have ax:(i:Int)<=(B.size:Int):=o!;obtain⟨b1,O⟩:∃b1,b1=io B.1.1 i:=⟨_,q?⟩;obtain⟨b2,U⟩:∃b2,b2=iW (B.1.1.drop i) qb.1.1:=⟨_,q?⟩;have ai:=Jb B i wr o! ah;have aj:=rh (B.extract i B.size) qb wr;rw[<-O]at ai;rw[Gm,<-U]at aj;have an:bE _:=O;have ac:bE _:=U;clear O U;go_wp2_with fail;refine ai.mono ?_;rintro e w3 ⟨rfl,rfl⟩;clear ai;go_wp2_with fail;refine aj.mono ?_;rintro e w4 ⟨rfl,rfl⟩;clear aj
    cases b1 with
    |false=>
     go_wp2;go_roundw
     case rel=>exact⟨i+1,o!,by go_num,λj hj=>by
      obtain h|h:=b4 j i
      exact aa j h;have e:j=i:=o!
      subst e;rw[<-an.out];rfl,Y⟩
     case measure=>simp[intOf];omega
    |true=>
     cases b2 with
     |false=>
      go_wp2;go_roundw
      case rel=>exact⟨i+1,o!,by go_num,λj hj=>by
       obtain h|h:=b4 j i
       exact aa j h;have e:j=i:=o!
       subst e;rw[<-ac.out];simp,Y⟩
      case measure=>simp[intOf];omega
     |true=>
      have HY:bE (ik 1 qb.1.1 B.1.1=t?):=by show _=_;rw[HF.out];exact any_some i ah (by rw[<-an.out,<-ac.out];rfl)
      go_wp2;go_ret;exact⟨dT (by rw[HR.out,HY.out]),Y⟩
   have au:i=B.size:=o!;subst au
   have HY:bE (ik 1 qb.1.1 B.1.1=f?):=by show _=_;rw[HF.out];exact any_none aa
   go_wp2;go_ret;exact⟨dT (by rw[HR.out,HY.out]),Y⟩
 have az:((m:Int)==0)=f?:=by rw[beq_eq_false_iff_ne];omega
 have a0:((m:Int)==1)=f?:=by rw[beq_eq_false_iff_ne];omega
 have HF:bE (ik m qb.1.1 B.1.1=(aY (B.size+1)).any λk=>decide (pw qb.1.1 B.1.1 k<m)):=by show _=_;unfold ik;rw[if_neg h0,if_neg h1];simp
 clear h0 h1;go_enter bS,bR;go_wp2_with fail;refine(af _).mono ?_;rintro e w1 ⟨rfl,O⟩;go_wp2_with fail;refine(ag _).mono ?_;rintro e w2 ⟨rfl,U⟩;have HB2:bE (B? w w2):=O.trans (U.mono O.size);clear O U;go_wp2;go_loopw [12] (λiv wr=>∃k:Nat,k<=B.size+1/\iv=n? i? k/\(∀j,j<k->¬pw qb.1.1 B.1.1 j<m)/\B? w wr) (λi _=>B.size+1-(intOf i).toNat)
 case atStart=>exact⟨0,b5 _,q?,λj hj=>o!,HB2⟩
 case round=>
  obtain⟨k,hk,rfl,ab,W⟩:=hrel;have aa:bE _:=ab;have Y:bE _:=W;have HS:=W.size;clear ab W;by_cases ah:k<=B.size
  .have am:(k:Int)<=(B.size:Int):=o!;obtain⟨dd,ak⟩:∃dd,dd=pw qb.1.1 B.1.1 k:=⟨_,q?⟩;have al:=DX qb (B.extract 0 k) wr ar j!;have e1:(B.extract 0 k).1.1=B.1.1.take k:=by rw[wk]
   have e2:(B.extract 0 k).size=k:=j!;rw[e1,e2,MU,<-ak]at al;have ao:bE _:=ak;clear ak e1 e2;go_wp2_with fail;refine al.mono ?_;rintro e w3 ⟨rfl,ap⟩;have ac:bE (B? w w3):=Y.trans (ap.mono HS);clear al ap;by_cases hd:dd<m
   .have av:(dd:Int)<(m:Int):=o!
    have HY:bE (ik m qb.1.1 B.1.1=t?):=by show _=_;rw[HF.out];exact any_some k o! (by rw[<-ao.out];simpa using hd)
    go_wp2;go_ret;exact⟨dT (by rw[HR.out,HY.out]),ac⟩
   have av:¬((dd:Int)<(m:Int)):=o!;go_wp2;go_roundw
   case rel=>exact⟨k+1,o!,by go_num,λj hj=>by
    obtain h|h:=b4 j k
    exact aa j h;have e:j=k:=o!
    subst e;rw[<-ao.out];exact hd,ac⟩
   case measure=>simp[intOf];omega
  have aw:k=B.size+1:=o!;subst aw;have a1:¬((B.size:Int)+1<=(B.size:Int)):=o!
  have HY:bE (ik m qb.1.1 B.1.1=f?):=by show _=_;rw[HF.out];exact any_none (λi hi=>by simpa using aa.out i hi)
  go_wp2;go_ret;exact⟨dT (by rw[HR.out,HY.out]),Y⟩
def eU(x y:dD):Bool:=if x.dn=y.dn then(if dC x=dC y then bX x.name y.name else bX (dC x) (dC y))else decide (y.dn<x.dn)
def uC(e:dD):v?:=.agg #[s? ⟨a? e.name⟩,.bool e.gone,s? ⟨a? e.text⟩,n? i? e.dn,n? i? e.dE]
def Nc(x y)(w)(hx:l? x.text<=1048576)(hy:l? y.text<=1048576) :
  bo prog 153 #[uC x,uC y] w λe w'=>e=e? (.bool (eU x y))/\B? w w':=by
 obtain⟨n1,U,t1,w1,W⟩:=x;obtain⟨n2,Y,t2,w2,a2⟩:=y;unfold uC;simp only at hx hy⊢;have hB:B? w ((w.alloc (c? #[s? ⟨a? n1⟩,.bool U,s? ⟨a? t1⟩,n? i? w1,n? i? W] 202)).alloc (c? #[s? ⟨a? n2⟩,.bool Y,s? ⟨a? t2⟩,n? i? w2,n? i? a2] 202)):=((bG _ _).alloc (bz _) _).alloc i! _;by_cases hw:w1=w2
 .subst hw;obtain⟨k1,aa⟩:∃k1:ByteArray,k1=⟨(eA t1).toArray⟩:=⟨_,q?⟩;obtain⟨k2,ab⟩:∃k2:ByteArray,k2=⟨(eA t2).toArray⟩:=⟨_,q?⟩;have ag:bE (∀y:w?,bo prog 200 #[s? ⟨a? t1⟩] y λe w'=>e=e? (s? k1)/\B? y w'):=λy=>by rw[aa];exact qi ⟨a? t1⟩ y (by show t1.toArray.size<=_;simp;omega)
  have ah:bE (∀y:w?,bo prog 200 #[s? ⟨a? t2⟩] y λe w'=>e=e? (s? k2)/\B? y w'):=λy=>by rw[ab];exact qi ⟨a? t2⟩ y (by show t2.toArray.size<=_;simp;omega)
  have ac:bE (k1.1.1=eA t1):=by show _=_;rw[aa]
  have ad:bE (k2.1.1=eA t2):=by show _=_;rw[ab]
  clear aa ab;have ak:(w1==w1)=t?:=i!
  have d1:((w.alloc (c? #[s? ⟨a? n1⟩,.bool U,s? ⟨a? t1⟩,n? i? w1,n? i? W] 202)).alloc (c? #[s? ⟨a? n2⟩,.bool Y,s? ⟨a? t2⟩,n? i? w1,n? i? a2] 202)).cell? ⟨w.1.size,0,x?⟩=y? (s? ⟨a? n1⟩):=by rw[bA _ _ _ i!,b' _ _ _ _ rfl];rfl
  have d2:((w.alloc (c? #[s? ⟨a? n1⟩,.bool U,s? ⟨a? t1⟩,n? i? w1,n? i? W] 202)).alloc (c? #[s? ⟨a? n2⟩,.bool Y,s? ⟨a? t2⟩,n? i? w1,n? i? a2] 202)).cell? ⟨w.1.size+1,0,x?⟩=y? (s? ⟨a? n2⟩):=by rw[b' _ _ _ _ i!];rfl
  have d3:((w.alloc (c? #[s? ⟨a? n1⟩,.bool U,s? ⟨a? t1⟩,n? i? w1,n? i? W] 202)).alloc (c? #[s? ⟨a? n2⟩,.bool Y,s? ⟨a? t2⟩,n? i? w1,n? i? a2] 202)).cell? ⟨w.1.size+1,2,x?⟩=y? (s? ⟨a? t2⟩):=by rw[b' _ _ _ _ i!];rfl
  go_enter func153,ntmps153;go_wp2_with fail;generalize ((w.alloc (c? #[s? ⟨a? n1⟩,.bool U,s? ⟨a? t1⟩,n? i? w1,n? i? W] 202)).alloc (c? #[s? ⟨a? n2⟩,.bool Y,s? ⟨a? t2⟩,n? i? w1,n? i? a2] 202))=w0 at *;refine(ag _).mono ?_;rintro e u1 ⟨rfl,B⟩;have e1:=bn B d1;have e2:=bn B d2;have e3:=bn B d3;have ae:bE (B? w u1):=hB.trans (B.mono hB.size);clear d1 d2 d3 B hB;go_wp2_with fail;refine(ah _).mono ?_;rintro e u2 ⟨rfl,O⟩;have f1:=bn O e1;have f2:=bn O e2;have af:bE (B? w u2):=ae.trans (O.mono ae.size);clear e1 e2 e3 O;by_cases hk:k1.1.1=k2.1.1
  .have ai:(k1.toList==k2.toList)=t?:=by rw[bF,bF,hk];simp
   have HA:bE (eU ⟨n1,U,t1,w1,W⟩ ⟨n2,Y,t2,w1,a2⟩=bX n1 n2):=by show _=_;unfold eU dC;rw[if_pos q?,if_pos (by rw[<-ac.out,<-ad.out];exact hk)]
   clear hk;go_wp2;go_ret;exact⟨dT (by rw[HA.out]),af⟩
  have ai:(k1.toList==k2.toList)=f?:=by rw[bF,bF,beq_eq_false_iff_ne];exact hk
  have HA:bE (eU ⟨n1,U,t1,w1,W⟩ ⟨n2,Y,t2,w1,a2⟩=bX k1.1.1 k2.1.1):=by show _=_;unfold eU dC;rw[if_pos q?,if_neg (by rw[<-ac.out,<-ad.out];exact hk),<-ac.out,<-ad.out]
  clear hk;go_wp2;go_ret;exact⟨dT (by rw[HA.out];first|rfl|simp[bF]),af⟩
 have al:(w1==w2)=f?:=by rw[beq_eq_false_iff_ne];exact hw
 have HA:bE (eU ⟨n1,U,t1,w1,W⟩ ⟨n2,Y,t2,w2,a2⟩=decide (w2<w1)):=by show _=_;unfold eU;rw[if_neg hw]
 have aj:bE _:=hB;clear hw hB;go_enter func153,ntmps153;go_wp2;go_ret;exact⟨dT (by rw[HA.out]),aj⟩
def np(n:Nat):Wd:=if h:n<=9 then [48+bU n]else np (n / 10)++[48+bU (n % 10)]
termination_by n
decreasing_by omega
def ze{n}(h:n<=9):np n=[48+bU n]:=by rw[np,dif_pos h]
def wY{n}(h:¬n<=9):np n=np (n / 10)++[48+bU (n % 10)]:=by rw[np,dif_neg h]
def Oa(d)(h:d<=9):(⟨#[48,49,50,51,52,53,54,55,56,57]⟩:ByteArray).extract d (d+1)=⟨#[48+bU d]⟩:=by have B:d=0\/d=1\/d=2\/d=3\/d=4\/d=5\/d=6\/d=7\/d=8\/d=9:=o!;obtain rfl|rfl|rfl|rfl|rfl|rfl|rfl|rfl|rfl|rfl:=B<;>decide +kernel
def Fz:∀(k n),n<10 ^ k->1<=k->(np n).length<=k:=by
 intro k;induction k with
 |zero=>omega|succ k O=>
  intro n h _;by_cases B:n<=9;rw[ze B];simp;rw[wY B]
  have U:1<=k:=by
   obtain e|e:=Nat.eq_zero_or_pos k
   subst e;omega;exact e
  have:=O (n / 10) o! U;simp;omega
def Ic(N:Nat)(w)(hN:N<=16777215) :
  bo prog 154 #[n? i? N] w λe w'=>e=e? (s? ⟨(np N).toArray⟩)/\w=w':=by
 go_enter func154,ntmps154;go_wp2;go_loopw [0,3] (λnv sv wr=>∃(n:Nat)(B:ByteArray),n<=N/\nv=n? i? n/\sv=s? B/\np N=np n++B.1.1/\B.size+n<=16777216/\wr=w) (λn _ _=>(intOf n).toNat)
 case atStart=>exact⟨N,⟨#[]⟩,bz _,q?,q?,i!,by show 0+N<=_;omega,q?⟩
 case round=>
  obtain⟨n,B,hn,rfl,rfl,Y,ab,rfl⟩:=hrel;have HD:bE _:=Y;clear Y;by_cases U:n<=9
  .have W:¬((9:Int)<(n:Int)):=o!;have ac:=Oa n U;have ad:¬(9223372036854775807<1+B.size):=o!
   have O:bE (⟨#[48+bU n]⟩++B=(⟨(np N).toArray⟩:ByteArray)):=by show _=_;rw[HD.out,ze U];apply ByteArray.ext;apply Array.toList_inj.1;simp[ByteArray.data_append]
   have aa:(n:Int)+1<=10:=o!;go_wp2;go_ret;exact⟨wB O,q?⟩
  have W:(9:Int)<(n:Int):=o!
  have O:bE (np N=np (n / 10)++((⟨#[48,49,50,51,52,53,54,55,56,57]⟩:ByteArray).extract (n % 10) (n % 10+1)++B).1.1/\((⟨#[48,49,50,51,52,53,54,55,56,57]⟩:ByteArray).extract (n % 10) (n % 10+1)++B).size+n / 10<=16777216):=by rw[Oa _ o!];refine⟨?_,?_⟩;rw[HD.out,wY U];simp[ByteArray.data_append];rw[ByteArray.size_append];show 1+B.size+n / 10<=_;omega
  go_wp2;exact⟨⟨n / 10,_,o!,i!,q?,O.1,O.2,t!⟩,by simp[intOf];omega⟩
variable {x y:dD} {l:List dD} {told:List Nat} {ok:Nat->Bool}
def vQ(x):eU x x=f?:=by unfold eU;rw[if_pos q?,if_pos q?,jH]
def pM{z}(O:eU x y=t?)(B:eU y z=t?):eU x z=t?:=by unfold eU at *;by_cases a:x.dn=y.dn;rw[if_pos a]at O;by_cases b:y.dn=z.dn;rw[if_pos b]at B;rw[if_pos (a.trans b)];by_cases c:dC x=dC y;rw[if_pos c]at O;by_cases d:dC y=dC z;rw[if_pos d]at B;rw[if_pos (c.trans d)];exact nB _ _ _ O B;rw[if_neg d]at B;rw[if_neg (λe=>d (c.symm.trans e)),c];exact B;rw[if_neg c]at O;by_cases d:dC y=dC z;rw[if_neg (λe=>c (e.trans d.symm)),<-d];exact O;rw[if_neg d]at B;have U:=nB _ _ _ O B;rw[if_neg (FN U)];exact U;rw[if_neg b]at B;rw[if_neg (λe=>b (a.symm.trans e)),a];exact B;rw[if_neg a,decide_eq_true_eq]at O;by_cases b:y.dn=z.dn;rw[if_neg (λe=>a (e.trans b.symm)),decide_eq_true_eq];omega;rw[if_neg b,decide_eq_true_eq]at B;rw[if_neg o!,decide_eq_true_eq];omega
def Gf(h:x.name≠y.name):eU x y=t?\/eU y x=t?:=by
 unfold eU;by_cases a:x.dn=y.dn;rw[if_pos a,if_pos a.symm];by_cases c:dC x=dC y;rw[if_pos c,if_pos c.symm];obtain B|B|B:=jZ ..
 exact Or.inl B;exact absurd B h;exact Or.inr B;rw[if_neg c,if_neg (λe=>c e.symm)];obtain B|B|B:=jZ ..
 exact Or.inl B;exact absurd B c;exact Or.inr B;rw[if_neg a,if_neg (λe=>a e.symm),decide_eq_true_eq,decide_eq_true_eq];omega
def I8(h:eU x y=t?):eU y x=f?:=by rw[Bool.eq_false_iff];intro B;have:=pM h B;rw[vQ]at this;cases this
def iA:dD:=⟨[],f?,[],0,0⟩
def jx(l:List dD)(ok:Nat->Bool):Nat->Option Nat
 |0=>x?|k+1=>match jx l ok k with
  |none=>if ok k=t? then y? k else x?|some b=>if ok k=t?/\eU (l.getD k iA) (l.getD b iA)=t? then y? k else y? b
def gS(l:List dD)(ok:Nat->Bool):Nat->List Nat->List Nat
 |0,_=>[]
 |n+1,told=>match jx l (λi=>ok i && !told.contains i) l.length with
  |none=>[]
  |some b=>b::gS l ok n (told++[b])
def zU:∀k,jx l ok k=x?->∀i,i<k->ok i=f?:=by
 intro k;induction k with
 |zero=>omega|succ k O=>
  intro h i W;rw[jx]at h
  cases hb:jx l ok k with
  |none=>
   rw[hb]at h;simp only at h;split at h
   cases h;rename_i U;obtain B|B:=b4 i k
   exact O hb i B;have e:i=k:=o!;subst e;simpa using U
  |some b=>rw[hb]at h;simp only at h;split at h<;>cases h
def uj(hn:(l.map dD.name).Nodup):∀k b,k<=l? l->jx l ok k=y? b->b<k/\ok b=t?/\∀i,i<k->ok i=t?->i≠b->eU (l.getD b iA) (l.getD i iA)=t?:=by
 have Y:∀i j,i<l? l->j<l? l->i≠j->(l.getD i iA).name≠(l.getD j iA).name:=λi j U hj h e=>by rw[aW,aW,aX U,aX hj]at e;exact h ((List.getElem_inj (h₀:=by simpa using U) (h₁:=by simpa using hj) hn).1 (u! e))
 intro k;induction k with
 |zero=>intro b _ h;cases h
 |succ k ih=>
  intro b hk h;rw[jx]at h
  cases hb:jx l ok k with
  |none=>
   rw[hb]at h;simp only at h;split at h
   rename_i B;simp only[bD]at h;subst h;refine⟨o!,B,λi U O W=>?_⟩;have:=zU k hb i o!;rw[this]at O;cases O
   cases h
  |some c=>
   rw[hb]at h;simp only at h;obtain⟨c1,c2,c3⟩:=ih c o! hb;split at h
   rename_i B;simp only[bD]at h;subst h;refine⟨o!,B.1,λi U O W=>?_⟩;by_cases e:i=c;subst e;exact B.2;exact pM B.2 (c3 i o! O e)
   rename_i B;simp only[bD]at h;subst h;refine⟨o!,c2,λi U O W=>?_⟩;obtain h3|h3:=b4 i k
   exact c3 i h3 O W;have e:i=k:=o!;subst e;obtain h4|h4:=Gf (Y i c o! o! W)
   exact absurd ⟨O,h4⟩ B;exact h4
def pz(l:List dD)(ok:Nat->Bool)(told:List Nat):List Nat:=(aY l.length).filter λi=>ok i && !told.contains i
def EG{i}:i∈pz l ok told↔i<l? l/\(ok i && !told.contains i)=t?:=by unfold pz;rw[List.mem_filter,bc]
def Nx{b}(hb:b∈pz l ok told):(pz l ok told).Perm (b::pz l ok (told++[b])):=by
 have O:(pz l ok told).Nodup:=List.Nodup.sublist List.filter_sublist List.nodup_range
 have e:pz l ok (told++[b])=(pz l ok told).erase b:=by rw[O.erase_eq_filter];unfold pz;rw[List.filter_filter];refine List.filter_congr λi _=>?_;rw[bV];simp only[Bool.and_eq_true,Bool.not_eq_true',bne_iff_ne,List.contains_eq_mem,List.mem_append,bk,decide_eq_false_iff_not];constructor;rintro⟨U,B⟩;exact⟨λh=>B (Or.inr h),U,λh=>B (Or.inl h)⟩;rintro⟨U,B,W⟩;exact⟨B,λh=>h.elim W U⟩
 rw[e];exact List.perm_cons_erase hb
def Bp(l)(hn:(l.map dD.name).Nodup)(ok):∀(n)(told)(S:List dD),S.Pairwise (λx y=>eU x y=t?)->S.Perm ((pz l ok told).map λi=>l.getD i iA)->(gS l ok n told).map (λi=>l.getD i iA)=S.take n:=by
 intro n;induction n with
 |zero=>simp[gS]|succ n ih=>
  intro told S hs U;rw[gS]
  cases hb:jx l .. with
  |none=>
   have W:=zU _ hb
   have hc:pz l ok told=[]:=by unfold pz;rw[List.filter_eq_nil_iff];intro i Y;rw[W i (bc.1 Y)];simp
   rw[hc]at U;have:=List.Perm.eq_nil U;subst this;simp
  |some b=>
   obtain⟨b1,b2,b3⟩:=uj hn _ b (bz _) hb;have Bl:=EG.2 ⟨b1,b2⟩;have aa:=(Nx Bl).map (λi=>l.getD i iA);have B:=U.trans aa
   cases S with
   |nil=>exact absurd B.symm.eq_nil i!|cons h S'=>
    have hh:h=l.getD b iA:=by
     refine Classical.byContradiction λO=>?_
     have m1:l.getD b iA∈S':=by
      have:l.getD b iA∈h::S':=B.mem_iff.2 i!;obtain e|e:=List.mem_cons.1 this
      exact absurd e.symm O;exact e
     have a1:=(bj.1 hs).1 _ m1;have m2:h∈(pz l ok told).map _:=U.mem_iff.1 i!;obtain⟨i,Y,e⟩:=List.mem_map.1 m2;have Ey:=EG.1 Y;have ab:i≠b:=λe2=>O (by rw[<-e,e2]);have a2:=b3 i Ey.1 Ey.2 ab;rw[e]at a2;rw[I8 a1]at a2;cases a2
    subst hh;simp only[List.map_cons,List.take_succ_cons];rw[ih _ S' (bj.1 hs).2 ((List.perm_cons _).1 B)]
def vi(t e j:Nat):Bool:=(t / 2 ^ j % 2==0) || (e / 2 ^ j % 2==1)
def mO(t e:Nat):Bool:=e &&& t==t
def yX(n j):n.testBit j=(n / 2 ^ j % 2==1):=by rw[Nat.testBit_eq_decide_div_mod_eq];rfl
def LZ{t e}(W:t<256):mO t e=(aY 8).all λj=>vi t e j:=by
 rw[bV,List.all_eq_true];unfold mO vi;rw[beq_iff_eq];constructor;intro h j _;have B:(e &&& t).testBit j=t.testBit j:=by rw[h]
 rw[b7,yX,yX]at B;have O:t / 2 ^ j % 2=0\/t / 2 ^ j % 2=1:=o!;obtain O|O:=O
 simp[O];rw[O]at B;simp only[beq_self_eq_true,Bool.and_true]at B;simp only[bW];exact Or.inr B;intro h;apply Nat.eq_of_testBit_eq;intro j;rw[b7];obtain U|U:=b4 j 8
 have B:=h j (bc.2 U);rw[yX,yX];simp only[bW,beq_iff_eq]at B;obtain B|B:=B
 simp[B];simp[B];have O:=Nat.testBit_lt_two_pow (Nat.lt_of_lt_of_le W (Nat.pow_le_pow_right (n:=2) o! U));rw[O];simp
def jy(e:dD):Wd:=e.name++(32::(np e.dn.toNat++(32::e.text)))
def oM(mode dE:Nat)(q:Wd)(e:dD):Bool:=mO dE e.dE.toNat&&ik mode (eA q) (dC e)
def kI(l:List dD)(mode:Int)(q:Wd)(dE most:Int):List Wd×Nat:=
 if mode<0\/3<mode\/dE<0\/255<dE\/most<1\/20<most then([],3)
 else if eR q=t? then((gS l (λi=>oM mode.toNat dE.toNat q (l.getD i iA)) most.toNat []).map (λi=>jy (l.getD i iA)),0)else([],2)
def Dz{l S:List dD}(O:(l.map dD.name).Nodup){mode dE most:Int}{q}(U:S.Pairwise (λx y=>eU x y=t?))(W:S.Perm (l.filter λe=>oM mode.toNat dE.toNat q e)) :
  (gS l (λi=>oM mode.toNat dE.toNat q (l.getD i iA)) most.toNat []).map (λi=>jy (l.getD i iA))=(S.take most.toNat).map jy:=by
 have Y:(pz l (λi=>oM mode.toNat dE.toNat q (l.getD i iA)) []).map (λi=>l.getD i iA)=l.filter λe=>oM mode.toNat dE.toNat q e:=by
  unfold pz
  have B:(λi=>oM mode.toNat dE.toNat q (l.getD i iA) && !([]).contains i)=(λe=>oM mode.toNat dE.toNat q e) ∘ λi=>l.getD i iA:=by funext i;simp
  rw[B,<-List.filter_map];congr 1;apply bg;simp;intro i B h2;simp[aW,h2]
 have h:=Bp l O _ most.toNat [] S U (by rw[Y];exact W);have e:(λi=>jy _)=jy ∘ λi=>l.getD i iA:=rfl;rw[e,<-List.map_map,h]
def ES(s p)(w) :
  bo prog 267 #[s? s,s? p] w λe w'=>e=e? (.bool (iW s.1.1 p.1.1))/\w=w':=by
 by_cases h:p.size<=s.size
 .go_wp2;go_ret;rw[yL,bF,bF];simp[h]
 go_wp2;go_ret;rw[yL];simp[h]
def zC(s p)(w) :
  bo prog 240 #[s? s,s? p] w λe w'=>e=e? (.bool (iW s.1.1 p.1.1))/\w=w':=by
 go_enter func240,ntmps240;go_wp2_with fail;refine(ES s p w).mono ?_;rintro e w' ⟨rfl,rfl⟩;go_wp2;go_ret;exact⟨q?,q?⟩
def zI(s)(k:Nat)(w)(hs:s.size<=1099511627776)(hk:k<s.size) :
  bo prog 268 #[s? s,n? i? k] w λe w'=>e=e? (.bool (io s.1.1 k))/\w=w':=by
 have e1:=jr s k hk;have ac:(k:Int)<(s.size:Int):=o!;obtain⟨W,B⟩:∃W,W=jz s[k]:=⟨_,q?⟩;have O:=rF s[k] w;rw[<-B]at O;by_cases h0:k=0
 .subst h0
  have Y:bE (io s.1.1 0=W):=by show _=_;unfold io;rw[e1,<-B];simp
  clear e1 B;go_enter func268,ntmps268;go_wp2_with fail;refine O.mono ?_;rintro e w' ⟨rfl,rfl⟩;clear O
  cases W with
  |false=>go_wp2;go_ret;exact⟨dT Y.symm,q?⟩
  |true=>go_wp2;go_ret;exact⟨dT Y.symm,q?⟩
 have ad:((k:Int)==0)=f?:=by rw[beq_eq_false_iff_ne];omega
 have ab:k-1<s.size:=o!;have e2:=jr s (k-1) ab;obtain⟨b2,U⟩:∃b2,b2=jz s[k-1]:=⟨_,q?⟩;have aa:=rF s[k-1] w;rw[<-U]at aa
 have Y:bE (io s.1.1 k=(W && !b2)):=by show _=_;unfold io;rw[e1,e2,<-B,<-U];simp[h0]
 have ae:(k:Int)-1=((k-1:Nat):Int):=o!;have af:(k:Int)-1<(s.size:Int):=o!;have ag:(0:Int)<=k-1:=o!;clear e1 e2 B U;go_enter func268,ntmps268;go_wp2_with fail;refine O.mono ?_;rintro e w' ⟨rfl,rfl⟩
 cases W with
 |false=>go_wp2;go_ret;exact⟨dT (by rw[Y.out];rfl),q?⟩
 |true=>go_wp2_with fail;refine aa.mono ?_;rintro e w' ⟨rfl,rfl⟩;go_wp2;go_ret;exact⟨dT (by rw[Y.out];rfl),q?⟩
def Dc(qb sb)(w)(hs:sb.size<=1048576) :
  bo prog 241 #[s? qb,s? sb] w λe w'=>e=e? (.bool (ik 1 qb.1.1 sb.1.1))/\w=w':=by
 have HF:bE (ik 1 qb.1.1 sb.1.1=(aY sb.size).any λi=>io sb.1.1 i&&iW (sb.1.1.drop i) qb.1.1):=by show _=_;unfold ik;simp
 go_enter func241,ntmps241;go_wp2;go_loopw [8] (λiv wr=>∃i:Nat,i<=sb.size/\iv=n? i? i/\(∀j,j<i->(io sb.1.1 j&&iW (sb.1.1.drop j) qb.1.1)=f?)/\w=wr) (λi _=>sb.size-(intOf i).toNat)
 case atStart=>exact⟨0,b5 _,q?,λj hj=>o!,q?⟩
 case round=>
  obtain⟨i,hi,rfl,aa,rfl⟩:=hrel;have B:bE _:=aa;clear aa;by_cases ab:i<sb.size
  .have af:(i:Int)<(sb.size:Int):=o!;have ag:(i:Int)<=(sb.size:Int):=o!;obtain⟨b1,O⟩:∃b1,b1=io sb.1.1 i:=⟨_,q?⟩;obtain⟨b2,U⟩:∃b2,b2=iW (sb.1.1.drop i) qb.1.1:=⟨_,q?⟩;have W:=zI sb i w o! ab;have Y:=zC (sb.extract i sb.size) qb w;rw[<-O]at W;rw[Gm,<-U]at Y;have ac:bE _:=O;have ad:bE _:=U;clear O U;go_wp2_with fail;refine W.mono ?_;rintro e w3 ⟨rfl,rfl⟩;clear W
   cases b1 with
   |false=>
    go_wp2;go_roundw
    case rel=>exact⟨i+1,o!,by go_num,λj hj=>by
     obtain h|h:=b4 j i
     exact B j h;have e:j=i:=o!
     subst e;rw[<-ac.out];rfl,t!⟩
    case measure=>simp[intOf];omega
   |true=>
    go_wp2_with fail;refine Y.mono ?_;rintro e w4 ⟨rfl,rfl⟩;clear Y
    cases b2 with
    |false=>
     go_wp2;go_roundw
     case rel=>exact⟨i+1,o!,by go_num,λj hj=>by
      obtain h|h:=b4 j i
      exact B j h;have e:j=i:=o!
      subst e;rw[<-ad.out];simp,t!⟩
     case measure=>simp[intOf];omega
    |true=>
     have HY:bE (ik 1 qb.1.1 sb.1.1=t?):=by show _=_;rw[HF.out];exact any_some i ab (by rw[<-ac.out,<-ad.out];rfl)
     go_wp2;go_ret;exact⟨dT HY.symm,q?⟩
  have ae:i=sb.size:=o!;subst ae
  have HY:bE (ik 1 qb.1.1 sb.1.1=f?):=by exact any_none B
  go_wp2;go_ret;exact⟨dT HY.symm,q?⟩
def Ci(n):(br #[Value.int i? 0] n).toList=dV (ba n 0):=by apply bg;simp[br,dV];simp[br,dV,Nat.mod_one]
def lU(n i:Nat):List Nat:=aY i++ba (n-i) 0
def Kc{n i}(h:i<=n):(lU n i).length=n:=by simp[lU];omega
def Gs{n i}(h:i<n):(dV (lU n i)).set i (n? i? i)=dV (lU n (i+1)):=by
 have e:n-i=(n-(i+1))+1:=o!
 have B:lU n (i+1)=(lU n i).set i i:=by unfold lU;rw[e,bd,bh];simp
 rw[B];unfold dV;rw[bm]
def IA(n):lU n n=aY n:=by simp[lU]
def yE(qb)(w)(hq:qb.size<=1048576) :
  bo prog 269 #[s? qb] w λe w'=>∃g,e=e? (.slice (y? ⟨g,0,x?⟩) (qb.size+1) (qb.size+1))/\w'.ownsRow w.1.size 3 1 (.slice (y? ⟨g,0,x?⟩) (qb.size+1) (qb.size+1)) (qb.size+1) (dV (aY (qb.size+1)))/\Below w.1.size w w':=by
 obtain⟨i3,ac,ad,ae,hy2⟩:=bv Pt;go_enter func269,ntmps269;go_wp2_with (at_make;go_must (refine bw _ q? _ _ 26 q? w.1.size 3 i3 (n? i? 0) 1 bJ ac ad ae i? i? _ _ (qb.size+1) q? q? q? q? ?m1 ?m2 ?m3 ?_))
 case m1=>rw[hy2];omega
 case m2=>unfold bu;omega
 case m3=>exact bz _
 intro w5 W Y;have HB5:bE (Below w.1.size w w5):=(bG _ _).grown Y (bz _) i!
 have HT5:bE (w5.ownsRow w.1.size 3 1 (.slice (y? ⟨w.1.size,0,x?⟩) (qb.size+1) (qb.size+1)) (qb.size+1) (dV (lU (qb.size+1) 0))):=by
  show b8 _ _ _ _ _ _ _;have e:(br #[Value.int i? 0] (qb.size+1)).toList=dV (lU (qb.size+1) 0):=by rw[Ci];simp[lU]
  rw[<-e];exact W
 clear W Y;generalize hg:w.1.size=g at *;have aa:bE (w.1.size=g):=hg;clear hg;go_wp2;go_loopw [11] (λiv wr=>∃i:Nat,i<=qb.size+1/\iv=n? i? i/\wr.ownsRow g 3 1 (.slice (y? ⟨g,0,x?⟩) (qb.size+1) (qb.size+1)) (qb.size+1) (dV (lU (qb.size+1) i))/\Below g w wr) (λi _=>qb.size+1-(intOf i).toNat)
 case atStart=>exact⟨0,b5 _,q?,HT5.out,HB5.out⟩
 case round=>
  obtain⟨i,hi,rfl,B,O⟩:=hrel;by_cases U:i<qb.size+1
  .have ah:(i:Int)<(qb.size:Int)+1:=o!;obtain⟨bt,ot,ab,af⟩:=fy B i _ (gR _ i (by rw[Kc hi];exact U));simp only[bD,bT]at ab;obtain⟨rfl,rfl,_⟩:=ab;rw[b6]at af;have ai:=nA B i
   have HO6:bE ((wr.setCell ⟨g,i,x?⟩ (n? i? i)).ownsRow g 3 1 (.slice (y? ⟨g,0,x?⟩) (qb.size+1) (qb.size+1)) (qb.size+1) (dV (lU (qb.size+1) (i+1)))):=by show b8 _ _ _ _ _ _ _;rw[<-Gs U];exact sy B i _ U
   have HB6:bE (Below g w (wr.setCell ⟨g,i,x?⟩ (n? i? i))):=by exact bH O (bz _) _
   clear B O;go_wp2;go_roundw
   case rel=>exact⟨i+1,o!,by go_num,HO6.out,HB6.out⟩
   case measure=>simp[intOf];omega
  have ag:i=qb.size+1:=o!;subst ag
  have HO6:bE (wr.ownsRow g 3 1 (.slice (y? ⟨g,0,x?⟩) (qb.size+1) (qb.size+1)) (qb.size+1) (dV (aY (qb.size+1)))):=by rw[<-IA];exact B
  have HB6:bE _:=O;go_wp2;go_ret;exact⟨g,q?,by rw[aa.out];exact HO6.out,by rw[aa.out];exact HB6.out⟩
variable {row:List Nat} {i z:Nat} {c:UInt8} {q:Wd}
def lJ(q:Wd)(c:UInt8)(row:List Nat)(z n i:Nat):List Nat:=gp q c row z i++ba (n-i) 0
def CL(h:i<=n):(lJ q c row z n i).length=n+1:=by unfold lJ;rw[List.length_append,jX,List.length_replicate];omega
def Mf:(lJ q c row z n i).getD i 0=(gp q c row z i).getD i 0:=by unfold lJ;rw[aW,aW,bi (by rw[jX];omega)]
def zo{m}(h:i<n)(hm:m=min (min (row.getD i 0+(if q.getD i 0=c then 0 else 1)) (row.getD (i+1) 0+1)) ((gp q c row z i).getD i 0+1)) :
  (dV (lJ q c row z n i)).set (i+1) (n? i? m)=dV (lJ q c row z n (i+1)):=by
 have e:n-i=(n-(i+1))+1:=o!
 have B:lJ q c row z n (i+1)=(lJ q c row z n i).set (i+1) m:=by unfold lJ;rw[List.set_append_right _ _ (by rw[jX];omega),jX,e,bd,gp,<-hm];simp
 rw[B];unfold dV;rw[bm]
def MX(q)(c)(row)(z n):lJ q c row z n n=gp q c row z n:=by simp[lJ]
def JB(q)(c)(row)(z n:Nat):(dV (ba (n+1) 0)).set 0 (n? i? z)=dV (lJ q c row z n 0):=by simp[lJ,gp,dV,bd]
def Jj(row)(qb)(c)(v)(w)(hq:qb.size<=1048576)(hv:Rd w v (dV row))(hl:l? row=qb.size+1)(ao:∀x∈row,x<=2097152) :
  bo prog 270 #[v,s? qb,n? .u8 c.toNat] w λe w'=>∃g,e=e? (.slice (y? ⟨g,0,x?⟩) (qb.size+1) (qb.size+1))/\w'.ownsRow w.1.size 3 1 (.slice (y? ⟨g,0,x?⟩) (qb.size+1) (qb.size+1)) (qb.size+1) (dV (gp qb.1.1 c row (row.getD 0 0+1) qb.size))/\B? w w':=by
 obtain⟨i3,a3,a4,a5,hy2⟩:=bv Pt;have aa:bE _:=hl;have ac:bE _:=ao;obtain⟨aQ,cQ,rfl,_,_,ap⟩:=hv;have ah:bE _:=ap;have aq:(dV row).length=qb.size+1:=by rw[zL,hl]
 rw[aq];clear ap hl ao aq;obtain⟨bQ,oQ,rfl,qz⟩:=ah.out 0 _ (gR row 0 (by rw[aa.out];omega));rw[Nat.add_zero]at qz;obtain⟨W,ai⟩:∃W,W=row.getD 0 0:=⟨_,q?⟩;have aB:W<=2097152:=by rw[ai,aW,aX (by rw[aa.out];omega)];exact ac _ (aZ _)
 rw[<-ai]at qz⊢;clear ai;have aJ:(0:Int)<(qb.size:Int)+1:=o!;have aK:bQ<w.1.size:=World.block_lt_of_cell? w _ qz;go_enter func270,ntmps270;go_wp2_with (at_make;go_must (refine bw _ q? _ _ 26 q? w.1.size 3 i3 (n? i? 0) 1 bJ a3 a4 a5 i? i? _ _ (qb.size+1) q? q? q? q? ?m1 ?m2 ?m3 ?_))
 case m1=>rw[hy2];omega
 case m2=>unfold bu;omega
 case m3=>exact bz _
 intro w5 ab ar;have aj:bE (B? w w5):=(bG _ _).grown ar (bz _) i!;have e:(br #[Value.int i? 0] (qb.size+1)).toList=dV (ba (qb.size+1) 0):=Ci _;rw[e]at ab;have a6:=bn aj qz;obtain⟨bt,ot,Y,ag⟩:=fy ab 0 _ (gR _ 0 i!);simp only[bD,bT]at Y;obtain⟨rfl,rfl,_⟩:=Y;rw[b6]at ag;have au:=nA ab 0
 have HT6:bE ((w5.setCell ⟨w.1.size,0,x?⟩ (n? i? ((W:Int)+1))).ownsRow w.1.size 3 1 (.slice (y? ⟨w.1.size,0,x?⟩) (qb.size+1) (qb.size+1)) (qb.size+1) (dV (lJ qb.1.1 c row (W+1) qb.size 0))):=by show b8 _ _ _ _ _ _ _;rw[<-JB];have h:=sy ab 0 (n? i? ((W+1:Nat):Int)) o!;simpa using h
 have HB6:bE (B? w (w5.setCell ⟨w.1.size,0,x?⟩ (n? i? ((W:Int)+1)))):=by exact bH aj (bz _) _
 clear ab ar e;go_wp2;go_loopw [22] (λiv wr=>∃i:Nat,i<=qb.size/\iv=n? i? i/\wr.ownsRow w.1.size 3 1 (.slice (y? ⟨w.1.size,0,x?⟩) (qb.size+1) (qb.size+1)) (qb.size+1) (dV (lJ qb.1.1 c row (W+1) qb.size i))/\B? w wr) (λi _=>qb.size-(intOf i).toNat)
 case atStart=>exact⟨0,b5 _,q?,HT6,HB6⟩
 case round=>
  obtain⟨i,hi,rfl,B,O⟩:=hrel;by_cases ak:i<qb.size
  .have aC:(i:Int)<(qb.size:Int):=o!;have aD:(i:Int)<(qb.size:Int)+1:=o!;have aE:(i:Int)+1<(qb.size:Int)+1:=o!;have aL:(0:Int)<=(i:Int)+1:=o!;obtain⟨r0,ad⟩:∃r0,r0=row.getD i 0:=⟨_,q?⟩;obtain⟨U,ae⟩:∃U,U=row.getD (i+1) 0:=⟨_,q?⟩;obtain⟨x,hx⟩:∃x,x=(gp qb.1.1 c row (W+1) i).getD i 0:=⟨_,q?⟩;have aF:r0<=2097152:=by rw[ad,aW,aX (by rw[aa.out];omega)];exact ac _ (aZ _)
   have aG:U<=2097152:=by rw[ae,aW,aX (by rw[aa.out];omega)];exact ac _ (aZ _)
   have aM:x<=4194304:=by rw[hx,aW,aX (by rw[jX];omega)];exact qW _ _ row (W+1) 4194304 o! (λy hy=>by have:=ac.out y hy;omega) i (by rw[aa.out];omega) _ (aZ _)
   obtain⟨b0,o0,av,q0⟩:=ah.out i _ (gR row i (by rw[aa.out];omega));simp only[bD,bT]at av;obtain⟨rfl,rfl,_⟩:=av;obtain⟨b1,o1,aw,q1⟩:=ah.out (i+1) _ (gR row (i+1) (by rw[aa.out];omega));simp only[bD,bT]at aw;obtain⟨rfl,rfl,_⟩:=aw;have p0:=bn O q0;have p1:=bn O q1;rw[<-ad]at p0;rw[<-ae]at p1;obtain⟨bt,ot,Y,al⟩:=fy B i _ (gR _ i (by rw[CL hi];omega));simp only[bD,bT]at Y;obtain⟨rfl,rfl,_⟩:=Y;rw[b6,Mf,<-hx]at al;obtain⟨bt,ot,Y,am⟩:=fy B (i+1) _ (gR _ (i+1) (by rw[CL hi];omega));simp only[bD,bT]at Y;obtain⟨rfl,rfl,_⟩:=Y;rw[b6]at am;obtain⟨ov,aN⟩:∃ov:Int,wr.cell? ⟨w.1.size,i+1,x?⟩=y? (n? i? ov):=⟨_,am⟩;have aO:=nA B (i+1);have ax:bE (row.getD i 0=r0):=ad.symm;have ay:bE (row.getD (i+1) 0=U):=ae.symm;have az:bE ((gp qb.1.1 c row (W+1) i).getD i 0=x):=hx.symm;have aP:IntKind.i64.wrap ((i:Int)+1)=(i:Int)+1:=CG _ _ q? o! o!;have aH:IntKind.i64.wrap ((U:Int)+1)=(U:Int)+1:=CG _ _ q? o! o!;have aI:IntKind.i64.wrap ((x:Int)+1)=(x:Int)+1:=CG _ _ q? o! o!;have a0:bE (qb.1.1.getD i 0=qb[i]):=jr qb i ak;have a1:bE _:=B;have a7:bE _:=O;clear q0 q1 ad ae hx B O am HT6 HB6 aj ag au a6;by_cases hc:qb[i]=c
   case' pos=>
    have a8:((qb[i].toNat:Int)==(c.toNat:Int))=t?:=by rw[sN,hc];simp
    have an:bE ((if qb.1.1.getD i 0=c then 0 else 1)=0):=by show _=_;rw[a0.out,if_pos hc]
    have HM:bE (∀m:Nat,m=min (min (r0) (U+1)) (x+1)->(dV (lJ qb.1.1 c row (W+1) qb.size i)).set (i+1) (n? i? (m:Int))=dV (lJ qb.1.1 c row (W+1) qb.size (i+1))):=λm hm=>zo ak (by rw[ax.out,ay.out,az.out,an.out];omega);clear hc;go_wp2
   case' neg=>
    have a8:((qb[i].toNat:Int)==(c.toNat:Int))=f?:=by rw[sN];simpa using hc
    have an:bE ((if qb.1.1.getD i 0=c then 0 else 1)=1):=by show _=_;rw[a0.out,if_neg hc]
    have HM:bE (∀m:Nat,m=min (min (r0+1) (U+1)) (x+1)->(dV (lJ qb.1.1 c row (W+1) qb.size i)).set (i+1) (n? i? (m:Int))=dV (lJ qb.1.1 c row (W+1) qb.size (i+1))):=λm hm=>zo ak (by rw[ax.out,ay.out,az.out,an.out];omega);clear hc;go_wp2
   all_goals
    have s0:(wr.drew).cell? ⟨bQ,oQ+(i+1),x?⟩=y? (n? i? U):=p1;have s1:(wr.drew).cell? ⟨w.1.size,i,x?⟩=y? (n? i? x):=al;refine wp_region_held (S:=λw'=>w'.cell? ⟨bQ,oQ+(i+1),x?⟩=y? (n? i? U)/\w'.cell? ⟨w.1.size,i,x?⟩=y? (n? i? x)) k! ?_;refine fV 0 ?_ ⟨s0,s1⟩ ?_<|fV 1 ?_ ⟨s0,s1⟩ ?_<|fV 2 ?_ ⟨s0,s1⟩ ?_<|fV 3 ?_ ⟨s0,s1⟩ ?_<|fV 4 ?_ ⟨s0,s1⟩ ?_<|fV 5 ?_ ⟨s0,s1⟩ ?_<|fV 6 ?_ ⟨s0,s1⟩ ?_<|fV 7 ?_ ⟨s0,s1⟩ ?_<|fV 8 ?_ ⟨s0,s1⟩ ?_<|fV 9 ?_ ⟨s0,s1⟩ ?_<|fV 10 ?_ ⟨s0,s1⟩ ?_<|fV 11 ?_ ⟨s0,s1⟩ ?_<|fV 12 ?_ ⟨s0,s1⟩ ?_<|fV 13 ?_ ⟨s0,s1⟩ ?_<|fV 14 ?_ ⟨s0,s1⟩ ?_<|fV 15 ?_ ⟨s0,s1⟩ ?_<|fV 16 ?_ ⟨s0,s1⟩ ?_ ?_
    any_goals(rintro w' ⟨t0,t1⟩;go_simp;first|done|with_reducible rfl)
    refine kL 17 λK' a2=>?_;unfold Oper.wp;go_simp
   case' pos=>
    obtain⟨m,hm⟩:∃m:Nat,m=min (min (r0) (U+1)) (x+1):=⟨_,q?⟩
    have af:(if(x:Int)+1<(if(U:Int)+1<(r0:Int)then(U:Int)+1 else(r0:Int))then(x:Int)+1 else(if(U:Int)+1<(r0:Int)then(U:Int)+1 else(r0:Int)))=(m:Int):=by rw[hm];split<;>split at * <;> omega
    rw[af]
   case' neg=>
    obtain⟨m,hm⟩:∃m:Nat,m=min (min (r0+1) (U+1)) (x+1):=⟨_,q?⟩
    have af:(if(x:Int)+1<(if U<r0 then(U:Int)+1 else((r0:Int)+1))then(x:Int)+1 else(if U<r0 then(U:Int)+1 else((r0:Int)+1)))=(m:Int):=by rw[hm];split<;>split at * <;> omega
    rw[af]
   all_goals
    have HO8:bE ((wr.setCell ⟨w.1.size,i+1,x?⟩ (n? i? m)).drew.ownsRow w.1.size 3 1 (.slice (y? ⟨w.1.size,0,x?⟩) (qb.size+1) (qb.size+1)) (qb.size+1) (dV (lJ qb.1.1 c row (W+1) qb.size (i+1)))):=by show b8 _ _ _ _ _ _ _;rw[<-HM.out m hm];exact sy a1 (i+1) (n? i? m) o!
    have HB8:bE (B? w (wr.setCell ⟨w.1.size,i+1,x?⟩ (n? i? m)).drew):=(bH a7 (bz _) _).drew;refine a2 _ _ ⟨⟨?_,?_⟩,wpAnyH_done k! ?_ _⟩;show(wr.setCell ⟨w.1.size,i+1,x?⟩ (n? i? m)).cell? _=_;rw[World.cell?_setCell_far _ _ _ _ (by show w.1.size≠bQ;omega)];exact p1
    .show(wr.setCell ⟨w.1.size,i+1,x?⟩ (n? i? m)).cell? _=_;rw[World.cell?_setCell_other _ _ _ _ (by intro e;simp at e)];exact al
    clear a2 af hm;go_wp2;go_roundw
    case rel=>exact⟨i+1,o!,by go_num,HO8,HB8⟩
    case measure=>simp[intOf];omega
  have a9:i=qb.size:=o!;subst a9
  have a':bE (wr.ownsRow w.1.size 3 1 (.slice (y? ⟨w.1.size,0,x?⟩) (qb.size+1) (qb.size+1)) (qb.size+1) (dV (gp qb.1.1 c row (W+1) qb.size))):=by show b8 _ _ _ _ _ _ _;rw[<-MX];exact B
  have aA:bE _:=O;clear B O;go_wp2;go_ret;exact⟨w.1.size,q?,a',aA⟩
def Hp(a)(c)(row)(z):∀i,(gp a c row z i).getD 0 0=z:=by
 intro i;induction i with
 |zero=>rfl|succ i B=>rw[gp,aW,bi (by rw[jX];omega)];exact B
def JW(a s)(k):(iT a s k).getD 0 0=k:=by
 cases k with
 |zero=>simp[iT]|succ k=>rw[iT,Hp]
def rV(qb sb)(most:Nat)(w)(aq:1<=most)(ar:most<=2)(hq:qb.size<=1048576)(hs:sb.size<=1048576) :
  bo prog 242 #[s? qb,s? sb,n? i? most] w λe w'=>e=e? (.bool (ik (most+1) qb.1.1 sb.1.1))/\B? w w':=by
 have ac:l? qb.1.1=qb.size:=i!;have O:bE _:=ac
 have HF:bE (ik (most+1) qb.1.1 sb.1.1=(aY (sb.size+1)).any λk=>decide (pw qb.1.1 sb.1.1 k<most+1)):=by show _=_;unfold ik;rw[if_neg o!,if_neg o!];simp
 clear ac;go_enter func242,ntmps242;go_wp2_with fail;refine(yE qb w hq).mono ?_;rintro e w1 ⟨g1,rfl,ad,ae⟩
 have HO1:bE (w1.ownsRow w.1.size 3 1 (.slice (y? ⟨g1,0,x?⟩) (qb.size+1) (qb.size+1)) (qb.size+1) (dV (iT qb.1.1 sb.1.1 0))):=by show b8 _ _ _ _ _ _ _;rw[iT,O.out];exact ad
 have HB1:bE _:=ae;clear ad ae;go_wp2;go_loopw [7,13] (λv iv wr=>∃(k g:Nat),k<=sb.size/\iv=n? i? k/\v=.slice (y? ⟨g,0,x?⟩) (qb.size+1) (qb.size+1)/\wr.ownsRow w.1.size 3 1 (.slice (y? ⟨g,0,x?⟩) (qb.size+1) (qb.size+1)) (qb.size+1) (dV (iT qb.1.1 sb.1.1 k))/\(∀j,j<k->¬pw qb.1.1 sb.1.1 j<most+1)/\B? w wr) (λ_ i _=>sb.size-(intOf i).toNat)
 case atStart=>exact⟨0,g1,b5 _,q?,q?,HO1,λj hj=>o!,HB1⟩
 case round=>
  obtain⟨k,g,hk,rfl,rfl,B,af,U⟩:=hrel;have ag:bE _:=af;have aa:bE _:=U;have HS:=U.size;have au:(qb.size:Int)<(qb.size:Int)+1:=o!;obtain⟨dd,ab⟩:∃dd,dd=pw qb.1.1 sb.1.1 k:=⟨_,q?⟩;obtain⟨bt,ot,ah,ak⟩:=fy B qb.size _ (gR _ qb.size (by rw[qI,O.out];omega));simp only[bD,bT]at ah;obtain⟨rfl,rfl,_⟩:=ah;have e1:(iT qb.1.1 sb.1.1 k).getD qb.size 0=dd:=by rw[ab];unfold pw;rw[O.out]
  rw[b6,e1]at ak;have W:bE _:=ab;clear af U ab e1;by_cases al:k<sb.size
  .have ap:(k:Int)<(sb.size:Int):=o!;by_cases hd:dd<=most
   .have am:(dd:Int)<=(most:Int):=o!
    have HY:bE (ik (most+1) qb.1.1 sb.1.1=t?):=by show _=_;rw[HF.out];exact any_some k o! (by rw[<-W.out];simp;omega)
    clear B;go_wp2;go_ret;exact⟨dT HY.symm,aa⟩
   have am:¬((dd:Int)<=(most:Int)):=o!;have Y:=Jj (iT qb.1.1 sb.1.1 k) qb sb[k] (.slice (y? ⟨g,0,x?⟩) (qb.size+1) (qb.size+1)) wr hq (Rd.eL B) (by rw[qI,O.out]) (λx hx=>by have:=xC _ _ _ x hx;rw[O.out]at this;omega);rw[JW]at Y
   have e2:gp qb.1.1 sb[k] (iT qb.1.1 sb.1.1 k) (k+1) qb.size=iT qb.1.1 sb.1.1 (k+1):=by rw[iT,O.out,jr sb k al]
   rw[e2]at Y;clear B e2;go_wp2_with fail;refine Y.mono ?_;rintro e w3 ⟨g3,rfl,ai,aj⟩;have HO3:bE (w3.ownsRow w.1.size 3 1 (.slice (y? ⟨g3,0,x?⟩) (qb.size+1) (qb.size+1)) (qb.size+1) (dV (iT qb.1.1 sb.1.1 (k+1)))):=fj ai HS;have an:bE (B? w w3):=aa.trans (aj.mono HS);clear Y ai aj;go_wp2;go_roundw
   case rel=>exact⟨k+1,g3,o!,by go_num,q?,HO3,λj hj=>by
    obtain h|h:=b4 j k
    exact ag j h;have e:j=k:=o!
    subst e;rw[<-W.out];omega,an⟩
   case measure=>simp[intOf];omega
  have ao:k=sb.size:=o!;subst ao
  have HY:bE (ik (most+1) qb.1.1 sb.1.1=decide (dd<=most)):=by
   show _=_;rw[HF.out];by_cases hd:dd<=most;rw[any_some sb.size o! (by rw[<-W.out];simp;omega)];simp;omega;rw[any_none (λi hi=>?_)];simp;omega;obtain h|h:=b4 i sb.size
   have:=ag.out i h;simpa using this;have e:i=sb.size:=o!;subst e;rw[<-W.out];simp;omega
  go_wp2;go_ret;exact⟨dT HY.symm,aa⟩
def L7(m:Nat)(qb sb)(w)(hm:m<=3)(O:qb.size<=1048576)(B:sb.size<=1048576) :
  bo prog 215 #[n? i? m,s? qb,s? sb] w λe w'=>e=e? (.bool (ik m qb.1.1 sb.1.1))/\B? w w':=by
 have U:m=0\/m=1\/m=2\/m=3:=o!;obtain rfl|rfl|rfl|rfl:=U
 .have W:bE (ik 0 qb.1.1 sb.1.1=iW sb.1.1 qb.1.1):=rfl;go_enter bO,bK;go_wp2_with fail;refine(zC sb qb w).mono ?_;rintro e w' ⟨rfl,rfl⟩;go_wp2;go_ret;exact⟨dT W.symm,bG _ _⟩
 .go_enter bO,bK;go_wp2_with fail;refine(Dc qb sb w B).mono ?_;rintro e w' ⟨rfl,rfl⟩;go_wp2;go_ret;exact⟨q?,bG _ _⟩
 .go_enter bO,bK;go_wp2_with fail;refine(rV qb sb 1 w o! o! O B).mono ?_;rintro e w' ⟨rfl,hb⟩;go_wp2;go_ret;exact⟨q?,hb⟩
 go_enter bO,bK;go_wp2_with fail;refine(rV qb sb 2 w o! o! O B).mono ?_;rintro e w' ⟨rfl,hb⟩;go_wp2;go_ret;exact⟨q?,hb⟩
def pP(i){P ops md Q oi fuel listed C a}
  (h:WX eJ P md ops Q fuel (listed.setIfInBounds i t?) C (a.put oi.dst undef)) (B:ops[i]?=y? oi:=by rfl) (O:Region.noSelect ops=t?:=by kernel_rfl) (U:Region.free md ops listed i=t?:=by kernel_rfl) (W:(Region.ready md ops listed).contains i=t?:=by kernel_rfl) (hC:fW eJ C:=by exact fC _)
  (Y:Region.wanted oi (yielded ops a.tmps)=f?:=by rfl):WX eJ P md ops Q (fuel+1) listed C a:=
 FI B (Region.noSelect_spec O) fuel listed C a (Region.free_spec B U) (u! W) hC (.inr ⟨Y,q?⟩) h
def Na(x y:Nat)(B:x<256)(O:y<256):bits .and i? x y=((x &&& y:Nat)):=by
 show IntKind.i64.wrap ((BitVec.ofInt 64 x &&& BitVec.ofInt 64 y).toNat)=_;rw[BitVec.toNat_and]
 have e:∀n:Nat,n<256->(BitVec.ofInt 64 n).toNat=n:=λn U=>by rw[BitVec.toNat_ofInt];omega
 rw[e x B,e y O];have W:x &&& y<=x:=Nat.and_le_left;exact CG _ _ q? o! o!
def QY(m tg:Nat)(qb)(nm tx)(wt U)(w)(hm:m<=3)(ah:tg<256)(al:0<=U)(am:U<=255)(hq:qb.size<=1048576)(ht:tx.size<=1048576) :
  bo prog 160 #[.agg #[n? i? m,s? qb,n? i? tg],.agg #[s? nm,s? tx,n? i? wt,n? i? U]] w λe w'=>e=e? (.bool (mO tg U.toNat&&ik m qb.1.1 (eA tx.1.1)))/\B? w w':=by
 obtain⟨w0,Y⟩:∃w0,((w.alloc (c? #[n? i? m,s? qb,n? i? tg] 94)).alloc (c? #[s? nm,s? tx,n? i? wt,n? i? U] 96))=w0:=⟨_,q?⟩;have ab:bE (B? w w0):=Y▸((bG _ _).alloc (bz _) _).alloc i! _;have q0:w0.1[w.1.size]?=y? (c? #[n? i? m,s? qb,n? i? tg] 94):=by rw[<-Y,bI _ _ _ i!];simp[bC,-bB]
 have q1:w0.1[w.1.size+1]?=y? (c? #[s? nm,s? tx,n? i? wt,n? i? U] 96):=by rw[<-Y];simp[bC,-bB,Array.getElem_push]
 have d0:=dq q0 0;have d1:=dq q0 1;have d2:=dq q0 2;have d3:=dq q1 3;have d4:=dq q1 1;simp at d0 d1 d2 d3 d4;clear q0 q1;have HW:bE _:=Y;clear Y;go_enter func160,ntmps160;go_wp2_with fail;rw[HW.out];clear HW;obtain⟨fb,ac⟩:∃fb,fb=ik m qb.1.1 (eA tx.1.1):=⟨_,q?⟩;obtain⟨kb,ad⟩:∃kb:ByteArray,kb=⟨(eA tx.1.1).toArray⟩:=⟨_,q?⟩
 have ag:kb.size<=1048576:=by rw[ad];show(eA tx.1.1).toArray.size<=_;rw[bf,fO];simp;omega
 have ai:bE (∀y:w?,bo prog 50 #[s? tx] y λe w'=>e=e? (s? kb)/\eJ y w'):=λy=>by rw[ad];exact tr tx y o!
 have aj:bE (∀y:w?,bo prog 215 #[n? i? m,s? qb,s? kb] y λe w'=>e=e? (.bool fb)/\eJ y w'):=λy=>by
  have h:=L7 m qb kb y hm hq ag;have e1:kb.1.1=eA tx.1.1:=by rw[ad]
  rw[e1,<-ac]at h;exact h
 have O:=Na U.toNat tg o! ah;rw[(o!:((U.toNat:Nat):Int)=U)]at O;clear ad ag hm hq ht;by_cases W:U.toNat &&& tg=tg
 .have ak:bits .and i? U (tg:Int)=(tg:Int):=by rw[O,W]
  have aa:bE (fb=(mO tg U.toNat&&ik m qb.1.1 (eA tx.1.1))):=by show _=_;unfold mO;rw[W,<-ac];simp
  clear O W ac;refine jm k! ?_;refine dx 0 ?_ ?_<|dx 1 ?_ ?_<|dx 2 ?_ ?_<|dx 3 ?_ ?_<|dx 4 ?_ ?_<|dx 5 ?_ ?_<|dx 6 ?_ ?_<|dx 7 ?_ ?_<|dx 8 ?_ ?_ ?_
  any_goals(intro y B;have q:=bn B d3;have q1:=bn B d2;unfold fL;go_simp;refine⟨eJ.refl _,?_⟩;with_reducible rfl)
  go_simp;refine dx 9 ?_ ?_ ?_
  any_goals(intro y B;have q:=bn B d0;have q1:=bn B d1;have q2:=bn B d4;unfold fL;go_simp;refine⟨eJ.refl _,?_⟩;with_reducible rfl)
  go_simp;refine dx 10 ?_ ?_ ?_
  any_goals(intro y B;have q:=bn B d0;have q1:=bn B d1;have q2:=bn B d4;unfold fL;go_simp;refine⟨eJ.refl _,?_⟩;with_reducible rfl)
  go_simp;refine dx 11 ?_ ?_ ?_
  any_goals(intro y B;have q:=bn B d0;have q1:=bn B d1;have q2:=bn B d4;unfold fL;go_simp;refine⟨eJ.refl _,?_⟩;with_reducible rfl)
  go_simp;refine dx 12 ?_ ?_ ?_
  any_goals(intro y B;have q:=bn B d0;have q1:=bn B d1;have q2:=bn B d4;unfold fL;go_simp;refine⟨eJ.refl _,?_⟩;with_reducible rfl)
  go_simp;refine dx 13 ?_ ?_ ?_
  any_goals(intro y B;have q:=bn B d0;have q1:=bn B d1;have q2:=bn B d4;unfold fL;go_simp;refine⟨eJ.refl _,?_⟩;with_reducible rfl)
  go_simp;refine dx 14 ?_ ?_ ?_
  any_goals(intro y B;have q:=bn B d0;have q1:=bn B d1;have q2:=bn B d4;unfold fL;go_simp;refine⟨eJ.refl _,?_⟩;with_reducible rfl)
  go_simp;refine dx 15 ?_ ?_ ?_;rotate_left
  .intro y B;unfold fL;go_simp;refine⟨q?,(ai y).mono ?_⟩;rintro e y2 ⟨rfl,h2⟩;refine⟨_,q?,h2,?_⟩;with_reducible rfl
  go_simp;refine dx 16 ?_ ?_ ?_;rotate_left
  .intro y B;unfold fL;go_simp;refine⟨q?,(aj y).mono ?_⟩;rintro e y2 ⟨rfl,h2⟩;refine⟨_,q?,h2,?_⟩;with_reducible rfl
  go_simp;refine dx 17 ?_ ?_<|dx 18 ?_ ?_ ?_
  any_goals(intro y B;unfold fL;go_simp;refine⟨eJ.refl _,?_⟩;with_reducible rfl)
  refine pS k! ?_ _;intro y B;have af:bE (B? w y):=ab.trans (Below.mono B ab.size);clear B;go_simp;go_wp2;go_ret;exact⟨dT aa,af⟩
 obtain⟨an,ae⟩:∃an:Nat,an=U.toNat &&& tg:=⟨_,q?⟩;have ak:bits .and i? U (tg:Int)=(an:Int):=by rw[O,ae]
 have ap:((an:Int)==(tg:Int))=f?:=by rw[beq_eq_false_iff_ne];rw[ae];omega
 have ao:¬an=tg:=by rw[ae];exact W
 have aa:bE (f?=(mO tg U.toNat&&ik m qb.1.1 (eA tx.1.1))):=by show _=_;unfold mO;rw[beq_eq_false_iff_ne.2 W];rfl
 clear O W ac ae;refine jm k! ?_;refine dx 0 ?_ ?_<|dx 1 ?_ ?_<|dx 2 ?_ ?_<|dx 3 ?_ ?_<|dx 4 ?_ ?_<|dx 5 ?_ ?_<|dx 6 ?_ ?_<|dx 7 ?_ ?_<|dx 8 ?_ ?_ ?_
 any_goals(intro y B;have q:=bn B d3;have q1:=bn B d2;unfold fL;go_simp;refine⟨eJ.refl _,?_⟩;with_reducible rfl)
 go_simp;refine pP 9 ?_;go_simp;refine pP 10 ?_;go_simp;refine pP 11 ?_;go_simp;refine pP 12 ?_;go_simp;refine pP 13 ?_;go_simp;refine pP 14 ?_;go_simp;refine pP 15 ?_;go_simp;refine pP 16 ?_;go_simp;refine dx 17 ?_ ?_<|dx 18 ?_ ?_ ?_
 any_goals(intro y B;unfold fL;go_simp;refine⟨eJ.refl _,?_⟩;with_reducible rfl)
 refine pS k! ?_ _;intro y B;have af:bE (B? w y):=ab.trans (Below.mono B ab.size);clear B;go_simp;go_wp2;go_ret;exact⟨dT aa,af⟩
def lB(w:w?)(o){k}(h:k=w.1.size):(w.alloc o).1[k]?=y? o:=by subst h;show(w.1.push o)[w.1.size]?=y? o;simp
def jL(w:w?)(o){k}(h:k<w.1.size):(w.alloc o).1[k]?=w.1[k]?:=by exact bI w o k h
def Bq(k at':Int)(nm:ByteArray)(b:Bool)(n2 tx:ByteArray)(wt B:Int):v?:=.agg #[n? i? k,n? i? at',s? nm,.bool b,s? n2,s? tx,n? i? wt,n? i? B]
def QG:ByteArray:=⟨#[]⟩
def EW(k at')(nm)(g)(n2 tx)(wt et)(m tg:Nat)(qb)(w)(hm:m<=3)(aa:tg<256)(W:g=f?->0<=et/\et<=255)(hq:qb.size<=1048576)(ht:tx.size<=1048576) :
  bo prog 119 #[.agg #[n? i? k,n? i? at'],s? nm,.agg #[.bool g,s? n2,s? tx,n? i? wt,n? i? et],.agg #[n? i? m,s? qb,n? i? tg]] w λe w'=>e=e? (if(!g&&(mO tg et.toNat&&ik m qb.1.1 (eA tx.1.1)))=t? then Bq k at' nm t? n2 tx wt et else Bq k at' nm f? QG QG 0 0)/\B? w w':=by
 obtain⟨b,hb⟩:∃b,b=(mO tg et.toNat&&ik m qb.1.1 (eA tx.1.1)):=⟨_,q?⟩
 have HC:bE (g=f?->∀y:w?,bo prog 160 #[.agg #[n? i? m,s? qb,n? i? tg],.agg #[s? n2,s? tx,n? i? wt,n? i? et]] y λe w'=>e=e? (.bool b)/\B? y w'):=λhg y=>by rw[hb];exact QY m tg qb n2 tx wt et y hm aa (W hg).1 (W hg).2 hq ht
 rw[<-hb];clear hb hm aa W hq ht;obtain⟨w0,U⟩:∃w0,w0=(((w.alloc (c? #[n? i? k,n? i? at'] 170)).alloc (c? #[.bool g,s? n2,s? tx,n? i? wt,n? i? et] 111)).alloc (c? #[n? i? m,s? qb,n? i? tg] 94)).alloc (c? #[n? i? 0,n? i? 0,s? ⟨#[]⟩,.bool f?,s? ⟨#[]⟩,s? ⟨#[]⟩,n? i? 0,n? i? 0] 172):=⟨_,q?⟩;have hz:w0.1.size=w.1.size+4:=by rw[U];simp
 have hB:B? w w0:=by rw[U];exact((((bG _ _).alloc (bz _) _).alloc i! _).alloc j! _).alloc j! _
 have g0:w0.1[w.1.size]?=y? (c? #[n? i? k,n? i? at'] 170 (0,0)):=by rw[U];(repeat(first|(rw[lB _ _ (by simp only[b9])];done)|rw[jL _ _ (by simp only[b9];omega)]))
 have g1:w0.1[w.1.size+1]?=y? (c? #[.bool g,s? n2,s? tx,n? i? wt,n? i? et] 111 (0,0)):=by rw[U];(repeat(first|(rw[lB _ _ (by simp only[b9])];done)|rw[jL _ _ (by simp only[b9];omega)]))
 have g2:w0.1[w.1.size+1+1]?=y? (c? #[n? i? m,s? qb,n? i? tg] 94 (0,0)):=by rw[U];(repeat(first|(rw[lB _ _ (by simp only[b9])];done)|rw[jL _ _ (by simp only[b9];omega)]))
 have g3:w0.1[w.1.size+1+1+1]?=y? (c? #[n? i? 0,n? i? 0,s? ⟨#[]⟩,.bool f?,s? ⟨#[]⟩,s? ⟨#[]⟩,n? i? 0,n? i? 0] 172 (0,0)):=by rw[U];(repeat(first|(rw[lB _ _ (by simp only[b9])];done)|rw[jL _ _ (by simp only[b9];omega)]))
 go_enter func119,ntmps119;go_upto_region 1 with fail;rw[<-U];obtain⟨B0,ab⟩:∃B,B=w.1.size:=⟨_,q?⟩;obtain⟨B3,ac⟩:∃B,B=w.1.size+1+1+1:=⟨_,q?⟩;obtain⟨B2,ad⟩:∃B,B=w.1.size+1+1:=⟨_,q?⟩;obtain⟨B1,ae⟩:∃B,B=w.1.size+1:=⟨_,q?⟩;rw[<-ac]at g3⊢;rw[<-ad]at g2⊢;rw[<-ae]at g1⊢;rw[<-ab]at g0⊢;have HB:bE _:=hB;have HN:bE (B0<w0.1.size/\B1<w0.1.size/\B2<w0.1.size/\B3<w0.1.size/\w.1.size<=B3):=⟨o!,o!,o!,o!,o!⟩;clear U hB ab ae ad ac hz;cases g
 .have c0:w0.cell? ⟨B1,0,x?⟩=y? (.bool f?):=by rw[dq g1];rfl
  have c1:=dq g1;have c5:=dq g2;go_upto_if 17 with(go_at_call 160;refine(HC q? _).mono ?_;rintro e y ⟨rfl,hy⟩);have af:=(hy.block B0 HN.1).trans g0;have ag:=(hy.block B1 HN.2.1).trans g1;have Y:=(hy.block B3 HN.2.2.2.1).trans g3;have HY:bE (B? w y):=HB.trans (Below.mono hy HB.size);clear c0 c1 c5 hy HC g0 g1 g2 g3 HB;have c0:=dq af;have c2:=dq ag;have ah:=dP Y;have lg:=dq Y;have e0:=dq Y;have O:=HN.2.2.2.2;cases b
  .go_wp2;refine bs (v:=Bq k at' nm f? QG QG 0 0) (by simp[bx,bM,go_sem,e0,Bq,QG]) q? ⟨q?,((((((((HY.setCell O _).setCell O _).setCell O _).setCell O _).setCell O _).setCell O _).setCell O _).setCell O _)⟩
  go_wp2;refine bs (v:=Bq k at' nm t? n2 tx wt et) (by simp[bx,bM,go_sem,e0,Bq,QG]) q? ⟨q?,((((((((HY.setCell O _).setCell O _).setCell O _).setCell O _).setCell O _).setCell O _).setCell O _).setCell O _)⟩
 have c0:w0.cell? ⟨B0,0,x?⟩=y? (n? i? k):=by rw[dq g0];rfl
 have c1:=dq g0 1;have c2:=dq g1 0;have ah:=dP g3;have lg:=dq g3;have e0:=dq g3;have O:=HN.2.2.2.2;clear HC;go_wp2;refine bs (v:=Bq k at' nm f? QG QG 0 0) (by simp[bx,bM,go_sem,e0,Bq,QG]) q? ⟨q?,((((((((HB.setCell O _).setCell O _).setCell O _).setCell O _).setCell O _).setCell O _).setCell O _).setCell O _)⟩
end
namespace D
open Go.RowKit Go.Sort
def PL{w y}(h:eJ w y):∃q os,y=grow (w.drewN q) os:=by obtain⟨⟨B,O,U,h4,W⟩,h6⟩:=h;refine⟨y.drawn-w.drawn,y.1.extract w.1.size y.1.size,?_⟩;obtain⟨yh,yt,yd,yo,yu⟩:=y;obtain⟨wh,wt,wd,wo,wu⟩:=w;simp only at B O U h4 W h6;subst B O U;unfold grow World.drewN;simp only[World.mk.injEq,and_true,true_and];constructor;apply Array.ext_getElem?;intro i;by_cases Y:i<wh.size;rw[Array.getElem?_append_left Y];exact W i Y;rw[Array.getElem?_append_right o!,Array.getElem?_extract];by_cases h:i<yh.size;rw[if_pos o!];congr 1;omega;rw[if_neg o!];exact Array.getElem?_eq_none o!;omega
def Dt(x y:Int):Int:=if x<y then -1 else if y<x then 1 else 0
def I2(x y)(w):bo prog 127 #[n? i? x,n? i? y] w λe w'=>e=e? (n? i? (Dt x y))/\w=w':=by
 unfold Dt;by_cases B:x<y
 .go_wp2;go_ret;exact⟨q?,q?⟩
 by_cases O:y<x
 .go_wp2;go_ret;exact⟨q?,q?⟩
 go_wp2;go_ret;exact⟨q?,q?⟩
def QS(x y z)(g)(w)(h0:w.cell? ⟨g,0,x?⟩=y? (n? i? x))(h1:w.cell? ⟨g,1,x?⟩=y? (n? i? y))(h2:w.cell? ⟨g,2,x?⟩=y? (n? i? z)):bo prog 126 #[.slice (y? ⟨g,0,x?⟩) 3 3] w λe w'=>e=e? (n? i? (if x≠0 then x else if y≠0 then y else z))/\w=w':=by
 by_cases B:x=0
 .subst B;rw[if_neg i!];by_cases O:y=0
  .subst O;rw[if_neg i!];by_cases U:z=0
   .subst U;go_enter bP,bL;go_wp2;refine bq 4 ?_;rw[bp];go_wp2;rw[bp];go_wp2;rw[bp];go_wp2;rw[bp];go_wp2;go_ret;exact⟨q?,q?⟩
   have W:(z==0)=f?:=by simpa using U
   go_enter bP,bL;go_wp2;refine bq 3 ?_;rw[bp];go_wp2;rw[bp];go_wp2;rw[bp];go_wp2;go_ret;exact⟨q?,q?⟩
  have Y:(y==0)=f?:=by simpa using O
  rw[if_pos O];go_enter bP,bL;go_wp2;refine bq 2 ?_;rw[bp];go_wp2;rw[bp];go_wp2;go_ret;exact⟨q?,q?⟩
 rw[if_pos B];have aa:(x==0)=f?:=by simpa using B
 go_enter bP,bL;go_wp2;refine bq 1 ?_;rw[bp];go_wp2;go_ret;exact⟨q?,q?⟩
def UI{w:w?}{x y z t g}(B:g=w.1.size):((w.alloc (c? #[x,y,z] t)).cell? ⟨g,0,x?⟩=y? x/\(w.alloc (c? #[x,y,z] t)).cell? ⟨g,1,x?⟩=y? y)/\(w.alloc (c? #[x,y,z] t)).cell? ⟨g,2,x?⟩=y? z:=by subst B;refine⟨⟨?_,?_⟩,?_⟩<;>rw[b' _ _ _ _ rfl]<;>rfl
def Vp(x y:dD):Int:=if Dt y.dn x.dn≠0 then Dt y.dn x.dn else if tO (dC x) (dC y)≠0 then tO (dC x) (dC y)else tO x.name y.name
def EM(x y)(w)(hx:x.text.length<=1048576)(B:y.text.length<=1048576):bo prog 84 #[.agg #[.string ⟨a? x.name⟩,.string ⟨a? x.text⟩,.int i? x.dn,.int i? x.dE],.agg #[.string ⟨a? y.name⟩,.string ⟨a? y.text⟩,.int i? y.dn,.int i? y.dE]] w λe w'=>e=.returned (.int i? (Vp x y))/\eJ w w':=by
 obtain⟨z1,aa⟩:∃z,z=Dt y.dn x.dn:=⟨_,q?⟩;obtain⟨z2,ab⟩:∃z,z=tO (dC x) (dC y):=⟨_,q?⟩;obtain⟨z3,ac⟩:∃z,z=tO x.name y.name:=⟨_,q?⟩;obtain⟨QM,O⟩:∃QM,QM=if z1≠0 then z1 else if z2≠0 then z2 else z3:=⟨_,q?⟩
 have e:Vp x y=QM:=by rw[O,aa,ab,ac];rfl
 rw[e];clear e;obtain⟨kx,ad⟩:∃k,k=dC x:=⟨_,q?⟩;obtain⟨ky,ae⟩:∃k,k=dC y:=⟨_,q?⟩;have H1:bE (∀W,bo prog 127 #[.int i? y.dn,.int i? x.dn] W λe w'=>e=.returned (.int i? z1)/\W=w'):=λW=>by rw[aa];exact I2 _ _ W
 have H2:bE (∀W,bo prog 128 #[.string ⟨a? kx⟩,.string ⟨a? ky⟩] W λe w'=>e=.returned (.int i? z2)/\W=w'):=λW=>by rw[ab,<-ad,<-ae];exact rA _ _ W
 have H3:bE (∀W,bo prog 128 #[.string ⟨a? x.name⟩,.string ⟨a? y.name⟩] W λe w'=>e=.returned (.int i? z3)/\W=w'):=λW=>by rw[ac];exact rA _ _ W
 have HX:bE (∀W,bo prog 50 #[.string ⟨a? x.text⟩] W λe w'=>e=.returned (.string ⟨a? kx⟩)/\eJ W w'):=λW=>by have h:=ur ⟨a? x.text⟩ W (by show x.text.toArray.size<=_;simp;omega);rw[ad];exact h
 have HY:bE (∀W,bo prog 50 #[.string ⟨a? y.text⟩] W λe w'=>e=.returned (.string ⟨a? ky⟩)/\eJ W w'):=λW=>by have h:=ur ⟨a? y.text⟩ W (by show y.text.toArray.size<=_;simp;omega);rw[ae];exact h
 have HO:bE (∀(g:Nat)(W:w?),W.cell? ⟨g,0,x?⟩=y? (.int i? z1)->W.cell? ⟨g,1,x?⟩=y? (.int i? z2)->W.cell? ⟨g,2,x?⟩=y? (.int i? z3)->bo prog 126 #[.slice (y? ⟨g,0,x?⟩) 3 3] W λe w'=>e=.returned (.int i? QM)/\W=w'):=λg W k0 k1 k2=>by rw[O];exact QS z1 z2 z3 g W k0 k1 k2
 clear O aa ab ac ad ae hx B;obtain⟨nx,_,tx,wx,gx⟩:=x;obtain⟨ny,_,ty,wy,gy⟩:=y;simp only at H1 H3 HX HY⊢;obtain⟨w0,U⟩:∃w0,w0=(w.alloc (.cells #[.string ⟨a? nx⟩,.string ⟨a? tx⟩,.int i? wx,.int i? gx] 96)).alloc (.cells #[.string ⟨a? ny⟩,.string ⟨a? ty⟩,.int i? wy,.int i? gy] 96):=⟨_,q?⟩
 have hA:∀j,w0.cell? ⟨w.1.size,j,x?⟩=(#[Value.string ⟨a? nx⟩,.string ⟨a? tx⟩,.int i? wx,.int i? gx]:Array v?)[j]?:=λj=>by rw[U,bA _ _ _ i!,b' _ _ _ _ rfl]
 have Y:∀j,w0.cell? ⟨w.1.size+1,j,x?⟩=(#[Value.string ⟨a? ny⟩,.string ⟨a? ty⟩,.int i? wy,.int i? gy]:Array v?)[j]?:=λj=>by rw[U,b' _ _ _ _ i!]
 have af:bE (eJ w w0):=by rw[U];exact(eJ.alloc _ _).trans (eJ.alloc _ _)
 have a0:w0.cell? ⟨w.1.size,0,x?⟩=y? (.string ⟨a? nx⟩):=hA 0;have a1:w0.cell? ⟨w.1.size,1,x?⟩=y? (.string ⟨a? tx⟩):=hA 1;have a2:w0.cell? ⟨w.1.size,2,x?⟩=y? (.int i? wx):=hA 2;have b0:w0.cell? ⟨w.1.size+1,0,x?⟩=y? (.string ⟨a? ny⟩):=Y 0;have b1:w0.cell? ⟨w.1.size+1,1,x?⟩=y? (.string ⟨a? ty⟩):=Y 1;have b2:w0.cell? ⟨w.1.size+1,2,x?⟩=y? (.int i? wy):=Y 2;clear hA Y;go_enter func84,ntmps84;go_wp2_with fail;rw[<-U];clear U;refine jm k! ?_;refine dx 0 ?_ ?_<|dx 1 ?_ ?_<|dx 2 ?_ ?_<|dx 3 ?_ ?_ ?_
 any_goals(intro y B;have q:=bn B.1 b2;have q1:=bn B.1 a2;unfold fL;go_simp;refine⟨eJ.refl _,?_⟩;with_reducible rfl)
 go_simp;refine dx 4 ?_ ?_ ?_;rotate_left
 .intro y B;unfold fL;go_simp;refine⟨q?,(H1.out y).mono ?_⟩;rintro e y2 ⟨rfl,rfl⟩;refine⟨_,q?,eJ.refl _,?_⟩;with_reducible rfl
 refine dx 5 ?_ ?_<|dx 6 ?_ ?_ ?_
 any_goals(intro y B;have q:=bn B.1 a1;unfold fL;go_simp;refine⟨eJ.refl _,?_⟩;with_reducible rfl)
 go_simp;refine dx 7 ?_ ?_ ?_;rotate_left
 .intro y B;unfold fL;go_simp;refine⟨q?,(HX.out y).mono ?_⟩;rintro e y2 ⟨rfl,h2⟩;refine⟨_,q?,h2,?_⟩;with_reducible rfl
 refine dx 8 ?_ ?_<|dx 9 ?_ ?_ ?_
 any_goals(intro y B;have q:=bn B.1 b1;unfold fL;go_simp;refine⟨eJ.refl _,?_⟩;with_reducible rfl)
 go_simp;refine dx 10 ?_ ?_ ?_;rotate_left
 .intro y B;unfold fL;go_simp;refine⟨q?,(HY.out y).mono ?_⟩;rintro e y2 ⟨rfl,h2⟩;refine⟨_,q?,h2,?_⟩;with_reducible rfl
 go_simp;refine dx 11 ?_ ?_ ?_;rotate_left
 .intro y B;unfold fL;go_simp;refine⟨q?,(H2.out y).mono ?_⟩;rintro e y2 ⟨rfl,rfl⟩;refine⟨_,q?,eJ.refl _,?_⟩;with_reducible rfl
 refine dx 12 ?_ ?_<|dx 13 ?_ ?_<|dx 14 ?_ ?_<|dx 15 ?_ ?_ ?_
 any_goals(intro y B;have q:=bn B.1 a0;have q1:=bn B.1 b0;unfold fL;go_simp;refine⟨eJ.refl _,?_⟩;with_reducible rfl)
 go_simp;refine dx 16 ?_ ?_ ?_;rotate_left
 .intro y B;unfold fL;go_simp;refine⟨q?,(H3.out y).mono ?_⟩;rintro e y2 ⟨rfl,rfl⟩;refine⟨_,q?,eJ.refl _,?_⟩;with_reducible rfl
 go_simp;refine Db (rs:=[17]) k! i! ?_;intro i hi;simp only[bk]at hi;subst hi;refine Dx (λg=>.slice (y? ⟨g,0,x?⟩) 3 3) (λg y=>(y.cell? ⟨g,0,x?⟩=y? (.int i? z1)/\y.cell? ⟨g,1,x?⟩=y? (.int i? z2))/\y.cell? ⟨g,2,x?⟩=y? (.int i? z3)) q? (fC _) (λg=>((eu _ _).and (eu _ _)).and (eu _ _)) l! ?_ ?_
 .intro y B;unfold fL;go_simp;exact⟨eJ.alloc _ _,q?,UI q?⟩
 intro g;go_simp;refine dx 18 ?_ ?_ ?_ (hC:=((fC _).and (((eu _ _).and (eu _ _)).and (eu _ _))));rotate_left
 .intro y B;obtain⟨_,⟨k0,k1⟩,k2⟩:=B;unfold fL;go_simp;refine⟨q?,(HO.out _ y k0 k1 k2).mono ?_⟩;rintro e y2 ⟨rfl,rfl⟩;refine⟨_,q?,eJ.refl _,?_⟩;with_reducible rfl
 go_simp;refine dx 19 ?_ ?_ ?_ (hC:=((fC _).and (((eu _ _).and (eu _ _)).and (eu _ _))));rotate_left
 .intro y B;unfold fL;go_simp;refine⟨eJ.refl _,?_⟩;with_reducible rfl
 refine pS k! ?_ _;rintro y ⟨B,_⟩;have ag:bE (eJ w y):=eJ.trans af.out B;clear B;go_simp;go_wp2;go_ret;exact⟨q?,ag.out⟩
end D
section
open Go.RowKit
variable {l:List dD} {told:List Nat} {b i n:Nat} {ok:Nat->Bool}
def Gc:Option Nat->Int
 |none=>-1|some b=>(b:Int)
def lenOf:v?->Nat
 |.slice _ n _=>n|_=>0
def Jw(h:gS l ok n []=told++gS l ok (n-l? told) told)(O:l? told<n)(hb:jx l (λi=>ok i && !told.contains i) l.length=y? b) :
  gS l ok n []=(told++[b])++gS l ok (n-(told++[b]).length) (told++[b]):=by
 rw[h];obtain⟨r,B⟩:∃r,n-l? told=r+1:=⟨n-l? told-1,o!⟩;rw[B,gS,hb,(j!:n-(told++[b]).length=r)];simp
def IG(h:gS l ok n []=told++gS l ok (n-l? told) told)(hb:jx l (λi=>ok i && !told.contains i) l.length=x?):gS l ok n []=told:=by
 rw[h]
 cases n-told.length with
 |zero=>simp[gS]|succ r=>rw[gS,hb];simp
def JX(h:gS l ok n []=told++gS l ok (n-l? told) told)(B:¬told.length<n):gS l ok n []=told:=by rw[h,(o!:n-l? told=0)];simp[gS]
def SQ(h:ok i=f?):jx l ok (i+1)=jx l ok i:=by rw[jx];cases jx l ok i<;>simp[h]
def IW(h:ok i=t?)(hb:jx l ok i=x?):jx l ok (i+1)=y? i:=by rw[jx,hb];simp[h]
def Nr(h:ok i=t?)(hb:jx l ok i=y? b):jx l ok (i+1)=if eU (l.getD i iA) (l.getD b iA)=t? then y? i else y? b:=by rw[jx,hb];simp[h]
def Mv{t g j}:((aY (j+1)).all λi=>vi t g i)=(((aY j).all λi=>vi t g i)&&((t / 2 ^ j % 2==0) || (g / 2 ^ j % 2==1))):=by rw[bh,List.all_append];simp[vi]
def nO(l:List dD)(told:List Nat):List Wd:=told.map λi=>jy (l.getD i iA)
def rR(n:Nat)(told:List Nat):List v?:=(aY n).map λi=>.bool (told.contains i)
def Mh(n):(br #[Value.bool f?] n).toList=rR n []:=by rw[Ih];unfold vO rR;apply bg<;>simp
def Cp(h:i<n):(rR n told)[i]?=y? (.bool (told.contains i)):=by unfold rR;rw[bl,be h];rfl
def MZ(h:b<n):(rR n told).set b (.bool t?)=rR n (told++[b]):=by apply List.ext_getElem?;intro j;unfold rR;rw[List.getElem?_set];simp only[bl,List.length_map,List.length_range];by_cases e:b=j;subst e;simp[h,be h];rw[if_neg e];by_cases B:j<n;rw[be B];simp[Ne.symm e];rw[List.getElem?_eq_none j!];rfl
end
