import Derived.Test.YtocbogeoffeolaaGreatDoorComAN
set_option linter.all false
set_option maxHeartbeats 8000000
set_option maxRecDepth 1000000
open Go.ByteArray renaming toList_eq->bx
open Go.World renaming cell?_alloc_at->bz
open Go.RowKit renaming Hid->bP
open Go renaming maxLen->bQ,cell_later->bR,Calls->bS
open Option renaming isNone_some->bT,isNone_none->bU
open Bool renaming false->f?,true->t?
open Go renaming World->w?
open Go.Ending renaming returned->e?
open Go.IntKind renaming i64->i?
open List renaming length->l?,toArray->a?
open Option renaming none->x?,some->y?
namespace Go.Proofs.YtocbogeoffeolaaGreatDoor
open Go.Proofs.Tryz
section
open Go.RowKit
def TB(base:Nat)(e:Ending)(w':w?):Option (List dD)->Prop
 |none=>∃a n c,e=e? (.tuple #[.slice a n c,.bool f?])|some l=>∃a c,e=e? (.tuple #[.slice a l.length c,.bool t?])/\w'.ownsRow base 202 5 (.slice a l.length c) l.length (dv l)
def Aj(l)(k)(nm tx)(gn)(wt tg):nI l k ⟨nm,gn,tx,wt,tg⟩=t?↔fU nm=t?/\eR tx=t?/\(gn=t?\/tx≠[])/\wt<=1000000/\iY (l.take k) nm=x?:=by unfold nI;simp only[Bool.and_eq_true,Bool.or_eq_true,bne_iff_ne,decide_eq_true_eq,Option.isNone_iff_eq_none];exact⟨λh=>⟨h.1.1.1.1,h.1.1.1.2,h.1.1.2,h.1.2,h.2⟩,λh=>⟨⟨⟨⟨h.1,h.2.1⟩,h.2.2.1⟩,h.2.2.2.1⟩,h.2.2.2.2⟩⟩
def FJ(A:List dD)(h:∀e∈A,l? e.text<=24)(B:l? A<=1000):(A.map λe=>l? e.text).sum<=1048576:=by
 have:(A.map λe=>l? e.text).sum<=l? A*24:=by
  clear B;induction A with
  |nil=>simp|cons e A O=>have W:=h e i!;have Y:=O (λx U=>h x (by simp[U]));rw[List.map_cons,List.sum_cons,List.length_cons];omega
 omega
def xk{base w' u a n c}(h:u=x?):TB base (e? (.tuple #[.slice a n c,.bool f?])) w' u:=by subst h;exact⟨_,_,_,q?⟩
def Ni(B)(w)(hs:B.size<=bQ) :
  bS prog 151 #[.string B] w λe w'=>Below w.1.size w w'/\TB w.1.size e w' (gf B.1.1):=by
 obtain⟨i5,bw,b0,b1,b2⟩:=info_parts uZ;have aj:=E8 B.1.1;have ax:B.1.1.length=B.size:=i!;rw[ax]at aj;unfold bQ at hs;by_cases h4:4000<B.size
 .have b3:(4000:Int)<(B.size:Int):=o!;have O:bP (gf B.1.1=x?):=by show _=_;rw[aj,if_pos h4]
  clear aj ax;go_enter func151,ntmps151;go_wp2;go_ret2;exact⟨Below.refl _ _,xk O.out⟩
 have b3:¬((4000:Int)<(B.size:Int)):=o!;rw[if_neg h4]at aj
 have HU:bP (gf B.1.1=match (lD B.1.1).2.1 with
  |none=>x?|some r=>if r≠[]\/(lD B.1.1).2.2.length=0\/100<(lD B.1.1).1\/30<((lD B.1.1).2.2.length:Int)-(lD B.1.1).1 then x?
   else if ∀i,(h:i<(lD B.1.1).2.2.length)->nI (lD B.1.1).2.2 i (lD B.1.1).2.2[i]=t? then(if mL (lD B.1.1).2.2=B.1.1 then y? (lD B.1.1).2.2 else x?)else x?):=aj
 have ab:B.size<=1048576:=o!
 have aP:jI w.1.size (w.alloc (.cells #[.string B,.int i? 0,.bool f?,.slice x? 0 0] 259)) w.1.size B (y? B.1.1,[]):=by refine⟨Nat.le_refl _,i!,.slice x? 0 0,⟨0,?_,Nat.zero_le _,λr h=>?_⟩,World.ownsRow_nil _ _ _ _⟩;exact heap_alloc_new w _;simp only[Option.some.injEq]at h;rw[<-h];rfl
 have ay:=kp w.1.size w.1.size B (y? B.1.1,[]) 1 _ aP ab o!;have aQ:=jv (y? B.1.1);rcases hx1:eH 1 (y? B.1.1)with⟨n,t1⟩;rw[hx1]at ay aQ;simp only at ay aQ;have aR:bP (eH 1 (y? B.1.1)=(n,t1)):=hx1
 have hrm0:gI (t1,([]:List dD))<=100000:=by
  have h1:=lA 1 (y? B.1.1);rw[hx1]at h1;have h2:lV (y? B.1.1)=B.size+1:=by show B.1.1.length+1=_;rw[ax]
  unfold gI;simp only[List.length_nil]at h1⊢;omega
 have aS:bP (Below w.1.size w (w.alloc (.cells #[.string B,.int i? 0,.bool f?,.slice x? 0 0] 259))):=(Below.refl _ _).alloc (Nat.le_refl _) _;clear aj ax hx1 aP;go_enter func151,ntmps151;go_wp2_with fail;refine ay.mono ?_;rintro e w1 ⟨rfl,ac,aT⟩;have HA1:bP (jI w.1.size w1 w.1.size B (t1,[])):=ac;have HB1:bP (Below w.1.size w w1):=aS.out.trans aT;obtain⟨D,hD⟩:∃D,D=mq n (t1,[]):=⟨_,q?⟩;have HD:bP (D=mq n (t1,[])):=hD;clear ay ac aT hD aS;go_wp2_with fail;go_loopw [6] (λi wr=>∃(k:Nat)(s':jg),k<=n/\i=.int i? k/\mq (n-k) s'=D/\jI w.1.size wr w.1.size B s'/\Below w.1.size w wr/\gI s'<=100000) (λi _=>n-(intOf i).toNat)
 case atStart=>exact⟨0,_,Nat.zero_le _,q?,HD.out.symm,HA1.out,HB1.out,hrm0⟩
 case round=>
  obtain⟨k,s',hk,rfl,a6,ai,aU,hrS⟩:=hrel;have a8:=ai.bad;have aE:bP (mq (n-k) s'=D):=a6;have aa:bP (Below w.1.size w wr):=aU;clear a6 aU;by_cases al:k<n
  .have aV:(k:Int)<(n:Int):=o!;obtain⟨u0,A⟩:=s'
   cases u0 with
   |none=>
    simp only[bU]at a8;have ad:D=(x?,A):=by rw[<-aE.out,zz]
    have U:=EQ w.1.size w.1.size B ab 32 0 D wr (by rw[ad];exact ai) q? o! (by rw[ad];exact hrS);rcases hE:iz 32 0 D with⟨st,A'⟩;obtain rfl:st=x?:=by have h:=A1 32 0 A;rw[<-ad,hE]at h;exact h
    have aW:lD B.1.1=(n,x?,A'):=by unfold lD;rw[aR.out];simp only;rw[<-HD.out,hE]
    have O:bP (gf B.1.1=x?):=by show _=_;rw[HU.out,aW]
    rw[hE]at U;clear ad ai hE aW;go_wp2_with fail;refine U.mono ?_;rintro e x1 ⟨rfl,⟨_,_,vA,⟨pp,hh,_,_⟩,_⟩,ae⟩;have af:bP (Below w.1.size w x1):=aa.out.trans ae;have aF:=dq hh;clear U ae aa hh;go_wp2;go_ret2;exact⟨af.out,xk O.out⟩
   |some r=>
    simp only[bT]at a8;have az:=kp w.1.size w.1.size B ((y? r),A) 1 wr ai ab o!;have aX:=jv (y? r);rcases hy0:eH 1 (y? r)with⟨a1,u1⟩;rw[hy0]at az aX;simp only at az aX;clear ai;go_wp2_with fail;refine az.mono ?_;rintro e v1 ⟨rfl,ac,a9⟩;have aB:bP (Below w.1.size w v1):=aa.out.trans a9;clear az a9 aa;have a0:=qZ w.1.size w.1.size B (u1,A) a1 v1 ac ab o!;rcases hy1:gL a1 u1 with⟨c2,u2⟩;rw[hy1]at a0;simp only at a0;clear ac;go_wp2_with fail;refine a0.mono ?_;rintro e v6 ⟨rfl,aY,aC⟩;have aZ:bP (Below w.1.size w v6):=aB.out.trans aC;clear a0 aC aB
    have HY:bP (oneG (y? r,A)=(u2,A++[⟨c2,t?,[],0,0⟩])):=by show oneG _=_;unfold oneG eV;simp only[hy0,hy1]
    obtain⟨q1,q2,vA,⟨pp,hh,ba,am⟩,W⟩:=id aY;obtain⟨aA,cA,rfl,b4⟩:=dL W;have aG:v6.cell? ⟨w.1.size,3,x?⟩=y? (.slice aA A.length cA):=by rw[dq hh];rfl
    have bI:A.length<=100000:=by unfold gI at hrS;simp only at hrS;omega
    have ak:bP (v6.ownsRow w.1.size 202 5 (.slice aA A.length cA) A.length (dv A)):=W;have aH:bP (v6.1[w.1.size]?=y? (.cells #[.string B,.int i? pp,.bool u2.isNone,.slice aA A.length cA] 259 (0,0))):=hh;have b5:bP (∀r',u2=y? r'->B.1.1.drop pp=r'):=am;clear aY hh W hy0 hy1 am;go_wp2_with (at_builtin;go_must (refine gQ _ q? _ _ 75 q? w.1.size 202 i5 _ 5 56 underlying75 bw b0 b1 b2 q? d! _ _ _ q? (ak.out.alloc _) _ 1 (eo ⟨c2,t?,[],0,0⟩) q? ?cr ?c0 ?c1 ?c2 ?c3 ?_))
    case cr=>exact Vt rfl
    case c0=>intro u hu;simp[eo]at hu;obtain rfl|rfl|rfl|rfl|rfl:=hu<;>rfl
    case c1=>omega
    case c2=>unfold bQ;omega
    case c3=>simp;omega
    intro v7 w7 aI ag _;obtain⟨a7,c7,rfl,bJ⟩:=dL aI;have b6:w.1.size<v6.1.size:=(Array.getElem?_eq_some_iff.1 aH.out).1
    have a2:w7.1[w.1.size]?=y? (.cells #[.string B,.int i? pp,.bool u2.isNone,.slice aA A.length cA] 259 (0,0)):=by rw[ag.block w.1.size j! (λe=>fc aH.out ak.out d! e.symm),Below.heap_alloc _ _ _ b6];exact aH.out
    have bD:w7.cell? ⟨w.1.size,3,x?⟩=y? (.slice aA A.length cA):=by rw[dq a2];rfl
    have bE:w7.frozen? ⟨w.1.size,3,x?⟩=f?:=dP a2 3;have b7:bP (Below w.1.size w w7):=((aZ.out.trans ((Below.refl w.1.size v6).alloc q2 _))).trans ⟨ag.os,ag.tape,ag.output,ag.size,λj hj=>ag.block j j! (λe=>by have:=(ak.out.lt j e.symm).1;omega)⟩;have bc:bP (w7.1[w.1.size]?=y? (.cells #[.string B,.int i? pp,.bool u2.isNone,.slice aA A.length cA] 259 (0,0))):=a2;have bd:bP (w7.ownsRow w.1.size 202 5 (.slice a7 (A.length+1) c7) (A.length+1) (dv A++eo ⟨c2,t?,[],0,0⟩)):=aI;have bK:w.1.size<=w7.1.size:=by have:=ag.size;simp at this;omega
    clear aI ag a2 aG;go_wp2;go_roundw
    case rel=>
     refine⟨k+1,oneG (y? r,A),o!,by go_num,?_,?_,?_,Nat.le_trans (ML i!) hrS⟩;have:=aE.out;rw[(o!:n-k=(n-(k+1))+1)]at this;simpa[mq]using this;rw[HY.out];refine⟨q1,by simp[World.setCell];omega,.slice a7 (A.length+1) c7,⟨pp,by rw[heap_set bc.out];rfl,ba,b5.out⟩,?_⟩;have e1:dv (A++[⟨c2,t?,[],0,0⟩])=dv A++eo ⟨c2,t?,[],0,0⟩:=by simp[dv]
     simp only[e1,List.length_append,List.length_cons,List.length_nil];exact dG bd.out (λj hj=>Below.heap_setCell _ _ _ _ (λe=>fc bc.out bd.out d! (by rw[hj,e])));exact Below.setCell b7.out q1 _
    case measure=>simp[intOf];omega
  have ad:D=s':=by rw[<-aE.out,(o!:n-k=0)];rfl
  have be:jI w.1.size wr w.1.size B D:=by rw[ad];exact ai
  have bf:gI D<=100000:=by rw[ad];exact hrS
  have aV:¬(k:Int)<(n:Int):=o!;clear ad ai;have U:=EQ w.1.size w.1.size B ab 32 0 D wr be q? o! bf
  have bg:bP (lD B.1.1=(n,iz 32 0 D)):=by show lD _=_;unfold lD;rw[aR.out];simp only;rw[<-HD.out]
  clear be;go_wp2_with fail;refine U.mono ?_;rintro e x1 ⟨rfl,ac,ae⟩;have af:bP (Below w.1.size w x1):=aa.out.trans ae;clear U ae aa;rcases hE:iz 32 0 D with⟨st,A⟩;rw[hE]at ac;have aJ:bP (lD B.1.1=(n,st,A)):=by show lD _=_;rw[bg.out,hE]
  have bh:bP (∀e∈A,WA e):=by have h:=Uh B.1.1;rw[aJ.out]at h;exact h
  have bL:A.length<=100000:=by have h1:=CV 32 0 D;rw[hE]at h1;have h2:gI (st,A)=A.length+lV st:=rfl;omega
  clear hE bg;obtain⟨q1,q2,vA,⟨pp,hh,ba,am⟩,W⟩:=ac;obtain⟨aA,cA,rfl,b4⟩:=dL W;have bM:x1.cell? ⟨w.1.size,1,x?⟩=y? (.int i? pp):=by rw[dq hh];rfl
  have aF:x1.cell? ⟨w.1.size,2,x?⟩=y? (.bool st.isNone):=by rw[dq hh];rfl
  have aG:x1.cell? ⟨w.1.size,3,x?⟩=y? (.slice aA A.length cA):=by rw[dq hh];rfl
  have ak:bP (x1.ownsRow w.1.size 202 5 (.slice aA A.length cA) A.length (dv A)):=W;have a3:bP (iu x1 5 (.slice aA A.length cA) A.length (dv A)):=iu.eL W
  have b8:bP (cA<=9223372036854775807):=by obtain⟨a',c',he,_,hm,_⟩:=a3.out;simp only[Value.slice.injEq]at he;unfold bQ at hm;have:=he.2.2;show cA<=_;omega
  clear hh W
  cases st with
  |none=>
   simp only[bU]at aF
   have O:bP (gf B.1.1=x?):=by show _=_;rw[HU.out];rw[aJ.out]
   go_wp2;go_ret2;exact⟨af.out,xk O.out⟩
  |some r=>
   simp only[bT]at aF;have hr:=am r rfl
   have aK:bP (gf B.1.1=if r≠[]\/A.length=0\/100<n\/30<(A.length:Int)-n then x? else if ∀i,(h:i<A.length)->nI A i A[i]=t? then(if mL A=B.1.1 then y? A else x?)else x?):=by show _=_;rw[HU.out,aJ.out]
   have b9:r.length=B.size-pp:=by rw[<-hr];simp
   clear am hr
   have aL:(bP (gf B.1.1=x?)/\(pp≠B.size/\((pp:Int)==(B.size:Int))=f?\/pp=B.size/\(((A.length:Int)==0)=t?\/((A.length:Int)==0)=f?/\((100:Int)<(n:Int)\/¬((100:Int)<(n:Int))/\30<(A.length:Int)-n))))\/
     (bP (gf B.1.1=if ∀i,(h:i<A.length)->nI A i A[i]=t? then(if mL A=B.1.1 then y? A else x?)else x?)/\pp=B.size/\((A.length:Int)==0)=f?/\¬((100:Int)<(n:Int))/\¬30<(A.length:Int)-n):=by
    have hz:r=[]↔pp=B.size:=by rw[<-List.length_eq_zero_iff];omega
    simp only[beq_iff_eq,beq_eq_false_iff_ne];by_cases hb:r≠[]\/A.length=0\/100<n\/30<(A.length:Int)-n;refine .inl ⟨by show _=_;rw[aK.out,if_pos hb],?_⟩;rw[Ne,hz]at hb;omega;refine .inr ⟨by show _=_;rw[aK.out,if_neg hb],?_⟩;rw[Ne,hz]at hb;omega
   clear b9 aK;obtain⟨O,⟨c0,c1⟩|⟨rfl,c2|⟨c2,c3|⟨c3,c4⟩⟩⟩⟩|⟨aM,rfl,c2,c3,c4⟩:=aL
   any_goals
    go_wp2;go_ret2;exact⟨af.out,xk O.out⟩
   go_wp2;go_loopw [8] (λiv wr=>∃k:Nat,k<=A.length/\iv=.int i? k/\DU A k/\eJ x1 wr) (λi _=>A.length-(intOf i).toNat)
   case atStart=>exact⟨0,Nat.zero_le _,q?,λi h hi=>o!,eJ.refl _⟩
   case round=>
    obtain⟨k,hk,rfl,aD,ah⟩:=hrel;have an:bP (DU A k):=aD;have a4:bP (eJ x1 wr):=ah;have ao:=bR ah aG;clear aD;by_cases al:k<A.length
    .have bN:(k:Int)<(A.length:Int):=o!;obtain⟨b,off,rfl,c0,c1,c2,c3,c4⟩:=jc (a3.out.below ah) k al;obtain⟨o1,o2,⟨o3,o4⟩,o5,o6⟩:=bh.out A[k] (List.getElem_mem al);rcases hxk:A[k]with⟨nm,Y,tx,wt,tg⟩;rw[hxk]at c0 c1 c2 c3 c4 o1 o2 o3 o4 o5 o6;simp only at c0 c1 c2 c3 c4 o1 o2 o3 o4 o5 o6;have aN:bP (A[k]=⟨nm,Y,tx,wt,tg⟩):=hxk;clear hxk;obtain⟨nb,ap⟩:∃nb:ByteArray,nb=⟨a? nm⟩:=⟨_,q?⟩;obtain⟨tb,aq⟩:∃tb:ByteArray,tb=⟨a? tx⟩:=⟨_,q?⟩;rw[<-ap]at c0;rw[<-aq]at c2;have bi:nb.size<=bQ:=by rw[ap];show nm.toArray.size<=_;unfold bQ;simp;omega
     have bj:tb.size<=bQ:=by rw[aq];show tx.toArray.size<=_;unfold bQ;simp;omega
     obtain⟨bn,aO⟩:∃bn,bn=fU nm:=⟨_,q?⟩;obtain⟨bq,ar⟩:∃bq,bq=eR tx:=⟨_,q?⟩;obtain⟨fv,au⟩:∃fv,fv=uX (iY (A.take k) nm):=⟨_,q?⟩
     have bk:bP (∀y:w?,bS prog 141 #[.string nb] y λe w'=>e=.returned (.bool bn)/\y=w'):=λy=>by have h:=kN nb y bi;rw[aO];rw[ap]at h⊢;exact h
     have bl:bP (∀y:w?,bS prog 142 #[.string tb] y λe w'=>e=.returned (.bool bq)/\y=w'):=λy=>by have h:=kP tb y bj;rw[ar];rw[aq]at h⊢;exact h
     have bm:bP (∀y:w?,eJ x1 y->bS prog 144 #[.slice (y? ⟨b,off,x?⟩) k cA,.string nb] y λe w'=>e=.returned (.int i? fv)/\y=w'):=λy hy=>by
      have h0:=(a3.out.below hy).Vl k o! rfl;have e:(A.take k).length=k:=by rw[List.length_take];omega
      have h:=wi (.slice (y? ⟨b,off,x?⟩) k cA) (A.take k) nm y (by rw[e];exact h0);rw[au,ap];exact h
     have bo:bP (bn=fU nm):=aO;have bp:bP (bq=eR tx):=ar;have br:bP (fv=uX (iY (A.take k) nm)):=au;have bs:bP (tb=⟨a? tx⟩):=aq;have bO:True:=trivial;have bF:k<=cA:=o!;have bG:(k:Int)<=(cA:Int):=o!;have bH:cA<=9223372036854775807:=b8.out;clear ah ap aq aO ar au;go_wp2_with fail;refine(bk.out _).mono ?_;rintro e w' ⟨rfl,rfl⟩;go_wp2_with fail;refine(bl.out _).mono ?_;rintro e w' ⟨rfl,rfl⟩;have hX:eJ wr (wr.alloc (.cells #[.string nb,.bool Y,.string tb,.int i? wt,.int i? tg] 202)):=eJ.alloc _ _;have d0:(wr.alloc (.cells #[.string nb,.bool Y,.string tb,.int i? wt,.int i? tg] 202)).cell? ⟨wr.1.size,0,x?⟩=y? (.string nb):=by rw[bz _ _ _ _ rfl];rfl
     have d1:(wr.alloc (.cells #[.string nb,.bool Y,.string tb,.int i? wt,.int i? tg] 202)).cell? ⟨wr.1.size,1,x?⟩=y? (.bool Y):=by rw[bz _ _ _ _ rfl];rfl
     have d2:(wr.alloc (.cells #[.string nb,.bool Y,.string tb,.int i? wt,.int i? tg] 202)).cell? ⟨wr.1.size,2,x?⟩=y? (.string tb):=by rw[bz _ _ _ _ rfl];rfl
     have d3:(wr.alloc (.cells #[.string nb,.bool Y,.string tb,.int i? wt,.int i? tg] 202)).cell? ⟨wr.1.size,3,x?⟩=y? (.int i? wt):=by rw[bz _ _ _ _ rfl];rfl
     have d9:=bR hX ao;have HEW:bP (eJ x1 (wr.alloc (.cells #[.string nb,.bool Y,.string tb,.int i? wt,.int i? tg] 202))):=a4.out.trans hX;clear hX c0 c1 c2 c3 c4 ao bk bl a4 bi bj o1 o2 o3 o4 o5 o6;generalize (wr.alloc (.cells #[.string nb,.bool Y,.string tb,.int i? wt,.int i? tg] 202))=wx at *;generalize wr.1.size=g at *;have b':bP (∀m,bS prog 144 #[.slice (y? ⟨b,off,x?⟩) k cA,.string nb] (wx.drewN m) λe w'=>e=.returned (.int i? fv)/\w'=wx.drewN m):=λm=>(bm.out _ (jn HEW.out m)).mono (λe w' h=>⟨h.1,h.2.symm⟩);clear bm
     have aL:(bP (gf B.1.1=x?)/\(bn=f?\/bn=t?/\(bq=f?\/bq=t?/\(Y=f?/\tb.toList.isEmpty=t?\/(Y=t?\/Y=f?/\tb.toList.isEmpty=f?)/\(1000000<wt\/¬1000000<wt/\0<=fv)))))\/
       (bP (DU A (k+1))/\bn=t?/\bq=t?/\(Y=t?\/Y=f?/\tb.toList.isEmpty=f?)/\¬1000000<wt/\fv = -1):=by
      have he:tb.toList.isEmpty=tx.isEmpty:=by rw[bx,bs.out]
      have hf:fv = -1/\iY (A.take k) nm=x?\/0<=fv/\iY (A.take k) nm≠x?:=by
       rw[br.out]
       cases iY (A.take k) nm with
       |none=>exact .inl ⟨q?,q?⟩|some fi=>exact .inr ⟨Int.natCast_nonneg fi,i!⟩
      rw[he,bo.out,bp.out];have hs:=Aj A k nm tx Y wt tg;by_cases av:nI A k ⟨nm,Y,tx,wt,tg⟩=t?;obtain⟨h1,h2,h3,h4,h5⟩:=hs.1 av;refine .inr ⟨λi h hi=>?_,h1,h2,?_,o!,hf.elim (λh=>h.1) λh=>absurd h5 h.2⟩;obtain h6|h6:=Nat.lt_or_ge i k
      exact an.out i h h6;obtain rfl:i=k:=o!;rw[aN.out];exact av
      cases Y<;>simp at h3⊢;exact h3;refine .inl ⟨by show _=_;rw[aM.out,if_neg (λh=>av (by have:=h k al;rwa [aN.out]at this))],?_⟩;rw[hs]at av;cases h1:fU nm
      .exact .inl rfl
      cases h2:eR tx
      .exact .inr ⟨q?,.inl q?⟩
      refine .inr ⟨q?,.inr ⟨q?,?_⟩⟩;have h3:Y=f?/\tx.isEmpty=t?\/Y=t?\/Y=f?/\tx.isEmpty=f?:=by cases Y<;>cases tx<;>simp
      obtain h3|h3:=h3
      exact .inl h3;refine .inr ⟨h3,?_⟩;have h4:Y=t?\/tx≠[]:=h3.imp_right λh=>by have:=h.2;cases tx<;>simp at this⊢
      by_cases h5:1000000<wt;exact .inl h5;exact .inr ⟨h5,hf.elim (λh=>absurd ⟨h1,h2,h4,o!,h.2⟩ av) λh=>h.1⟩
     clear aM an bo bp br bs aN;obtain⟨O,rfl|⟨rfl,rfl|⟨rfl,⟨rfl,c1⟩|⟨rfl|⟨rfl,c1⟩,c2|⟨c2,c3⟩⟩⟩⟩⟩|⟨HSO,rfl,rfl,rfl|⟨rfl,c1⟩,c2,rfl⟩:=aL
     all_goals
      go_wp2;go_quiet (first|(go_at_call 144;exact bS.quiet_of_same (b'.out _)));go_wp2
     any_goals
      go_ret2;exact⟨jn (af.out.trans (Below.mono HEW.out af.out.size)) nq,xk O.out⟩
     all_goals
      go_roundw
      case rel=>exact⟨k+1,o!,by go_num,HSO.out,jn HEW.out nq⟩
      case measure=>simp[intOf];omega
    have bA:k=A.length:=o!;subst bA
    have bt:bP (gf B.1.1=if mL A=B.1.1 then y? A else x?):=by show _=_;rw[aM.out,if_pos (λi h=>an.out i h h)]
    have bu:bP (∀e∈A,mH e/\e.text.length<=24):=λe he=>by obtain⟨i,hi,rfl⟩:=List.mem_iff_getElem.1 he;obtain⟨o1,o2,⟨o3,o4⟩,o5,o6⟩:=bh.out A[i] he;refine⟨⟨o!,o!,⟨o!,o!⟩,o!,o!⟩,?_⟩;have h1:=an.out i hi hi;rcases hxk:A[i]with⟨nm,Y,tx,wt,tg⟩;rw[hxk,Aj]at h1;have h2:=h1.2.1;simp only[eR,Bool.and_eq_true,decide_eq_true_eq]at h2;exact h2.1
    have bB:A.length<=1000:=o!;obtain⟨pk,a5⟩:∃pk:ByteArray,pk=⟨(mL A).toArray⟩:=⟨_,q?⟩
    have bC:bP (∀y:w?,eJ wr y->bS prog 109 #[.slice aA A.length cA] y λe w'=>e=.returned (.string pk)/\eJ y w'):=λy hy=>by rw[a5];exact Eu _ A y (a3.out.below (a4.out.trans hy)) (λe he=>(bu.out e he).1) o! (FJ A (λe he=>(bu.out e he).2) bB)
    clear al hk an ah;by_cases aw:mL A=B.1.1
    case' pos=>
     have ar:(pk.toList==B.toList)=t?:=by rw[a5,bx,bx,<-aw];simp
     have O:bP (gf B.1.1=y? A):=by show _=_;rw[bt.out,if_pos aw]
    case' neg=>
     have ar:(pk.toList==B.toList)=f?:=by rw[a5,bx,bx,beq_eq_false_iff_ne];exact aw
     have O:bP (gf B.1.1=x?):=by show _=_;rw[bt.out,if_neg aw]
    all_goals
     clear a5 aw;go_wp2_with fail;refine jm k! ?_;refine dx 0 ?_ ?_<|dx 1 ?_ ?_<|dx 2 ?_ ?_<|dx 3 ?_ ?_<|dx 4 ?_ ?_<|dx 5 ?_ ?_<|dx 6 ?_ ?_<|dx 7 ?_ ?_ ?_
     any_goals(intro y hy;have q:=bR hy ao;unfold fL;go_simp;refine⟨eJ.refl _,?_⟩;with_reducible rfl)
     refine dx 8 ?_ ?_ ?_;rotate_left
     .intro y hy;unfold fL;go_simp;refine⟨q?,(bC.out y hy).mono ?_⟩;rintro e y2 ⟨rfl,h2⟩;refine⟨_,q?,h2,?_⟩;with_reducible rfl
     refine dx 9 ?_ ?_<|dx 10 ?_ ?_<|dx 11 ?_ ?_<|dx 12 ?_ ?_ ?_
     any_goals(intro y hy;unfold fL;go_simp;refine⟨eJ.refl _,?_⟩;with_reducible rfl)
     refine pS k! ?_ _;intro y hy;have bv:bP (eJ x1 y):=a4.out.trans hy;clear hy;go_simp;go_wp2;go_ret2;refine⟨af.out.trans (Below.mono bv.out af.out.size),?_⟩
     first|exact xk O.out|(unfold TB;rw[O.out];exact⟨_,_,rfl,dG ak.out (λk hk=>bv.out.block k (ak.out.lt k hk).2)⟩)
end
