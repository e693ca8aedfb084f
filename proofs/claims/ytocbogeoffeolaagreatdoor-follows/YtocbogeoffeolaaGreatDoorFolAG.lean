import Derived.Test.YtocbogeoffeolaaGreatDoorFolAF
import Derived.Laws.EntriesVeiled
set_option linter.unusedVariables false
set_option linter.unusedSimpArgs false
set_option maxHeartbeats 8000000
set_option maxRecDepth 1000000
open List renaming length_append->a7,filter_filter->a8,filter_append->a9,getD_eq_getElem?_getD->a',filter_congr->aA,getElem?_eq_getElem->aB,length_filter_le->aC,append_assoc->aD,mem_filter->aE,length_eq_zero_iff->aF,mem_append->aG,mem_map->aH,mem_singleton->aI,take_of_length_le->aJ,map_append->aK,length_map->aL,append_nil->aM,range->aN,mem_cons_self->aO,nodup_append->aP,getElem_mem->aQ,take_append_of_le_length->aR,drop_eq_getElem_cons->aS,mem_append_right->aT,filter_sublist->aU,filter_eq_self->aV,take_length->aW,perm_middle->aX,length_take->aY,length_drop->aZ,nil_append->ba,foldl_cons->bb,mem_range->bc,map_cons->bd
open Nat renaming le_refl->be,le_trans->bf
open Go.Proofs.Tryz renaming underlying9->bg,underlying85->bh
open Bool renaming eq_iff_iff->bi,and_comm->bj
open List.Perm renaming refl->bk,append->bl
open Go renaming maxLen->bm,wpList->bn,Calls->bo
open Go.World renaming grownBy_alloc->bp
open Go.RowKit renaming Hid->bq
open Go.RowKit.Below renaming refl->br,heap_alloc->bs
namespace Go.Proofs.YtocbogeoffeolaaGreatDoor
open Go.Proofs.Tryz
section
open Go.RowKit
theorem mA{B:Nat}{a w:World}(h:Below B a w)(q:Nat):Below B a (w.drewN q):=⟨h.os,h.tape,h.output,h.size,h.block⟩
end
section
open Go.RowKit
variable {ss:List (List gS)} {vs:List Value} {E:Value->List gS->Prop}
def Zip(E:Value->List gS->Prop)(vs:List Value)(ss:List (List gS)):Prop:=vs.length=ss.length/\∀i(h:i<ss.length),∃u,vs[i]?=some u/\E u ss[i]
theorem Zip.nil(E:Value->List gS->Prop):Zip E [] []:=⟨rfl,λi h=>by simp at h⟩
theorem Zip.one{u:Value}{l:List gS}(h:E u l):Zip E [u] [l]:=⟨rfl,λi hi=>by
 have:i=0:=by simp at hi; omega
 subst this
 exact⟨u,rfl,h⟩⟩
theorem Zip.append{U:List Value}{st:List (List gS)}(y:Zip E vs ss)(W:Zip E U st):Zip E (vs++U) (ss++st):=by
 refine⟨by rw[a7,a7,y.1,W.1],λi hi=>?_⟩;by_cases h:i<ss.length
 .obtain⟨u,D,O⟩:=y.2 i h;exact⟨u,by rw[List.getElem?_append_left (by rw[y.1]; exact h)]; exact D,by rw[List.getElem_append_left h]; exact O⟩
 .have Rl:i-ss.length<st.length:=by rw[a7]at hi; omega
  obtain⟨u,D,O⟩:=W.2 (i-ss.length) Rl;refine⟨u,?_,?_⟩
  .rw[List.getElem?_append_right (by rw[y.1]; omega),y.1]; exact D
  .rw[List.getElem_append_right (by omega)]; exact O
theorem Zip.mono{E':Value->List gS->Prop}(h:Zip E vs ss)(y:∀u l,E u l->E' u l):Zip E' vs ss:=⟨h.1,λi hi=>by
 obtain⟨u,D,O⟩:=h.2 i hi
 exact⟨u,D,y u _ O⟩⟩
def mK(ss:List (List gS))(n:Nat):List gS:=if n=0 then gR (ia (ss.getD n []) (ss.getD (n+1) []))else ia (ss.getD n []) (ss.getD (n+1) [])
def jS(ss:List (List gS))(n:Int):Nat×List (List gS):=
 if n<0\/(ss.length:Int)-1<=n then(6,ss)
 else if 100<(mK ss n.toNat).length-(gR (mK ss n.toNat)).length then(4,ss)
 else(0,ss.take n.toNat++((if 0<(mK ss n.toNat).length then [mK ss n.toNat]else [])++ss.drop (n.toNat+2)))
end
section
open Go.RowKit
variable {e:gS} {a b l:List gS} {x:Wd}
def names(l:List gS):List Wd:=l.map gS.name
theorem l6:lN l e=true↔e.name ∉ names l:=by
 unfold lN names;constructor
 .intro h;refine BC ?_
  cases y:su l e.name with
  |none=>rfl
  |some i=>rw[y]at h; simp at h
 .intro h;rw[um h]; rfl
theorem pN:e∈ia a b↔(e∈a/\e.name ∉ names b)\/e∈b:=by
 unfold ia;rw[aG,aE,l6]
theorem re:x∈names l↔∃e∈l,e.name=x:=by unfold names; rw[aH]
theorem IU:x∈names (ia a b)↔x∈names a\/x∈names b:=by
 rw[re,re,re];constructor
 .rintro⟨e,y,rfl⟩;rcases pN.1 y with h|h
  .exact Or.inl ⟨e,h.1,rfl⟩
  .exact Or.inr ⟨e,h,rfl⟩
 .rintro(⟨e,y,rfl⟩|⟨e,y,rfl⟩)
  .by_cases h:e.name∈names b
   .obtain⟨f,D,O⟩:=re.1 h;exact⟨f,pN.2 (Or.inr D),O⟩
   .exact⟨e,pN.2 (Or.inl ⟨y,h⟩),rfl⟩
  .exact⟨e,pN.2 (Or.inr y),rfl⟩
theorem yT(h:(a.map gS.name).Nodup)(hb:(b.map gS.name).Nodup):((ia a b).map gS.name).Nodup:=by
 unfold ia;rw[aK,aP];refine⟨h.sublist (aU.map _),hb,?_⟩;intro x D y O e;subst e;obtain⟨f,U,rfl⟩:=aH.1 D;exact(l6.1 (aE.1 U).2) O
theorem vf(h:(a.map gS.name).Nodup):((gR a).map gS.name).Nodup:=h.sublist (aU.map _)
theorem Gs{c:List gS}(h:∀x,x∈names b↔x∈names c)(e:gS):lN b e=lN c e:=by
 rw[bi,l6,l6,h]
theorem Ml{y h:List gS}(O:a.Perm y)(D:b.Perm h):(ia a b).Perm (ia y h):=by
 unfold ia;refine bl ?_ D;have:a.filter (lN b)=a.filter (lN h):=aA λe _=>Gs (λx=>(D.map gS.name).mem_iff) e;rw[this];exact O.filter _
theorem xJ(h:a.Perm b):(gR a).Perm (gR b):=h.filter _
theorem sj(a b c:List gS):ia (ia a b) c=ia a (ia b c):=by
 have h:∀e,lN (ia b c) e=(lN b e&&lN c e):=by
  intro e;rw[bi,Bool.and_eq_true,l6,l6,l6,IU];exact not_or
 unfold ia at h⊢;rw[a9,a8,aD];congr 1;refine aA λe _=>?_;rw[h e,bj]
theorem vY(a:List gS):ia [] a=a:=by simp[ia]
theorem wU(a:List gS):ia a []=a:=by
 unfold ia;rw[aM,aV];intro e _;exact l6.2 (by simp[names])
theorem uu(a b:List gS):gR (ia (gR a) b)=gR (ia a b):=by
 unfold gR ia;rw[a9,a9,a8,a8];congr 1;rw[a8];refine aA λe _=>?_;cases e.gone<;>simp
theorem oD(a:List gS):gR (gR a)=gR a:=by
 unfold gR;rw[a8];refine aA λe _=>?_;cases e.gone<;>simp
theorem G0(L:List (List gS)):∀a:List gS,gR (L.foldl ia (gR a))=gR (L.foldl ia a):=by
 induction L with
 |nil=>intro a; exact oD a
 |cons b L h=>
  intro a;rw[bb,bb,<-h (ia (gR a) b),uu,h]
def jW(L:List (List gS)):List gS:=L.foldl ia []
theorem lJ(L M:List (List gS)):jW (L++M)=M.foldl ia (jW L):=by unfold jW; rw[List.foldl_append]
theorem j7(L:List (List gS))(b:List gS):jW (L++[b])=ia (jW L) b:=by rw[lJ]; rfl
theorem AG(ss:List (List gS))(k:Nat):p9 ss k=jW (ss.take k):=rfl
theorem nU(ss:List (List gS))(h:List gS):kZ ss h=gR (jW (ss++[h])):=by
 unfold kZ;rw[j7,AG,aW]
theorem pO(a b:List gS):(gR b).length<=(gR (ia a b)).length:=by
 unfold ia gR;rw[a9,a7];omega
theorem pG(a:List gS):(gR a).length<=a.length:=aC _ _
theorem np(l:List gS):l.length-(gR l).length=(l.filter λe=>e.gone).length:=by
 have h:∀l:List gS,(l.filter λe=>e.gone).length+(gR l).length=l.length:=by
  intro l;unfold gR
  induction l with
  |nil=>rfl
  |cons e l y=>
   cases h:e.gone<;>simp[h]<;>omega
 have:=h l;omega
structure Inv(buf:List gS)(ss:List (List gS)):Prop where
 each:∀e∈buf,Sx e
 nodup:(buf.map gS.name).Nodup
 gone:(buf.filter λe=>e.gone).length<=100
 nv:∀s∈ss,qn s
 yE:ss.length<=6
 there:∀k,k<=ss.length->(gR (jW (ss.take k))).length<=30
 all:(kZ ss buf).length<=30
theorem Qx:Inv [] []:=⟨λ_ h=>by simp at h,List.Pairwise.nil,by simp,λ_ h=>by simp at h,by simp,λk _=>by simp[jW,gR],by simp[kZ,p9,ia,gR]⟩
theorem uf(y:List gS)(e:gS):((ia y [e]).filter λe=>e.gone).length<=(y.filter λe=>e.gone).length+(if e.gone then 1 else 0):=by
 unfold ia;rw[a9,a7,a8]
 have D:(y.filter λx=>x.gone&&lN [e] x).length<=(y.filter λx=>x.gone).length:=by
  rw[show(y.filter λx=>x.gone&&lN [e] x)=(y.filter λx=>x.gone).filter (lN [e]) by rw[a8]; exact aA λx _=>bj _ _];exact aC _ _
 cases h:e.gone<;>simp[h]<;>omega
theorem Inv.Ra{y:List gS}{ss:List (List gS)}(h:Inv y ss)(O:Sx e)(U:((ia y [e]).filter λe=>e.gone).length<=100)(W:(kZ ss (ia y [e])).length<=30):Inv (ia y [e]) ss where
 each:=λx Y=>by
  rcases pN.1 Y with D|D
  .exact h.each x D.1
  .simp only[aI]at D; subst D; exact O
 nodup:=yT h.nodup (by simp);gone:=U;nv:=h.nv;yE:=h.yE;there:=h.there;all:=W
theorem xD(ss:List (List gS))(h:List gS)(e:gS):kZ ss (ia h [e])=gR (ia (jW (ss++[h])) [e]):=by
 rw[nU,j7,j7,sj]
theorem vi(T:List gS)(e:gS):gR (ia T [e])=(gR T).filter (lN [e])++gR [e]:=by
 unfold gR ia;rw[a9,a8,a8];congr 1;exact aA λx _=>bj _ _
theorem PG{y:List gS}{ss:List (List gS)}(h:Inv y ss)(name text:Wd)(gT il:Int):Inv (om y ss name text gT il).2 ss:=by
 unfold om;split
 .rename_i hn;split
  .rename_i Y;split
   .exact h
   .rename_i hw;split
    .exact h
    .rename_i hm;show Inv (ia y [⟨name,false,text,gT,il⟩]) ss;refine h.Ra (Or.inl ⟨rfl,hn,Y.1,Y.2,by simp; omega,by simp; omega,by simp; omega,by simp; omega⟩) ?_ ?_
     .have:=uf y ⟨name,false,text,gT,il⟩;have:=h.gone;simp only[Bool.false_eq_true,if_false]at *;omega
     .rw[xD,vi,a7];have e1:(gR [(⟨name,false,text,gT,il⟩:gS)]).length=1:=rfl;rw[e1];have ha:=h.all;rw[nU]at ha hm;generalize gR (jW (ss++[y]))=T at *;by_cases D:30<=T.length
      .have O:su T name≠none:=λO=>hm ⟨D,O⟩
       have U:name∈names T:=by
        by_cases hc:name∈names T
        .exact hc
        .exact absurd (um hc) O
       obtain⟨x,hx,W⟩:=re.1 U
       have:(T.filter (lN [⟨name,false,text,gT,il⟩])).length<T.length:=by
        rw[List.length_filter_lt_length_iff_exists];refine⟨x,hx,?_⟩;rw[l6];simp[names,W]
       omega
      .have:=aC (lN [⟨name,false,text,gT,il⟩]) T;omega
  .exact h
 .exact h
theorem QF{y:List gS}{ss:List (List gS)}(h:Inv y ss)(name:Wd):Inv (qO y ss name).2 ss:=by
 unfold qO;split
 .rename_i D;split
  .exact h
  .split
   .exact h
   .rename_i O;rw[np]at O;show Inv (ia y [⟨name,true,[],0,0⟩]) ss;refine h.Ra (Or.inr ⟨rfl,D⟩) ?_ ?_
    .have:=uf y ⟨name,true,[],0,0⟩;simp only[if_true]at this;omega
    .rw[xD,vi,a7];have U:(gR [(⟨name,true,[],0,0⟩:gS)]).length=0:=rfl;rw[U];have W:=h.all;rw[nU]at W;have:=aC (lN [⟨name,true,[],0,0⟩]) (gR (jW (ss++[y])));omega
 .exact h
theorem uC(l:List gS):((gR l).filter λe=>e.gone)=[]:=by
 rw[List.filter_eq_nil_iff];intro e h;have:=(aE.1 h).2;simpa using this
theorem yZ(y:∀e∈l,Sx e)(D:(l.map gS.name).Nodup)(h:0<l.length)(O:(l.filter λe=>e.gone).length<=100)(U:(gR l).length<=30):qn l:=
 ⟨y,D,λe=>by rw[e]at h; simp at h,O,U⟩
theorem LP{y:List gS}{ss:List (List gS)}(h:Inv y ss):Inv (kF y ss).2.1 (kF y ss).2.2:=by
 unfold kF;split
 .exact h
 .split
  .exact h
  .rename_i hb h6
   have D:∀ss':List (List gS),(∀s∈ss',qn s)->ss'.length<=6->(∀k,k<=ss'.length->(gR (jW (ss'.take k))).length<=30)->Inv [] ss':=λss' g1 g2 g3=>
    ⟨λ_ h=>by simp at h,List.Pairwise.nil,by simp,g1,g2,g3,by
      rw[nU,j7,wU]
      have:=g3 ss'.length (be _)
      rw[aW]at this
      exact this⟩
   have jO:=h.all;rw[nU,j7]at jO;have O:(gR y).length<=30:=bf (pO _ _) jO;show Inv [] (if 0<(lm y ss).length then ss++[lm y ss]else ss);split
   .rename_i hpos;refine D _ ?_ (by simp; omega) ?_
    .intro s hs;rcases aG.1 hs with Y|Y
     .exact h.nv s Y
     .simp only[aI]at Y;subst Y;unfold lm at hpos⊢;split
      .rename_i U;rw[if_pos U]at hpos;refine yZ (λe he=>h.each e (aE.1 he).1) (vf h.nodup) hpos ?_ ?_
       .rw[uC]; simp
       .rw[oD]; exact O
      .rename_i U;rw[if_neg U]at hpos;exact yZ h.each h.nodup hpos h.gone O
    .intro k hk;rw[a7,List.length_singleton]at hk;by_cases W:k<=ss.length
     .rw[aR W];exact h.there k W
     .rw[aJ (by simp; omega),j7];unfold lm;split
      .rename_i U;have:ss=[]:=aF.1 U;subst this;show(gR (ia [] (gR y))).length<=30;rw[vY,oD];exact O
      .exact jO
   .exact D ss h.nv h.yE h.there
theorem xY(L M:List (List gS))(a b:List gS):jW (L++[ia a b]++M)=jW (L++[a,b]++M):=by
 rw[lJ (L++[ia a b]) M,lJ (L++[a,b]) M,j7];congr 1;rw[show L++[a,b]=(L++[a])++[b] by simp,j7,j7,sj]
def It(n:Nat)(a b:List gS):List gS:=if n=0 then gR (ia a b)else ia a b
def sr(n:Nat)(a b:List gS):List (List gS):=if 0<(It n a b).length then [It n a b]else []
theorem Qb{n:Nat}{s:List gS}(h:s∈sr n a b):s=It n a b/\0<s.length:=by
 unfold sr at h;split at h
 .rename_i y;simp only[aI]at h;subst h;exact⟨rfl,y⟩
 .simp at h
theorem vp(L X:List (List gS))(a b:List gS):gR (jW (L++(sr L.length a b++X)))=gR (jW (L++([a,b]++X))):=by
 unfold sr It;by_cases y:L.length=0
 .have:L=[]:=aF.1 y;subst this;simp only[List.length_nil,if_true,ba]
  have D:jW ([a,b]++X)=X.foldl ia (ia a b):=by
   rw[lJ];show X.foldl ia (ia (ia [] a) b)=_;rw[vY]
  rw[D,<-G0 X (ia a b)];split
  .rw[lJ];show gR (X.foldl ia (ia [] (gR (ia a b))))=_;rw[vY]
  .rename_i h;have:gR (ia a b)=[]:=aF.1 (by omega);rw[this];rfl
 .rw[if_neg y];split
  .rw[<-aD,<-aD,xY]
  .rename_i h;have h:ia a b=[]:=aF.1 (by omega);have e:=xY L X a b;rw[h]at e
   have O:jW (L++[[]]++X)=jW (L++([]++X)):=by
    rw[lJ,j7,wU,ba,lJ]
   rw[<-O,e,aD]
theorem BF(ss:List (List gS))(n:Nat)(h:n+1<ss.length):ss=ss.take n++([ss.getD n [],ss.getD (n+1) []]++ss.drop (n+2)):=by
 have y:ss.getD n []=ss[n]:=by rw[a',aB (by omega)]; rfl
 have D:ss.getD (n+1) []=ss[n+1]:=by rw[a',aB (by omega)]; rfl
 rw[y,D]
 have O:ss.drop n=ss[n]::ss[n+1]::ss.drop (n+2):=by
  rw[aS (by omega),aS (by omega)]
 have:=List.take_append_drop n ss;rw[O]at this;exact this.symm
theorem IW(ss:List (List gS))(n:Nat):(if 0<(mK ss n).length then [mK ss n]else [])=sr n (ss.getD n []) (ss.getD (n+1) []):=rfl
theorem FQ(ss:List (List gS))(n:Nat)(h:n+1<ss.length)(Y:List (List gS)):gR (jW ((ss.take n++(sr n (ss.getD n []) (ss.getD (n+1) [])++ss.drop (n+2)))++Y))=gR (jW (ss++Y)):=by
 have y:(ss.take n).length=n:=by simp; omega
 have e:=vp (ss.take n) (ss.drop (n+2)++Y) (ss.getD n []) (ss.getD (n+1) []);rw[y]at e;conv=>rhs; rw[BF ss n h]
 simp only[aD]at e⊢;exact e
theorem Qa(n:Nat)(a b:List gS):(sr n a b).length<=1:=by unfold sr; split<;>simp
theorem rb{y:Type}(A B:List y)(k:Nat)(h:A.length<=k):(A++B).take k=A++B.take (k-A.length):=by
 rw[List.take_append,aJ h]
theorem C0{y:List gS}{ss:List (List gS)}(h:Inv y ss)(n:Int):Inv y (jS ss n).2:=by
 unfold jS;split
 .exact h
 .split
  .exact h
  .rename_i hn hg;obtain⟨m,rfl⟩:∃m:Nat,n=(m:Int):=⟨n.toNat,by omega⟩;have hm:m+1<ss.length:=by omega
   rw[Int.toNat_natCast]at *;rw[IW]at *;show Inv y (ss.take m++(sr m (ss.getD m []) (ss.getD (m+1) [])++ss.drop (m+2)));have W:=BF ss m hm;have ad:=FQ ss m hm [y]
   have D:ss.getD m []∈ss/\ss.getD (m+1) []∈ss:=by
    rw[a',a',aB (by omega),aB hm];exact⟨aQ _,aQ _⟩
   have hA:qn (ss.getD m []):=h.nv _ D.1;have hB:qn (ss.getD (m+1) []):=h.nv _ D.2;change ¬100<(It m (ss.getD m []) (ss.getD (m+1) [])).length-(gR (It m (ss.getD m []) (ss.getD (m+1) []))).length at hg;clear D;generalize ss.getD m []=A at *;generalize ss.getD (m+1) []=B at *;have af:=Qa m A B
   have Y:(gR (ia A B)).length<=30:=by
    have O:=h.there (m+2) (by omega)
    have e:ss.take (m+2)=ss.take m++[A,B]:=by
     conv=>lhs; rw[W]
     rw[rb _ _ _ (by simp; omega)];have:(ss.take m).length=m:=by simp; omega
     rw[this,show m+2-m=2 by omega];simp
    rw[e,show ss.take m++[A,B]=(ss.take m++[A])++[B] by simp,j7,j7,sj]at O;exact bf (pO _ _) O
   refine⟨h.each,h.nodup,h.gone,?_,?_,?_,?_⟩
   .intro s hs;rcases aG.1 hs with h1|h1
    .exact h.nv s (List.mem_of_mem_take h1)
    .rcases aG.1 h1 with h1|h1
     .obtain⟨h1,aa⟩:=Qb h1
      .rw[<-h1,np]at hg;unfold It at h1
       have ab:∀e∈s,e∈ia (A) (B):=by
        intro e U;rw[h1]at U;split at U
        .exact(aE.1 U).1
        .exact U
       have ac:=yT hA.nodup hB.nodup;refine yZ (λe U=>?_) ?_ aa (by omega) ?_
       .rcases pN.1 (ab e U)with O|O
        .exact hA.each e O.1
        .exact hB.each e O
       .rw[h1];split
        .exact vf ac
        .exact ac
       .rw[h1];split
        .rw[oD]; exact Y
        .exact Y
     .exact h.nv s (List.mem_of_mem_drop h1)
   .have:=h.yE;simp only[a7,aY,aZ];omega
   .intro k hk;by_cases ae:k<=m
    .rw[aR (by simp; omega),List.take_take,Nat.min_eq_left ae];exact h.there k (by omega)
    .have e0:(ss.take m).length=m:=by simp; omega
     rw[rb _ _ _ (by rw[e0]; omega),e0,rb _ _ _ (by omega)];have e:=vp (ss.take m) ((ss.drop (m+2)).take (k-m-(sr m A B).length)) (A) (B);rw[e0]at e;rw[e]
     have e4:ss.take m++([A,B]++(ss.drop (m+2)).take (k-m-(sr m A B).length))=ss.take (m+2+(k-m-(sr m A B).length)):=by
      conv=>rhs; rw[W]
      rw[rb _ _ _ (by rw[e0]; omega),e0,rb _ _ _ (by simp; omega)];congr 3;simp;omega
     rw[e4];refine h.there _ ?_;simp only[a7,aY,aZ]at hk;omega
   .rw[nU,ad,<-nU];exact h.all
end
section
open Go.RowKit Go.Maps
variable {fs rst:List gS} {r:Nat}
theorem vH(es:List gS)(e:gS)(v:Value)(h:v=tJ e):sJ (es.map mF) e.name v=(ia es [e]).map mF:=by
 subst h;unfold sJ ia;rw[aK,List.filter_map]
 have:(es.filter ((λp:Wd×Value=>p.1 != e.name) ∘ mF))=es.filter (lN [e]):=by
  refine aA λx _=>?_;rw[bi,l6];simp[names,mF]
 rw[this];rfl
theorem je.perm{w:World}{B:Nat}{es:List gS}(h:je w B es)(y:es.Perm fs):je w B fs:=ir.perm h (y.map mF)
theorem je.nodup{w:World}{B:Nat}{es:List gS}(h:je w B es):(es.map gS.name).Nodup:=by
 have:=ir.nodup h;rw[List.map_map]at this;exact this
theorem J8(B:Nat)(es:List gS)(e:gS)(w:World)(hs:je w B es)(hg:e.gone=false)(hl:es.length<1099511627776)(W:e.name.length<=bm) :
  bo prog 72 #[.map (some B),wz e] w λen w'=>en=.returned (.tuple #[])/\je w' B (ia es [e])/\gV (· = B) w w':=by
 obtain⟨D,gn,tx,wt,tg⟩:=e;simp only at hg;subst hg;have y:=vH es ⟨D,false,tx,wt,tg⟩ (.agg #[.bool false,.string ⟨D.toArray⟩,.string ⟨tx.toArray⟩,.int .i64 wt,.int .i64 tg]) rfl;obtain⟨w0,U⟩:∃w0,w.alloc (.cells #[.string ⟨D.toArray⟩,.string ⟨tx.toArray⟩,.int .i64 wt,.int .i64 tg] 96)=w0:=⟨_,rfl⟩;have O:Below w.heap.size w w0:=by rw[<-U]; exact(br _ _).alloc (be _) _
 have h:w0.heap[w.heap.size]?=some (.cells #[.string ⟨D.toArray⟩,.string ⟨tx.toArray⟩,.int .i64 wt,.int .i64 tg] 96 (0,0)):=by rw[<-U]; exact heap_alloc_new w _
 have d0:w0.cell? ⟨w.heap.size,0,none⟩=some (.string ⟨D.toArray⟩):=by rw[Ps h]; rfl
 have d1:w0.cell? ⟨w.heap.size,1,none⟩=some (.string ⟨tx.toArray⟩):=by rw[Ps h]; rfl
 have d2:w0.cell? ⟨w.heap.size,2,none⟩=some (.int .i64 wt):=by rw[Ps h]; rfl
 have d3:w0.cell? ⟨w.heap.size,3,none⟩=some (.int .i64 tg):=by rw[Ps h]; rfl
 have Y:bq _:=O;have aa:bq (je w0 B es):=ir.below hs O;have HP:bq _:=y;clear hs h O y;unfold wz;go_enter func72,ntmps72;go_wp2_with (first|(at_mapUpdate; refine m5 _ rfl _ _ _ 85 rfl 111 bg bh rfl aa.out (by rw[aL]; unfold bm; omega) D W rfl (.agg #[.bool false,.string ⟨D.toArray⟩,.string ⟨tx.toArray⟩,.int .i64 wt,.int .i64 tg]) rfl ?_; intro w1 ab ac ad));go_end0;refine⟨rfl,?_,(gV.jk Y.out).then (gV.qR ac)⟩;unfold je;rw[<-HP.out];exact ab
theorem Dw(B:Nat)(es:List gS)(y:Wd)(w:World)(Y:je w B es)(hl:es.length<1099511627776)(D:y.length<=bm) :
  bo prog 71 #[.map (some B),.string ⟨y.toArray⟩] w λen w'=>en=.returned (.tuple #[])/\je w' B (ia es [⟨y,true,[],0,0⟩])/\gV (· = B) w w':=by
 have h:=vH es ⟨y,true,[],0,0⟩ (.agg #[.bool true,.string ⟨#[]⟩,.string ⟨#[]⟩,.int .i64 0,.int .i64 0]) rfl;have O:bq _:=Y;have HP:bq _:=h;clear Y h;go_enter func71,ntmps71;go_wp2_with (first|(at_mapUpdate; refine m5 _ rfl _ _ _ 85 rfl 111 bg bh rfl O.out (by rw[aL]; unfold bm; omega) y D rfl (.agg #[.bool true,.string ⟨#[]⟩,.string ⟨#[]⟩,.int .i64 0,.int .i64 0]) rfl ?_; intro w1 U W aa));go_end0;refine⟨rfl,?_,gV.qR W⟩;unfold je;rw[<-HP.out];exact U
def uq(w:World)(B r:Nat)(es rst:List gS):Prop:=iP prog 9 w B r (es.map mF) (rst.map mF)
theorem iP.perm{P:Program}{k:TypeId}{w:World}{B:Nat}{l a b:List (Wd×Value)}(h:iP P k w B r l a)(y:a.Perm b):iP P k w B r l b:=by
 obtain⟨O,U,D,left,cnt,W,Y,h5⟩:=h;exact⟨(y.map Prod.fst).nodup_iff.1 O,λp hm=>U p (y.mem_iff.2 hm),D,left,cnt,W,Y,λx=>by rw[h5 x,Gj y]⟩
theorem Q7{p:Wd×Value}{left:List (Wd×Value)}(h:(rst.map mF).Perm (p::left)):∃e y,p=mF e/\left.Perm (y.map mF)/\rst.Perm (e::y):=by
 have hm:p∈rst.map mF:=h.mem_iff.2 (aO ..);obtain⟨e,D,rfl⟩:=aH.1 hm;obtain⟨a,b,rfl⟩:=List.append_of_mem D;refine⟨e,a++b,rfl,?_,aX⟩
 have O:((a++e::b).map mF).Perm (mF e::(a++b).map mF):=by
  rw[<-bd];exact aX.map _
 exact(h.symm.trans O).cons_inv
section
variable {B:Nat} {es:List gS} (w:World) {ops:Array Oper} {rest:List Oper} {o:Oper} {a:Act} {Q:Exit->Act->World->Prop}
theorem mP(D:o.guard=none)(m:Operand)(y:o.op=Op.range 85 m)(hm:a.eval m=.map (some B))(h:je w B es)
  (O:∀w',uq w' B w.heap.size es es->w.grownBy w' none->w'.heap.size=w.heap.size+1->bn prog ops Q rest (a.put o.dst (.pointer (some ⟨w.heap.size,0,none⟩))) w') :
  bn prog ops Q (o::rest) a w:=
 Bf w D m 85 y 111 bg bh hm h O
theorem nK(hg:o.guard=none)(it:Operand)(O:o.op=Op.next it false)(r:Nat)(rst:List gS)
  (U:a.eval it=.pointer (some ⟨r,0,none⟩)) (h:uq w B r es rst)
  (D:rst=[]->bn prog ops Q rest (a.put o.dst (.tuple #[.bool false])) w)
  (hMore:∀(e:gS)(y:List gS)(w':World),rst.Perm (e::y)->uq w' B r es y->w'.rangeLeft B r<w.rangeLeft B r->w.grownBy w' (some r)->w'.heap.size=w.heap.size->
    (Instr.entry (.pointer (some ⟨r,0,none⟩))).run prog w'=.ok (.tuple #[.string ⟨e.name.toArray⟩,.agg #[.bool e.gone,.string ⟨(Bq e).toArray⟩,.string ⟨e.text.toArray⟩,.int .i64 e.gT,.int .i64 e.il]]) w'->
    bn prog ops Q rest (a.put o.dst (.tuple #[.bool true,.string ⟨e.name.toArray⟩,.agg #[.bool e.gone,.string ⟨(Bq e).toArray⟩,.string ⟨e.text.toArray⟩,.int .i64 e.gT,.int .i64 e.il]])) w') :
  bn prog ops Q (o::rest) a w:=by
 refine CS w hg it O bg r (rst.map mF) U h (λh0=>D (by simpa using h0)) ?_;intro p W w' hp hr Y aa ab ac;obtain⟨e,y,rfl,h1,h2⟩:=Q7 hp;exact hMore e y w' h2 (hr.perm h1) Y aa ab ac
end
theorem uq.alloc{w:World}{B:Nat}{es:List gS}(h:uq w B r es rst)(o:Obj):uq (w.alloc o) B r es rst:=iP.kept h (bp w o none) (by simp) (by simp)
theorem lL{w:World}{B:Nat}{o:Obj}(h:B<w.heap.size)(y:r<w.heap.size):(w.alloc o).rangeLeft B r=w.rangeLeft B r:=
 iP.mJ (bs _ _ _ h) (bs _ _ _ y)
theorem ox{w0 w w':World}(h:Below w0.heap.size w0 w)(y:w.grownBy w' (some r))(D:w0.heap.size<=r):Below w0.heap.size w0 w':=h.grown y h.size (λk O=>by cases O; exact D)
def kV(es:List gS):Nat:=(es.filter λe=>e.gone).length
theorem zy(es:List gS)(e:gS):kV (es++[e])=kV es+(if e.gone then 1 else 0):=by
 unfold kV;rw[a9,a7];cases h:e.gone<;>simp[h]
theorem Az(es:List gS):kV es<=es.length:=aC _ _
theorem Ht{es:List gS}(h:es.Perm fs):kV es=kV fs:=(h.filter _).length_eq
theorem lW{D y es:List gS}{e:gS}(h:(D++rst).Perm es)(O:rst.Perm (e::y)):((D++[e])++y).Perm es:=by
 refine List.Perm.trans ?_ h;rw[aD];exact(bk D).append O.symm
theorem xf(B:Nat)(es:List gS)(w:World)(hs:je w B es)(hl:es.length<1099511627776) :
  bo prog 70 #[.map (some B)] w λen w'=>en=.returned (.int .i64 (kV es))/\Below w.heap.size w w':=by
 have HS:bq (je w B es):=hs;have ag:=ir.lt hs;clear hs;go_enter func70,ntmps70;go_wp2_with (first|(at_range; refine mP _ rfl _ rfl rfl HS.out ?_; intro w0 hrg0 hg0 ah));go_frame;go_loopw [3] (λg wr=>∃(h rst:List gS),(h++rst).Perm es/\g=.int .i64 (kV h)/\uq wr B w.heap.size es rst/\Below w.heap.size w wr) (λ_ wr=>wr.rangeLeft B w.heap.size)
 case atStart=>exact⟨[],es,bk _,rfl,hrg0,(br _ w).grown hg0 (be _) (λk hk=>by cases hk)⟩
 case round=>
  obtain⟨h,rst,iS,rfl,hr,hb⟩:=hrel;have HP:bq ((h++rst).Perm es):=iS;have HR:bq (uq wr B w.heap.size es rst):=hr;have HB:bq (Below w.heap.size w wr):=hb
  have ai:kV h<=es.length:=by
   have h1:=Az h;have h2:=iS.length_eq;rw[a7]at h2;omega
  clear iS hr hb;go_wp2_with (first|(at_next; refine nK _ rfl _ rfl w.heap.size rst rfl HR.out ?_ ?_))
  .intro h0
   have HE:bq (kV h=kV es):=by
    show _=_;refine Ht ?_;have:=HP.out;rw[h0,aM]at this;exact this
   clear h0;go_wp2;go_ret;exact⟨iJ (by rw[HE.out]),HB.out⟩
  .intro e y w1 U D O W Y aj;have aa:=iP.lt D;have ab:=ir.lt (iP.owns D);have ac:bq (Below w.heap.size w w1):=ox HB.out W (be _);have ad:bq (uq w1 B w.heap.size es y):=D;have ae:bq (w1.rangeLeft B w.heap.size<wr.rangeLeft B w.heap.size):=O;have af:bq (rst.Perm (e::y)):=U;clear U D O W;obtain⟨nm,gn,tx,wt,tg⟩:=e
   cases gn with
   |false=>
    go_wp2;go_roundw
    case rel=>
     refine⟨h++[⟨nm,false,tx,wt,tg⟩],y,lW HP.out af.out,?_,ad.out.alloc _,ac.out.alloc (bf HB.out.size (by rw[Y]; exact be _)) _⟩;rw[zy];simp
    case measure=>
     rw[lL ab aa];exact ae.out
   |true=>
    go_wp2;go_roundw
    case rel=>
     refine⟨h++[⟨nm,true,tx,wt,tg⟩],y,lW HP.out af.out,?_,ad.out.alloc _,ac.out.alloc (bf HB.out.size (by rw[Y]; exact be _)) _⟩;rw[zy];go_num
    case measure=>
     rw[lL ab aa];exact ae.out
end
section
open Go.RowKit Go.Maps
variable {e:gS} {l:List gS}
theorem FZ(h:e.name ∉ l.map gS.name):ia l [e]=l++[e]:=by
 unfold ia;rw[aV.2];intro x y;rw[l6];simp only[names,bd,List.map_nil,aI];intro D;exact h (aH.2 ⟨x,y,D⟩)
theorem EY{D rst y es:List gS}(W:(es.map gS.name).Nodup)(h:(D++rst).Perm es)(Y:rst.Perm (e::y)):e.name ∉ D.map gS.name:=by
 have h1:=lW h Y;have O:(((D++[e])++y).map gS.name).Nodup:=(h1.map _).nodup_iff.2 W;rw[aK,aK,aP]at O;have U:=O.1;rw[aP]at U;intro hm;exact U.2.2 _ hm e.name (by simp) rfl
theorem xV(l:List gS)(e:gS):gR (l++[e])=gR l++(if e.gone then []else [e]):=by
 unfold gR;rw[a9];cases h:e.gone<;>simp[h]
theorem Dt{x:Wd}(h:x ∉ l.map gS.name):x ∉ (gR l).map gS.name:=by
 intro hm;obtain⟨e,y,rfl⟩:=aH.1 hm;exact h (aH.2 ⟨e,(aE.1 y).1,rfl⟩)
theorem sW(B:Nat)(es:List gS)(w:World)(hs:je w B es)(hl:es.length<1099511627776)(ah:∀e∈es,e.name.length<=bm) :
  bo prog 60 #[.map (some B)] w λen w'=>∃C,en=.returned (.map (some C))/\w.heap.size<=C/\je w' C (gR es)/\Below w.heap.size w w':=by
 have a2:=@run_makeMap prog;have ai:=hs.nodup;obtain⟨w0,ad⟩:∃w0,w.alloc (.map #[] 0)=w0:=⟨_,rfl⟩;have ar:w0.heap.size=w.heap.size+1:=by rw[<-ad]; simp
 have hb0:Below w.heap.size w w0:=by rw[<-ad]; exact(br _ _).alloc (be _) _
 have hM0:je w0 w.heap.size []:=by rw[<-ad]; exact ir.made w
 have HS:bq (je w0 B es):=ir.below hs hb0;have au:bq ((es.map gS.name).Nodup):=ai;have av:bq (∀e∈es,e.name.length<=bm):=ah;have a3:=ir.lt hs;clear hs ai ah;go_enter func60,ntmps60;go_wp2_with (first|(at_range; refine mP _ rfl _ rfl rfl HS.out ?_; intro w1 hrg0 hg0 aw));rw[ar]at hrg0 aw⊢;go_frame;go_loopw [4] (λ_ wr=>∃(h rst:List gS),(h++rst).Perm es/\uq wr B (w.heap.size+1) es rst/\je wr w.heap.size (gR h)/\Below w.heap.size w wr) (λ_ wr=>wr.rangeLeft B (w.heap.size+1))
 case atStart=>exact⟨[],es,bk _,hrg0,ir.kept hM0 hg0 (by simp),hb0.grown hg0 hb0.size (λk hk=>by cases hk)⟩
 case round=>
  obtain⟨h,rst,iS,hr,hm,hb⟩:=hrel;have HP:bq ((h++rst).Perm es):=iS;have HR:bq (uq wr B (w.heap.size+1) es rst):=hr;have HM:bq (je wr w.heap.size (gR h)):=hm;have HB:bq (Below w.heap.size w wr):=hb
  have a4:(gR h).length<=es.length:=by
   have h1:=pG h;have h2:=iS.length_eq;rw[a7]at h2;omega
  clear iS hr hb hm;go_wp2_with (first|(at_next; refine nK _ rfl _ rfl (w.heap.size+1) rst rfl HR.out ?_ ?_))
  .intro h0
   have HE:bq (h.Perm es):=by
    show List.Perm _ _;have:=HP.out;rw[h0,aM]at this;exact this
   clear h0;go_wp2;go_ret;exact⟨_,rfl,be _,HM.out.perm (xJ HE.out),HB.out⟩
  .intro e y w2 U W ab ae ax a5;have aj:=iP.lt W;have ak:=ir.lt (iP.owns W);have af:bq (Below w.heap.size w w2):=ox HB.out ae (by omega);have al:bq (uq w2 B (w.heap.size+1) es y):=W;have am:bq (w2.rangeLeft B (w.heap.size+1)<wr.rangeLeft B (w.heap.size+1)):=ab;have an:bq (rst.Perm (e::y)):=U;have ao:bq (je w2 w.heap.size (gR h)):=ir.kept HM.out ae (by simp);have ay:e.name.length<=bm:=av.out e (HP.out.mem_iff.1 (aT _ (U.mem_iff.2 (aO ..))));have ac:=EY au.out HP.out U;have D:=vH (gR h) e (.agg #[.bool e.gone,.string ⟨(Bq e).toArray⟩,.string ⟨e.text.toArray⟩,.int .i64 e.gT,.int .i64 e.il]) rfl;rw[FZ (Dt ac)]at D;have Y:=xV h e;clear U W ab ae ac;obtain⟨O,gn,tx,wt,tg⟩:=e
   cases gn with
   |true=>
    have ag:bq (gR (h++[⟨O,true,tx,wt,tg⟩])=gR h):=by show _=_; rw[Y]; simp
    clear Y D;go_wp2;go_roundw
    case rel=>
     exact⟨h++[⟨O,true,tx,wt,tg⟩],y,lW HP.out an.out,al.out.alloc _,by rw[ag.out]; exact ir.kept ao.out (bp _ _ none) (by simp),af.out.alloc (bf HB.out.size (by rw[ax]; exact be _)) _⟩
    case measure=>
     rw[lL ak aj];exact am.out
   |false=>
    have ag:bq (gR (h++[⟨O,false,tx,wt,tg⟩])=gR h++[⟨O,false,tx,wt,tg⟩]):=by show _=_; rw[Y]; simp
    have ap:bq (sJ ((gR h).map mF) O (.agg #[.bool false,.string ⟨(Bq (⟨O,false,tx,wt,tg⟩:gS)).toArray⟩,.string ⟨tx.toArray⟩,.int .i64 wt,.int .i64 tg])=(gR h++[(⟨O,false,tx,wt,tg⟩:gS)]).map mF):=D;clear Y D;have aq:=λo:Obj=>ir.kept ao.out (bp w2 o none) (by simp);have az:bq (∀o:Obj,ir prog 9 (w2.alloc o) w.heap.size ((gR h).map mF)):=aq;clear aq;go_wp2_with (first|(at_mapUpdate; refine m5 _ rfl _ _ _ 85 rfl 111 bg bh rfl (az.out _) (by rw[aL]; unfold bm; omega) O ay rfl (.agg #[.bool false,.string ⟨(Bq (⟨O,false,tx,wt,tg⟩:gS)).toArray⟩,.string ⟨tx.toArray⟩,.int .i64 wt,.int .i64 tg]) rfl ?_; intro w3 a0 aa a6));have a1:w.heap.size<=w2.heap.size:=af.out.size;refine⟨⟨h++[⟨O,false,tx,wt,tg⟩],y,lW HP.out an.out,iP.kept (al.out.alloc _) aa (by simp; omega) (by simp),?_,(af.out.alloc a1 _).grown aa (by simp; omega) (λk hk=>by cases hk; exact be _)⟩,?_⟩
    .rw[ag.out];unfold je;rw[<-ap.out];exact a0
    .rw[iP.mJ (aa.block B (by simp; omega) (by simp; omega)) (aa.block (w.heap.size+1) (by simp; omega) (by simp)),lL ak aj];exact am.out
theorem NP(B C:Nat)(ds es:List gS)(w:World)(hd:je w B ds)(hs:je w C es)(av:B≠C)(hl:es.length<549755813888)(aw:ds.length<549755813888)(ad:∀e∈es,e.name.length<=bm) :
  bo prog 89 #[.map (some B),.map (some C)] w λen w'=>en=.returned (.tuple #[])/\je w' B (ia ds es)/\gV (· = B) w w':=by
 have ae:=hs.nodup;have HS:bq (je w C es):=hs;have HD:bq (je w B ds):=hd;have ah:bq ((es.map gS.name).Nodup):=ae;have ai:bq (∀e∈es,e.name.length<=bm):=ad;have ax:=ir.lt hd;have ay:=ir.lt hs;clear hs hd ae ad;go_enter func89,ntmps89;go_wp2_with (first|(at_range; refine mP _ rfl _ rfl rfl HS.out ?_; intro w1 hrg0 y az));go_frame;go_loopw [4] (λ_ wr=>∃(h rst:List gS),(h++rst).Perm es/\uq wr C w.heap.size es rst/\je wr B (ia ds h)/\gV (· = B) w wr) (λ_ wr=>wr.rangeLeft C w.heap.size)
 case atStart=>exact⟨[],es,bk _,hrg0,by rw[wU]; exact ir.kept HD.out y (by simp),⟨y.os,y.tape,y.output,y.size,λk hk _=>y.block k hk (by simp)⟩⟩
 case round=>
  obtain⟨h,rst,iS,hr,hm,hb⟩:=hrel;have HP:bq ((h++rst).Perm es):=iS;have HR:bq (uq wr C w.heap.size es rst):=hr;have HM:bq (je wr B (ia ds h)):=hm;have HB:bq (gV (· = B) w wr):=hb
  have a0:(ia ds h).length<=1099511627775:=by
   have h1:=C7 ds h;have h2:=iS.length_eq;rw[a7]at h2;omega
  clear iS hr hb hm;go_wp2_with (first|(at_next; refine nK _ rfl _ rfl w.heap.size rst rfl HR.out ?_ ?_))
  .intro h0
   have HE:bq (h.Perm es):=by
    show List.Perm _ _;have:=HP.out;rw[h0,aM]at this;exact this
   clear h0;go_wp2;go_end0;exact⟨rfl,HM.out.perm (Ml (bk _) HE.out),HB.out⟩
  .intro e D w2 U W aa ac a1 a2;have aj:=iP.lt W;have ak:=ir.lt (iP.owns W);have a3:=HB.out.size;have al:bq (gV (· = B) w w2):=HB.out.trans (gV.qR ac) (λi hi hg=>by omega);have am:bq (uq w2 C w.heap.size es D):=W;have an:bq (w2.rangeLeft C w.heap.size<wr.rangeLeft C w.heap.size):=aa;have ao:bq (rst.Perm (e::D)):=U;have af:bq (je w2 B (ia ds h)):=ir.kept HM.out ac (by simp; omega);have ap:e.name.length<=bm:=ai.out e (HP.out.mem_iff.1 (aT _ (U.mem_iff.2 (aO ..))));have ab:=EY ah.out HP.out U;have O:=vH (ia ds h) e (.agg #[.bool e.gone,.string ⟨(Bq e).toArray⟩,.string ⟨e.text.toArray⟩,.int .i64 e.gT,.int .i64 e.il]) rfl;rw[sj,FZ ab]at O;have ag:bq (sJ ((ia ds h).map mF) e.name (.agg #[.bool e.gone,.string ⟨(Bq e).toArray⟩,.string ⟨e.text.toArray⟩,.int .i64 e.gT,.int .i64 e.il])=(ia ds (h++[e])).map mF):=O;have aq:bq (∀o:Obj,ir prog 9 (w2.alloc o) B ((ia ds h).map mF)):=λo=>ir.kept af.out (bp w2 o none) (by simp);clear U W aa ac ab O;go_wp2_with (first|(at_mapUpdate; refine m5 _ rfl _ _ _ 85 rfl 111 bg bh rfl (aq.out _) (by rw[aL]; unfold bm; omega) e.name ap rfl (.agg #[.bool e.gone,.string ⟨(Bq e).toArray⟩,.string ⟨e.text.toArray⟩,.int .i64 e.gT,.int .i64 e.il]) rfl ?_; intro w3 ar Y a4));have au:=ir.lt af.out;refine⟨⟨_,_,_,_,_,_,_,_,_,_,⟨h++[e],D,lW HP.out ao.out,iP.kept (am.out.alloc _) Y (by simp; omega) (by simp; omega),?_,(al.out.then (gV.jk ((br _ _).alloc (be _) _))).then (gV.qR Y)⟩,rfl⟩,?_⟩
   .unfold je;rw[<-ag.out];exact ar
   .rw[iP.mJ (Y.block C (by simp; omega) (by simp; omega)) (Y.block w.heap.size (by simp; omega) (by simp; omega)),lL ak aj];exact an.out
end
section
open Go.RowKit
def lC(a:Wd)(c:UInt8)(row:List Nat)(z:Nat):Nat->List Nat
 |0=>[z]
 |i+1=>lC a c row z i++[min (min (row.getD i 0+(if a.getD i 0=c then 0 else 1)) (row.getD (i+1) 0+1)) ((lC a c row z i).getD i 0+1)]
def nQ(a s:Wd):Nat->List Nat
 |0=>aN (a.length+1)
 |k+1=>lC a (s.getD k 0) (nQ a s k) (k+1) a.length
def FE(a s:Wd)(k:Nat):Nat:=(nQ a s k).getD a.length 0
theorem ns(a:Wd)(c:UInt8)(row:List Nat)(z:Nat):∀i,(lC a c row z i).length=i+1:=by
 intro i
 induction i with
 |zero=>rfl
 |succ i h=>rw[lC,a7,h]; rfl
theorem wA(a s:Wd)(k:Nat):(nQ a s k).length=a.length+1:=by
 cases k with
 |zero=>simp[nQ]
 |succ k=>rw[nQ,ns]
theorem vC(a:Wd)(c:UInt8)(row:List Nat)(z m:Nat)(U:z<=m)(D:∀x∈row,x+1<=m):∀i,i<row.length->∀x∈lC a c row z i,x<=m:=by
 intro i
 induction i with
 |zero=>intro _ x y; simp[lC]at y; omega
 |succ i O=>
  intro hi x y;rw[lC]at y;rcases aG.1 y with h|h
  .exact O (by omega) x h
  .simp only[List.mem_cons,List.not_mem_nil,or_false]at h;have W:=D (row.getD (i+1) 0) (by rw[a',aB hi]; exact aQ hi);omega
theorem Gb(a s:Wd):∀k,∀x∈nQ a s k,x<=a.length+k:=by
 intro k
 induction k with
 |zero=>intro x h; simp[nQ]at h; omega
 |succ k D=>
  intro x h;rw[nQ]at h;exact vC a _ _ (k+1) (a.length+(k+1)) (by omega) (λy O=>by have:=D y O; omega) a.length (by rw[wA]; omega) x h
def nD(mode:Nat)(q s:Wd):Bool:=
 if mode=0 then tN s q
 else if mode=1 then(aN s.length).any λi=>jV s i&&tN (s.drop i) q
 else(aN (s.length+1)).any λk=>decide (FE q s k<mode)
end
section
open Go.RowKit
theorem ye{x y:UInt8}:((x.toNat:Int)==(y.toNat:Int))=decide (x=y):=by
 rw[bi,beq_iff_eq,decide_eq_true_eq];constructor
 .intro h; exact UInt8.toNat_inj.1 (by omega)
 .intro h; rw[h]
end
section
open Go.RowKit
variable {n:Nat} {p:Nat->Bool}
theorem Pe(s:ByteArray)(n:Nat):(s.extract n s.size).data.toList=s.data.toList.drop n:=by
 rw[ByteArray.data_extract];simp;rw[aJ (by simp)]
theorem any_none(h:∀i,i<n->p i=false):(aN n).any p=false:=by
 rw[List.any_eq_false];intro x y;rw[h x (bc.1 y)]; simp
theorem any_some(i:Nat)(hi:i<n)(h:p i=true):(aN n).any p=true:=
 List.any_eq_true.2 ⟨i,bc.2 hi,h⟩
end
section
open Go.RowKit
def jw(x y:gS):Bool:=if x.gT=y.gT then(if ie x=ie y then Op.bytesLess x.name y.name else Op.bytesLess (ie x) (ie y))else decide (y.gT<x.gT)
end
end Go.Proofs.YtocbogeoffeolaaGreatDoor
