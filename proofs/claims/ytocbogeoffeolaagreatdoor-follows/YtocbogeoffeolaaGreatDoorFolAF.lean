import Derived.Test.YtocbogeoffeolaaGreatDoorFolAA
import Derived.Test.YtocbogeoffeolaaGreatDoorFolAE
import Derived.Deep.RegionHeld3
import Derived.Recover
set_option linter.unusedVariables false
set_option linter.unusedSimpArgs false
set_option maxHeartbeats 8000000
set_option maxRecDepth 1000000
open List renaming mem_map->ar,pairwise_cons->au,mem_cons->av,mem_filter->aw,flatMap_cons->ax,cons_prefix_cons->ay,nil_prefix->az,mem_flatMap->a0,takeWhile_append_dropWhile->a5,getD_eq_getElem?_getD->a6,length_cons->a7,cons_append->a8,exists_mem_of_ne_nil->a9,filter_append->a',nil_append->aA,mem_append->aB,append_nil->aC,mem_singleton->aD,map_cons->aE,pairwise_singleton->aF,dropWhile_sublist->aG,take_append_drop->aH,filter_eq_self->aI,length_append->aJ,take_succ_eq_append_getElem->aK,pairwise_map->aL,append_assoc->aM,prefix_refl->aN,map_append->aO,length_map->aP,foldl_cons->aQ,perm_ext_iff_of_nodup->aR,pairwise_iff_getElem->aS,findIdx?_eq_none_iff->aT,takeWhile_sublist->aU,filter_eq_nil_iff->aV,length_filter_le->aW,pairwise_append->aX,mem_append_left->aY,length_pos_iff->aZ,nodup_append->ba,perm_middle->bb,flatMap_map->bc,filter_cons->bd,sum_append->be,prefix_nil->bf,nodup_cons->bg,sum_cons->bh,map_nil->bi,length->bj,Nodup->bk
open Option renaming bind_some->bl,bind_eq_some_iff->bm
open Go.Op renaming bytesLess->bn
open Nat renaming shiftLeft_eq->bo,shiftLeft_add_eq_or_of_lt->bp,le_trans->bq,le_antisymm->br,le_refl->bt
open Bool renaming and_eq_true->bu,or_eq_false_iff->bv,and_eq_false_imp->bw,eq_iff_iff->bx
open List.Perm renaming append_left->bz,eq_of_pairwise->b0,refl->b5
open Option.some renaming injEq->b6
open List.Pairwise renaming sublist->b7,of_map->b8,imp_of_mem->b9
open Int renaming tmod_eq_emod_of_nonneg->b',tdiv_eq_ediv_of_nonneg->bA,eq_ofNat_of_zero_le->bB
open ByteArray renaming ext->bC,data_extract->bD
open UInt8 renaming ofNat->bE,lt_iff_toNat_lt->bF,toNat_inj->bG
open Go.RowKit renaming wrap64->bH,Hid->bI
open Go.IntKind renaming wrap_i64->bJ
open Prod.mk renaming injEq->bK
open Go renaming Calls->bL,maxLen->bM
namespace Go.Proofs.YtocbogeoffeolaaGreatDoor
open Go.Proofs.Tryz
section
open Go.RowKit
def lN(later:List gS)(e:gS):Bool:=(su later e.name).isNone
def ia(old later:List gS):List gS:=old.filter (lN later)++later
def gR(l:List gS):List gS:=l.filter λe=>!e.gone
end
section
open Go.RowKit
def mf(l:List UInt8):Bool:=l.all jf&&decide (0<l.length)&&decide (l.length<=8)
def li(ss:List (List gS)):Nat:=(ss.map λs=>s.length+1).sum
def p9(ss:List (List gS))(k:Nat):List gS:=(ss.take k).foldl ia []
def kZ(ss:List (List gS))(h:List gS):List gS:=gR (ia (p9 ss ss.length) h)
theorem C7(a b:List gS):(ia a b).length<=a.length+b.length:=by
 unfold ia;have:=aW (lN b) a;rw[aJ]; omega
theorem D8(ss:List (List gS))(k:Nat)(h:k<ss.length):p9 ss (k+1)=ia (p9 ss k) ss[k]:=by
 unfold p9;rw[aK h,List.foldl_append]; rfl
theorem zF(ss:List (List gS))(i:Nat)(h:i<ss.length):li (ss.take (i+1))=li (ss.take i)+(ss[i].length+1):=by
 unfold li;rw[aK h,aO,be]; rfl
theorem Gt(ss:List (List gS))(i:Nat):li (ss.take i)<=li ss:=by
 have:li ss=li (ss.take i)+li (ss.drop i):=by
  unfold li; rw[<-be,<-aO,aH]
 omega
theorem Ms(ss:List (List gS)):ss.length<=li ss:=by
 induction ss with
 |nil=>simp
 |cons t y h=>simp only[li,aE,bh,a7]at h⊢; omega
theorem E1(ss:List (List gS))(k:Nat)(D:k<=ss.length):(p9 ss k).length<=li (ss.take k):=by
 induction k with
 |zero=>simp[p9]
 |succ k y=>
  have h:=y (by omega);rw[D8 ss k (by omega),zF ss k (by omega)];have:=C7 (p9 ss k) ss[k];omega
end
section
open Go.RowKit
variable {l m:List gS} {S T:List Wd} {α:Type} {q:Wd}
def ie(e:gS):Wd:=iD e.text
def tN(s p:Wd):Bool:=decide (p <+: s)
theorem qd(s p:Wd):tN s p=true↔p <+: s:=by simp[tN]
theorem JL(s p:Wd):tN s p=(decide (p.length<=s.length)&&(s.take p.length==p)):=by
 rw[bx,qd,bu,decide_eq_true_iff,beq_iff_eq,List.prefix_iff_eq_take];constructor
 .intro h; refine⟨?_,h.symm⟩;have:=congrArg bj h; simp at this; omega
 .intro h; exact h.2.symm
def tU:Wd->Wd->Wd
 |a::u,b::bs=>if a=b then a::tU u bs else []
 |_,_=>[]
theorem tC:∀a b:Wd,tU a b <+: a
 |[],b=>by cases b<;>exact aN _
 |a::u,[]=>az
 |a::u,b::bs=>by
  unfold tU;split
  .exact ay.2 ⟨rfl,tC u bs⟩
  .exact az
theorem rV:∀a b:Wd,tU a b <+: b
 |[],b=>by cases b<;>exact az
 |a::u,[]=>aN _
 |a::u,b::bs=>by
  unfold tU;split
  .rename_i h; subst h; exact ay.2 ⟨rfl,rV u bs⟩
  .exact az
theorem tF:∀(a b r:Wd),r <+: a->r <+: b->r <+: tU a b
 |[],b,r,h,_=>by have:=bf.1 h; subst this; exact az
 |a::u,[],r,_,h=>by have:=bf.1 h; subst this; exact az
 |a::u,b::bs,[],_,_=>az
 |a::u,b::bs,c::r,O,U=>by
  have y:=ay.1 O;have D:=ay.1 U;unfold tU;rw[if_pos (y.1.symm.trans D.1)];exact ay.2 ⟨y.1,tF u bs r y.2 D.2⟩
def OB:List Wd->Wd
 |[]=>[]
 |a::u=>u.foldl tU a
def ue(q:Wd)(S:List Wd):Prop:=(∀s∈S,q <+: s)/\∀r:Wd,(∀s∈S,r <+: s)->r <+: q
theorem JO:∀(u:List Wd)(a:Wd),ue (u.foldl tU a) (a::u)
 |[],a=>⟨λs y=>by simp at y; subst y; exact aN _,λr h=>h a (by simp)⟩
 |b::u,a=>by
  have D:=JO u (tU a b)
  refine⟨λs y=>?_,λr h=>?_⟩
  .have O:=D.1 (tU a b) (by simp);simp only[av]at y;rcases y with rfl|rfl|y
   .exact O.trans (tC _ _)
   .exact O.trans (rV _ _)
   .exact D.1 s (by simp[y])
  .refine D.2 r (λs y=>?_);simp only[av]at y;rcases y with rfl|y
   .exact tF _ _ _ (h a (by simp)) (h b (by simp))
   .exact h s (by simp[y])
theorem yJ(h:S≠[]):ue (OB S) S:=by
 cases S with
 |nil=>exact absurd rfl h
 |cons a u=>exact JO u a
theorem ue.one{p:Wd}(h:ue p S)(y:ue q S):p=q:=
 (y.2 p h.1).eq_of_length (br (y.2 p h.1).length_le (h.2 q y.1).length_le)
theorem PL(h:S≠[])(y:ue q S):OB S=q:=(yJ h).one y
theorem ue.congr(h:∀s,s∈S↔s∈T)(D:ue q S):ue q T:=
 ⟨λs y=>D.1 s ((h s).2 y),λr O=>D.2 r (λs y=>O s ((h s).1 y))⟩
theorem IV(h:∀s,s∈S↔s∈T):OB S=OB T:=by
 by_cases e:S=[]
 .subst e
  have:T=[]:=by
   cases T with
   |nil=>rfl
   |cons a T=>exact absurd ((h a).2 (by simp)) (by simp)
  rw[this]
 .exact((yJ e).congr h).one (yJ (λy=>by
   subst y
   cases S with
   |nil=>exact e rfl
   |cons a S=>exact absurd ((h a).1 (by simp)) (by simp)))
def yO(a b:gS):Bool:=bn a.name b.name
def tQ(out:List gS)(x:gS):List gS:=out.takeWhile (λy=>yO y x)++x::out.dropWhile (λy=>yO y x)
def jo(l:List gS):List gS:=l.foldl tQ []
def nd(l:List gS):Prop:=l.Pairwise λa b=>yO b a=false
def ma(l:List gS):Prop:=l.Pairwise λa b=>yO a b=true
theorem Gh(q:α->Bool)(A B:List α)(h:∀a∈A,q a=true)(y:∀b∈B,q b=false):(A++B).takeWhile q=A/\(A++B).dropWhile q=B:=by
 induction A with
 |nil=>
  cases B with
  |nil=>simp
  |cons b B=>have:=y b (by simp); simp[this]
 |cons a A D=>
  have O:=h a (by simp);have:=D (λx U=>h x (by simp[U]));simp[O,this.1,this.2]
theorem Pf{p:α->Bool}:∀(l:List α)(y:α),y∈l.takeWhile p->p y=true:=by
 intro l
 induction l with
 |nil=>intro y h; simp at h
 |cons a l D=>
  intro y h;rw[List.takeWhile_cons]at h;split at h
  .rename_i O;rcases av.1 h with rfl|h
   .exact O
   .exact D y h
  .simp at h
theorem Jx{p:α->Bool}:∀(l:List α)(y:α)(r:List α),l.dropWhile p=y::r->p y=false:=by
 intro l
 induction l with
 |nil=>intro y r h; simp at h
 |cons a l D=>
  intro y r h;rw[List.dropWhile_cons]at h;split at h
  .exact D y r h
  .rename_i O;cases h;simpa using O
theorem Pv{x y z:gS}(O:yO y x=false)(U:yO z y=false):yO z x=false:=by
 unfold yO at *
 cases h:bn z.name x.name with
 |false=>rfl
 |true=>
  rcases kS y.name z.name with D|D|D
  .rw[oN _ _ _ D h]at O; cases O
  .rw[D,h]at O; cases O
  .rw[D]at U; cases U
theorem Cf(out:List gS)(x:gS)(h:nd out):∃A B,out=A++B/\tQ out x=A++x::B/\(∀a∈A,yO a x=true)/\∀b∈B,yO b x=false:=by
 refine⟨out.takeWhile (λy=>yO y x),out.dropWhile (λy=>yO y x),(a5).symm,rfl,λa O=>Pf out a O,λb hb=>?_⟩;have U:nd (out.dropWhile (λy=>yO y x)):=b7 (aG _) h;have W:=Jx (p:=λy=>yO y x) out;generalize out.dropWhile (λy=>yO y x)=B at *
 cases B with
 |nil=>simp at hb
 |cons c B=>
  have D:yO c x=false:=W c B rfl;simp only[av]at hb;rcases hb with rfl|hb
  .exact D
  .exact Pv D (List.rel_of_pairwise_cons U hb)
theorem zv(out:List gS)(x:gS)(h:nd out):nd (tQ out x):=by
 obtain⟨A,B,rfl,D,O,U⟩:=Cf out x h;rw[D];unfold nd at *;rw[aX]at h⊢;refine⟨h.1,au.2 ⟨λb hb=>U b hb,h.2.1⟩,λa y b hb=>?_⟩;simp only[av]at hb;rcases hb with rfl|hb
 .exact so (O a y)
 .exact h.2.2 a y b hb
theorem Dd(l:List gS):∀out,nd out->nd (l.foldl tQ out):=by
 induction l with
 |nil=>intro out h; exact h
 |cons x l y=>intro out h; exact y _ (zv out x h)
theorem Dl(l:List gS):nd (jo l):=Dd l [] List.Pairwise.nil
theorem OW(out:List gS)(x:gS):(tQ out x).Perm (x::out):=by
 unfold tQ;refine bb.trans (List.Perm.cons x ?_);rw[a5]
theorem Hi(l:List gS):∀out,(l.foldl tQ out).Perm (l++out):=by
 induction l with
 |nil=>intro out; exact b5 _
 |cons x l h=>
  intro out;refine(h (tQ out x)).trans ?_;refine(bz l (OW out x)).trans ?_;exact bb
theorem jM(l:List gS):(jo l).Perm l:=by have:=Hi l []; rw[aC]at this; exact this
theorem pI{e:gS}:e∈jo l↔e∈l:=(jM l).mem_iff
theorem KS(l:List gS):(jo l).length=l.length:=(jM l).length_eq
theorem Jg(p:gS->Bool)(out:List gS)(x:gS)(h:nd out):(tQ out x).filter p=if p x=true then tQ (out.filter p) x else out.filter p:=by
 obtain⟨A,B,rfl,U,W,Y⟩:=Cf out x h;rw[U];have hA:∀a∈A.filter p,(λy=>yO y x) a=true:=λa D=>W a (aw.1 D).1;have hB:∀a∈B.filter p,(λy=>yO y x) a=false:=λa D=>Y a (aw.1 D).1;have O:=Gh _ _ _ hA hB;rw[a',a',bd];split
 .unfold tQ; rw[O.1,O.2]
 .rfl
theorem Dq(p:gS->Bool)(l:List gS):∀out,nd out->(l.foldl tQ out).filter p=(l.filter p).foldl tQ (out.filter p):=by
 induction l with
 |nil=>intro out _; rfl
 |cons x l y=>
  intro out h;rw[aQ,y _ (zv out x h),Jg p out x h,bd];split
  .rfl
  .rfl
theorem rR(p:gS->Bool)(l:List gS):(jo l).filter p=jo (l.filter p):=Dq p l [] List.Pairwise.nil
theorem PP(out:List gS)(x:gS)(h:∀a∈out,yO a x=true):tQ out x=out++[x]:=by
 have:=Gh (λy=>yO y x) out [] h (by simp);rw[aC]at this;unfold tQ; rw[this.1,this.2]
theorem CZ(l:List gS):∀out,ma (out++l)->l.foldl tQ out=out++l:=by
 induction l with
 |nil=>intro out _; simp
 |cons x l y=>
  intro out h;have D:=(aX.1 h).2.2;rw[aQ,PP out x (λa O=>D a O x (by simp)),y]
  .simp
  .simpa using h
theorem Di(l:List gS)(h:ma l):jo l=l:=by simpa[jo]using CZ l [] (by simpa using h)
theorem Mt(h:nd l)(D:(l.map gS.name).Nodup):ma l:=by
 unfold nd at h; unfold ma;rw[bk,aL]at D;refine(h.and D).imp ?_;rintro a b ⟨O,U⟩;unfold yO at *;rcases kS a.name b.name with y|y|y
 .exact y
 .exact absurd y U
 .rw[y]at O; cases O
theorem p8(l:List gS)(h:(l.map gS.name).Nodup):ma (jo l):=
 Mt (Dl l) (((jM l).map gS.name).nodup_iff.2 h)
theorem ma.nodup(h:ma l):(l.map gS.name).Nodup:=by
 rw[bk,aL];exact h.imp (λh=>CC h)
theorem Ib(y:ma l)(hm:ma m)(h:l.Perm m):l=m:=by
 refine b0 (le:=λa b=>yO a b=true) ?_ y hm h;intro a b _ _ D h2;have:=so D;unfold yO at h2;rw[h2]at this; cases this
theorem E0(y:(l.map gS.name).Nodup)(h:l.Perm m):jo l=jo m:=
 Ib (p8 l y) (p8 m ((h.map gS.name).nodup_iff.1 y)) (((jM l).trans h).trans (jM m).symm)
end
section
open Go.RowKit
variable {l:List gS} {p s:Wd}
def u8(n:Int):UInt8:=bE (n % 256).toNat
def io(s:Wd):Wd:=u8 s.length::s
def kY(n:Int):Wd:=[u8 (n.tdiv 65536),u8 ((n.tdiv 256).tmod 256),u8 (n.tmod 256)]
def pZ(e:gS):Wd:=io e.name++(io e.text++(kY e.gT++[u8 e.il]))
def k9(l:List gS):Int:=l.foldl (λg e=>if g<e.gT then e.gT else g) 0
def Ss(l:List gS)(p:Wd):List gS:=l.filter λe=>tN (ie e) p
def n5(l:List gS)(p:Wd):List gS:=l.filter λe=>ie e==p
def lT(G:List gS)(p:Wd)(c:UInt8):List gS:=G.filter λe=>tN (ie e) (p++[c])
def mn:List UInt8:=(List.range 256).map bE
def lQ(G:List gS)(p:Wd):List UInt8:=mn.filter λc=>!(lT G p c).isEmpty
def nP(H:List gS):Wd:=OB (H.map ie)
def oM:Nat->Wd->List gS->Wd
 |0,_,_=>[]
 |f+1,p,G=>kY (k9 G)++(u8 (n5 G p).length::((n5 G p).flatMap pZ++(u8 (lQ G p).length::(lQ G p).flatMap λc=>io ((nP (lT G p c)).drop p.length)++oM f (nP (lT G p c)) (lT G p c))))
theorem mX(p s:Wd)(c:UInt8):p++[c] <+: s↔p <+: s/\p.length<s.length/\s.getD p.length 0=c:=by
 constructor
 .rintro⟨t,rfl⟩;refine⟨⟨c::t,by simp⟩,by simp,?_⟩;simp[a6]
 .rintro⟨⟨t,rfl⟩,y,h⟩
  cases t with
  |nil=>simp at y
  |cons d t=>
   simp[a6]at h;subst h;exact⟨t,by simp⟩
theorem yU(h:p <+: s)(D:s≠p):p.length<s.length:=by
 rcases Nat.lt_or_ge p.length s.length with y|y
 .exact y
 .exact absurd (h.eq_of_length (br h.length_le y)).symm D
theorem Fw(h:p <+: s)(i:Nat)(hi:i<p.length):s.getD i 0=p.getD i 0:=by
 obtain⟨t,rfl⟩:=h;rw[a6,a6,List.getElem?_append_left hi]
theorem Jq{e:gS}:e∈Ss l p↔e∈l/\p <+: ie e:=by simp[Ss,qd]
theorem uj(l:List gS)(p:Wd)(c:UInt8):lT l p c=Ss l (p++[c]):=rfl
theorem r9{H:List gS}(h:H≠[]):ue (nP H) (H.map ie):=yJ (by simpa using h)
theorem NW(h:Ss l p≠[]):p <+: nP (Ss l p):=
 (r9 h).2 p (λs y=>by
  obtain⟨e,D,rfl⟩:=ar.1 y
  exact(Jq.1 D).2)
theorem vq(i:Nat)(h:i<mn.length):mn[i]=bE i:=by simp[mn]
theorem D':mn.length=256:=by simp[mn]
theorem wP{c:UInt8}(h:c∈lQ l p):Ss l (p++[c])≠[]:=by
 have:=(aw.1 h).2;rw[uj]at this;intro e; rw[e]at this; simp at this
theorem rI{α y:Type}{f g:α->List y}:∀{l:List α},(∀a∈l,f a=g a)->l.flatMap f=l.flatMap g
 |[],_=>rfl
 |a::l,h=>by rw[ax,ax,h a (by simp),rI (λx D=>h x (by simp[D]))]
end
section
open Go.RowKit
variable {n:Nat} {bs r:Wd}
def o9(n:Nat)(bs:Wd):Option (Wd×Wd):=if n<=bs.length then some (bs.take n,bs.drop n)else none
def rdNum:Wd->Option (Nat×Wd)
 |[]=>none
 |b::r=>some (b.toNat,r)
def mu(bs:Wd):Option (Wd×Wd):=(rdNum bs).bind λx=>o9 x.1 x.2
def kI:Wd->Option (Nat×Wd)
 |a::b::c::r=>some (a.toNat*65536+b.toNat*256+c.toNat,r)
 |_=>none
def pf(h:List Wd)(last bs:Wd):Option (Wd×Wd):=
 (mu bs).bind λx=>if mf x.1=true/\bn last x.1=true/\x.1 ∉ h then some x else none
def mZ(h bs:Wd):Option (gS×Wd):=
 (mu bs).bind λx=>if iX x.1=true/\x.1≠[]then(kI x.2).bind λy=>if y.1<=1000000 then(rdNum y.2).bind λz=>some (⟨h,false,x.1,y.1,z.1⟩,z.2)else none else none
def u5:Nat->Wd->List Wd->Wd->Wd->Option (List gS×Wd)
 |0,_,_,_,bs=>some ([],bs)
 |n+1,path,h,last,bs=>(pf h last bs).bind λx=>(mZ x.1 x.2).bind λy=>if ie y.1=path then(u5 n path (h++[x.1]) x.1 y.2).bind λz=>some (y.1::z.1,z.2)else none
def uM(node:Wd->List Wd->Wd->Option (Nat×List gS×Wd)):Nat->Wd->List Wd->Int->Wd->Option (Nat×List gS×Wd)
 |0,_,_,_,bs=>some (0,[],bs)
 |n+1,path,h,last,bs=>(mu bs).bind λx=>if x.1≠[]/\last<((x.1.getD 0 0).toNat:Int)then
   (node (path++x.1) h x.2).bind λy=>(uM node n path (h++y.2.1.map gS.name) ((x.1.getD 0 0).toNat:Int) y.2.2).bind λz=>some (max y.1 z.1,y.2.1++z.2.1,z.2.2)else none
def uA:Nat->Wd->List Wd->Wd->Option (Nat×List gS×Wd)
 |0,_,_,_=>none
 |f+1,path,h,bs=>if path.length<=24 then
   (kI bs).bind λa=>(rdNum a.2).bind λb=>(u5 b.1 path h [] b.2).bind λc=>(rdNum c.2).bind λd=>(uM (uA f) d.1 path (h++c.1.map gS.name) (-1) d.2).bind λe=>
    if(a.1:Int)=max (k9 c.1) e.1/\(path=[]\/0<b.1\/1<d.1)then some (a.1,c.1++e.2.1,e.2.2)else none
  else none
def uF:Nat->List Wd->Wd->Wd->Option (List gS×Wd)
 |0,_,_,bs=>some ([],bs)
 |n+1,h,last,bs=>(pf h last bs).bind λx=>(uF n (h++[x.1]) x.1 x.2).bind λz=>some (⟨x.1,true,[],0,0⟩::z.1,z.2)
def JF(bs:Wd):Option (List gS×List gS):=
 (rdNum bs).bind λa=>(uF a.1 [] [] a.2).bind λb=>(mu b.2).bind λc=>if c.1=[]then(uA 26 [] (b.1.map gS.name) c.2).bind λd=>
  if d.2.2=[]/\0<b.1.length+d.2.1.length/\a.1<=100/\d.2.1.length<=30 then some (b.1,d.2.1)else none else none
theorem Kb(b:UInt8):u8 (b.toNat:Int)=b:=by
 have h:=b.toNat_lt;unfold u8;rw[show((b.toNat:Int) % 256).toNat=b.toNat by omega];simp
theorem uy(n:Nat)(h:n<256):(u8 (n:Int)).toNat=n:=by
 unfold u8;rw[show((n:Int) % 256).toNat=n by omega];simp; omega
theorem kK(h:rdNum bs=some (n,r)):bs=u8 n::r/\n<256:=by
 cases bs with
 |nil=>simp[rdNum]at h
 |cons b t=>
  simp only[rdNum,b6,bK]at h;obtain⟨rfl,rfl⟩:=h;exact⟨by rw[Kb],b.toNat_lt⟩
theorem tc(n:Nat)(h:n<256)(r:Wd):rdNum (u8 n::r)=some (n,r):=by simp[rdNum,uy n h]
theorem kR{t:Wd}(h:mu bs=some (t,r)):bs=io t++r/\t.length<256:=by
 unfold mu at h
 cases y:rdNum bs with
 |none=>rw[y]at h; simp at h
 |some x=>
  obtain⟨n,b⟩:=x;obtain⟨rfl,D⟩:=kK y;rw[y]at h;simp only[bl,o9]at h;split at h
  .rename_i O;simp only[b6,bK]at h;obtain⟨rfl,rfl⟩:=h;have U:(b.take n).length=n:=by simp; omega
   refine⟨?_,by omega⟩;unfold io;rw[U,a8,aH]
  .simp at h
theorem pB(t r:Wd)(h:t.length<256):mu (io t++r)=some (t,r):=by
 unfold mu io;rw[a8,tc _ h];simp[o9]
theorem wW(n:Nat)(h:n<16777216):kY (n:Int)=[u8 ((n / 65536:Nat):Int),u8 ((n / 256 % 256:Nat):Int),u8 ((n % 256:Nat):Int)]:=by
 unfold kY;rw[bA (by omega),bA (by omega),b' (by omega),b' (by omega)];rfl
theorem mQ(h:kI bs=some (n,r)):bs=kY n++r/\n<16777216:=by
 match bs,h with
 |a::b::c::t,h=>
  simp only[kI,b6,bK]at h;obtain⟨rfl,rfl⟩:=h;have y:=a.toNat_lt;have hb:=b.toNat_lt;have D:=c.toNat_lt;refine⟨?_,by omega⟩;rw[wW _ (by omega)];rw[show(a.toNat*65536+b.toNat*256+c.toNat) / 65536=a.toNat by omega,show(a.toNat*65536+b.toNat*256+c.toNat) / 256 % 256=b.toNat by omega,show(a.toNat*65536+b.toNat*256+c.toNat) % 256=c.toNat by omega,Kb,Kb,Kb];rfl
 |[],h=>simp[kI]at h
 |[_],h=>simp[kI]at h
 |[_,_],h=>simp[kI]at h
theorem sP(n:Nat)(h:n<16777216)(r:Wd):kI (kY n++r)=some (n,r):=by
 rw[wW n h];simp only[a8,aA,kI];rw[uy _ (by omega),uy _ (by omega),uy _ (by omega)];congr 2;omega
theorem x9(l:List gS):∀g:Int,0<=g->l.foldl (λg e=>if g<e.gT then e.gT else g) g=max g (k9 l)/\0<=k9 l:=by
 induction l with
 |nil=>intro g y; simp[k9]; omega
 |cons e l h=>
  intro g y;have D:=h (if g<e.gT then e.gT else g) (by split<;>omega);have O:=h (if 0<e.gT then e.gT else 0) (by split<;>omega);have U:k9 (e::l)=l.foldl (λg e=>if g<e.gT then e.gT else g) (if 0<e.gT then e.gT else 0):=rfl;rw[U,aQ,D.1,O.1];constructor
  .split<;>split<;>omega
  .split<;>omega
theorem nV(l:List gS):0<=k9 l:=(x9 l 0 (by omega)).2
theorem nC(e:gS)(l:List gS):k9 (e::l)=max (max 0 e.gT) (k9 l):=by
 have:=(x9 l (if 0<e.gT then e.gT else 0) (by split<;>omega)).1;rw[show k9 (e::l)=l.foldl (λg e=>if g<e.gT then e.gT else g) (if 0<e.gT then e.gT else 0)from rfl,this];split<;>omega
theorem qo(l m:List gS):k9 (l++m)=max (k9 l) (k9 m):=by
 induction l with
 |nil=>have:=nV m; simp only[aA]; rw[show k9 []=0 from rfl]; omega
 |cons e l h=>rw[a8,nC,nC,h]; omega
theorem BR{l m:List gS}(h:l.Perm m):k9 l=k9 m:=by
 induction h with
 |nil=>rfl
 |cons e _ y=>rw[nC,nC,y]
 |swap a b l=>simp only[nC]; omega
 |trans _ _ D O=>rw[D,O]
def Oy(e:gS):Prop:=e.gone=false/\mf e.name=true/\iX e.text=true/\e.text≠[]/\0<=e.gT/\e.gT<=1000000/\0<=e.il/\e.il<=255
theorem qy{D:List Wd}{last y:Wd}(h:pf D last bs=some (y,r)):bs=io y++r/\mf y=true/\bn last y=true/\y ∉ D:=by
 unfold pf at h;obtain⟨x,O,h⟩:=bm.1 h;split at h
 .rename_i U;simp only[b6]at h;subst h;exact⟨(kR O).1,U⟩
 .simp at h
end
section
open Go.RowKit
def Ov:PanicEntry:={v:=.iface 264 (.agg #[]),recovered:=false}
theorem jR(w:World):bL prog 212 #[.bool true] w λe w'=>e=.returned (.tuple #[])/\w=w':=by
 go_enter func212,ntmps212;go_wp2;go_end0;exact⟨rfl,rfl⟩
theorem PM(w:World):bL prog 212 #[.bool false] w λe w'=>e=.panicked [Ov]/\w=w':=by
 go_enter func212,ntmps212;go_wp2;exact⟨rfl,rfl,rfl⟩
def AB(w:World)(h:Nat)(S:ByteArray)(p:Nat)(y:Nat)(D:Value):Prop:=w.heap[h]?=some (.cells #[.string S,.int .i64 p,.map (some y),D] 216 (0,0))
theorem JV(s:ByteArray)(p n:Nat):s.extract p (p+n)=⟨((s.data.toList.drop p).take n).toArray⟩:=by
 apply bC;rw[bD];apply Array.ext';simp[List.take_drop]
theorem n9{w:World}{b o:Nat}{v:Value}{F:Nat->Prop}(hF:F b):gV F w (w.setCell ⟨b,o,none⟩ v):=
 ⟨rfl,rfl,rfl,by simp[World.setCell],λk y h=>Below.heap_setCell _ _ _ _ (by intro e; subst e; exact h hF)⟩
theorem OO(y:Nat)(S:ByteArray)(p O:Nat)(U:Value)(n:Nat)(w:World)(h:AB w y S p O U)(hp:p+n<=S.size)(hS:S.size<=1099511627776) :
  bL prog 236 #[.pointer (some ⟨y,0,none⟩),.int .i64 n] w λe w'=>e=.returned (.string (S.extract p (p+n)))/\AB w' y S (p+n) O U/\gV (· = y) w w'/\w'.heap.size=w.heap.size:=by
 unfold AB at h;have c0:w.cell? ⟨y,0,none⟩=some (.string S):=by rw[Ps h]; rfl
 have c1:w.cell? ⟨y,1,none⟩=some (.int .i64 p):=by rw[Ps h]; rfl
 have f1:w.frozen? ⟨y,1,none⟩=false:=Ue h 1;have HH:bI _:=h;have ab:IntKind.i64.wrap ((S.size:Int)-(p:Int))=(S.size:Int)-(p:Int):=by simp only[bJ]; omega
 have ac:(n:Int)<=(S.size:Int)-(p:Int):=by omega
 have W:IntKind.i64.wrap ((p:Int)+(n:Int))=((p+n:Nat):Int):=by simp only[bJ]; omega
 have Y:(p:Int)<=((p+n:Nat):Int):=by omega
 have aa:((p+n:Nat):Int)<=(S.size:Int):=by omega
 clear h;go_enter func236,ntmps236;go_wp2_with fail;go_region_held3 (λw'=>w'.cell? ⟨y,0,none⟩=some (.string S)/\w'.cell? ⟨y,1,none⟩=some (.int .i64 p)) (go_keep) (first|(go_at_call 212; refine(jR _).mono ?_; rintro e w' ⟨rfl,rfl⟩));go_wp2_with fail;go_quiet (fail);go_wp2;go_ret
 have h1:((w.drewN (1+nq)).setCell ⟨y,1,none⟩ (.int .i64 ((p:Int)+(n:Int)))).heap[y]?=some (.cells #[.string S,.int .i64 ((p+n:Nat):Int),.map (some O),U] 216 (0,0)):=by
  rw[heap_set (w:=w.drewN (1+nq)) HH.out];simp
 refine⟨rfl,h1,?_,by simp[World.setCell,World.drewN]⟩;have D:=n9 (w:=w.drewN (1+nq)) (b:=y) (o:=1) (v:=.int .i64 ((p:Int)+(n:Int))) (F:=(· = y)) rfl;exact⟨D.os,D.tape,D.output,D.size,D.block⟩
theorem NX(R:Ending->World->Prop)(y:Nat)(S:ByteArray)(p U:Nat)(W:Value)(n:Nat)(w:World)(h:AB w y S p U W)(hp:S.size<p+n)(Y:p<=S.size)(hS:S.size<=1099511627776)(D:R (.panicked [Ov]) w.drew) :
  bL prog 236 #[.pointer (some ⟨y,0,none⟩),.int .i64 n] w R:=by
 unfold AB at h;have c0:w.cell? ⟨y,0,none⟩=some (.string S):=by rw[Ps h]; rfl
 have c1:w.cell? ⟨y,1,none⟩=some (.int .i64 p):=by rw[Ps h]; rfl
 have aa:IntKind.i64.wrap ((S.size:Int)-(p:Int))=(S.size:Int)-(p:Int):=by simp only[bJ]; omega
 have ab:decide ((n:Int)<=(S.size:Int)-(p:Int))=false:=decide_eq_false (by omega);have O:∀tm:Array Value,bodyPost prog f236 R (.panic [Ov]) {tmps:=tm,defers:=[]} w.drew:=λ_=>⟨rfl,D⟩;clear h;go_enter func236,ntmps236;go_wp2_with fail;refine wp_region_held (S:=λw'=>w'=w.drew) (by kernel_rfl) ?_;refine iV 0 ?_ rfl ?_<|iV 1 ?_ rfl ?_<|iV 2 ?_ rfl ?_<|iV 3 ?_ rfl ?_<|iV 4 ?_ rfl ?_<|iV 5 ?_ rfl ?_<|iV 6 ?_ rfl ?_<|iV 7 ?_ rfl ?_<|iV 8 ?_ rfl ?_<|iV 9 ?_ rfl ?_<|iV 10 ?_ rfl ?_<|iV 11 ?_ rfl ?_ ?_
 any_goals(rintro _ rfl; go_simp; first|done|with_reducible rfl)
 refine wpAnyH_all (rs:=[12]) (by kernel_rfl) (by simp) ?_;intro i hi;simp only[aD]at hi;subst hi;refine wpOp_step (by rfl) λK' _=>?_;rw[if_pos (by rfl)];unfold Oper.wp;go_simp;refine(PM _).mono ?_;rintro e w' ⟨rfl,rfl⟩;exact⟨rfl,D⟩
theorem Pz(y:Nat)(S:ByteArray)(p O:Nat)(U:Value)(n:Nat)(w:World)(h:AB w y S p O U)(W:S.size<p+n)(D:p<=S.size)(Y:S.size<=1099511627776) :
  bL prog 236 #[.pointer (some ⟨y,0,none⟩),.int .i64 n] w λe w'=>e=.panicked [Ov]/\gV (· = y) w w'/\w'.heap.size=w.heap.size:=
 NX _ y S p O U n w h W D Y ⟨rfl,⟨rfl,rfl,rfl,bt _,λ_ _ _=>rfl⟩,rfl⟩
def Ih(w:World)(h:Nat)(S:ByteArray)(rest:Wd)(y:Nat)(D:Value):Prop:=∃p:Nat,AB w h S p y D/\p<=S.size/\S.data.toList.drop p=rest
def Ends{α:Type}(F:Nat->Prop)(w:World)(X:Option α)(ok:α->Ending->World->Prop)(e:Ending)(w':World):Prop:=gV F w w'/\match X with
 |some x=>ok x e w'
 |none=>e=.panicked [Ov]
theorem AP(y:Nat)(S:ByteArray)(rest:Wd)(D:Nat)(O:Value)(n:Nat)(w:World)(h:Ih w y S rest D O)(W:S.size<=1099511627776) :
  bL prog 236 #[.pointer (some ⟨y,0,none⟩),.int .i64 n] w (Ends (· = y) w (o9 n rest) λx e w'=>e=.returned (.string ⟨x.1.toArray⟩)/\Ih w' y S x.2 D O/\w'.heap.size=w.heap.size):=by
 obtain⟨p,Y,h2,rfl⟩:=h;have hl:(S.data.toList.drop p).length=S.size-p:=by simp
 unfold o9;by_cases hn:n<=(S.data.toList.drop p).length
 .rw[if_pos hn];refine(OO y S p D O n w Y (by omega) W).mono ?_;rintro e w' ⟨rfl,g1,U,g3⟩;refine⟨U,?_,⟨p+n,g1,by omega,by simp⟩,g3⟩;rw[JV]
 .rw[if_neg hn];refine(Pz y S p D O n w Y (by omega) h2 W).mono ?_;rintro e w' ⟨rfl,U,g3⟩;exact⟨U,rfl⟩
theorem pV(y:Nat)(S:ByteArray)(rest:Wd)(O:Nat)(U:Value)(w:World)(h:Ih w y S rest O U)(hS:S.size<=1099511627776) :
  bL prog 233 #[.pointer (some ⟨y,0,none⟩)] w (Ends (· = y) w (rdNum rest) λx e w'=>e=.returned (.int .i64 x.1)/\Ih w' y S x.2 O U/\w'.heap.size=w.heap.size):=by
 have Y:=AP y S rest O U 1 w h hS;clear h hS
 cases rest with
 |nil=>
  go_enter func233,ntmps233;go_wp2_with fail;refine Y.mono ?_;rintro e w' ⟨W,D⟩;simp[o9]at D;subst D;exact⟨rfl,W,rfl⟩
 |cons b r=>
  go_enter func233,ntmps233;go_wp2_with fail;refine Y.mono ?_;rintro e w' ⟨W,D⟩;simp only[o9,a7,Nat.le_add_left,if_true,List.take_succ_cons,List.take_zero,List.drop_succ_cons,List.drop_zero]at D;obtain⟨rfl,g3,g4⟩:=D;have HG:bI (gV (· = y) w w'/\Ih w' y S r O U/\w'.heap.size=w.heap.size):=⟨W,g3,g4⟩;clear W g3 g4 Y;go_wp2;go_ret;refine⟨HG.out.1,?_,HG.out.2.1,HG.out.2.2⟩;have hb:=b.toNat_lt;show Ending.returned (.int .i64 (bH ((b.toNat:Nat):Int)))=.returned (.int .i64 (b.toNat:Nat));refine iJ ?_;unfold bH;omega
end
section
open Go.RowKit
theorem gV.then{F:Nat->Prop}{a b c:World}(h:gV F a b)(k:gV F b c):gV F a c:=h.trans k (λ_ _ h=>h)
theorem vo(U:Nat)(S:ByteArray)(rest:Wd)(W:Nat)(Y:Value)(w:World)(h:Ih w U S rest W Y)(hS:S.size<=1099511627776) :
  bL prog 213 #[.pointer (some ⟨U,0,none⟩)] w (Ends (· = U) w (mu rest) λx e w'=>e=.returned (.string ⟨x.1.toArray⟩)/\Ih w' U S x.2 W Y/\w'.heap.size=w.heap.size):=by
 have ht:=pV U S rest W Y w h hS;unfold mu;clear h
 cases O:rdNum rest with
 |none=>
  rw[O]at ht;clear O;go_enter func213,ntmps213;go_wp2_with fail;refine ht.mono ?_;rintro e w' ⟨g1,rfl⟩;exact⟨rfl,g1,rfl⟩
 |some x=>
  obtain⟨n,r⟩:=x;rw[O]at ht;clear O;go_enter func213,ntmps213;go_wp2_with fail;refine ht.mono ?_;rintro e w1 ⟨g1,rfl,g2,g3⟩;have D:=AP U S r W Y n w1 g2 hS;clear ht g2
  cases O:o9 n r with
  |none=>
   rw[O]at D;go_wp2_with fail;refine D.mono ?_;rintro e w2 ⟨g4,rfl⟩;exact⟨rfl,g1.then g4,by simp only[bl,O]⟩
  |some y=>
   rw[O]at D;have HN:bI _:=O;clear O;go_wp2_with fail;refine D.mono ?_;rintro e w2 ⟨g4,rfl,g5,g6⟩;have HF:bI (gV (· = U) w w2/\Ih w2 U S y.2 W Y/\w2.heap.size=w.heap.size):=⟨g1.then g4,g5,by omega⟩;clear g1 g3 g4 g5 g6 D;go_wp2;go_ret;refine⟨HF.out.1,?_⟩;simp only[bl,HN.out];exact⟨rfl,HF.out.2⟩
theorem Cv(n:Nat)(h:n<18446744073709551616):(BitVec.ofInt 64 (n:Int)).toNat=n:=by
 rw[BitVec.toNat_ofInt];omega
theorem NU(x y:Nat)(D:x<4294967296)(O:y<4294967296):bits .or .i64 (x:Int) (y:Int)=((x ||| y:Nat):Int):=by
 show IntKind.i64.wrap ((BitVec.ofInt 64 (x:Int) ||| BitVec.ofInt 64 (y:Int)).toNat:Int)=_;rw[BitVec.toNat_or,Cv x (by omega),Cv y (by omega)];have h:x ||| y<2 ^ 32:=Nat.or_lt_two_pow (by omega) (by omega)
 rw[bJ];omega
theorem GL(a b c:UInt8):bits BinOp.or IntKind.i64 (bits BinOp.or IntKind.i64 (bH (bH (a.toNat:Int)*65536)) (bH (bH (b.toNat:Int)*256))) (bH (c.toNat:Int))=((a.toNat*65536+b.toNat*256+c.toNat:Nat):Int):=by
 have ha:=a.toNat_lt;have hb:=b.toNat_lt;have hc:=c.toNat_lt;have h:bH (bH (a.toNat:Int)*65536)=((a.toNat <<< 16:Nat):Int):=by rw[bo]; unfold bH; omega
 have y:bH (bH (b.toNat:Int)*256)=((b.toNat <<< 8:Nat):Int):=by rw[bo]; unfold bH; omega
 have D:bH (c.toNat:Int)=(c.toNat:Int):=by unfold bH; omega
 have O:a.toNat <<< 16<4294967296:=by rw[bo]; omega
 have U:b.toNat <<< 8<2 ^ 16:=by rw[bo]; omega
 have W:a.toNat <<< 16 ||| b.toNat <<< 8=a.toNat <<< 16+b.toNat <<< 8:=(bp U _).symm
 have Y:(a.toNat <<< 16+b.toNat <<< 8) ||| c.toNat=a.toNat <<< 16+b.toNat <<< 8+c.toNat:=by
  have:a.toNat <<< 16+b.toNat <<< 8=(a.toNat*256+b.toNat) <<< 8:=by simp only[bo]; omega
  rw[this];exact(bp (by omega) _).symm
 rw[h,y,D,NU _ _ O (by omega),W,NU _ _ (by simp only[bo]; omega) (by omega),Y];simp only[bo]
theorem zm(O:Nat)(S:ByteArray)(rest:Wd)(Y:Nat)(vt:Value)(w:World)(h:Ih w O S rest Y vt)(hS:S.size<=1099511627776) :
  bL prog 237 #[.pointer (some ⟨O,0,none⟩)] w (Ends (· = O) w (kI rest) λx e w'=>e=.returned (.int .i64 x.1)/\Ih w' O S x.2 Y vt/\w'.heap.size=w.heap.size):=by
 have y:=AP O S rest Y vt 3 w h hS;clear h hS
 have D:∀rest:Wd,rest.length<3->bL prog 236 #[.pointer (some ⟨O,0,none⟩),.int .i64 3] w (Ends (· = O) w (o9 3 rest) λx e w'=>e=.returned (.string ⟨x.1.toArray⟩)/\Ih w' O S x.2 Y vt/\w'.heap.size=w.heap.size)->kI rest=none->
   bL prog 237 #[.pointer (some ⟨O,0,none⟩)] w (Ends (· = O) w (kI rest) λx e w'=>e=.returned (.int .i64 x.1)/\Ih w' O S x.2 Y vt/\w'.heap.size=w.heap.size):=by
  intro rest hl y hw;have hn:o9 3 rest=none:=by unfold o9; rw[if_neg (by omega)]
  rw[hn]at y;rw[hw];go_enter func237,ntmps237;go_wp2_with fail;refine y.mono ?_;rintro e w' ⟨g1,rfl⟩;exact⟨rfl,g1,rfl⟩
 match rest,y with
 |[],y=>exact D _ (by simp) y rfl
 |[_],y=>exact D _ (by simp) y rfl
 |[_,_],y=>exact D _ (by simp) y rfl
 |a::b::c::r,y=>
  clear D;have hn:o9 3 (a::b::c::r)=some ([a,b,c],r):=by unfold o9; rw[if_pos (by simp)]; rfl
  rw[hn]at y;clear hn;have i0:(0:Int)<((3:Nat):Int):=by omega
  have U:(⟨[a,b,c].toArray⟩:ByteArray).size=3:=rfl;have k0:(⟨[a,b,c].toArray⟩:ByteArray)[0]'(by rw[U]; omega)=a:=rfl;have k1:(⟨[a,b,c].toArray⟩:ByteArray)[1]'(by rw[U]; omega)=b:=rfl;have k2:(⟨[a,b,c].toArray⟩:ByteArray)[2]'(by rw[U]; omega)=c:=rfl;generalize (⟨[a,b,c].toArray⟩:ByteArray)=T at *;go_enter func237,ntmps237;go_wp2_with fail;refine y.mono ?_;rintro e w1 ⟨g1,rfl,g2,g3⟩;have W:bI (gV (· = O) w w1/\Ih w1 O S r Y vt/\w1.heap.size=w.heap.size):=⟨g1,g2,g3⟩;clear g1 g2 g3 y;go_wp2_with fail;go_quiet (fail);go_wp2;go_ret;refine⟨⟨W.out.1.os,W.out.1.tape,W.out.1.output,W.out.1.size,W.out.1.block⟩,?_,W.out.2.1,W.out.2.2⟩;exact iJ (GL a b c)
end
section
open Go.RowKit
theorem bytes_eta(s:ByteArray):s=⟨s.data.toList.toArray⟩:=by apply bC; simp
def om(h:List gS)(ss:List (List gS))(name text:Wd)(gT il:Int):Nat×List gS:=
 if mf name=true then
  if iX text=true/\text≠[]then
   if gT<0\/1000000<gT\/il<0\/255<il then(3,h)
   else if 30<=(kZ ss h).length/\su (kZ ss h) name=none then(4,h)
   else(0,ia h [⟨name,false,text,gT,il⟩])
  else(2,h)
 else(1,h)
end
section
open Go.RowKit Go.Maps
variable {l:List (Wd×Value)} {B:Nat} {P:Program} {k:TypeId} {w:World}
theorem sK(s:ByteArray)(w:World)(hs:s.size<=bM) :
  bL prog 69 #[.string s] w λe w'=>e=.returned (.bool (mf s.data.toList))/\w=w':=by
 unfold bM at hs;by_cases W:0<s.size
 .by_cases h8:s.size<=8
  .go_enter func69,ntmps69;go_wp2;go_loop [14] (λi=>∃k:Nat,k<=s.size/\i=.int .i64 k/\(s.data.toList.take k).all jf=true) (λi=>s.size-(intOf i).toNat)
   case atStart=>exact⟨0,Nat.zero_le _,rfl,rfl⟩
   case round=>
    obtain⟨k,Y,rfl,jO⟩:=hrel;have HA:bI _:=jO;clear jO;by_cases h:k<s.size
    .have HS:bI (s.data.toList.take (k+1)=s.data.toList.take k++[s[k]]):=Cd s k h;go_wp2_with fail;refine(py _ _).mono ?_;rintro e w' ⟨rfl,rfl⟩
     cases D:jf s[k]with
     |true=>
      have O:bI _:=D;clear D;go_wp2;go_round
      case rel=>exact⟨k+1,by omega,by go_num,by rw[HS.out,List.all_append,HA.out]; simp[O.out]⟩
      case measure=>simp[intOf]; omega
     |false=>
      have O:bI _:=D;clear D;go_wp2;go_ret;refine⟨iR ?_,rfl⟩;symm;rw[Bool.eq_false_iff];intro U;simp only[mf,bu]at U;have:=List.all_eq_true.1 U.1.1 _ (Ea s k h);rw[O.out]at this;simp at this
    .go_wp2;go_ret;refine⟨iR ?_,rfl⟩;have e:s.data.toList.take k=s.data.toList:=List.take_of_length_le (by simp; omega);have y:=HA.out;rw[e]at y;unfold mf;rw[y];simp;omega
  .go_enter func69,ntmps69;go_wp2;go_ret;refine⟨iR ?_,rfl⟩;simp[mf];omega
 .go_enter func69,ntmps69;go_wp2;go_ret;refine⟨iR ?_,rfl⟩;simp[mf];omega
def Bq(e:gS):Wd:=if e.gone then []else e.name
def tJ(e:gS):Value:=.agg #[.bool e.gone,.string ⟨(Bq e).toArray⟩,.string ⟨e.text.toArray⟩,.int .i64 e.gT,.int .i64 e.il]
def mF(e:gS):Wd×Value:=(e.name,tJ e)
def Px(e:gS):Wd×Value:=(e.name,.agg #[])
def je(w:World)(B:Nat)(es:List gS):Prop:=ir prog 9 w B (es.map mF)
theorem ir.map(h:ir P k w B l):∃es clock,w.heap[B]?=some (.map es clock):=by
 obtain⟨D,⟨es,clock,y,_⟩,_⟩:=h;exact⟨es,clock,y⟩
theorem ir.pK{b:Nat}(h:ir P k w B l){cs:Array Value}{t:TypeId}{fz:Nat×Nat}(hb:w.heap[b]?=some (.cells cs t fz)):B≠b:=by
 obtain⟨es,clock,y⟩:=h.map;intro e;rw[e,hb]at y;cases y
theorem iN{k:Nat}{o:Obj}(h:w.heap[k]?=some o):k<w.heap.size:=(Array.getElem?_eq_some_iff.1 h).1
theorem Lt(told:List gS)(x:Wd):((told.map Px).any λp=>p.1==x)=decide (x∈told.map gS.name):=by
 rw[bx,decide_eq_true_eq,List.any_eq_true,ar];constructor
 .rintro⟨p,D,h⟩;obtain⟨e,y,rfl⟩:=ar.1 D;exact⟨e,y,by simpa[Px]using h⟩
 .rintro⟨e,y,rfl⟩;exact⟨Px e,ar.2 ⟨e,y,rfl⟩,by simp[Px]⟩
theorem Mw(told:List gS)(x:Wd):pM (told.map Px) x (.agg #[])=.agg #[]:=by
 unfold pM;split
 .rename_i p h;obtain⟨e,_,rfl⟩:=ar.1 (List.mem_of_find?_eq_some h);rfl
 .rfl
theorem Mv(h:List Wd)(last bs:Wd):pf h last bs=(mu bs).bind λx=>if mf x.1=true/\bn last x.1=true/\x.1 ∉ h then some x else none:=rfl
theorem Tr(x y:Wd):(!bn x y && !x==y)=bn y x:=by
 rcases kS x y with h|h|h
 .rw[h,so h]; rfl
 .subst h; rw[kN]; simp
 .rw[h,so h];have:(x==y)=false:=by rw[beq_eq_false_iff_ne]; exact λe=>CC h e.symm
  rw[this]; rfl
theorem PK(w:World):(zeroValue 263).run prog w=.ok (.agg #[]) w:=by kernel_rfl
def wz(e:gS):Value:=.agg #[.string ⟨e.name.toArray⟩,.string ⟨e.text.toArray⟩,.int .i64 e.gT,.int .i64 e.il]
theorem JN(told:List gS)(e:gS)(f:gS->Wd×Value)(y:∀e,(f e).1=e.name)(h:e.name ∉ told.map gS.name):sJ (told.map f) e.name (f e).2=(told++[e]).map f:=by
 unfold sJ;rw[aI.2,aO,aE,bi]
 .have:(e.name,(f e).2)=f e:=by rw[<-y e]
  rw[this]
 .intro p D;obtain⟨x,O,rfl⟩:=ar.1 D;simp only[bne_iff_ne,ne_eq,y];intro U;exact h (ar.2 ⟨x,O,U⟩)
theorem gV.qR{w':World}(h:w.grownBy w' (some B)):gV (· = B) w w':=⟨h.os,h.tape,h.output,h.size,λk y D=>h.block k y (λe=>D (by simpa using e))⟩
theorem N3(Y O:Nat)(told:List gS)(e:gS)(at_:Int)(w:World)(hx:w.heap[Y]?=some (.cells #[.map (some O)] 85 (0,0)))(hs:je w O told)(hn:e.name ∉ told.map gS.name)(hl:told.length<1099511627776)(aa:e.name.length<=bM) :
  bL prog 130 #[.int .i64 at_,.string ⟨e.name.toArray⟩,tJ e,.pointer (some ⟨Y,0,none⟩)] w λen w'=>en=.returned (.tuple #[])/\je w' O (told++[e])/\gV (· = O) w w':=by
 have af:=iN hx;have hc:w.cell? ⟨Y,0,none⟩=some (.map (some O)):=by rw[Ps hx]; rfl
 have D:=JN told e mF (λ_=>rfl) hn;obtain⟨w0,U⟩:∃w0,w.alloc (.cells #[.bool e.gone,.string ⟨(Bq e).toArray⟩,.string ⟨e.text.toArray⟩,.int .i64 e.gT,.int .i64 e.il] 111)=w0:=⟨_,rfl⟩;have y:Below w.heap.size w w0:=by rw[<-U]; exact(Below.refl _ _).alloc (bt _) _
 have W:je w0 O told:=ir.below hs y;have h:w0.heap[w.heap.size]?=some (.cells #[.bool e.gone,.string ⟨(Bq e).toArray⟩,.string ⟨e.text.toArray⟩,.int .i64 e.gT,.int .i64 e.il] 111 (0,0)):=by rw[<-U]; exact heap_alloc_new w _
 have d0:w0.cell? ⟨w.heap.size,0,none⟩=some (.bool e.gone):=by rw[Ps h]; rfl
 have d1:w0.cell? ⟨w.heap.size,1,none⟩=some (.string ⟨(Bq e).toArray⟩):=by rw[Ps h]; rfl
 have d2:w0.cell? ⟨w.heap.size,2,none⟩=some (.string ⟨e.text.toArray⟩):=by rw[Ps h]; rfl
 have d3:w0.cell? ⟨w.heap.size,3,none⟩=some (.int .i64 e.gT):=by rw[Ps h]; rfl
 have d4:w0.cell? ⟨w.heap.size,4,none⟩=some (.int .i64 e.il):=by rw[Ps h]; rfl
 have ag:=cell_later y hc;have ab:bI _:=y;have ac:bI _:=W;have HP:bI _:=D;clear hx hs hn h hc y W D;unfold tJ;go_enter func130,ntmps130;go_wp2_with (first|(at_mapUpdate; refine m5 _ rfl _ _ _ 85 rfl 111 underlying9 underlying85 rfl ac.out (by rw[aP]; unfold bM; omega) e.name aa rfl (tJ e) rfl ?_; intro w1 ad ae ah));go_end0;refine⟨rfl,?_,?_⟩
 .unfold je;rw[<-HP.out];exact ad
 .exact(gV.jk ab.out).then (gV.qR ae)
end
section
open Go.RowKit
variable {c:UInt8} {path:Wd}
def Part(f:Nat)(path:Wd)(x:UInt8×List gS):Wd:=io ((nP x.2).drop path.length)++oM f (nP x.2) (jo x.2)
def MW(h:List (UInt8×List gS)):Prop:=h.Pairwise λa b=>a.1.toNat<b.1.toNat
def BK(path:Wd)(h:List (UInt8×List gS)):Prop:=∀x∈h,x.2≠[]/\∀e∈x.2,path++[x.1] <+: ie e
def pX(h:List (UInt8×List gS)):List gS:=h.flatMap λx=>x.2
theorem AL{l:List gS}(h:∀e∈l,¬path++[c] <+: ie e):lT l path c=[]:=by
 unfold lT;rw[aV];intro e y hb;exact h e y ((qd _ _).1 hb)
theorem Pu{l:List gS}(h:∀e∈l,path++[c] <+: ie e):lT l path c=l:=by
 unfold lT;rw[aI];intro e y;exact(qd _ _).2 (h e y)
theorem Iz(l m:List gS)(path:Wd)(c:UInt8):lT (l++m) path c=lT l path c++lT m path c:=by unfold lT; rw[a']
theorem sI{s:Wd}{d:UInt8}(h:path++[c] <+: s)(y:path++[d] <+: s):c=d:=by
 rw[<-((mX _ _ _).1 h).2.2,((mX _ _ _).1 y).2.2]
theorem O5(path:Wd):∀(h:List (UInt8×List gS)),BK path h->∀c,(∀x∈h,x.1≠c)->lT (pX h) path c=[]:=by
 intro h D c O;refine AL λe U W=>?_;obtain⟨x,y,hm⟩:=a0.1 U;exact O x y (sI ((D x y).2 e hm) W)
theorem Ns(path:Wd):∀(h:List (UInt8×List gS)),MW h->BK path h->∀x∈h,lT (pX h) path x.1=x.2:=by
 intro h
 induction h with
 |nil=>intro _ _ x D; simp at D
 |cons y h ih=>
  intro hH W x D;have O:=au.1 hH;have U:BK path h:=λz Y=>W z (by simp[Y]);rw[show pX (y::h)=y.2++pX h from rfl,Iz];simp only[av]at D;rcases D with rfl|D
  .rw[Pu (W x (by simp)).2,O5 path h U x.1 (λz Y e=>by have:=O.1 z Y; rw[e]at this; omega),aC]
  .rw[AL (l:=y.2),ih O.2 U x D,aA];intro e he hp;have:=sI ((W y (by simp)).2 e he) hp;have h2:=O.1 x D;rw[this]at h2; omega
theorem vj:mn.Pairwise λa b=>a.toNat<b.toNat:=by
 rw[aS];intro i j hi h y;rw[vq,vq];rw[D']at hi h;simp;omega
theorem Ce(c:UInt8):c∈mn:=by
 unfold mn;exact ar.2 ⟨c.toNat,List.mem_range.2 c.toNat_lt,by simp⟩
theorem pw{cs:List UInt8}(h:cs.Pairwise λa b=>a.toNat<b.toNat):cs.Nodup:=h.imp (λh e=>by rw[e]at h; omega)
theorem DM(p:UInt8->Bool)(cs:List UInt8)(h:cs.Pairwise λa b=>a.toNat<b.toNat)(D:∀c,p c=true↔c∈cs):mn.filter p=cs:=by
 have y:(mn.filter p).Pairwise λa b=>a.toNat<b.toNat:=vj.filter p;refine b0 (le:=λa b=>a.toNat<b.toNat) (λa b _ _ y O=>by omega) y h ?_;rw[aR (pw y) (pw h)];intro c;rw[aw,<-D c];exact⟨λh=>h.2,λh=>⟨Ce c,h⟩⟩
theorem N8{l:List gS}(h:∀e∈l,ie e≠path):n5 l path=[]:=by
 unfold n5;rw[aV];intro e y hb;exact h e y (beq_iff_eq.1 hb)
theorem PS{l:List gS}(h:∀e∈l,ie e=path):n5 l path=l:=by
 unfold n5;rw[aI];intro e y;exact beq_iff_eq.2 (h e y)
theorem Og{y:List (UInt8×List gS)}(h:BK path y):∀e∈pX y,ie e≠path:=by
 intro e D O;obtain⟨x,U,hm⟩:=a0.1 D;have:=((mX _ _ _).1 ((h x U).2 e hm)).2.1;rw[O]at this; omega
theorem Q1{l:List gS}(h:∀e∈l,ie e=path)(c:UInt8):lT l path c=[]:=
 AL λe y D=>by have:=((mX _ _ _).1 D).2.1; rw[h e y]at this; omega
theorem Iq(f:Nat)(path:Wd)(own:List gS)(y:List (UInt8×List gS))(h1:ma own)(h2:∀e∈own,ie e=path)(U:MW y)(O:BK path y) :
  oM (f+1) path (jo (own++pX y))=kY (k9 (own++pX y))++(u8 own.length::(own.flatMap pZ++(u8 y.length::y.flatMap (Part f path)))):=by
 have e1:n5 (jo (own++pX y)) path=own:=by
  rw[n5,rR,a'];have a:=PS h2;have b:=N8 (Og O);unfold n5 at a b;rw[a,b,aC,Di own h1]
 have e2:∀c,lT (jo (own++pX y)) path c=jo (lT (pX y) path c):=by
  intro c;unfold lT;rw[rR,a'];have a:=Q1 h2 c;unfold lT at a;rw[a,aA]
 have e3:lQ (jo (own++pX y)) path=y.map (·.1):=by
  unfold lQ;refine DM _ _ (aL.2 U) (λc=>?_);rw[e2,ar];constructor
  .intro h;refine Classical.byContradiction λW=>?_;rw[O5 path y O c (λx D e=>W ⟨x,D,e⟩)]at h;simp[jo]at h
  .rintro⟨x,D,rfl⟩;rw[Ns path y U O x D];have:=(O x D).1;have Y:=KS x.2
   cases hq:jo x.2 with
   |nil=>rw[hq]at Y; cases h:x.2 with
    |nil=>exact absurd h this
    |cons a b=>rw[h]at Y; simp at Y
   |cons a b=>rfl
 rw[oM,e1,e3,BR (jM _),aP,bc];congr 4;refine rI λx D=>?_;rw[e2,Ns path y U O x D];unfold Part
 have:nP (jo x.2)=nP x.2:=IV λs=>by
  rw[ar,ar];exact⟨λ⟨e,h,k⟩=>⟨e,pI.1 h,k⟩,λ⟨e,h,k⟩=>⟨e,pI.2 h,k⟩⟩
 rw[this]
def ix(l:List gS):Wd:=u8 ((jo l).filter λe=>e.gone).length::(((jo l).filter λe=>e.gone).flatMap (λe=>io e.name)++(io []++oM 26 [] ((jo l).filter λe=>!e.gone)))
def Sx(e:gS):Prop:=Oy e\/(e=⟨e.name,true,[],0,0⟩/\mf e.name=true)
structure qn(l:List gS):Prop where
 each:∀e∈l,Sx e
 nodup:(l.map gS.name).Nodup
 some:l≠[]
 gone:(l.filter λe=>e.gone).length<=100
 there:(l.filter λe=>!e.gone).length<=30
end
section
open Go.RowKit
variable {e:gS} {G:List gS} {c:UInt8} {s:Wd}
theorem lA(h:mf s=true):0<s.length/\s.length<=8:=by
 unfold mf at h;simp only[bu,decide_eq_true_eq]at h;exact⟨h.1.2,h.2⟩
theorem pJ(h:iX s=true):s.length<=24:=by
 unfold iX at h;simp only[bu,decide_eq_true_eq]at h;exact h.1
theorem yb(h:mf s=true):bn [] s=true:=by
 have:=(lA h).1
 cases s with
 |nil=>simp at this
 |cons a s=>rfl
theorem uV(h:Oy e):(ie e).length<=24/\0<(ie e).length:=by
 have y:=pJ h.2.2.1;have D:=h.2.2.2.1;unfold ie;rw[j9];refine⟨y,?_⟩
 cases O:e.text with
 |nil=>exact absurd O D
 |cons a b=>simp
theorem uR{y:List Wd}{last h:Wd}(r:Wd)(D:mf h=true)(O:bn last h=true)(U:h ∉ y):pf y last (io h++r)=some (h,r):=by
 unfold pf;rw[pB h r (by have:=(lA D).2; omega)];simp[D,O,U]
theorem Gz(e:gS)(h:Oy e)(r:Wd):mZ e.name (io e.text++(kY e.gT++(u8 e.il::r)))=some (e,r):=by
 obtain⟨D,Y,y,O,U,h6,W,h8⟩:=h;obtain⟨nm,gn,tx,wt,tg⟩:=e;simp only at D Y y O U h6 W h8;subst D;obtain⟨n,rfl⟩:=bB U;obtain⟨m,rfl⟩:=bB W;have hw:n<=1000000:=by omega
 unfold mZ;rw[pB tx _ (by have:=pJ y; omega)];simp only[bl,y,O,ne_eq,not_false_eq_true,and_self,if_true];rw[sP n (by omega)];simp only[bl,hw,if_true];rw[tc m (by omega)];rfl
theorem G'(path:Wd):∀(es:List gS)(D:List Wd)(last rest:Wd),(∀e∈es,Oy e/\ie e=path/\e.name ∉ D/\bn last e.name=true)->ma es->u5 es.length path D last (es.flatMap pZ++rest)=some (es,rest):=by
 intro es
 induction es with
 |nil=>intro D last rest _ _; rfl
 |cons e es W=>
  intro D last rest h Y;obtain⟨U,a2,a3,a4⟩:=h e (by simp);have y:=au.1 Y
  have e1:(e::es).flatMap pZ++rest=io e.name++(io e.text++(kY e.gT++(u8 e.il::(es.flatMap pZ++rest)))):=by
   rw[ax]; simp[pZ]
  rw[e1,a7,u5,uR _ U.2.1 a4 a3];simp only[bl];rw[Gz e U];simp only[bl,a2,if_true];rw[W _ _ _ (λx O=>?_) y.2]
  .rfl
  .obtain⟨b1,b2,b3,b4⟩:=h x (by simp[O]);refine⟨b1,b2,?_,y.1 x O⟩;intro hm;simp only[aB,aD]at hm;rcases hm with hm|hm
   .exact b3 hm
   .exact CC (y.1 x O) hm.symm
theorem EX:∀(es:List gS)(D:List Wd)(last rest:Wd),(∀e∈es,e=⟨e.name,true,[],0,0⟩/\mf e.name=true/\e.name ∉ D/\bn last e.name=true)->ma es->uF es.length D last (es.flatMap (λe=>io e.name)++rest)=some (es,rest):=by
 intro es
 induction es with
 |nil=>intro D last rest _ _; rfl
 |cons e es U=>
  intro D last rest h W;obtain⟨Y,a2,a3,a4⟩:=h e (by simp);have y:=au.1 W;rw[ax,aM,a7,uF,uR _ a2 a4 a3];simp only[bl];rw[U _ _ _ (λx O=>?_) y.2]
  .simp only[bl];rw[<-Y]
  .obtain⟨b1,b2,b3,b4⟩:=h x (by simp[O]);refine⟨b1,b2,?_,y.1 x O⟩;intro hm;simp only[aB,aD]at hm;rcases hm with hm|hm
   .exact b3 hm
   .exact CC (y.1 x O) hm.symm
theorem Lq(h:(G.map gS.name).Nodup):G.Nodup:=b8 _ (λa b y e=>y (by rw[e])) h
theorem lK{p:Wd}:e∈lT G p c↔e∈G/\p++[c] <+: ie e:=by rw[uj]; exact Jq
theorem rG(G:List gS)(p:Wd):(lQ G p).Pairwise λa b=>a.toNat<b.toNat:=vj.filter _
theorem wQ{p:Wd}:c∈lQ G p↔∃e∈G,p++[c] <+: ie e:=by
 unfold lQ;rw[aw];constructor
 .rintro⟨_,h⟩
  cases y:lT G p c with
  |nil=>rw[y]at h; simp at h
  |cons e t=>
   have:=lK.1 (show e∈lT G p c by rw[y]; simp);exact⟨e,this⟩
 .rintro⟨e,D,O⟩;refine⟨Ce c,?_⟩;have:=lK.2 ⟨D,O⟩
  cases y:lT G p c with
  |nil=>rw[y]at this; simp at this
  |cons e t=>rfl
theorem I2{p:Wd}(h:G.Nodup):∀(cs:List UInt8),cs.Nodup->(cs.flatMap (lT G p)).Nodup:=by
 intro cs
 induction cs with
 |nil=>intro _; simp
 |cons c cs D=>
  intro O;have y:=bg.1 O;rw[ax,ba];refine⟨h.filter _,D y.2,λa U b hb e=>?_⟩;subst e;obtain⟨d,W,hb⟩:=a0.1 hb;have:=sI (lK.1 U).2 (lK.1 hb).2;subst this;exact y.1 W
theorem II{p:Wd}(h:G.Nodup)(D:∀e∈G,p <+: ie e):(n5 G p++(lQ G p).flatMap (lT G p)).Perm G:=by
 rw[aR _ h]
 .intro e;rw[aB];constructor
  .rintro(h|h)
   .exact(aw.1 h).1
   .obtain⟨c,_,h⟩:=a0.1 h;exact(lK.1 h).1
  .intro y;by_cases O:ie e=p
   .exact Or.inl (aw.2 ⟨y,beq_iff_eq.2 O⟩)
   .have:p++[(ie e).getD p.length 0] <+: ie e:=(mX _ _ _).2 ⟨D e y,yU (D e y) O,rfl⟩;exact Or.inr (a0.2 ⟨_,wQ.2 ⟨e,y,this⟩,lK.2 ⟨y,this⟩⟩)
 .rw[ba];refine⟨h.filter _,I2 h _ (pw (rG G p)),λa U b hb e=>?_⟩;subst e;obtain⟨c,_,hb⟩:=a0.1 hb;have W:=beq_iff_eq.1 (aw.1 U).2;have Y:=((mX _ _ _).1 (lK.1 hb).2).2.1;rw[W]at Y; omega
theorem Ad(h:(G.map gS.name).Nodup){a b:gS}(y:a∈G)(hb:b∈G)(D:a.name=b.name):a=b:=by
 induction G with
 |nil=>simp at y
 |cons x G O=>
  rw[aE,bg]at h;simp only[av]at y hb;rcases y with rfl|y<;>rcases hb with rfl|hb
  .rfl
  .exact absurd (ar.2 ⟨b,hb,D.symm⟩) h.1
  .exact absurd (ar.2 ⟨a,y,D⟩) h.1
  .exact O h.2 y hb
theorem JI{l:List gS}(h:∀e∈l,e.gT<=1000000):k9 l<=1000000:=by
 induction l with
 |nil=>simp[k9]
 |cons e l y=>
  have O:=h e (by simp);have U:=y (λx D=>h x (by simp[D]));rw[nC]; omega
def QQ(node:Wd->List Wd->Wd->Option (Nat×List gS×Wd))(f:Nat):Prop:=
 ∀(path:Wd)(h:List Wd)(G:List gS)(rest:Wd),ma G->(∀e∈G,Oy e/\path <+: ie e/\e.name ∉ h)->G.length<=255->(path=[]\/(G≠[]/\nP G=path))->26<=f+path.length->
  ∃es,node path h (oM f path G++rest)=some ((k9 G).toNat,es,rest)/\es.Perm G
theorem FN{node:Wd->List Wd->Wd->Option (Nat×List gS×Wd)}{f:Nat}(hN:QQ node f)(path:Wd)(G:List gS)(hG:ma G)(ae:∀e∈G,Oy e)(hl:G.length<=255)(hf:25<=f+path.length) :
  ∀(cs:List UInt8)(O:List Wd)(last:Int)(rest:Wd),(cs.Pairwise λa b=>a.toNat<b.toNat)->(∀c∈cs,c∈lQ G path/\last<(c.toNat:Int))->(∀e∈cs.flatMap (lT G path),e.name ∉ O)->
   ∃es,uM node cs.length path O last (cs.flatMap (λc=>io ((nP (lT G path c)).drop path.length)++oM f (nP (lT G path c)) (lT G path c))++rest)=some ((k9 (cs.flatMap (lT G path))).toNat,es,rest)/\es.Perm (cs.flatMap (lT G path)):=by
 intro cs
 induction cs with
 |nil=>intro O last rest _ _ _; exact⟨[],rfl,b5 _⟩
 |cons c cs ih=>
  intro O last rest hr hc hk;have W:=au.1 hr;obtain⟨af,ag⟩:=hc c (by simp);have y:=wP af;rw[<-uj]at y;have U:=NW (l:=G) (p:=path++[c]) (by rw[<-uj]; exact y);rw[<-uj]at U;have ah:=r9 y;have ai:ma (lT G path c):=hG.filter _;have Y:∀e∈lT G path c,Oy e/\nP (lT G path c) <+: ie e/\e.name ∉ O:=λe h=>⟨ae e (lK.1 h).1,ah.1 _ (ar.2 ⟨e,h,rfl⟩),hk e (by rw[ax]; exact aY _ h)⟩;have aj:(lT G path c).length<=255:=bq (aW _ _) hl;obtain⟨t,ht⟩:=U;obtain⟨e0,ab⟩:=a9 _ y;have an:(nP (lT G path c)).length<=24:=bq (Y e0 ab).2.1.length_le (uV (Y e0 ab).1).1
  have ac:∀e∈cs.flatMap (lT G path),e.name ∉ (lT G path c).map gS.name:=by
   intro e h hm;obtain⟨d,hd,h⟩:=a0.1 h;obtain⟨x,hx,ak⟩:=ar.1 hm;have:=Ad hG.nodup (lK.1 hx).1 (lK.1 h).1 ak;subst this;have:=sI (lK.1 hx).2 (lK.1 h).2;have h3:=W.1 d hd;rw[this]at h3; omega
  have al:∀e∈cs.flatMap (lT G path),e.name ∉ O:=λe h=>hk e (by rw[ax]; exact List.mem_append_right _ h);have aa:(nP (lT G path c)).drop path.length=c::t:=by rw[<-ht]; simp
  have D:path++c::t=nP (lT G path c):=by rw[<-ht]; simp
  have ao:path.length+1<=(nP (lT G path c)).length:=by rw[<-D]; simp
  obtain⟨e1,h1,ad⟩:=hN (nP (lT G path c)) O (lT G path c) (cs.flatMap (λc=>io ((nP (lT G path c)).drop path.length)++oM f (nP (lT G path c)) (lT G path c))++rest) ai Y aj (Or.inr ⟨y,rfl⟩) (by omega)
  obtain⟨e2,h2,am⟩:=ih (O++e1.map gS.name) (c.toNat:Int) rest W.2 (λd hd=>⟨(hc d (by simp[hd])).1,by have:=W.1 d hd; omega⟩) (λe h hm=>by
   rw[aB]at hm;rcases hm with hm|hm
   .exact al e h hm
   .exact ac e h ((ad.map gS.name).mem_iff.1 hm))
  refine⟨e1++e2,?_,?_⟩
  .rw[ax,ax,a7,uM,aa,aM,aM,pB _ _ (by have:=congrArg bj D; simp at this; simp; omega)];simp only[bl,List.getD_cons_zero,ne_eq,reduceCtorEq,not_false_eq_true,ag,and_self,if_true,D];rw[h1];simp only[bl];rw[h2];simp only[bl,b6,bK,and_true];rw[qo];have:=nV (lT G path c);have:=nV (cs.flatMap (lT G path));omega
  .rw[ax]; exact ad.append am
theorem F6:∀f:Nat,QQ (uA f) f:=by
 intro f
 induction f with
 |zero=>
  intro path ks G rest hr hm hl hp hf;rcases hp with rfl|⟨D,hs⟩
  .simp at hf
  .obtain⟨e,y⟩:=a9 _ D;have:=(hm e y).2.1.length_le;have:=(uV (hm e y).1).1;omega
 |succ f ih=>
  intro path ks G rest hr hm hl hp hf
  have ag:path.length<=24:=by
   rcases hp with rfl|⟨D,hs⟩
   .simp
   .obtain⟨e,y⟩:=a9 _ D;exact bq (hm e y).2.1.length_le (uV (hm e y).1).1
  have iS:=II (Lq hr.nodup) (λe y=>(hm e y).2.1);have aa:=iS.length_eq;rw[aJ]at aa
  have ab:∀e∈n5 G path,Oy e/\ie e=path/\e.name ∉ ks/\bn [] e.name=true:=λe y=>by
   have h:=aw.1 y;exact⟨(hm e h.1).1,beq_iff_eq.1 h.2,(hm e h.1).2.2,yb (hm e h.1).1.2.1⟩
  have am:k9 G<=1000000:=JI (λe y=>(hm e y).1.2.2.2.2.2.1);have an:=nV G
  have ao:(lQ G path).length<=((lQ G path).flatMap (lT G path)).length:=by
   rw[List.length_flatMap]
   have:∀cs:List UInt8,(∀c∈cs,c∈lQ G path)->cs.length<=(cs.map λc=>(lT G path c).length).sum:=by
    intro cs
    induction cs with
    |nil=>intro _; simp
    |cons c cs ah=>
     intro h;have h1:=ah (λd hd=>h d (by simp[hd]));have h2:=wP (h c (by simp));rw[<-uj]at h2;have h3:=aZ.2 h2;simp only[a7,aE,bh]; omega
   exact this _ (λ_ h=>h)
  obtain⟨es,hk,ai⟩:=FN ih path G hr (λe y=>(hm e y).1) hl (by omega) (lQ G path) (ks++(n5 G path).map gS.name) (-1) rest (rG G path) (λc hc=>⟨hc,by omega⟩) (λe y O=>by
   obtain⟨c,hc,y⟩:=a0.1 y;have W:=lK.1 y;rw[aB]at O;rcases O with O|O
   .exact(hm e W.1).2.2 O
   .obtain⟨x,U,aj⟩:=ar.1 O;have ac:=aw.1 U;have:=Ad hr.nodup ac.1 W.1 aj;subst this;have h1:=beq_iff_eq.1 ac.2;have h2:=((mX _ _ _).1 W.2).2.1
    rw[h1]at h2; omega)
  refine⟨n5 G path++es,?_,(bz _ ai).trans iS⟩;have hG:((k9 G).toNat:Int)=k9 G:=by omega
  have e1:oM (f+1) path G++rest=kY (((k9 G).toNat:Nat):Int)++(u8 ((n5 G path).length:Int)::((n5 G path).flatMap pZ++(u8 ((lQ G path).length:Int)::((lQ G path).flatMap (λc=>io ((nP (lT G path c)).drop path.length)++oM f (nP (lT G path c)) (lT G path c))++rest)))):=by
   rw[hG,oM]; simp
  have al:k9 G=max (k9 (n5 G path)) (k9 ((lQ G path).flatMap (lT G path))):=by rw[<-qo,BR iS]
  have ap:=nV (n5 G path);have aq:=nV ((lQ G path).flatMap (lT G path))
  have ad:path=[]\/0<(n5 G path).length\/1<(lQ G path).length:=by
   rcases hp with h|⟨D,hs⟩
   .exact Or.inl h
   .refine Or.inr (Classical.byContradiction λae=>?_);have ho:n5 G path=[]:=List.length_eq_zero_iff.1 (by omega);have af:=r9 D;rw[hs]at af;obtain⟨e,y⟩:=a9 _ D
    have ak:∀x∈G,ie x≠path:=λx U hk=>by
     have:x∈n5 G path:=aw.2 ⟨U,beq_iff_eq.2 hk⟩;rw[ho]at this; simp at this
    have hb:∀x∈G,path++[(ie x).getD path.length 0] <+: ie x:=λx U=>(mX _ _ _).2 ⟨(hm x U).2.1,yU (hm x U).2.1 (ak x U),rfl⟩
    have Y:∀x∈G,(ie x).getD path.length 0=(ie e).getD path.length 0:=by
     intro x U;have i1:=wQ.2 ⟨x,U,hb x U⟩;have i2:=wQ.2 ⟨e,y,hb e y⟩
     match hh:lQ G path with
     |[]=>rw[hh]at i1; simp at i1
     |[d]=>rw[hh]at i1 i2; simp only[aD]at i1 i2; rw[i1,i2]
     |d::d2::ds=>rw[hh]at ae; simp at ae
    have:=af.2 (path++[(ie e).getD path.length 0]) (λs hs=>by
     obtain⟨x,U,rfl⟩:=ar.1 hs
     rw[<-Y x U]; exact hb x U)
    have:=this.length_le;simp at this;omega
  rw[e1,uA,if_pos ag,sP _ (by omega)];simp only[bl];rw[tc _ (by omega)];simp only[bl];rw[G' path _ ks [] _ ab (hr.filter _)];simp only[bl];rw[tc _ (by omega)];simp only[bl];rw[hk];simp only[bl];rw[if_pos ⟨by omega,ad⟩]
theorem Il{l:List gS}(h:qn l):∃gs es,JF (ix l)=some (gs,es)/\(gs++es).Perm l:=by
 obtain⟨h1,h2,h3,h4,h5⟩:=h;have Y:=p8 l h2;have hp:=jM l;have aa:=hp.filter (λe=>e.gone);have ab:=hp.filter (λe=>!e.gone);have y:((jo l).filter (λe=>e.gone)++(jo l).filter (λe=>!e.gone)).Perm l:=(List.filter_append_perm _ _).trans hp;have ai:=aa.length_eq;have aj:=ab.length_eq;have ac:ma ((jo l).filter λe=>e.gone):=Y.filter _;have ad:ma ((jo l).filter λe=>!e.gone):=Y.filter _
 have ae:∀e∈(jo l).filter (λe=>e.gone),e=⟨e.name,true,[],0,0⟩/\mf e.name=true/\e.name ∉ ([]:List Wd)/\bn [] e.name=true:=λe he=>by
  have hm:=aw.1 he;rcases h1 e (pI.1 hm.1)with D|D
  .rw[D.1]at hm; simp at hm
  .exact⟨D.1,D.2,by simp,yb D.2⟩
 have af:∀e∈(jo l).filter (λe=>!e.gone),Oy e/\([]:Wd) <+: ie e/\e.name ∉ ((jo l).filter λe=>e.gone).map gS.name:=λe he=>by
  have hm:=aw.1 he;rcases h1 e (pI.1 hm.1)with D|D
  .refine⟨D,az,λhx=>?_⟩;obtain⟨x,hx,W⟩:=ar.1 hx;have O:=aw.1 hx;have:=Ad Y.nodup O.1 hm.1 W;subst this;have a:=O.2;have b:=hm.2;simp[a]at b
  .rw[D.1]at hm; simp at hm
 unfold ix;generalize (jo l).filter (λe=>e.gone)=gs at *;generalize (jo l).filter (λe=>!e.gone)=es at *;obtain⟨ag,W,U⟩:=F6 26 [] (gs.map gS.name) es [] ad af (by omega) (Or.inl rfl) (by simp);refine⟨gs,ag,?_,(bz _ U).trans y⟩;have ak:=U.length_eq;have ah:=y.length_eq;rw[aJ]at ah;have al:=aZ.2 h3;rw[aC]at W;unfold JF;rw[tc _ (by omega)];simp only[bl];rw[EX gs [] [] _ ae ac];simp only[bl];rw[pB [] _ (by simp)];simp only[bl,if_true];rw[W];simp only[bl];rw[if_pos ⟨trivial,by omega,by omega,by omega⟩]
end
section
open Go.RowKit Go.Maps
theorem CO{D r:Wd}{y:gS×Wd}(h:mZ D r=some y):∃tx wt tg O,y=(⟨D,false,tx,wt,tg⟩,O)/\tx.length<256/\O.length<=r.length:=by
 have h0:=h;unfold mZ at h;obtain⟨x,U,h⟩:=bm.1 h;split at h
 .obtain⟨z,W,h⟩:=bm.1 h;split at h
  .obtain⟨u,Y,h⟩:=bm.1 h;simp only[b6]at h;subst h;obtain⟨g1,g2⟩:=kR U;refine⟨_,_,_,_,rfl,g2,?_⟩;have g3:=(mQ W).1;have g4:=(kK Y).1;rw[g1,g3,g4];simp;omega
  .simp at h
 .simp at h
end
section
open Go.RowKit Go.Maps
theorem R4(a b:Wd):(⟨a.toArray⟩:ByteArray)++⟨b.toArray⟩=⟨(a++b).toArray⟩:=by
 apply bC;simp
end
section
open Go.RowKit
variable {l:List gS} {x:Wd}
theorem BC(h:su l x=none):x ∉ l.map gS.name:=by
 unfold su at h;rw[aT]at h;intro hm;obtain⟨e,y,D⟩:=ar.1 hm;have:=h e y;rw[D]at this;simp at this
theorem um(h:x ∉ l.map gS.name):su l x=none:=by
 unfold su;rw[aT];intro e y;rw[beq_eq_false_iff_ne];intro D;exact h (ar.2 ⟨e,y,D⟩)
end
section
open Go.RowKit Go.Maps
theorem Hw(p:Addr)(w:World) :
  CallsD prog 210 #[.pointer (some p)] .returning w λe y w'=>e=.returned (.tuple #[])/\y=.returning/\w'=w:=by
 refine callsD_of_wpS func210 rfl λh cs D=>?_;apply wpS_seq;apply wpS_region;simp[wpOpsS,go_sem,recoverD,D,ntmps210,Exit.thenS];refine wpS_of_wp ?_;change Code.wp _ _ _ {tmps:=#[.pointer (some p),.nilIface,undef,undef,.nilIface,undef,undef,undef,undef,undef,undef,undef,undef,undef,undef],defers:=[]} _;go_wp2;cases h;simp_all [bodyPostS,results,results210]
end
section
open Go.RowKit
def qO(h:List gS)(ss:List (List gS))(name:Wd):Nat×List gS:=
 if mf name=true then
  if su (kZ ss h) name=none then(5,h)
  else if 100<=h.length-(gR h).length then(4,h)
  else(0,ia h [⟨name,true,[],0,0⟩])
 else(1,h)
end
section
open Go.RowKit
def lm(h:List gS)(ss:List (List gS)):List gS:=if ss.length=0 then gR h else h
def kF(h:List gS)(ss:List (List gS)):Nat×List gS×List (List gS):=
 if h.length=0 then(5,h,ss)else if 6<=ss.length then(4,h,ss)
 else(0,[],if 0<(lm h ss).length then ss++[lm h ss]else ss)
end
section
open Go.RowKit
theorem Oe(s:ByteArray)(n:Nat):s.extract 0 n=⟨(s.data.toList.take n).toArray⟩:=by
 apply bC;rw[bD];apply Array.toList_inj.1;simp
theorem R5(n:Int):((u8 n).toNat:Int)=n % 256:=by
 unfold u8;have:(bE (n % 256).toNat).toNat=(n % 256).toNat % 256:=by simp
 rw[this];omega
theorem oI(n:Int):j0 [u8 n]=[.int .u8 (n % 256)]:=by simp only[j0,aE,bi,R5]
end
section
open Go.RowKit
def Eu(a b:gS):Prop:=bn (ie a) (ie b)=true\/(ie a=ie b/\bn a.name b.name=true)
def kT(l:List gS):Prop:=l.Pairwise Eu
def jr(d:Nat)(e:gS):UInt8:=(ie e).getD d 0
def l7(L:List gS)(d:Nat):Nat:=(L.takeWhile λe=>(ie e).length==d).length
def runs(d:Nat):List gS->List (List gS)
 |[]=>[]
 |e::l=>match runs d l with
  |[]=>[[e]]
  |[]::gs=>[e]::gs
  |(x::g)::gs=>if jr d e=jr d x then(e::x::g)::gs else [e]::(x::g)::gs
def lP(C:List gS):Wd:=match C with
 |[]=>[]
 |e::C=>tU (ie e) (ie ((e::C).getLast (by simp)))
def lz:Nat->Nat->List gS->Wd
 |0,_,_=>[]
 |f+1,d,L=>kY (k9 L)++(u8 (l7 L d)::((L.take (l7 L d)).flatMap pZ++(u8 (runs d (L.drop (l7 L d))).length::(runs d (L.drop (l7 L d))).flatMap λC=>io ((lP C).drop d)++lz f (lP C).length C)))
theorem DY{a b:gS}(h:Eu a b):bn (ie b) (ie a)=false:=by
 rcases h with h|h
 .exact so h
 .rw[h.1]; exact kN _
theorem JX:∀(r a b c:Wd),r <+: a->r <+: c->bn b a=false->bn c b=false->r <+: b
 |[],_,_,_,_,_,_,_=>az
 |x::r,[],_,_,h,_,_,_=>by simp at h
 |x::r,_::_,_,[],_,h,_,_=>by simp at h
 |x::r,y::a,[],z::c,_,_,D,_=>by simp[bn]at D
 |x::r,y::a,w::b,z::c,h1,h2,D,O=>by
  have g1:=ay.1 h1
  have g2:=ay.1 h2;simp only[bn,bv,bw,decide_eq_false_iff_not,beq_iff_eq]at D O;obtain⟨U,W⟩:=g1;obtain⟨Y,aa⟩:=g2;subst U;subst Y
  have e:w=x:=by
   have a1:=D.1;have a2:=O.1;apply bG.1;simp only[bF]at a1 a2;omega
  subst e;exact ay.2 ⟨rfl,JX r a b c W aa (D.2 rfl) (O.2 rfl)⟩
theorem Ni:∀(C:List gS),C≠[]->kT C->nP C=lP C:=by
 intro C O U
 cases C with
 |nil=>exact absurd rfl O
 |cons e C=>
  refine PL (by simp) ⟨λs h=>?_,λr D=>?_⟩
  .obtain⟨x,y,rfl⟩:=ar.1 h;have W:=tC (ie e) (ie ((e::C).getLast (by simp)));have D:=rV (ie e) (ie ((e::C).getLast (by simp)))
   have Y:x=e\/Eu e x:=by
    simp only[av]at y;rcases y with rfl|y
    .exact Or.inl rfl
    .exact Or.inr ((au.1 U).1 x y)
   have hb:x=(e::C).getLast (by simp)\/Eu x ((e::C).getLast (by simp)):=by
    obtain⟨i,hi,rfl⟩:=List.mem_iff_getElem.1 y;rw[List.getLast_eq_getElem];by_cases h:i=(e::C).length-1
    .left; simp[h]
    .right;exact aS.1 U i _ hi (by simp) (by omega)
   have h1:bn (ie x) (ie e)=false:=by
    rcases Y with rfl|h
    .exact kN _
    .exact DY h
   have h2:bn (ie ((e::C).getLast (by simp))) (ie x)=false:=by
    rcases hb with h|h
    .rw[<-h]; exact kN _
    .exact DY h
   exact JX _ _ _ _ W D h1 h2
  .exact tF _ _ _ (D _ (ar.2 ⟨e,by simp,rfl⟩)) (D _ (ar.2 ⟨_,List.getLast_mem _,rfl⟩))
theorem NB{p s:Wd}(h:p <+: s)(D:s≠p):bn p s=true:=by
 rcases kS p s with y|y|y
 .exact y
 .exact absurd y.symm D
 .exfalso;obtain⟨t,rfl⟩:=h;clear D
  induction p with
  |nil=>cases t<;>simp[bn]at y
  |cons a p O=>
   simp only[a8,bn,Bool.or_eq_true,decide_eq_true_eq,bu,beq_self_eq_true,true_and]at y;rcases y with y|y
   .simp at y
   .exact O y
theorem QI{p a b:Wd}(U:p <+: a)(hb:p <+: b)(D:p.length<a.length)(O:p.length<b.length)(h:bn b a=false):(a.getD p.length 0).toNat<=(b.getD p.length 0).toNat:=by
 obtain⟨s,rfl⟩:=U;obtain⟨t,rfl⟩:=hb
 induction p with
 |nil=>
  cases s with
  |nil=>simp at D
  |cons x s=>
   cases t with
   |nil=>simp at O
   |cons y t=>
    simp only[aA,bn,bv,decide_eq_false_iff_not,bF]at h;simp;omega
 |cons x p W=>
  simp only[a8,bn,bv,bw,decide_eq_false_iff_not,beq_self_eq_true,true_implies]at h;have:=W (by simpa using D) (by simpa using O) h.2;simpa using this
theorem Aq{p:Wd}{L:List gS}(W:kT L)(O:∀e∈L,p <+: ie e):(∀e∈L.take (l7 L p.length),ie e=p)/\∀e∈L.drop (l7 L p.length),ie e≠p:=by
 have Y:L.take (l7 L p.length)=L.takeWhile λe=>(ie e).length==p.length:=by
  unfold l7;conv=>lhs; arg 2; rw[<-a5 (p:=λe=>(ie e).length==p.length) (l:=L)]
  rw[List.take_left]
 have e2:L.drop (l7 L p.length)=L.dropWhile λe=>(ie e).length==p.length:=by
  unfold l7;conv=>lhs; arg 2; rw[<-a5 (p:=λe=>(ie e).length==p.length) (l:=L)]
  rw[List.drop_left]
 rw[Y,e2];refine⟨λe y=>?_,λe y U=>?_⟩
 .have h1:=Pf L e y;have h2:=O e ((aU _).mem y);exact(h2.eq_of_length (by simpa using(beq_iff_eq.1 h1).symm)).symm
 .have hs:kT (L.dropWhile λe=>(ie e).length==p.length):=b7 (aG _) W;have hm:∀e∈L.dropWhile (λe=>(ie e).length==p.length),p <+: ie e:=λe y=>O e ((aG _).mem y);have hd:=Jx (p:=λe:gS=>(ie e).length==p.length) L;generalize L.dropWhile (λe=>(ie e).length==p.length)=B at *
  cases B with
  |nil=>simp at y
  |cons b B=>
   have hb:=hd b B rfl;have D:ie b≠p:=λh=>by rw[h]at hb; simp at hb
   simp only[av]at y;rcases y with rfl|y
   .exact D U
   .have:=DY ((au.1 hs).1 e y);rw[U,NB (hm b (by simp)) D]at this;cases this
theorem zt(p:Wd):∀(L:List gS),kT L->(∀e∈L,p <+: ie e/\ie e≠p)->∃U:List (UInt8×List gS),runs p.length L=U.map (·.2)/\MW U/\BK p U/\pX U=L/\(∀x∈U,kT x.2)/\∀x∈U,∃e g,x.2=e::g/\x.1=jr p.length e:=by
 intro L
 induction L with
 |nil=>intro _ _; exact⟨[],rfl,List.Pairwise.nil,λ_ h=>by simp at h,rfl,λ_ h=>by simp at h,λ_ h=>by simp at h⟩
 |cons e L ih=>
  intro hL hp;have Y:=au.1 hL;obtain⟨U,h1,h2,h3,h4,h5,h6⟩:=ih Y.2 (λx O=>hp x (by simp[O]));have aa:p++[jr p.length e] <+: ie e:=(mX _ _ _).2 ⟨(hp e (by simp)).1,yU (hp e (by simp)).1 (hp e (by simp)).2,rfl⟩
  cases U with
  |nil=>
   refine⟨[(jr p.length e,[e])],?_,aF _ _,?_,?_,?_,?_⟩
   .rw[runs,h1]; rfl
   .intro x O; simp at O; subst O;exact⟨by simp,λy W=>by simp at W; subst W; exact aa⟩
   .simp only[pX,List.flatMap_nil]at h4; rw[<-h4]; rfl
   .intro x O; simp at O; subst O; exact aF _ _
   .intro x O; simp at O; subst O; exact⟨e,[],rfl,rfl⟩
  |cons y U=>
   obtain⟨x,g,W,ab⟩:=h6 y (by simp);obtain⟨yc,yg⟩:=y;simp only at W ab;subst W;subst ab;have ac:runs p.length L=(x::g)::U.map (·.2):=h1;by_cases hb:jr p.length e=jr p.length x
   .refine⟨(jr p.length e,e::x::g)::U,?_,?_,?_,?_,?_,?_⟩
    .rw[runs,ac]; simp[hb]
    .have:=au.1 h2;exact au.2 ⟨λz D=>by have:=this.1 z D; rw[hb]; exact this,this.2⟩
    .intro z D;simp only[av]at D;rcases D with rfl|D
     .refine⟨by simp,λw hw=>?_⟩;rcases av.1 hw with rfl|hw
      .exact aa
      .show p++[jr p.length e] <+: ie w;rw[hb]; exact(h3 (jr p.length x,x::g) (by simp)).2 w hw
     .exact h3 z (by simp[D])
    .rw[<-h4]; rfl
    .intro z D;simp only[av]at D;rcases D with rfl|D
     .refine au.2 ⟨λw hw=>Y.1 w ?_,h5 (jr p.length x,x::g) (by simp)⟩;rw[<-h4]; exact aY _ hw
     .exact h5 z (by simp[D])
    .intro z D;simp only[av]at D;rcases D with rfl|D
     .exact⟨e,x::g,rfl,rfl⟩
     .exact h6 z (by simp[D])
   .refine⟨(jr p.length e,[e])::(jr p.length x,x::g)::U,?_,?_,?_,?_,?_,?_⟩
    .rw[runs,ac]; simp[hb]
    .have O:x∈L:=by rw[<-h4]; simp[pX]
     have ad:(jr p.length e).toNat<(jr p.length x).toNat:=by
      have a1:=hp e (by simp);have a2:=hp x (by simp[O]);have:=QI a1.1 a2.1 (yU a1.1 a1.2) (yU a2.1 a2.2) (DY (Y.1 x O));have ae:(jr p.length e).toNat≠(jr p.length x).toNat:=λh=>hb (bG.1 h);unfold jr at *;omega
     refine au.2 ⟨λz D=>?_,h2⟩;simp only[av]at D;rcases D with rfl|D
     .exact ad
     .have:=(au.1 h2).1 z D;exact Nat.lt_trans ad this
    .intro z D;rw[av]at D;rcases D with rfl|D
     .exact⟨by simp,λy W=>by simp at W; subst W; exact aa⟩
     .exact h3 z D
    .rw[<-h4]; rfl
    .intro z D;rw[av]at D;rcases D with rfl|D
     .exact aF _ _
     .exact h5 z D
    .intro z D;rw[av]at D;rcases D with rfl|D
     .exact⟨e,[],rfl,rfl⟩
     .exact h6 z D
theorem EN{p:Wd}{l:List gS}(h:kT l)(y:∀e∈l,ie e=p):ma l:=by
 refine b9 (fun {a b} ha hb h=>?_) h;rcases h with h|h
 .rw[y a ha,y b hb,kN]at h; cases h
 .exact h.2
theorem P5:∀(f:Nat)(p:Wd)(L:List gS),kT L->(∀e∈L,p <+: ie e)->lz f p.length L=oM f p (jo L):=by
 intro f
 induction f with
 |zero=>intro p L _ _; rfl
 |succ f ih=>
  intro p L W hp;obtain⟨h1,h2⟩:=Aq W hp;have Y:kT (L.drop (l7 L p.length)):=b7 (List.drop_sublist _ _) W;have aa:kT (L.take (l7 L p.length)):=b7 (List.take_sublist _ _) W;obtain⟨hs,r1,r2,r3,r4,r5,r6⟩:=zt p _ Y (λe U=>⟨hp e (List.mem_of_mem_drop U),h2 e U⟩);have h:L.take (l7 L p.length)++pX hs=L:=by rw[r4,aH]
  have hb:=Iq f p (L.take (l7 L p.length)) hs (EN aa h1) h1 r2 r3;rw[h]at hb
  have y:(L.take (l7 L p.length)).length=l7 L p.length:=by
   have:l7 L p.length<=L.length:=(aU _).length_le;simp; omega
  rw[hb,lz,r1,aP,y,bc];congr 4;refine rI λx hx=>?_;have D:=(r3 x hx).1;have O:=Ni x.2 D (r5 x hx);unfold Part;rw[O,ih (lP x.2) x.2 (r5 x hx) (λe U=>?_)];rw[<-O];exact(r9 D).1 _ (ar.2 ⟨e,U,rfl⟩)
end
end Go.Proofs.YtocbogeoffeolaaGreatDoor
