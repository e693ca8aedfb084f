import Derived.Laws.EntriesVeiled
import Derived.Shelf.Strconv.Clone
import Derived.Shelf.Sort.Plain
import Derived.Shelf.Slices.In.SortNone
import Derived.Sort.OwnSorted
import Derived.Laws.CopyOwn
import Derived.Test.YtocbogeoffeolaaGreatDoorAllAA
set_option linter.all false
set_option maxHeartbeats 8000000
set_option maxRecDepth 1000000
open List renaming length_take->dd,length_eq_zero_iff->ej,length_pos_iff->gc,mem_nil_iff->gd,flatMap_nil->hQ,take_append_of_le_length->hV,nil_prefix->ie,pairwise_singleton->i3,map_toArray->i4,getElem?_drop->kd,length->kj,findIdx?_eq_none_iff->kl,getLast_eq_getElem->kr,getElem_cons_succ->kt,drop_eq_nil_of_le->kv,dropWhile_sublist->k6,mem_append_left->k8,drop_succ_cons->ld,Nodup->lo,getElem_take->lv,getElem_drop->lw,drop_sublist->ly,take_prefix->l0,flatMap_map->lE,take_take->mb,take_left->md,foldl_nil->mi,drop_left->mp,take->ms
open Option renaming bind_assoc->m6
open Nat renaming min_eq_left->ov,add_sub_cancel_left->ow,add_zero->o1,mul_add->o5,add_mul->o6
open Array renaming replicate->sp
open Bool renaming or_eq_false_iff->s6,and_comm->sA,and_eq_false_imp->sB
open List.Perm renaming refl->ua,eq_of_pairwise->un,append->ut
open List.Pairwise renaming sublist->uL,of_map->va,imp_of_mem->vb,imp->vc
open Prod.mk renaming injEq->wi
open Int renaming toNat_natCast->xb
open And renaming intro->A?
open Array renaming setIfInBounds->S?
open Bool renaming false->f?,true->t?
open List renaming length->l?,toArray->a?
open Option renaming none->x?,some->y?
namespace Go.Proofs.YtocbogeoffeolaaGreatDoor
open Go renaming maxLen->nl,Calls->nr,wp_region_held->nv,wpAnyH_done->n3,wpOp_step->n4,setRow_heap->n5,wpList->n7,wpAnyH_all->n8,results->nL,resolve->nU,execOp->oa,callsD_of_wpS->ob,setRow_self->oi,leaves_cons->oj,undef->om,wpS_region->on
open RowKit.Below renaming refl->oA
open Proofs.Tryz renaming underlying85->oN,underlying9->oQ,underlying60->oS,underlying31->oT,underlying214->pc,underlying75->pd,ntmps106->pi,ntmps38->pm,ntmps29->pp,ntmps25->pr,func106->pt,ntmps128->pu,func38->pv,func29->px,func25->p0,underlying239->p6,underlying136->p7,underlying118->p',ntmps39->qb,ntmps26->qr,func128->qt,underlying5->qz,zeroValue9->q6,results210->q7,results158->q8,func39->q',func26->ro
open World renaming grownBy_alloc->rv,setCell->rx,cell?->sb,noCell->sc
open Op renaming bytesLess->sr
open Oper renaming wp->te
open Value.slice renaming injEq->ti
open Value renaming ownBlock->tl,oneCell'->tm
open Builtin renaming zeroCells->vm,append_->vo,clear_->vt,copy_->vx
open Go.Sort renaming ahead->v0,alloc_eq_grow->v6,mapBlock->v9,putRowK->vA,putRow->wh
open Sem renaming run_pure->wu,run_bind->wS
open Result renaming andThen_ok->x9
open Proofs renaming sortWorldK->yb
open Go.Sort.HoldsK renaming cell->yd
open RowKit renaming run_makeMap->yo
open Go renaming undef->ys
open Go renaming Program->P?,Value->v?,World->w?
open Ending renaming returned->e?
open IntKind renaming i64->i?
open Obj renaming cells->c?
open Value renaming int->n?,ownBlock->O?,pointer->p?,string->s?
open World renaming cell?->C?,ownsRow->R?
open Proofs.Tryz
section
open RowKit
variable {f P U:Wd}{g i I:Nat}{l:List (Nat×eE)}{o J:w?}{p:b?}
abbrev sn(l:List (Nat×eE)):List eE:=l.map Prod.snd
def jg(N:Nat):Nat->Wd->W?->Wd->Wd->Option (List (Nat×eE)×Wd)
 |0,_,_,_,B=>y? ([],B)|n+1,path,J,last,B=>(mO J last B).bind λx=>(jF x.1 x.2).bind λy=>if dF y.1=path then(jg N n path (J++[x.1]) x.1 y.2).bind λz=>y? ((N-l? B,y.1)::z.1,z.2)else x?
def ju(node:Wd->W?->Wd->Option (Nat×List (Nat×eE)×Wd)):Nat->Wd->W?->Int->Wd->Option (Nat×List (Nat×eE)×Wd)
 |0,_,_,_,B=>y? (0,[],B)|n+1,path,J,last,B=>(gL B).bind λx=>if x.1≠[]/\last<((x.1.getD 0 0).toNat:Int)then
   (node (path++x.1) J x.2).bind λy=>(ju node n path (J++(sn y.2.1).map eE.name) ((x.1.getD 0 0).toNat:Int) y.2.2).bind λz=>y? (max y.1 z.1,y.2.1++z.2.1,z.2.2)else x?
def fS(N:Nat):Nat->Wd->W?->Wd->Option (Nat×List (Nat×eE)×Wd)
 |0,_,_,_=>x?|f+1,path,B,J=>if path.length<=24 then
   (fA J).bind λa=>(rdNum a.2).bind λb=>(jg N b.1 path B [] b.2).bind λc=>(rdNum c.2).bind λd=>(ju (fS N f) d.1 path (B++(sn c.1).map eE.name) (-1) d.2).bind λe=>if(a.1:Int)=max (gJ<|sn c.1) e.1/\(path=[]\/0<b.1\/1<d.1)then y? (a.1,c.1++e.2.1,e.2.2)else x?
  else x?
def jf(N:Nat):Nat->W?->Wd->Wd->Option (List (Nat×eE)×Wd)
 |0,_,_,B=>y? ([],B)|n+1,J,last,B=>(mO J last B).bind λx=>(jf N n (J++[x.1]) x.1 x.2).bind λz=>y? ((N-l? B,⟨x.1,t?,[],0,0⟩)::z.1,z.2)
def jd(N:Nat)(B:Wd):Option<|List (Nat×eE)×List (Nat×eE):=
 (rdNum B).bind λa=>(jf N a.1 [] [] a.2).bind λb=>(gL b.2).bind λc=>if c.1=[]then(fS N 26 [] ((sn b.1).map eE.name) c.2).bind λd=>if d.2.2=[]/\0<l? b.1+l? d.2.1/\a.1<=100/\l? d.2.1<=30 then y? (b.1,d.2.1)else x? else x?
def yU(N):∀(n)(B:W?)(J r),pN n B J r=(jf N n B J r).map λz=>(sn z.1,z.2)
 |0,_,_,_=>rfl|n+1,B,J,r=>by
  rw[pN,jf]
  cases mO B J r with
  |none=>rfl|some x=>simp only[Zf,yU N n];cases jf N n .. <;> rfl
def Fj(N):∀(n)(path)(B:W?)(J r),pG n path B J r=(jg N n path B J r).map λz=>(sn z.1,z.2)
 |0,_,_,_,_=>rfl|n+1,path,B,J,r=>by
  rw[pG,jg]
  cases mO B J r with
  |none=>rfl|some x=>
   simp only[Zf]
   cases jF .. with
   |none=>rfl|some y=>
    simp only[Zf,Fj N n];split
    cases jg N n path .. <;> rfl;rfl
def E8(O:∀path B r,kP i path B r=(fS g i path B r).map λz=>(z.1,sn z.2.1,z.2.2)):∀(n)(path)(B:W?)(J)(r),pL (kP i) n path B J r=(ju (fS g i) n path B J r).map λz=>(z.1,sn z.2.1,z.2.2)
 |0,_,_,_,_=>rfl|n+1,path,B,J,r=>by
  rw[pL,ju]
  cases gL r with
  |none=>rfl|some x=>
   simp only[Zf,O,E8 O n];split
   cases fS g i _ B _ with
   |none=>rfl|some y=>simp only[N!,Zf];cases ju _ n path .. <;> simp[sn]
   rfl
def F4(N):∀(f)(path)(B:W?)(r),kP f path B r=(fS N f path B r).map λz=>(z.1,sn z.2.1,z.2.2)
 |0,_,_,_=>rfl|f+1,path,B,r=>by
  rw[kP,fS];split
  cases fA r with
  |none=>rfl|some a=>
   simp only[Zf]
   cases rdNum _ with
   |none=>rfl|some b=>
    simp only[Zf,Fj N]
    cases jg N _ path B [] _ with
    |none=>rfl|some c=>
     simp only[N!,Zf]
     cases rdNum _ with
     |none=>rfl|some d=>
      simp only[Zf,E8<|F4 N f]
      cases ju _ _ path .. with
      |none=>rfl|some e=>simp only[N!,Zf];split<;>simp[sn]
  rfl
def Sz(N)(B):pE B=(jd N B).map λz=>(sn z.1,sn z.2):=by
 unfold pE jd
 cases rdNum B with
 |none=>rfl|some a=>
  simp only[Zf,yU N]
  cases jf N _ [] [] _ with
  |none=>rfl|some b=>
   simp only[N!,Zf]
   cases gL _ with
   |none=>rfl|some c=>
    simp only[Zf,F4 N];split
    cases fS N 26 [] .. with
    |none=>rfl|some d=>simp only[N!,Zf,Z5];split<;>rfl
    rfl
def Jm{B:W?}(h:jf g i B f P=y? (l,U)):l? l=i:=by have e:=yU g i B f P;rw[h]at e;have:=(ur _ _ _ _ _ _ e).1;rw[Z5]at this;omega
def tn(a b:Nat)(ps:List<|Nat×eE):Prop:=a<=b/\(∀p∈ps,a<=p.1/\p.1<b)/\ps.Pairwise λx y=>x.1<y.1
def tn.nil{a b}(h:a<=b):tn a b []:=⟨h,i!,.nil⟩
def tn.append{a b c qs}(h:tn a b l)(O:tn b c qs):tn a c<|l++qs:=by
 obtain⟨h1,B,U⟩:=h;obtain⟨k1,J,V⟩:=O;refine⟨o!,λp W=>?_,List.pairwise_append.2 ⟨U,V,λx Y y hy=>?_⟩⟩;obtain h|h:=Z3.1 W
 have:=B p h;omega;have:=J p h;omega;have:=B x Y;have:=J y hy;omega
def tn.one{a b e}(h:a<b):tn a b [(a,e)]:=⟨o!,j!,i!⟩
def tn.from{a b c}(h:tn b c l)(J:a<=b):tn a c l:=⟨by have:=h.1;omega,λp B=>by have:=h.2.1 p B;omega,h.2.2⟩
def CY(N):∀{n}{J:W?}{O r B}{U:E?},pN n J O r=y? (U,B)->l? r<=N->∃ps,jf N n J O r=y? (ps,B)/\sn ps=U/\l? B<=l? r/\tn (N-l? r) (N-l? B) ps
 |0,_,_,_,_,_,h,_=>by cases h;exact⟨[],q?,q?,Zu _,.nil<|Zu _⟩
 |n+1,J,O,r,B,U,h,hN=>by
  rw[pN]at h
  simp only[ZC]at h
  obtain⟨⟨nm,W⟩,V,⟨gs',r2⟩,Y,h3⟩:=h
  cases h3
  try dsimp only at *
  have hl:l? W+1<=l? r:=by rw[(mA V).1];simp[dM]
  let ⟨ps,k1,k2,k3,k4⟩:=CY N Y o!;refine⟨(N-l? r,⟨nm,t?,[],0,0⟩)::ps,?_,by simp[sn,<-k2],o!,(tn.one o!).append k4⟩;rw[jf,V,Zf,k1];rfl
def IV{e}(h:jF f P=y? (e,U)):l? U<=l? P:=by
 unfold jF at h;simp only[ZC]at h;obtain⟨⟨tx,r'⟩,B,h⟩:=h;split at h;simp only[ZC]at h;obtain⟨⟨wt,V⟩,J,h⟩:=h;split at h;simp only[ZC]at h;obtain⟨⟨tg,W⟩,O,h⟩:=h;cases h;rw[(gq B).1,(j9 J).1,(fT O).1];simp;omega
 cases h
 cases h
def B4(N):∀{n path}{O:W?}{U r B}{es:E?},pG n path O U r=y? (es,B)->l? r<=N->∃ps,jg N n path O U r=y? (ps,B)/\sn ps=es/\l? B<=l? r/\tn (N-l? r) (N-l? B) ps
 |0,_,_,_,_,_,_,h,_=>by cases h;exact⟨[],q?,q?,Zu _,.nil<|Zu _⟩
 |n+1,path,O,U,r,B,es,h,hN=>by
  rw[pG]at h
  simp only[ZC]at h
  obtain⟨⟨nm,Y⟩,V,⟨e,r2⟩,W,J⟩:=h
  split at J
  .rename_i hk;simp only[ZC]at J;obtain⟨⟨aa,r4⟩,h4,h5⟩:=J;cases h5
   try dsimp only at *
   have hl:l? Y+1<=l? r:=by rw[(mA V).1];simp[dM]
   have ab:=IV W;let ⟨ps,k1,k2,k3,k4⟩:=B4 N h4 o!;refine⟨(N-l? r,e)::ps,?_,by simp[sn,<-k2],o!,(tn.one o!).append k4⟩;rw[jg,V,Zf,W,Zf,if_pos hk,k1];rfl
  cases J
def Vk(N:Nat)(f:Nat):Prop:=∀(path:Wd)(J:W?)(r B:Wd)(g:Nat)(es:E?),kP f path J r=y? (g,es,B)->l? r<=N->∃ps,fS N f path J r=y? (g,ps,B)/\sn ps=es/\l? B<=l? r/\tn (N-l? r) (N-l? B) ps
def Cp(U:Vk i I):∀{n:Nat}{path:Wd}{J:W?}{O:Int}{r B:Wd}{g:Nat}{es:E?},pL (kP I) n path J O r=y? (g,es,B)->l? r<=i->∃ps,ju (fS i I) n path J O r=y? (g,ps,B)/\sn ps=es/\l? B<=l? r/\tn (i-l? r) (i-l? B) ps
 |0,_,_,_,_,_,_,_,h,_=>by cases h;exact⟨[],q?,q?,Zu _,.nil<|Zu _⟩
 |n+1,path,J,O,r,B,g,es,h,hN=>by
  rw[pL]at h
  simp only[ZC]at h
  obtain⟨⟨lb,Y⟩,V,h⟩:=h
  split at h
  .rename_i hc;simp only[ZC]at h;obtain⟨⟨g1,aa,r2⟩,h2,⟨g2,ab,r3⟩,h3,h4⟩:=h;cases h4
   try dsimp only at *
   have hl:l? Y<=l? r:=by rw[(gq V).1];simp
   let ⟨ps,k1,W,k3,k4⟩:=U _ _ _ _ _ _ h2 o!;let ⟨qs,j1,j2,j3,j4⟩:=Cp U h3 o!;refine⟨ps++qs,?_,by simp[sn]at *;rw[W,j2],o!,(k4.append j4).from o!⟩;rw[ju,V,Zf,if_pos hc,k1];simp only[W,j1,Zf]
  cases h
def Ba(N):∀f,Vk N f
 |0=>nofun
 |f+1=>λpath ks r rf g es h hN=>by
  rw[kP]at h
  split at h
  .rename_i W
   simp only[ZC]at h
   obtain⟨⟨wg,r0⟩,J,⟨nb,Y⟩,O,⟨own,r2⟩,h3,⟨nc,r3⟩,U,⟨gb,below,r4⟩,h5,B⟩:=h
   split at B
   .rename_i hc;cases B
    try dsimp only at *
    have l1:l? r0<=l? r:=by rw[(j9 J).1];simp
    have l2:l? Y<=l? r0:=by have:=(fT O).1;rw[this];simp
    let ⟨ps,k1,V,k3,k4⟩:=B4 N h3 o!;have l3:l? r3<=l? r2:=by have:=(fT U).1;rw[this];simp
    let ⟨qs,j1,j2,j3,j4⟩:=Cp (Ba N f) h5 o!;refine⟨ps++qs,?_,by simp[sn]at *;rw[V,j2],o!,(k4.append (j4.from o!)).from o!⟩;rw[fS,if_pos W,J,Zf,O,Zf,k1,Zf,U];simp only[V,j1,Zf];rw[if_pos hc]
   cases B
  cases h
def P6{J es:E?}(h:pE f=y? (J,es)):∃ps B,jd f.length f=y? (ps,B)/\sn ps=J/\sn B=es/\tn 0 f.length (ps++B):=by
 unfold pE at h;simp only[ZC]at h;obtain⟨⟨n,r⟩,V,⟨gs',r0⟩,h2,⟨lb,r1⟩,W,h⟩:=h;split at h
 .rename_i hc;simp only[ZC]at h;obtain⟨⟨g,O,r2⟩,h4,h⟩:=h;split at h
  .rename_i hd;cases h
   try dsimp only at *
   have l1:l? r<=l? f:=by have:=(fT V).1;rw[this];simp
   obtain⟨ps,k1,U,k3,k4⟩:=CY _ h2 o!;have l3:l? r1<=l? r0:=by rw[(gq W).1];simp
   let ⟨B,j1,Y,j3,j4⟩:=Ba f.length 26 _ _ _ _ _ _ h4 o!;refine⟨ps,B,?_,U,Y,?_⟩;have a1:l? ps=l? J:=by rw[<-U];simp
   have a2:l? B=l? O:=by rw[<-Y];simp
   unfold jd;rw[V,Zf,k1,Zf,W,Zf,if_pos hc];simp only[U,j1,Zf];rw[if_pos<|by rwa[a1,a2]];have:=(k4.append (j4.from o!)).from<|ZP _;rwa[hd.1]at this
  cases h
 cases h
open Maps
def Told(e:eE):Prop:=l? e.1<=255/\l? e.3<=255/\(e.2=f?->0<=e.5/\e.5<=255)
structure PU where
 fn:FuncId
 cp:Array v?
 own:Nat->Prop
 dom:Nat->Prop
 T:w?->List (Nat×eE)->Prop
def PU.v(t:PU):v?:=.func (.func t.1) #[] t.2
structure PU.Ok(t:PU)(mx:Nat):Prop where
 iI:∃iI c,prog.2[t.1]?=some iI/\iI.9=some c/\(iI.1 == "runtime.NumGoroutine")=false
 sub:∀k,t.3 k->t.4 k
 lt:∀{w told k},t.T w told->t.4 k->k<w.1.size
 stay:∀{w w' told},t.T w told->(∀k,t.4 k->w'.1[k]?=w.1[k]?)->t.T w' told
 tell:∀(w:w?)(q:Nat)(told:List (Nat×eE))(e:eE),t.T w told->e.1 ∉ (sn told).map eE.name->l? told<1099511627776->Told e->q<=mx->
  nr prog t.1 (#[.int .i64 (q:Int),.string ⟨a? e.1⟩,ve e]++t.2) w λen w'=>en=.returned (.tuple #[])/\t.T w' (told++[(q,e)])/\dy t.3 w w'
structure RG(w:w?)(Rb Mk:Nat)(t:PU)(S:b?)(rest:Wd)(told:List (Nat×eE)):Prop where
 rd:Lt w Rb S rest Mk t.v
 kn:ed prog 9 w Mk ((sn told).map Yh)
 sd:t.T w told
 few:l? told+l? rest<=S.size
 ne:∀k,t.4 k->k≠Rb/\k≠Mk
def G5(B J:Nat)(t:PU)(k:Nat):Prop:=k=B\/k=J\/t.3 k
variable {C:PU}
def RG.mr{S:b?}(h:RG o g i C S f l):i≠g:=by obtain⟨p,B,_⟩:=h.1;exact h.2.qc B
def RG.turn(B:C.Ok I)(h:RG o g i C p f l)(O:dy (· = g) o J)(V:Lt J g p P i C.v)(W:l? P<=l? f):RG J g i C p P l:=
 ⟨V,h.2.stay<|O.5 _ h.2.lt h.mr,B.4 h.3 λk U=>O.5 k (B.3 h.3 U) (h.5 k U).1,by have:=h.4;omega,h.5⟩
def RG.below{w}{S:b?}(B:C.Ok I)(h:RG w g i C S f l)(hb:B? w o):RG o g i C S f l:=by obtain⟨p,J,O⟩:=h.1;exact⟨⟨p,by unfold Ec at *;rwa[hb.5 g<|eN J],O⟩,h.2.below hb,B.4 h.3 λk U=>hb.5 k<|B.3 h.3 U,h.4,h.5⟩
def RG.pos{S:b?}(h:RG o g i C S f l):C? o ⟨g,1,x?⟩=y? (n? i? ((S.size-l? f:Nat):Int)):=by obtain⟨p,B,J,rfl⟩:=h.1;rw[dx B];have e:S.size-(S.1.1.drop p).length=p:=j!;rw[e];rfl
def Ends.no{α}{F:F?}{X}{ok:α->Ending->w?->Prop}(B:dy F o J)(O:X=x?):Ends F o X ok (.panicked [Mj]) J:=⟨B,by rw[O]⟩
def Ends.Xl{α}{F:F?}{X ok}{x:α}{e}(B:dy F o J)(O:X=y? x)(h:ok x e J):Ends F o X ok e J:=⟨B,by rwa[O]⟩
def wM{S:b?}{last:Wd}(hT:C.Ok I)(h:RG J g i C S f l)(hS:S.size<=1099511627775) :
  nr prog 234 #[p?<|y? ⟨g,0,x?⟩,s? ⟨a? last⟩] J (Ends (· = g) J (mO ((sn l).map eE.name) last f) λx e w'=>e=e? (s? ⟨a? x.1⟩)/\RG w' g i C S x.2 l):=by
 have ht:=xo g S f i C.v J h.1 o!;have HR:=h! h;have HT:=h! hT;obtain⟨X,hX⟩:∃X,mO ((sn l).map eE.name) last f=X:=⟨_,q?⟩;rw[hX];rw[QP]at hX;have HX:=h! hX;clear h hT hX;go_enter func234,ntmps234;go_wp2_with fail;apply ht.mono;rintro e w1 ⟨g1,W⟩;have U:=h! g1
 cases hx:gL f with
 |none=>rw[hx]at W;cases W;exact⟨q?,.no g1 (by rw[<-HX.o,hx];rfl)⟩
 |some x=>
  obtain⟨nm,r⟩:=x;rw[hx]at W;obtain⟨rfl,W,_⟩:=W;let ⟨B,af⟩:=gq hx;have Y:=h!<|HR.turn HT g1 W (by rw[B];simp);have V:J? (X=if gr nm=t?/\sr last nm=t?/\nm ∉ (sn l).map eE.name then y? (nm,r)else x?):=by show X=_;rw[<-HX.o,hx];rfl
  have ad:(⟨a? nm⟩:b?).size<=nl:=by show nm.toArray.size<=nl;unfold nl;simp;omega
  have ae:l? nm<=nl:=by unfold nl;omega
  clear g1 W ht hx B HX HR;go_wp2_with fail;apply g!<|tZ _ _ ad;rw[show gr _=gr nm from rfl]
  cases ab:gr nm with
  |false=>have O:=h!<|V.trans<|if_neg (by rw[ab];simp);go_wp2_with fail;apply g!<|j6 _;exact⟨q?,.no U O⟩
  |true=>
   have HN:=h! ab;go_wp2_with fail;rw[Za8]
   cases ac:sr last nm with
   |false=>apply g!<|j6 _;exact⟨q?,.no U<|V.trans<|if_neg (by rw[ac];simp)⟩
   |true=>
    have HL:=h! ac;apply g!<|iC _
    have ag:C? w1 ⟨g,2,x?⟩=y? (.map<|y? i):=by obtain⟨p,h1,_⟩:=Y.1;rw[dx h1];rfl
    have aa:=(Y.2.look oQ pc (Wk w1) nm ae).2;have hb:=(oA _ w1).alloc (Zu _)<|c? #[] 263;have HB:=h! hb;rw[Q7,P8]at aa;by_cases hk:nm∈(sn l).map eE.name
    .rw[decide_eq_true hk]at aa;have O:=h!<|V.trans<|if_neg λh=>h.2.2 hk;go_wp2_with fail;apply g!<|j6 _;exact⟨q?,.no (U.then<|dy.eF HB) O⟩
    rw[decide_eq_false hk]at aa;have O:=h!<|V.trans<|if_pos ⟨HN,HL,hk⟩;go_wp2_with fail;apply g!<|iC _;go_wp2;go_ret;exact .Xl (U.then<|dy.eF HB) O ⟨q?,Y.below HT HB⟩
def RG.far{b:Nat}{S:b?}{cs:V?}{V:TypeId}{fz:Nat×Nat}(O:C.Ok I)(h:RG o g i C S f l)(hb:o.1[b]?=y? (c? cs V fz))(W:b≠g)(Y:∀k,C.4 k->k≠b)(B:dy (· = b) o J):RG J g i C S f l:=by obtain⟨p,g1,g2⟩:=h.1;exact⟨⟨p,by unfold Ec at *;rwa[B.5 g (eN g1)<|λe=>W e.symm],g2⟩,h.2.stay<|B.5 _ h.2.lt<|h.2.qc hb,O.4 h.3 λk U=>B.5 k (O.3 h.3 U)<|Y k U,h.4,h.5⟩
def FQ{e}(h:jF f P=y? (e,U)):∃tx wt tg r B,gL P=y? (tx,r)/\(eh tx=t?/\tx≠[])/\fA r=y? (wt,B)/\wt<=1000000/\rdNum B=y? (tg,U)/\e=⟨f,f?,tx,wt,tg⟩:=by
 unfold jF at h;simp only[ZC]at h;obtain⟨⟨tx,r⟩,J,h⟩:=h;split at h;rename_i O;simp only[ZC]at h;obtain⟨⟨wt,B⟩,V,h⟩:=h;split at h;rename_i W;simp only[ZC]at h;obtain⟨⟨tg,r4⟩,Y,h⟩:=h;cases h;exact⟨tx,wt,tg,r,B,J,O,V,W,Y,q?⟩
 cases h
 cases h
def Xj{Mk mx}{S:b?}{nm:Wd}(hT:C.Ok mx)(h:RG J I Mk C S f l)(hS:S.size<=1099511627775) :
  nr prog 266 #[p?<|y? ⟨I,0,x?⟩,s? ⟨a? nm⟩] J (Ends (· = I) J (jF nm f) λx e w'=>e=e? (CE x.1)/\RG w' I Mk C S x.2 l):=by
 obtain⟨w0,ad⟩:∃w0,J.alloc (c? #[s? ⟨#[]⟩,s? ⟨#[]⟩,n? i? 0,n? i? 0] 96)=w0:=⟨_,q?⟩;have ae:B? J w0:=by rw[<-ad];exact(oA _ _).alloc (Zu _) _
 have U:J? (dy (· = I) J w0):=dy.eF ae
 have au:I<J.1.size:=by obtain⟨p,h1,_⟩:=h.1;exact eN h1
 have HH:J? (∀{w'},dy (· = I) w0 w'->w'.1[J.1.size]?=y? _):=λg=>by have e:=U! J<|c? #[s? ⟨#[]⟩,s? ⟨#[]⟩,n? i? 0,n? i? 0] 96;rw[ad]at e;rwa[g.5 _ (eN e) (by show J.1.size≠I;omega)]
 have HD:J? (∀k,C.4 k->k≠J.1.size):=λk hk e=>by have:=hT.3 h.3 hk;omega
 have af:=h!<|h.below hT ae;have ht:=xo I S f Mk C.v w0 af.1 o!;have HT:=h! hT;obtain⟨X,hX⟩:∃X,jF nm f=X:=⟨_,q?⟩;rw[hX];unfold jF at hX;have HX:=h! hX;clear h hT hX ae;go_enter func266,ntmps266;go_wp2_with fail;clear ad;apply ht.mono;rintro e w1 ⟨g1,B⟩;have W:=h! g1;clear g1 ht
 cases O:gL f with
 |none=>rw[O]at B;cases B;exact⟨q?,.no (U.then W.o) (by rw[<-HX.o,O];rfl)⟩
 |some x=>
 obtain⟨tx,r⟩:=x;rw[O]at B;obtain⟨rfl,B,_⟩:=B;let ⟨Y,ar⟩:=gq O;have ag:=h!<|af.turn HT W B (by rw[Y];simp);have ah:=h! O;have an:(⟨a? tx⟩:b?).size<=nl:=by show tx.toArray.size<=nl;unfold nl;simp;omega
 clear B O Y af;go_wp2_with fail;apply g!<|sY _ _ an;by_cases hq:eh tx=t?/\tx≠[]
 case neg=>
  rw[decide_eq_false hq];have V:J?<|X=x?:=by show X=x?;rw[<-HX.o,ah.o];exact if_neg hq
  clear hq;go_wp2_with fail;apply g!<|j6 _;exact⟨q?,.no (U.then W.o) V⟩
 rw[decide_eq_true hq];have V:J?<|((fA r).bind λy=>if y.1<=1000000 then(rdNum y.2).bind λz=>y? ((⟨nm,f?,tx,y.1,z.1⟩:eE),z.2)else x?)=X:=by show _=X;rw[<-HX.o,ah.o];exact(if_pos hq).symm
 clear hq HX ah;go_wp2_with fail;apply g!<|iC _;have hw:=Cw I S r Mk C.v w1 ag.1 o!;go_wp2_with fail;apply hw.mono;rintro e w2 ⟨g1,B⟩;have ab:=h!<|W.then g1
 cases O:fA r with
 |none=>rw[O]at B;cases B;exact⟨q?,.no (U.then ab.o) (by rw[<-V.o,O];rfl)⟩
 |some x=>
 obtain⟨wt,r2⟩:=x;rw[O]at B;obtain⟨rfl,B,_⟩:=B;have ai:=h!<|ag.turn HT g1 B (by rw[(j9 O).1];simp);have aj:=h! O;clear g1 B hw O ag W;by_cases ac:wt<=1000000
 case neg=>
  have ao:decide ((wt:Int)<=1000000)=f?:=decide_eq_false o!;have aa:J?<|X=x?:=by show X=x?;rw[<-V.o,aj.o];exact if_neg ac
  clear ac;go_wp2_with fail;apply g!<|j6 _;exact⟨q?,.no (U.then ab.o) aa⟩
 have ao:(wt:Int)<=1000000:=o!;have aa:J?<|((rdNum r2).bind λz=>y? ((⟨nm,f?,tx,wt,z.1⟩:eE),z.2))=X:=by show _=X;rw[<-V.o,aj.o];exact(if_pos ac).symm
 clear ac V aj;go_wp2_with fail;apply g!<|iC _;have hn:=pO I S r2 Mk C.v w2 ai.1 o!;go_wp2_with fail;apply hn.mono;rintro e w3 ⟨g1,B⟩;have ak:=h!<|ab.then g1
 cases O:rdNum r2 with
 |none=>rw[O]at B;cases B;exact⟨q?,.no (U.then ak.o) (by rw[<-aa.o,O];rfl)⟩
 |some x=>
 obtain⟨tg,r3⟩:=x;rw[O]at B;obtain⟨rfl,B,_⟩:=B;have ap:=h!<|ai.turn HT g1 B (by rw[(fT O).1];simp);have aq:J?<|X=y? (⟨nm,f?,tx,wt,tg⟩,r3):=by show X=_;rw[<-aa.o,O];rfl
 have al:=h!<|HH ak;clear g1 B hn O ai ab aa HH;have e0:=dx al;have z0:=dO al;go_wp2
 have am:dy _ w3<|(((w3.setCell ⟨J.1.size,0,x?⟩<|s? ⟨a? nm⟩).setCell ⟨J.1.size,1,x?⟩<|s? ⟨a? tx⟩).setCell ⟨J.1.size,2,x?⟩<|n? i? wt).setCell ⟨J.1.size,3,x?⟩<|n? i? tg:=
  (((jq (F:=(· = J.1.size)) q?).then<|jq q?).then<|jq q?).then (jq q?)
 exact bodyPost_ret (v:=CE _) (by simp[nL,results266,go_sem,e0,CE]) q?<|.Xl ((U.then ak.o).trans am λi hi hg=>o!) aq ⟨q?,ap.far HT al o! HD am⟩
def GY{P f iI c}(B:P.2[f]?=y? iI)(hb:iI.9=y? c)(J:(iI.1 == "runtime.NumGoroutine")=f?) (args:V?) (w):(callFunc f args).run P w=.ok (.enter f args) w:=by show((match P.2[f]? with|none=>_|some fn=>_:Sem _)).run P w=_;rw[B];simp only[J,hb,Zk,if_false,Option.isNone_some];rfl
def JM{q:Nat}{S:b?}{rest:Wd}{e:eE}(hT:C.Ok I)(h:RG J g i C S rest l)(hS:S.size<=1099511627775)(hm:S.size<=I)(hn:e.1 ∉ (sn l).map eE.name)(ho:Told e)(a6:l? l+1+l? rest<=S.size)(hq:q<=S.size) :
  nr prog 235 #[p?<|y? ⟨g,0,x?⟩,n? i? (q:Int),s? ⟨a? e.1⟩,ve e] J λen w'=>en=e? (.tuple #[])/\RG w' g i C S rest (l++[(q,e)])/\dy (G5 g i C) J w':=by
 obtain⟨w0,ai⟩:∃w0,J.alloc (c? #[.bool e.2,s? ⟨(Gy e).toArray⟩,s? ⟨a? e.3⟩,n? i? e.4,n? i? e.5] 111)=w0:=⟨_,q?⟩;have ad:B? J w0:=by rw[<-ai];exact(oA _ _).alloc (Zu _) _
 have ae:w0.1[J.1.size]?=y? (c? #[.bool e.2,s? ⟨(Gy e).toArray⟩,s? ⟨a? e.3⟩,n? i? e.4,n? i? e.5] 111 (0,0)):=by rw[<-ai];exact U! J _
 have O:=h.below hT ad;have n1:=O.mr;have aa:=O.5;have ap:∀k,C.4 k->k≠J.1.size:=λk U e=>by have:=hT.3 h.3 U;omega
 let ⟨p,hp1,aj⟩:=O.rd;unfold Ec at hp1;have c2:=dx hp1 2;have aq:=O.2.qc ae;have ac:=NV _ e Yh (λ_=>rfl) hn;have ar:l? e.1<=nl:=by have:=ho.1;unfold nl;omega
 let ⟨iI,cc,au,av,aw⟩:=hT.1;have af:=h! O;have ag:=h!<|A? hp1 aj;have ak:=h! ae;have ax:=h! ad;have HP:=h! ac;have HN:J?<|e.1 ∉ (sn l).map _/\Told e/\l? l<1099511627776/\q<=I:=⟨hn,ho,o!,o!⟩;have HT:=h! hT;clear h ad ae O hp1 aj ac hn hT ho;unfold ve;go_enter func235,ntmps235;go_wp2_with (first|(at_mapUpdate;apply lq _ rfl _ _ _ 214 rfl 263 oQ pc rfl af.kn (by rw[Z5,Z5];unfold nl;omega) e.name ar rfl (.agg #[]) rfl;intro w1 al ay a7));have ab:=dy.rY ay;have am:w1.1[g]?=y? (c? #[s? S,n? i? p,.map<|y? i,C.v] 216 (0,0)):=by rw[ab.5 g (eN ag.1)<|λe=>n1 e.symm];exact ag.1
 have an:w1.1[J.1.size]?=y? (c? #[.bool e.2,s? ⟨(Gy e).toArray⟩,s? ⟨a? e.3⟩,n? i? e.4,n? i? e.5] 111 (0,0)):=by rw[ab.5 _ (eN ak.o)<|λe=>aq e.symm];exact ak
 have az:=HT.4 af.3 λk U=>ab.5 k (HT.3 af.3 U) (aa k U).2;have c3:=dx am 3;have d0:=dx an
 have a0:J? (∀w2:w?,w2.1=w1.1->w2.4=w1.4->w2.2=w1.2->w2.5=w1.5->nr prog C.1 (#[n? i? (q:Int),s? ⟨a? e.1⟩,ve e]++C.2) w2 λen w'=>en=e? (.tuple #[])/\C.T w' (l++[(q,e)])/\dy C.3 w1 w'):=by intro w2 k1 k2 k3 k4;obtain⟨a1,a2,a3,a4⟩:=HN.o;apply (HT.tell w2 q l e (HT.stay az λk _=>by rw[k1]) a1 a3 a2 a4).mono;rintro en w' ⟨q1,q2,Y⟩;exact⟨q1,q2,⟨Y.1.trans k2,Y.2.trans k3,Y.3.trans k4,by have:=Y.4;rwa[k1]at this,λk U hn=>by rw[Y.5 k (by rwa[k1]) hn,k1]⟩⟩
 have B:C? w1.drew _=y? (.func _ #[] _)/\C? w1.drew _=y? (.bool _)/\C? w1.drew _=y? (s? _)/\C? w1.drew _=y? (s? _)/\C? w1.drew _=y? (n? _ _)/\C? w1.drew _=y? (n? _ _):=⟨c3,d0 0,d0 1,d0 2,d0 3,d0 4⟩;clear c3 d0;refine nv (S:=λw'=>C? w' ⟨g,3,x?⟩=y? (.func (.func C.1) #[] C.2)/\C? w' ⟨J.1.size,0,x?⟩=y? (.bool e.2)/\C? w' ⟨J.1.size,1,x?⟩=y? (s? ⟨(Gy e).toArray⟩)/\C? w' ⟨J.1.size,2,x?⟩=y? (s? ⟨a? e.3⟩)/\C? w' ⟨J.1.size,3,x?⟩=y? (n? i? e.4)/\C? w' ⟨J.1.size,4,x?⟩=y? (n? i? e.5)) k! ?_;refine gf 0 ?_ B ?_<|gf 1 ?_ B ?_<|gf 2 ?_ B ?_<|gf 3 ?_ B ?_<|gf 4 ?_ B ?_<|gf 5 ?_ B ?_<|gf 6 ?_ B ?_ ?_
 any_goals(rintro w' ⟨k0,k1,k2,k3,k4,k5⟩;exact n!)
 refine kY 7 λK' a5=>?_;have ah:=a0.o w1.drew q? q? q? rfl;unfold te;go_simp;change Oper.upon _ _ _ _ _ (Sem.run _ (callFunc C.1 _) _);rw[GY au av aw];apply ah.mono;rintro en w2 ⟨rfl,q2,Y⟩;have V:∀k,C.3 k->k≠g/\k≠i/\k≠J.1.size:=λk U=>⟨(aa k<|HT.2 k U).1,(aa k<|HT.2 k U).2,ap k<|HT.2 k U⟩;have ao:w2.1[g]?=y? (c? #[s? S,n? i? p,.map<|y? i,C.v] 216 (0,0)):=by rwa[Y.5 g (eN am)<|λe=>(V _ e).1 q?]
 have W:w2.1[J.1.size]?=y? (c? #[.bool e.2,s? ⟨(Gy e).toArray⟩,s? ⟨a? e.3⟩,n? i? e.4,n? i? e.5] 111 (0,0)):=by rwa[Y.5 _ (eN an)<|λe=>(V _ e).2.2 q?]
 refine a5 _ _ ⟨⟨by rw[dx ao];rfl,by rw[dx W];rfl,by rw[dx W];rfl,by rw[dx W];rfl,by rw[dx W];rfl,by rw[dx W];rfl⟩,n3 k! ?_ _⟩;go_wp2;go_end0;refine⟨q?,⟨⟨p,ao,ag.2⟩,?_,q2,j!,aa⟩,?_⟩;rw[show sn _=sn l++[e] by simp[sn],<-HP.o];exact ed.stay al<|Y.5 _ (ed.lt al) λe=>(V _ e).2.1 q?;exact((dy.eF ax).then<|ab.mono<|λ_ U=>Or.inr<|.inl U).then<|Y.mono<|λ_ U=>Or.inr<|.inr U
end
section
open RowKit
variable {f J:Wd}{g o I:Nat}{i:PU}{l:w?}{p:E?}{C:b?}
def iq(h:gr f=t?):0<l? f/\l? f<=8:=by unfold gr at h;simp only[IT,decide_eq_true_eq]at h;exact⟨h.1.2,h.2⟩
def l9(h:eh f=t?):l? f<=24:=by unfold eh at h;simp only[IT,decide_eq_true_eq]at h;exact h.1
def zK(h:gr f=t?):sr [] f=t?:=by
 have:=(iq h).1
 cases f with
 |nil=>simp at this|cons a f=>rfl
def sO{e}(h:Es e):(dF e).length<=24/\0<(dF e).length:=by
 have B:=h.2.2.2.1;unfold dF;rw[eB];refine⟨l9 h.2.2.1,?_⟩
 cases J:e.3 with
 |nil=>exact absurd J B|cons a b=>simp
def xj{B:W?}(r)(O:gr J=t?)(U:sr f J=t?)(V:J ∉ B):mO B f (dM J++r)=y? (J,r):=by unfold mO;rw[ng J r<|v!<|(iq O).2];simp[O,U,V]
def Io(e)(h:Es e)(r:Wd):jF e.1 (dM e.3++(gK e.4++(u8 e.5::r)))=y? (e,r):=by obtain⟨J,W,B,O,U,Y,V,h8⟩:=h;obtain⟨nm,gn,tx,wt,tg⟩:=e;simp only at J W B O U Y V h8;subst J;obtain⟨n,rfl⟩:=N? U;obtain⟨m,rfl⟩:=N? V;have hw:n<=1000000:=o!;unfold jF;rw[ng tx _<|v!<|l9 B];simp only[Zf,B,O,ne_eq,not_false_eq_true,and_self,if_true];rw[um n o!];simp only[Zf,hw,if_true];rw[tS m o!];rfl
def Lg(path):∀(es:E?)(J:W?)(last rest:Wd),(∀e∈es,Es e/\dF e=path/\e.1 ∉ J/\sr last e.1=t?)->kp es->pG es.length path J last (es.flatMap lH++rest)=y? (es,rest):=by
 intro es;induction es with
 |nil=>intro J last rest _ _;rfl|cons e es V=>
  intro J last rest h W;obtain⟨U,Y,a3,a4⟩:=h e i!;have B:=ZS.1 W
  have e1:(e::es).flatMap lH++rest=dM e.1++(dM e.3++(gK e.4++(u8 e.5::(es.flatMap lH++rest)))):=by simp[lH]
  rw[e1,w!,pG,xj _ U.2.1 a4 a3];simp only[Zf];rw[Io e U];simp only[Zf,Y,if_true];rw[V _ _ _ (λx O=>?_) B.2];rfl;obtain⟨b1,b2,b3,b4⟩:=h x (by simp[O]);refine⟨b1,b2,?_,B.1 x O⟩;intro hm;simp only[Z3,Zg]at hm;obtain hm|hm:=hm
  exact b3 hm;exact Fu (B.1 x O) hm.symm
def IE:∀(es:E?)(J:W?)(last rest:Wd),(∀e∈es,e=⟨e.1,t?,[],0,0⟩/\gr e.1=t?/\e.1 ∉ J/\sr last e.1=t?)->kp es->pN es.length J last (es.flatMap (λe=>dM e.1)++rest)=y? (es,rest):=by
 intro es;induction es with
 |nil=>intro J last rest _ _;rfl|cons e es U=>
  intro J last rest h V;obtain⟨W,Y,a3,a4⟩:=h e i!;have B:=ZS.1 V;rw[c!,Zq,w!,pN,xj _ Y a4 a3];simp only[Zf];rw[U _ _ _ (λx O=>?_) B.2];simp only[Zf];rw[<-W];obtain⟨b1,b2,b3,b4⟩:=h x (by simp[O]);refine⟨b1,b2,?_,B.1 x O⟩;intro hm;simp only[Z3,Zg]at hm;obtain hm|hm:=hm
  exact b3 hm;exact Fu (B.1 x O) hm.symm
def PT(h:(p.map eE.name).Nodup):p.Nodup:=va _ (λa b B e=>B<|by rw[e]) h
def jE{c e}:e∈kR p f c↔e∈p/\f++[c] <+: dF e:=pq
def sk(G:E?)(p):(jD G p).Pairwise λa b=>a.toNat<b.toNat:=xy.filter _
def uC{c}:c∈jD p f↔∃e∈p,f++[c] <+: dF e:=by
 unfold jD;rw[Zb];constructor;rintro⟨_,h⟩
 cases B:kR p f c with
 |nil=>rw[B]at h;simp at h|cons e t=>have:=jE.1 (show e∈kR p f c by rw[B];simp);exact⟨e,this⟩
 rintro⟨e,J,O⟩;refine⟨En c,?_⟩;have:=jE.2 ⟨J,O⟩
 cases B:kR p f c with
 |nil=>rw[B]at this;simp at this|cons e t=>rfl
def M6(h:p.Nodup):∀(cs:List UInt8),cs.Nodup->(cs.flatMap<|kR p f).Nodup:=by
 intro cs;induction cs with
 |nil=>simp|cons c cs J=>intro O;have B:=Z2.1 O;rw[c!,Zn];refine⟨h.filter _,J B.2,λa U b hb e=>?_⟩;subst e;obtain⟨d,V,hb⟩:=r!.1 hb;have:=tH (jE.1 U).2 (jE.1 hb).2;subst this;exact B.1 V
def Mo(h:p.Nodup)(J:∀e∈p,f <+: dF e):(gF p f++(jD p f).flatMap (kR p f)).Perm p:=by rw[List.perm_ext_iff_of_nodup _ h];intro e;rw[Z3];constructor;rintro(h|h);exact(Zb.1 h).1;obtain⟨c,_,h⟩:=r!.1 h;exact(jE.1 h).1;intro B;by_cases O:dF e=f;exact .inl (Zb.2 ⟨B,beq_iff_eq.2 O⟩);have:=(iD ..).2 ⟨J e B,oz (J e B) O,q?⟩;exact .inr (r!.2 ⟨_,uC.2 ⟨e,B,this⟩,jE.2 ⟨B,this⟩⟩);rw[Zn];refine⟨h.filter _,M6 h _<|pj<|sk p f,λa U b hb e=>?_⟩;subst e;obtain⟨c,_,hb⟩:=r!.1 hb;have V:=((iD ..).1 (jE.1 hb).2).2.1;rw[beq_iff_eq.1 (Zb.1 U).2]at V;omega
def C0(h:(p.map eE.name).Nodup){a b}(B:a∈p)(hb:b∈p)(J:a.1=b.1):a=b:=by
 induction p with
 |nil=>simp at B|cons x p O=>
  rw[ZK,Z2]at h;simp only[Zm]at B hb;obtain rfl|B:=B<;>obtain rfl|hb:=hb
  rfl;exact absurd (Zv.2 ⟨b,hb,J.symm⟩) h.1;exact absurd (Zv.2 ⟨a,B,J⟩) h.1;exact O h.2 B hb
def OE(h:∀e∈p,e.4<=1000000):gJ p<=1000000:=by
 induction p with
 |nil=>simp[gJ]|cons e p B=>have O:=h e i!;have U:=B (λx J=>h x<|by simp[J]);rw[mo];omega
def Yj(node:Wd->W?->Wd->Option (Nat×E?×Wd))(f:Nat):Prop:=
 ∀(path:Wd)(B:W?)(G:E?)(rest:Wd),kp G->(∀e∈G,Es e/\path <+: dF e/\e.1 ∉ B)->l? G<=255->(path=[]\/(G≠[]/\lm G=path))->26<=f+l? path->
  ∃es,node path B (jP f path G++rest)=y? ((gJ G).toNat,es,rest)/\es.Perm G
def H'{node:Wd->W?->Wd->Option (Nat×E?×Wd)}(hN:Yj node g)(path:Wd)(G:E?)(hG:kp G)(ad:∀e∈G,Es e)(hl:l? G<=255)(hf:25<=g+l? path) :
  ∀(cs:List UInt8)(ks:W?)(last)(rest),(cs.Pairwise λa b=>a.toNat<b.toNat)->(∀c∈cs,c∈jD G path/\last<(c.toNat:Int))->(∀e∈cs.flatMap (kR G path),e.1 ∉ ks)->
   ∃es,pL node cs.length path ks last (cs.flatMap (λc=>dM ((lm<|kR G path c).drop path.length)++jP g (lm<|kR G path c) (kR G path c))++rest)=y? ((gJ<|cs.flatMap<|kR G path).toNat,es,rest)/\es.Perm (cs.flatMap<|kR G path):=by
 intro cs;induction cs with
 |nil=>intro ks last rest _ _ _;exact⟨[],q?,ua _⟩|cons c cs ih=>
  intro ks last rest hr hc hk;have V:=ZS.1 hr;let ⟨ae,af⟩:=hc c i!;have O:=rQ ae;rw[<-nI]at O;have U:=tI (by rwa[<-nI]);rw[<-nI]at U;have ag:kp<|kR G path c:=hG.filter _;have W:∀e∈kR G path c,Es e/\lm _ <+: dF e/\e.1 ∉ ks:=λe B=>⟨ad e (jE.1 B).1,(oZ O).1 _<|Zv.2 ⟨e,B,q?⟩,hk e (by rw[c!];exact k8 _ B)⟩;let ⟨t,ht⟩:=U;let ⟨e0,aa⟩:=L! _ O;have aj:=ZE (W e0 aa).2.1.length_le (sO (W e0 aa).1).1
  have ab:∀e∈cs.flatMap (kR G path),e.1 ∉ (kR G path c).map eE.name:=by intro e B hm;obtain⟨d,hd,B⟩:=r!.1 B;obtain⟨x,hx,ah⟩:=Zv.1 hm;have:=C0 hG.nodup (jE.1 hx).1 (jE.1 B).1 ah;subst this;have:=tH (jE.1 hx).2 (jE.1 B).2;have h3:=V.1 d hd;rw[this]at h3;omega
  have Y:(lm<|kR G path c).drop path.length=c::t:=by rw[<-ht];simp
  have J:path++c::t=lm (kR G path c):=by rw[<-ht];simp
  have ak:l? path+1<=(lm<|kR G path c).length:=by rw[<-J];simp
  obtain⟨e1,h1,ac⟩:=hN _ ks _ _ ag W (ZE (No _ _) hl) (.inr ⟨O,q?⟩) o!
  obtain⟨e2,h2,ai⟩:=ih _ c.toNat rest V.2 (λd hd=>⟨(hc d<|by simp[hd]).1,by have:=V.1 d hd;omega⟩) (λe B hm=>by
   rw[Z3]at hm;obtain hm|hm:=hm
   exact(λe B=>hk e (by rw[c!];exact Z' _ B)) e B hm
   exact ab e B<|(ac.map _).mem_iff.1 hm)
  refine⟨e1++e2,?_,?_⟩;rw[c!,c!,w!,pL,Y,Zq,Zq,ng _ _ (by have:=congrArg kj J;simp at this;simp;omega)];simp only[Zf,List.getD_cons_zero,ne_eq,reduceCtorEq,not_false_eq_true,af,and_self,if_true,J];rw[h1];simp only[Zf];rw[h2];simp only[Zf,m?,wi,and_true];rw[ll];omega;exact ac.append ai
def KR:∀f,Yj (kP f) f:=by
 intro f;induction f with
 |zero=>
  intro path ks G rest Y hm hl hp hf;obtain rfl|⟨J,hs⟩:=hp
  simp at hf;obtain⟨e,B⟩:=L! _ J;have:=(hm e B).2.1.length_le;have:=(sO (hm e B).1).1;omega
 |succ f ih=>
  intro path ks G rest Y hm hl hp hf
  have ag:l? path<=24:=by
   obtain rfl|⟨J,hs⟩:=hp
   simp;obtain⟨e,B⟩:=L! _ J;exact ZE (hm e B).2.1.length_le (sO (hm e B).1).1
  have fL:=Mo (PT Y.nodup)<|λe B=>(hm e B).2.1;have aa:=fL.length_eq;rw[Zh]at aa
  have ab:∀e∈gF G path,Es e/\dF e=path/\e.1 ∉ ks/\sr [] _=t?:=λe B=>by have h:=Zb.1 B;exact⟨(hm e h.1).1,beq_iff_eq.1 h.2,(hm e h.1).2.2,zK (hm e h.1).1.2.1⟩
  have am:=OE<|λe B=>(hm e B).1.2.2.2.2.2.1;have an:=mZ G
  have ao:(jD G path).length<=((jD G path).flatMap<|kR G path).length:=by
   rw[List.length_flatMap]
   have:∀cs:List UInt8,(∀c∈cs,c∈jD G path)->l? cs<=(cs.map λc=>(kR G path c).length).sum:=by
    intro cs;induction cs with
    |nil=>intro _;simp|cons c cs ah=>intro h;have h1:=ah (λd hd=>h d<|by simp[hd]);have h2:=rQ<|h c i!;rw[<-nI]at h2;have h3:=gc.2 h2;simp only[w!,ZK,J!];omega
   exact this _<|λ_ h=>h
  obtain⟨es,hk,ai⟩:=H' ih path G Y (λe B=>(hm e B).1) hl o! (jD G path) (ks++(gF G path).map eE.name) (-1) rest (sk G path) (λc hc=>⟨hc,o!⟩) (λe B O=>by
   obtain⟨c,hc,B⟩:=r!.1 B;have V:=jE.1 B;rw[Z3]at O;obtain O|O:=O
   exact(hm e V.1).2.2 O;obtain⟨x,U,aj⟩:=Zv.1 O;have ac:=Zb.1 U;have:=C0 Y.nodup ac.1 V.1 aj;subst this;have h2:=((iD _ _ _).1 V.2).2.1
   rw[beq_iff_eq.1 ac.2]at h2;omega)
  refine⟨gF G path++es,?_,(I? _ ai).trans fL⟩;have hG:((gJ G).toNat:Int)=gJ G:=o!
  have e1:jP (f+1) path G++rest=gK (((gJ G).toNat:Nat):Int)++(u8 ((gF G path).length:Int)::((gF G path).flatMap lH++(u8 ((jD G path).length:Int)::((jD G path).flatMap (λc=>dM ((lm<|kR G path c).drop path.length)++jP f (lm<|kR G path c) (kR G path c))++rest)))):=by rw[hG,jP];simp
  have al:gJ G=max (gJ<|gF G path) (gJ<|(jD G path).flatMap<|kR G path):=by rw[<-ll,Ep fL]
  have ap:=mZ<|gF G path;have aq:=mZ<|(jD G path).flatMap<|kR G path
  have ad:path=[]\/0<(gF G path).length\/1<(jD G path).length:=by
   obtain h|⟨J,hs⟩:=hp
   exact .inl h;refine .inr (Classical.byContradiction λae=>?_);have ho:gF G path=[]:=ej.1 o!;have af:=oZ J;rw[hs]at af;let ⟨e,B⟩:=L! _ J
   have ak:∀x∈G,dF x≠path:=λx U hk=>by have:x∈gF G path:=Zb.2 ⟨U,beq_iff_eq.2 hk⟩;rw[ho]at this;simp at this
   have hb:∀x∈G,path++[(dF x).getD _ 0] <+: dF x:=λx U=>(iD _ _ _).2 ⟨(hm x U).2.1,oz (hm x U).2.1<|ak x U,q?⟩
   have W:∀x∈G,(dF x).getD path.length 0=(dF e).getD path.length 0:=by
    intro x U;have i1:=uC.2 ⟨x,U,hb x U⟩;have i2:=uC.2 ⟨e,B,hb e B⟩;match hh:jD G path with
    |[]=>rw[hh]at i1;simp at i1|[d]=>rw[hh]at i1 i2;simp only[Zg]at i1 i2;rw[i1,i2]|d::d2::ds=>rw[hh]at ae;simp at ae
   have:=af.2 (path++[(dF e).getD _ 0]) (λs hs=>by
    obtain⟨x,U,rfl⟩:=Zv.1 hs
    rw[<-W x U];exact hb x U)
   have:=this.length_le;simp at this;omega
  rw[e1,kP,if_pos ag,um _ o!];simp only[Zf];rw[tS _ o!];simp only[Zf];rw[Lg path _ ks [] _ ab<|Y.filter _];simp only[Zf];rw[tS _ o!];simp only[Zf];rw[hk];simp only[Zf];rw[if_pos ⟨o!,ad⟩]
def wk(h:nz p):∃O es,pE (fc p)=y? (O,es)/\(O++es).Perm p:=by
 obtain⟨h1,h2,h3,h4,h5⟩:=h;have Y:=po p h2;have hp:=ii p;have B:((eY p).filter (λe=>e.2)++(eY p).filter _).Perm p:=(List.filter_append_perm ..).trans hp;have ag:=(hp.filter<|λe=>e.2).length_eq;have ah:=(hp.filter<|λe=>!e.2).length_eq;have aa:kp<|(eY p).filter λe=>e.2:=Y.filter _;have ab:kp<|(eY p).filter λe=>!e.2:=Y.filter _
 have ac:∀e∈(eY p).filter (λe=>e.2),e=⟨e.1,t?,[],0,0⟩/\gr _=t?/\e.1 ∉ ([])/\sr [] _=t?:=λe he=>by
  have hm:=Zb.1 he;obtain J|J:=h1 e<|jG.1 hm.1
  rw[J.1]at hm;simp at hm;exact⟨J.1,J.2,i!,zK J.2⟩
 have ad:∀e∈(eY p).filter (λe=>!e.2),Es e/\([]) <+: dF e/\e.1 ∉ ((eY p).filter λe=>e.2).map _:=λe he=>by
  have hm:=Zb.1 he;obtain J|J:=h1 e<|jG.1 hm.1
  refine⟨J,ie,λhx=>?_⟩;obtain⟨x,hx,W⟩:=Zv.1 hx;have U:=Zb.1 hx;have:=C0 Y.nodup U.1 hm.1 W;subst this;have b:=hm.2;simp[U.2]at b;rw[J.1]at hm;simp at hm
 unfold fc;generalize (eY p).filter _=O at *;generalize (eY p).filter _=es at *;let ⟨ae,W,V⟩:=KR 26 [] _ es [] ab ad o! (.inl q?) i!;refine⟨O,ae,?_,(I? _ V).trans B⟩;have ai:=V.length_eq;have af:=B.length_eq;rw[Zh]at af;have aj:=gc.2 h3;rw[Z6]at W;unfold pE;rw[tS _ o!];simp only[Zf];rw[IE O [] [] _ ac aa];simp only[Zf];rw[ng [] _ i!];simp only[Zf,if_true];rw[W];simp only[Zf];rw[if_pos ⟨t!,o!,o!,o!⟩]
open Maps
def dy.G0{w'}(h:dy (· = g) l w'):dy (G5 g o i) l w':=h.mono<|λ_ B=>Or.inl B
def RG.here{told}(h:RG l g o i C f told):∃p:Nat,C? l ⟨g,1,x?⟩=y? (n? i? p)/\p=C.size-l? f:=⟨_,h.pos,q?⟩
def FR{y}(h:jF f J=y? y):∃tx wt tg B,y=(⟨f,f?,tx,wt,tg⟩,B)/\l? tx<256/\l? B<=l? J:=by have h0:=h;unfold jF at h;let ⟨x,O,h⟩:=ZC.1 h;split at h;let ⟨z,U,h⟩:=ZC.1 h;split at h;let ⟨u,V,h⟩:=ZC.1 h;simp only[m?]at h;subst h;let ⟨W,Y⟩:=gq O;refine⟨_,_,_,_,q?,Y,?_⟩;rw[W,(j9 U).1,(fT V).1];simp;omega;simp at h;simp at h
def YS{mx t w}(hT:t.Ok mx)(h:RG w g I t C f [])(hS:C.size<=1099511627775)(hm:C.size<=mx) :
  nr prog 211 #[p?<|y? ⟨g,0,x?⟩] w (Ends (G5 g I t) w ((rdNum f).bind λa=>(jf C.size a.1 [] [] a.2).bind λb=>y? (a.1,b.1,b.2)) λx e w'=>e=e? (n? i? x.1)/\RG w' g I t C x.2.2 x.2.1):=by
 have ht:=pO g C f I t.v w h.1 o!;have HR:=h! h;have HT:=h! hT;obtain⟨X,hX⟩:∃X,((rdNum f).bind λa=>(jf C.size a.1 [] [] a.2).bind λb=>y? (a.1,b.1,b.2))=X:=⟨_,q?⟩;rw[hX];have HX:=h! hX;clear h hT hX;go_enter func211,ntmps211;go_wp2_with fail;apply ht.mono;rintro e w1 ⟨Y,B⟩;have aa:J?<|dy (G5 g I t) w w1:=Y.G0
 cases J:rdNum f with
 |none=>rw[J]at B;cases B;exact⟨q?,.no aa (by rw[<-HX.o,J];rfl)⟩
 |some x=>
 obtain⟨n,r0⟩:=x;rw[J]at B;obtain⟨rfl,B,_⟩:=B;let ⟨ab,ah⟩:=fT J;have ai:=h!<|HR.turn HT Y B (by rw[ab];simp);have aj:J?<|X=(jf C.size n [] [] r0).bind λz=>y? (n,z.1,z.2):=by show X=_;rw[<-HX.o,J];rfl
 clear Y B ht J ab HX HR;go_wp2;go_loopw [4,9] (λl i wr=>∃(k:Nat)(done:List (Nat×eE))(ls r:Wd),k<=n/\i=n? i? k/\l=s? ⟨a? ls⟩/\RG wr g I t C r done/\dy (G5 g I t) w wr/\X=(jf C.size (n-k) ((sn done).map eE.name) ls r).bind λz=>y? (n,done++z.1,z.2)) (λ_ i _=>n-(intOf i).toNat);exact⟨0,[],[],r0,ZP _,q?,q?,ai,aa,aj⟩;obtain⟨k,done,ls,r,hk,rfl,rfl,hr,hf,hg⟩:=hrel;have ac:=h! hf;have W:=h! hr;by_cases ap:k<n
 .let ⟨p,hp,ad⟩:=hr.here;have ae:=h! ad;rw[(o!:n-k=(n-(k+1))+1),jf]at hg;have HG:=h! hg;clear hr hf hg ad;go_wp2_with fail;apply (wM (last:=ls) HT W hS).mono;rintro e w2 ⟨Y,B⟩;have af:=h!<|ac.then Y.G0
  cases J:mO ((sn done).map eE.name) ls r with
  |none=>rw[J]at B;cases B;exact⟨q?,.no af (by rw[HG.o,J];rfl)⟩
  |some x=>
  obtain⟨nm,r1⟩:=x;rw[J]at B;obtain⟨rfl,B⟩:=B;let ⟨ag,O,_,U⟩:=mA J;have an:=W.4;have ao:l? r1+1<=l? r:=by rw[ag];simp[dM]
  have V:=JM (rest:=r1) (q:=p) (e:=⟨nm,t?,[],0,0⟩) HT B hS hm U ⟨by show nm.length<=255;have:=(iq O).2;omega,i!,λh=>by cases h⟩ o!<|v! ae.o
  have ak:J?<|X=(jf C.size (n-(k+1)) ((sn<|done++[(p,(⟨nm,t?,[],0,0⟩:eE))]).map eE.name) nm r1).bind λz=>y? (n,done++[(p,⟨nm,t?,[],0,0⟩)]++z.1,z.2):=by show X=_;rw[HG.o,J,<-ae.o];simp[sn,m6]
  clear Y B hp J ag O U HG;go_wp2_with fail;apply V.mono;rintro e w3 ⟨rfl,q1,q2⟩;have al:=h! q1;have am:=h!<|af.then q2;clear V q1 q2;go_wp2;go_roundw
  .exact⟨k+1,_,nm,r1,o!,by go_num,q?,al,am,ak⟩
  exact M!
 rw[(o!:n-k=0),jf]at hg;have HG:=h! hg;clear hr hf hg;go_wp2;go_ret;exact .Xl ac HG ⟨q?,u! W.o⟩
def Rc{Y mx t}{path:Wd}{told w}(hT:t.Ok mx)(h:RG w I Y t C f told)(hS:C.size<=1099511627775)(hm:C.size<=mx) :
  nr prog 238 #[.pointer<|y? ⟨I,0,x?⟩,.string ⟨a? path⟩] w (Ends (G5 I Y t) w ((rdNum f).bind λa=>(jg C.size a.1 path ((sn told).map eE.name) [] a.2).bind λb=>y? (a.1,b.1,b.2)) λx e w'=>e=.returned (.tuple #[.int i? x.1,.int i?<|gJ<|sn x.2.1])/\RG w' I Y t C x.2.2 (told++x.2.1)):=by
 have ht:=pO I C f Y t.v w h.1 o!;have HR:=h! h;have HT:=h! hT;obtain⟨X,hX⟩:∃X,((rdNum f).bind λa=>(jg C.size a.1 path ((sn told).map eE.name) [] a.2).bind λb=>y? (a.1,b.1,b.2))=X:=⟨_,q?⟩;rw[hX];have HX:=h! hX;clear h hT hX;go_enter func238,ntmps238;go_wp2_with fail;apply ht.mono;rintro e w1 ⟨O,B⟩;have ap:J?<|dy (G5 I Y t) w w1:=O.G0
 cases J:rdNum f with
 |none=>rw[J]at B;cases B;exact⟨q?,.no ap.o (by rw[<-HX.o,J];rfl)⟩
 |some x=>
 obtain⟨n,r0⟩:=x;rw[J]at B;obtain⟨rfl,B,_⟩:=B;let ⟨aq,a3⟩:=fT J;have a4:=h!<|HR.o.turn HT.o O B (by rw[aq];simp);have a5:J?<|X=(jg C.size n path ((sn told).map eE.name) [] r0).bind λz=>y? (n,z.1,z.2):=by show X=_;rw[<-HX.o,J];rfl
 clear O B ht J aq HX HR;go_wp2;go_loopw [5,6,12] (λg l i wr=>∃(k:Nat)(done:List (Nat×eE))(ls r:Wd),k<=n/\i=.int i? k/\l=.string ⟨a? ls⟩/\g=.int i? (gJ (sn done))/\RG wr I Y t C r (told++done)/\dy (G5 I Y t) w wr/\X=(jg C.size (n-k) path ((sn<|told++done).map eE.name) ls r).bind λz=>y? (n,done++z.1,z.2)) (λ_ _ i _=>n-(intOf i).toNat);exact⟨0,[],[],r0,ZP _,q?,q?,q?,by rw[Z6];exact a4.o,ap.o,by rw[Z6];exact a5.o⟩;obtain⟨k,done,ls,r,hk,rfl,rfl,rfl,hr,hf,hg⟩:=hrel;have ar:=h! hf;have ad:=h! hr;by_cases aE:k<n
 .let ⟨p,hp,au⟩:=hr.here;have av:=h! au;rw[(o!:n-k=(n-(k+1))+1),jg]at hg;have HG:=h! hg;have aw:=wM (last:=ls) HT.o ad.o hS;clear hr hf hg au;go_wp2_with fail;apply aw.mono;rintro e w2 ⟨O,B⟩;have ae:=h!<|ar.o.then O.G0
  cases J:mO ((sn<|told++done).map eE.name) ls r with
  |none=>rw[J]at B;cases B;exact⟨q?,.no ae.o (by rw[HG.o,J];rfl)⟩
  |some x=>
  obtain⟨nm,r1⟩:=x;rw[J]at B;obtain⟨rfl,B⟩:=B;let ⟨ax,aa,_,ab⟩:=mA J;have aB:=ad.o.4;have aC:r1.length+1<=r.length:=by rw[ax];simp[dM]
  have ac:=Xj (nm:=nm) HT.o B hS;have HN:=h!<|And.intro ab<|And.intro (iq aa).2 J;clear aw O B hp J ax aa ab;go_wp2_with fail;apply ac.mono;rintro e w3 ⟨O,B⟩;have af:=h!<|ae.o.then O.G0
  cases hy:jF nm r1 with
  |none=>rw[hy]at B;cases B;exact⟨q?,.no af.o (by rw[HG.o,HN.o.2.2,Zf,hy];rfl)⟩
  |some y=>
  obtain⟨tx,wt,tg,r2,rfl,aF,aD⟩:=FR hy;rw[hy]at B;obtain⟨rfl,B⟩:=B;have U:=h! B;let ⟨_,_,aG,_,_,_,_,_,_,ay,az⟩:=FQ hy
  have a6:J?<|0<=tg/\tg<=255:=by simp only[eE.mk.injEq]at az;have:=(fT ay).2;exact⟨o!,o!⟩
  have ag:J?<|X=(if dP tx=path then(jg C.size (n-(k+1)) path ((sn<|told++done).map eE.name++[nm]) nm r2).bind λz=>y? ((p,(⟨nm,f?,tx,wt,tg⟩:eE))::z.1,z.2)else x?).bind λz=>y? (n,done++z.1,z.2):=by show X=_;rw[HG.o,HN.o.2.2,Zf,hy,<-av.o];rfl
  clear ac O B hy ay az ae HG;unfold CE;have a7:(⟨a? tx⟩:b?).size<=1099511627776:=by show tx.toArray.size<=_;simp;omega
  obtain⟨w4,ah⟩:∃w4,w3.alloc (.cells #[.string ⟨a? nm⟩,.string ⟨a? tx⟩,.int i? wt,.int i? tg] 96)=w4:=⟨_,q?⟩;have ai:B? w3 w4:=by rw[<-ah];exact(oA _ _).alloc (Zu _) _
  have aj:w4.1[w3.1.size]?=y? (.cells #[.string ⟨a? nm⟩,.string ⟨a? tx⟩,.int i? wt,.int i? tg] 96 (0,0)):=by rw[<-ah];exact U! w3 _
  have e1:=dx aj 1;go_wp2_with fail;apply (rJ _ _ a7).mono;rintro e w5 ⟨rfl,ak⟩;clear ah e1;have a8:=ai.4;have al:w5.1[w3.1.size]?=y? (.cells #[.string ⟨a? nm⟩,.string ⟨a? tx⟩,.int i? wt,.int i? tg] 96 (0,0)):=by rwa[ak.5 _<|eN aj]
  have V:=ai.trans<|ak.mono a8
  have HD:J? (∀k,G5 I Y t k->k≠w3.1.size):=by rintro k (h1|h1|h1) e;obtain⟨p1,O,_⟩:=U.o.1;have:=eN O;omega;have:=U.o.2.lt;omega;have:=HT.o.3 U.o.3<|HT.o.2 k h1;omega
  have a0:=h!<|U.o.below HT.o V;have am:=h!<|af.o.then<|dy.eF V;have an:=h! al;have d0:=dx al;clear ai aj ak al V U af;rw[show(dP _)=dP tx from rfl];by_cases iV:dP tx=path
  case neg=>
   have a9:=beq_eq_false_iff_ne.2 iV;have ao:J?<|X=x?:=by show X=x?;rw[ag.o,if_neg iV];rfl
   clear iV;go_wp2_with fail;apply g!<|j6 _;exact⟨q?,.no am.o ao.o⟩
  have a9:=beq_iff_eq.2 iV
  have ao:J?<|X=(jg C.size (n-(k+1)) path ((sn<|told++(done++[(p,(⟨nm,f?,tx,wt,tg⟩:eE))])).map eE.name) nm r2).bind λz=>y? (n,done++[(p,⟨nm,f?,tx,wt,tg⟩)]++z.1,z.2):=by show X=_;rw[ag.o,if_pos iV];simp[sn,m6]
  clear iV ag;go_wp2_with fail;apply g!<|iC _;have W:=JM (q:=p) (e:=⟨nm,f?,tx,wt,tg⟩) HT.o a0.o hS hm HN.o.1 ⟨by show nm.length<=255;have:=HN.o.2.1;omega,by show tx.length<=255;omega,λ_=>a6.o⟩ o! (by have:=av.o;omega);have a1:ve ⟨nm,f?,tx,wt,tg⟩=.agg #[.bool f?,.string ⟨a? nm⟩,.string ⟨a? tx⟩,.int _ wt,.int _ tg]:=rfl;rw[a1]at W;clear a1;go_wp2_with fail;apply W.mono;rintro e w6 ⟨rfl,q1,q2⟩
  have a2:w6.1[w3.1.size]?=y? (.cells #[.string ⟨a? nm⟩,.string ⟨a? tx⟩,.int i? wt,.int i? tg] 96 (0,0)):=by rw[q2.5 _ (eN an.o)<|λh=>HD.o _ h q?];exact an.o
  have d26:=dx a2 2;have a':=h! q1;have aA:=h!<|am.o.then q2;clear W q1 q2 a2 d0 a0 am an;go_wp2;go_roundw
  .refine⟨k+1,done++[(p,⟨nm,f?,tx,wt,tg⟩)],nm,r2,o!,by go_num,q?,?_,by rw[<-Zq];exact a'.o,aA.o,ao.o⟩;rw[show sn (done++[(p,(⟨nm,f?,tx,wt,tg⟩))])=sn done++[⟨nm,f?,tx,wt,tg⟩] by simp[sn],ll,mo,show gJ []=0 from rfl];have:=mZ<|sn done;show Value.int i? (max (gJ<|sn done) wt)=Value.int i? (max (gJ<|sn done)<|max (max 0 wt) 0);congr 1;omega
  exact M!
 rw[(o!:n-k=0),jg]at hg;have HG:=h! hg;clear hr hf hg;go_wp2;go_ret2;exact .Xl ar.o HG.o ⟨i!,by simpa using ad.o⟩
def Zad(a b:Wd):(⟨a? a⟩:b?)++⟨a? b⟩=⟨(a++b).toArray⟩:=by apply ByteArray.ext;simp
def NX(t:PU)(O f:Nat):Prop:=∀(B J:Nat)(S:b?)(rest:Wd)(told:List<|Nat×eE)(path:Wd)(w:w?),RG w B J t S rest told->S.size<=1099511627775->S.size<=O->26<=f+l? path->l? path<=1099511627775->
  nr prog 214 #[p?<|y? ⟨B,0,x?⟩,s? ⟨a? path⟩] w (Ends (G5 B J t) w (fS S.size f path ((sn told).map eE.name) rest) λx e w'=>e=e? (n? i? x.1)/\RG w' B J t S x.2.2 (told++x.2.1))
def Lu{mx f t rest told w}(hN:NX t mx f)(hT:t.Ok mx)(h:RG w g I t C rest told)(hS:C.size<=1099511627775)(hm:C.size<=mx)(hp:l? J<=24)(hf:25<=f+l? J) :
  nr prog 239 #[p?<|y? ⟨g,0,x?⟩,s? ⟨a? J⟩] w (Ends (G5 g I t) w ((rdNum rest).bind λa=>(ju (fS C.size f) a.1 J ((sn told).map eE.name) (-1) a.2).bind λb=>y? (a.1,b.1,b.2.1,b.2.2)) λx e w'=>e=e? (.tuple #[n? i? x.1,n? i? x.2.1])/\RG w' g I t C x.2.2.2 (told++x.2.2.1)):=by
 have ht:=pO g C rest I t.v w h.1 o!;have HR:=h! h;have HT:=h! hT;have HN:J? _:=hN;obtain⟨X,hX⟩:∃X,((rdNum rest).bind λa=>(ju (fS C.size f) a.1 J ((sn told).map eE.name) (-1) a.2).bind λb=>y? (a.1,b.1,b.2.1,b.2.2))=X:=⟨_,q?⟩;rw[hX];have HX:=h! hX;clear h hT hX hN;go_enter func239,ntmps239;go_wp2_with fail;apply ht.mono;rintro e w1 ⟨V,B⟩;have ag:J?<|dy (G5 g I t) w w1:=V.G0
 cases O:rdNum rest with
 |none=>rw[O]at B;cases B;exact⟨q?,.no ag (by rw[<-HX.o,O];rfl)⟩
 |some x=>
 obtain⟨n,r0⟩:=x;rw[O]at B;obtain⟨rfl,B,_⟩:=B;let ⟨ah,am⟩:=fT O;have an:=h!<|HR.turn HT V B (by rw[ah];simp);have ao:J?<|X=(ju (fS C.size f) n J ((sn told).map eE.name) (-1) r0).bind λz=>y? (n,max 0 z.1,z.2.1,z.2.2):=by show X=_;rw[<-HX.o,O];simp
 clear V B ht O ah HX HR;go_wp2;go_loopw [5,6,11] (λgv l i wr=>∃(k gg:Nat)(done:List (Nat×eE))(la:Int)(r:Wd),k<=n/\i=n? i? k/\l=n? i? la/\gv=n? i? gg/\RG wr g I t C r (told++done)/\dy (G5 g I t) w wr/\(X=(ju (fS C.size f) (n-k) J ((sn<|told++done).map eE.name) la r).bind λz=>y? (n,max gg z.1,done++z.2.1,z.2.2))/\-1<=la/\la<=255) (λ_ _ i _=>n-(intOf i).toNat);exact⟨0,0,[],-1,r0,ZP _,q?,q?,q?,by rw[Z6];exact an,ag,by rw[Z6];exact ao,o!,o!⟩;obtain⟨k,gg,done,la,r,hk,rfl,rfl,rfl,hr,ac,hg,av,aw⟩:=hrel;have ai:=h! ac;have ad:=h! hr;by_cases ay:k<n
 .rw[(o!:n-k=(n-(k+1))+1),ju]at hg;have HG:=h! hg;clear hr ac hg;go_wp2_with fail;apply (xo g C r I t.v wr ad.1 o!).mono;rintro e w2 ⟨V,B⟩;have W:=h!<|ai.then V.G0
  cases O:gL r with
  |none=>rw[O]at B;cases B;exact⟨q?,.no W (by rw[HG.o,O];rfl)⟩
  |some x=>
  obtain⟨lb,r1⟩:=x;rw[O]at B;obtain⟨rfl,B,_⟩:=B;let ⟨aj,ab⟩:=gq O;have ap:=h!<|ad.turn HT V B (by rw[aj];simp);have Y:=h! O;clear V B O aj
  cases lb with
  |nil=>go_wp2_with fail;apply g!<|j6 _;exact⟨q?,.no W (by rw[HG.o,Y.o];rfl)⟩
  |cons c cs=>
  have hc:=c.toNat_lt;have ak:(⟨(c::cs).toArray⟩:b?).size=l? cs+1:=by show(c::cs).toArray.size=_;simp
  have az:(⟨(c::cs).toArray⟩:b?)[0]'(by rw[ak];omega)=c:=rfl;by_cases aa:la<(c.toNat:Int)
  case neg=>
   have a0:=decide_eq_false aa;have U:J?<|X=x?:=by show X=x?;rw[HG.o,Y.o,Zf,if_neg λh=>aa h.2];rfl
   clear aa;go_wp2_with fail;apply g!<|j6 _;exact⟨q?,.no W U⟩
  have ae:=HG.o;rw[Y.o,Zf,if_pos ⟨i!,aa⟩]at ae;have U:=h! ae;have aq:(⟨a? J⟩:b?).size=l? J:=by show J.toArray.size=_;simp
  have ax:¬(9223372036854775807<(⟨a? J⟩:b?).size+(⟨(c::cs).toArray⟩:b?).size):=by rw[aq,ak];simp only[w!]at ab;omega
  have af:=HN.o g I C r1 _ (J++(c::cs)) w2 ap hS hm (by simp only[Zh,w!];omega) (by simp only[Zh,w!]at ab⊢;omega);rw[<-Zad J _]at af;clear ae HG Y;go_wp2_with fail;apply g!<|iC _;go_wp2_with fail;apply af.mono;rintro e w3 ⟨V,B⟩;have al:=h!<|W.then V
  cases hy:fS C.size f (J++(c::cs)) ((sn<|told++done).map eE.name) r1 with
  |none=>rw[hy]at B;cases B;exact⟨q?,.no al (by rw[U.o,hy];rfl)⟩
  |some y=>
  obtain⟨ga,ea,r2⟩:=y;rw[hy]at B;obtain⟨rfl,B⟩:=B;have ar:=h! B
  have au:J?<|X=(ju (fS C.size f) (n-(k+1)) J ((sn<|told++(done++ea)).map eE.name) (c.toNat:Int) r2).bind λz=>y? (n,max (max gg ga) z.1,done++ea++z.2.1,z.2.2):=by show X=_;rw[U.o,hy];simp[sn,m6,Nat.max_assoc]
  clear af V B hy U;go_wp2;go_roundw
  .refine⟨k+1,max gg ga,done++ea,(c.toNat:Int),r2,o!,by go_num,q?,?_,by rw[<-Zq];exact ar,al,au,o!,o!⟩;show Value.int i? (max (gg:Int) (ga:Int))=Value.int i? ((max gg ga:Nat):Int);congr 1;omega
  exact M!
 rw[(o!:n-k=0),ju]at hg;have HG:=h! hg;clear hr ac hg;go_wp2;go_ret2;exact .Xl ai HG ⟨i!,u! ad.o⟩
def GU(N f)(path)(B:W?)(bs):fS N (f+1) path B bs=if path.length<=24 then(fA bs).bind λa=>((rdNum a.2).bind λb=>(jg N b.1 path B [] b.2).bind λc=>y? (b.1,c.1,c.2)).bind λx=>
  ((rdNum x.2.2).bind λd=>(ju (fS N f) d.1 path (B++(sn x.2.1).map eE.name) (-1) d.2).bind λe=>y? (d.1,e.1,e.2.1,e.2.2)).bind λy=>if(a.1)=max (gJ<|sn x.2.1) y.2.1/\(path=[]\/0<x.1\/1<y.1)then y? (a.1,x.2.1++y.2.2.1,y.2.2.2)else x? else x?:=by
 rw[fS];simp only[m6,Zf]
def Eu(hT:i.Ok g)(ih:∀f',I=f'+1->NX i g f'):NX i g I:=by
 intro Rb Mk S rest told path w h hS hm hf ao;have ap:(⟨a? path⟩:b?).size=l? path:=by show path.toArray.size=_;simp
 by_cases hp:l? path<=24
 case neg=>
  have ak:decide ((l? path:Int)<=24)=f?:=decide_eq_false o!
  have HX:J?<|fS S.size I path ((sn told).map eE.name) rest=x?:=by show _=_;cases I;rfl;rw[fS,if_neg hp]
  clear hT ih h;go_enter func214,ntmps214;go_wp2_with fail;apply g!<|j6 _;exact⟨q?,.no (dy.refl _ _) HX⟩
 obtain⟨I,rfl⟩:∃f',I=f'+1:=⟨I-1,o!⟩;have ak:(l? path:Int)<=24:=o!;have ht:=Cw Rb S rest Mk i.v w h.1 o!;have HR:=h! h;have HN:J? _:=ih I rfl;have HT:=h! hT;obtain⟨X,V⟩:∃X,fS S.size (I+1) path ((sn told).map eE.name) rest=X:=⟨_,q?⟩;rw[V];rw[GU,if_pos hp]at V;have HX:=h! V;clear h ih hT V;go_enter func214,ntmps214;go_wp2_with fail;apply g!<|iC _;go_wp2_with fail;apply ht.mono;rintro e w1 ⟨Y,B⟩;have aa:J?<|dy (G5 Rb Mk i) w w1:=Y.G0
 cases J:fA rest with
 |none=>rw[J]at B;cases B;exact⟨q?,.no aa (by rw[<-HX.o,J];rfl)⟩
 |some x=>
 obtain⟨wg,r0⟩:=x;rw[J]at B;obtain⟨rfl,B,_⟩:=B;have af:=h!<|HR.turn HT Y B (by rw[(j9 J).1];simp);have V:=HX.o;rw[J,Zf]at V;have ab:=h! V;clear ht Y B J V HX HR;have ag:=Rc (path:=path) HT af hS hm;go_wp2_with fail;apply ag.mono;rintro e w2 ⟨Y,B⟩;have ac:=h!<|aa.then Y
 cases J:(rdNum r0).bind λa=>(jg S.size a.1 path ((sn told).map eE.name) [] a.2).bind λb=>y? (a.1,b.1,b.2)with
 |none=>rw[J]at B;cases B;exact⟨q?,.no ac (by rw[<-ab.o,J];rfl)⟩
 |some x=>
 obtain⟨nb,own,r1⟩:=x;rw[J]at B;obtain⟨rfl,B⟩:=B;have ah:=h! B;have V:=ab.o;rw[J,Zf,show(sn told).map _++(sn own).map _=(sn<|told++own).map eE.name by simp[sn]]at V;have ad:=h! V;clear ag Y B J V af aa ab;have ai:=Lu HN HT ah hS hm hp o!;go_wp2_with fail;apply ai.mono;rintro e w3 ⟨Y,B⟩;have O:=h!<|ac.then Y
 cases J:(rdNum r1).bind λa=>(ju (fS S.size I) a.1 path ((sn<|told++own).map eE.name) (-1) a.2).bind λb=>y? (a.1,b.1,b.2.1,b.2.2)with
 |none=>rw[J]at B;cases B;exact⟨q?,.no O (by rw[<-ad.o,J];rfl)⟩
 |some x=>
 obtain⟨nc,gb,below,r⟩:=x;rw[J]at B;obtain⟨rfl,B⟩:=B;have ae:J?<|RG w3 Rb Mk i S r<|told++(own++below):=h!<|by rwa[<-Zq]
 have W:J? (X=if(wg:Int)=max (gJ<|sn own) gb/\(path=[]\/0<nb\/1<nc)then y? (wg,own++below,r)else x?):=by show X=_;rw[<-ad.o,J];rfl
 clear ai Y B J ah ac ad;by_cases U:(wg:Int)=max (gJ<|sn own) gb
 case neg=>have aj:=beq_eq_false_iff_ne.2 U;have al:=h!<|W.trans<|if_neg λh=>U h.1;clear U;go_wp2_with fail;apply g!<|j6 _;exact⟨q?,.no O al⟩
 have aj:=beq_iff_eq.2 U;have HG:=h! U;clear U;go_wp2_with fail;apply g!<|iC _;clear aj
 cases path with
 |nil=>go_wp2_with fail;apply g!<|iC _;go_wp2;go_ret;exact .Xl O (W.trans<|if_pos ⟨HG,.inl t!⟩) ⟨q?,ae⟩
 |cons c cs=>
  by_cases h1:0<nb
  .have am:(0:Int)<(nb:Int):=o!;go_wp2_with fail;apply g!<|iC _;go_wp2;go_ret;exact .Xl O (W.trans<|if_pos ⟨HG,.inr<|.inl h1⟩) ⟨q?,ae⟩
  have am:decide ((0:Int)<nb)=f?:=decide_eq_false o!;by_cases h2:1<nc
  .have an:(1:Int)<(nc:Int):=o!;go_wp2_with fail;apply g!<|iC _;go_wp2;go_ret;exact .Xl O (W.trans<|if_pos ⟨HG,.inr<|.inr h2⟩) ⟨q?,ae⟩
  have an:decide ((1:Int)<nc)=f?:=decide_eq_false o!;go_wp2_with fail;apply g!<|j6 _;exact⟨q?,.no O<|W.trans (if_neg λh=>by obtain h|h|h:=h.2<;>simp_all)⟩
def T3(hT:i.Ok g):∀f,NX i g f
 |0=>Eu hT λ_ h=>by cases h
 |f+1=>Eu hT λ_ h=>by cases h;exact T3 hT f
def LH(w):(Instr.typeAssert (.iface 264<|.agg #[]) 20 264 t?).run prog w=.ok (.tuple #[.agg #[],.bool t?]) w:=by kernel_rfl
def FN(b)(w)(b0)(hb:w.1[b]?=y? (c? #[.bool b0] 4 (0,0))) :
  CallsD prog 210 #[p?<|y? ⟨b,0,x?⟩] (.panicking [Mj]) w λe O w'=>e=e? (.tuple #[])/\O=.panicking [{v:=.iface 264<|.agg #[],recovered:=t?}]/\w'=(w.alloc<|c? #[] 264).setCell ⟨b,0,x?⟩ (.bool f?):=by
 have U:=LH;have B:(w.alloc<|c? #[] 264).1[b]?=y? (c? #[.bool b0] 4 (0,0)):=by rwa[e! _ _ _<|eN hb]
 have V:=dx B 0;have W:=dO B 0;clear hb B;refine ob func210 q? λJ cs Y=>?_;apply wpS_seq;apply on;simp[wpOpsS,go_sem,recoverD,Y,ntmps210,Exit.thenS,Mj];apply wpS_of_wp;change Code.wp _ _ _ {tmps:=#[p?<|y? ⟨b,0,x?⟩,.iface 264<|.agg #[],ys,ys,.iface 264<|.agg #[],ys,ys,ys,ys,ys,ys,ys,ys,ys,ys],defers:=[]} _;go_wp2;cases J;simp_all [bodyPostS,nL,q7]
def Nx(p)(w) :
  CallsD prog 210 #[p?<|y? p] .returning w λe J w'=>e=e? (.tuple #[])/\J=.returning/\w'=w:=by
 refine ob func210 q? λB cs O=>?_;apply wpS_seq;apply on;simp[wpOpsS,go_sem,recoverD,O,ntmps210,Exit.thenS];apply wpS_of_wp;change Code.wp _ _ _ {tmps:=#[p?<|y? p,.nilIface,ys,ys,.nilIface,ys,ys,ys,ys,ys,ys,ys,ys,ys,ys],defers:=[]} _;go_wp2;cases B;simp_all [bodyPostS,nL,q7]
def PA(N)(bs):jd N bs=((rdNum bs).bind λa=>(jf N a.1 [] [] a.2).bind λb=>y? (a.1,b.1,b.2)).bind λx=>(gL x.2.2).bind λc=>if c.1=[]then(fS N 26 [] ((sn x.2.1).map eE.name) c.2).bind λd=>
  if d.2.2=[]/\0<l? x.2.1+l? d.2.1/\x.1<=100/\l? d.2.1<=30 then y? (x.2.1,d.2.1)else x? else x?:=by
 unfold jd;simp only[m6,Zf]
def RI{mx}(hT:i.Ok mx)(h:RG l g I i C f [])(hS:C.size<=1099511627775)(hm:C.size<=mx) :
  nr prog 159 #[p?<|y? ⟨g,0,x?⟩] l (Ends (G5 g I i) l (jd C.size f) λx e w'=>e=e? (.tuple #[])/\i.T w' (x.1++x.2)):=by
 have an:=YS hT h hS hm;have HT:=h! hT;obtain⟨X,V⟩:∃X,jd C.size f=X:=⟨_,q?⟩;rw[V];rw[PA]at V;have HX:=h! V;clear h V hT;go_enter func159,ntmps159;go_wp2_with fail;apply an.mono;rintro e w1 ⟨g1,B⟩;have ah:=h! g1
 cases J:(rdNum f).bind λa=>(jf C.size a.1 [] [] a.2).bind λb=>y? (a.1,b.1,b.2)with
 |none=>rw[J]at B;cases B;exact⟨q?,.no ah (by rw[<-HX.o,J];rfl)⟩
 |some x=>
 obtain⟨W,gs,r0⟩:=x;rw[J]at B;obtain⟨rfl,B⟩:=B;have ai:=h! B;have V:=HX.o;rw[J,Zf]at V;have aj:=h! V
 have ab:J?<|l? gs=W/\W<=255:=by simp only[ZC]at J;obtain⟨a,h1,b,h2,h3⟩:=J;cases h3;have:=(fT h1).2;exact⟨Jm h2,o!⟩
 clear an g1 B J V HX;have ao:=xo g C r0 I i.v w1 ai.1 o!;go_wp2_with fail;apply ao.mono;rintro e w2 ⟨g1,B⟩;have ac:=h!<|ah.then g1.G0
 cases J:gL r0 with
 |none=>rw[J]at B;cases B;exact⟨q?,.no ac (by rw[<-aj.o,J];rfl)⟩
 |some x=>
 obtain⟨lb,r1⟩:=x;rw[J]at B;obtain⟨rfl,B,_⟩:=B;have ap:=h!<|ai.turn HT g1 B (by rw[(gq J).1];simp);have V:=aj.o;rw[J,Zf]at V;have ak:=h! V;clear ao g1 B J V ai ah aj
 cases lb with
 |cons c cs=>
  have Y:J?<|X=x?:=by show X=x?;rw[<-ak.o];rfl
  go_wp2_with fail;apply g!<|j6 _;exact⟨q?,.no ac Y⟩
 |nil=>
 have Y:J?<|((fS _ 26 [] _ r1).bind _)=X:=ak.o;clear ak;go_wp2_with fail;apply g!<|iC _;have aq:=T3 HT 26 g I C r1 gs [] w2 ap hS hm i! i!;go_wp2_with fail;apply aq.mono;rintro e w3 ⟨g1,B⟩;have O:=h!<|ac.then g1
 cases J:fS C.size 26 [] ((sn gs).map eE.name) r1 with
 |none=>rw[J]at B;cases B;exact⟨q?,.no O (by rw[<-Y.o,J];rfl)⟩
 |some x=>
 obtain⟨wg,es,r2⟩:=x;rw[J]at B;obtain⟨rfl,B⟩:=B;have ad:J?<|RG w3 g I i C r2<|gs++es:=B;have al:J? (X=if r2=[]/\0<l? gs+l? es/\W<=100/\l? es<=30 then y? (gs,es)else x?):=by show X=_;rw[<-Y.o,J];rfl
 clear aq g1 B J ap ac Y;let ⟨p,ar,a3,au⟩:=ad.1;have c0:=dx ar
 have ae:r2=[]↔p=C.size:=by rw[<-au,List.drop_eq_nil_iff];simp;omega
 have aa:J?<|dy _ l w3.drew:=⟨O.1,O.2,O.3,O.4,O.5⟩;have a0:J?<|i.T w3.drew _:=HT.4 ad.3 λ_ _=>rfl;clear ar au;by_cases hr:r2=[]
 case neg=>
  have a1:((p:Int)==C.size)=f?:=beq_eq_false_iff_ne.2<|λe=>hr<|ae.2 o!;have U:=h!<|al.trans<|if_neg λh=>hr h.1;clear hr ae;go_wp2_with fail;refine nv (S:=λw'=>w'=w3.drew) k! ?_;refine gf 0 ?_ q? ?_<|gf 1 ?_ q? ?_<|gf 2 ?_ q? ?_<|gf 3 ?_ q? ?_<|gf 4 ?_ q? ?_<|gf 5 ?_ q? ?_<|gf 6 ?_ q? ?_<|gf 7 ?_ q? ?_<|gf 8 ?_ q? ?_<|gf 9 ?_ q? ?_ ?_
  any_goals(rintro _ rfl;exact n!)
  refine kY 10 λK' _=>?_;unfold te;go_simp;apply g!<|j6 _;exact⟨q?,.no aa U⟩
 have a1:((p:Int)==C.size)=t?:=beq_iff_eq.2 (by rw[ae.1 hr]);have af:=λty:TypeId=>ed.len (ed.stay ad.2 rfl:ed _ 9 w3.drew I _) pc ty;have av:((sn<|gs++es).map Yh).length=l? gs+l? es:=i!;rw[av]at af;obtain⟨N,hN⟩:∃N:Nat,N=l? gs+l? es:=⟨_,q?⟩;rw[<-hN]at af;have a4:N<=C.size:=by have:=ad.4;rw[Zh]at this;omega
 have U:J? (X=if 0<N/\W<=100/\N-W<=30 then y? (gs,es)else x?):=by show X=_;rw[al.o,hN,<-ab.1];simp[hr]
 have a5:W<=N:=by have:=ab.1;omega
 have a2:=ab.2;clear hN av hr ae al ab;go_wp2_with fail;go_region_held3 (λw'=>C? w' ⟨g,0,x?⟩=y? (s? C)/\C? w' ⟨g,1,x?⟩=y? (n? i? p)) (go_keep) (first|(go_at_call 212;apply g!<|iC _));by_cases aw:0<N
 case neg=>have ax:decide (0<(N:Int))=f?:=decide_eq_false o!;go_wp2_with fail;apply g!<|j6 _;exact⟨q?,.no aa<|U.trans<|if_neg λh=>aw h.1⟩
 have ax:(0:Int)<(N:Int):=o!;go_wp2_with fail;apply g!<|iC _;by_cases ag:W<=100
 case neg=>have am:decide ((W:Int)<=100)=f?:=decide_eq_false o!;go_wp2_with fail;apply g!<|j6 _;exact⟨q?,.no aa<|U.trans<|if_neg λh=>ag h.2.1⟩
 have am:(W:Int)<=100:=o!;go_wp2_with fail;apply g!<|iC _;by_cases ay:N-W<=30
 case neg=>have az:decide ((N:Int)-W<=30)=f?:=decide_eq_false o!;go_wp2_with fail;apply g!<|j6 _;exact⟨q?,.no aa<|U.trans<|if_neg λh=>ay h.2.2⟩
 have az:(N:Int)-(W:Int)<=30:=o!;go_wp2_with fail;apply g!<|iC _;go_wp2;go_end0;exact .Xl aa (U.trans<|if_pos ⟨aw,ag,ay⟩) ⟨q?,a0⟩
def Yk(t:PU)(X:Option<|List (Nat×eE)×List (Nat×eE))(e:Ending)(w':w?):Prop:=match X with
 |some x=>e=e? (.bool t?)/\t.T w' (x.1++x.2)|none=>e=e? (.bool f?)
def WH{mx t}(hT:t.Ok mx)(h:RG l g I t C J [])(hS:C.size<=1099511627775)(hm:C.size<=mx) :
  nr prog 158 #[.func (.func 159) #[p?<|y? ⟨g,0,x?⟩] #[]] l λe w'=>dy (G5 g I t) l w'/\Yk t (jd C.size J) e w':=by
 have ai:∀(fn:Fn)(first cap:V?)(l:w?),(Instr.makeFunc fn first cap).run prog l=.ok _ l:=λ_ _ _ _=>rfl;obtain⟨w0,aa⟩:∃w0,l.alloc (c? #[.bool f?] 4)=w0:=⟨_,q?⟩;have V:B? l w0:=by rw[<-aa];exact(oA _ _).alloc (Zu _) _
 have ab:w0.1[l.1.size]?=y? (c? #[.bool f?] 4 (0,0)):=by rw[<-aa];exact U! l _
 have O:=RI hT (h.below hT V) hS hm;have HD:J? (∀k,t.4 k->k<l.1.size):=λk U=>hT.3 h.3 U
 have HZ:J?<|¬G5 g I t l.1.size:=by rintro(U|U|U);obtain⟨p,h1,_⟩:=h.1;have:=eN h1;omega;have:=h.2.lt;omega;have:=HD.o _<|hT.2 _ U;omega
 have ac:=h! ab;have ag:J?<|dy (G5 g I t) l w0:=dy.eF V;have HT:=h! hT;obtain⟨X,hX⟩:∃X,jd C.size J=X:=⟨_,q?⟩;rw[hX]at O⊢;clear h V ab hT hX;go_enter_defers func158,ntmps158;go_wp2_with fail;apply O.mono;rintro e w1 ⟨g1,g2⟩;have B:w1.1[l.1.size]?=y? (c? #[.bool f?] 4 (0,0)):=by rw[g1.5 _ (eN ac.o) HZ.o];exact ac
 have ad:=h!<|ag.then g1;have ah:=h! B
 cases X with
 |none=>
  cases g2;refine oj (f:=210) (args:=#[p?<|y? ⟨l.1.size,0,x?⟩]) i! (by simp[go_sem]) ?_;apply (FN l.1.size w1 f? B).mono;rintro e u' w2 ⟨rfl,rfl,rfl⟩
  have W:((w1.alloc<|c? #[] 264).setCell ⟨l.1.size,0,x?⟩<|.bool f?).1[l.1.size]?=y? (c? #[.bool f?] 4 (0,0)):=by rw[heap_set<|by rwa[e! _ _ _<|eN B]];rfl
  have Y:C? ((w1.alloc<|c? #[] 264).setCell ⟨l.1.size,0,x?⟩<|.bool f?) ⟨l.1.size,0,x?⟩=y? (.bool f?):=by rw[dx W];rfl
  refine⟨.bool f?,?_,(ad.then<|dy.eF<|(oA _ _).alloc (Zu _) _).trans (jq q?)<|λi hi hg=>o!,q?⟩;simp[nL,q8,go_sem,Y]
 |some x=>
  obtain⟨rfl,g2⟩:=g2;have c1:=dx B 0;have f1:=dO B 0;have ae:=h! g2;clear O g1 g2 B;go_wp2;refine oj (f:=210) (args:=#[p?<|y? ⟨l.1.size,0,x?⟩]) i! (by simp[go_sem]) ?_;apply (Nx _ _).mono;rintro e u' w2 ⟨rfl,rfl,rfl⟩;have af:dy (· = l.1.size) w1<|w1.setCell ⟨l.1.size,0,x?⟩<|.bool t?:=jq rfl
  have W:(w1.setCell ⟨l.1.size,0,x?⟩<|.bool t?).1[l.1.size]?=y? (c? #[.bool t?] 4 (0,0)):=by rw[heap_set ah.o];rfl
  have Y:C? (w1.setCell ⟨l.1.size,0,x?⟩<|.bool t?) ⟨l.1.size,0,x?⟩=y? (.bool t?):=by rw[dx W];rfl
  refine⟨.bool t?,?_,ad.trans af<|λi hi hg=>o!,q?,HT.4 ae λk U=>af.5 k (HT.3 ae U)<|Nat.ne_of_lt<|HD k U⟩;simp[nL,q8,go_sem,Y]
def Sm{t}(hT:t.Ok o)(h:t.T l [])(hS:C.size<=1099511627775)(hm:C.size<=o) :
  nr prog 117 #[s? C,t.v] l λe w'=>dy t.3 l w'/\Yk t (jd C.size C.1.1) e w':=by
 have ac:=@yo prog;have ad:∀(fn:Fn)(first cap:V?)(l:w?),(Instr.makeFunc fn first cap).run prog l=.ok _ l:=λ_ _ _ _=>rfl;obtain⟨w0,B⟩:∃w0,l.alloc (.map #[] 0)=w0:=⟨_,q?⟩;have ab:w0.1.size=l.1.size+1:=by rw[<-B];simp
 obtain⟨w1,hw1⟩:∃w1,w0.alloc (c? #[s? C,n? i? 0,.map<|y? l.1.size,t.v] 216)=w1:=⟨_,q?⟩;have U:B? l w0:=by rw[<-B];exact(oA _ _).alloc (Zu _) _
 have J:B? l w1:=by rw[<-hw1];exact U.alloc o! _
 have V:ed prog 9 w0 l.1.size []:=by rw[<-B];exact ed.made l
 have W:w1.1[l.1.size+1]?=y? (c? #[s? C,n? i? 0,.map<|y? l.1.size,t.v] 216 (0,0)):=by rw[<-hw1,<-ab];exact U! w0 _
 have Y:RG w1 _ _ t C C.1.1 []:=
  ⟨⟨0,W,ZP _,q?⟩,V.stay (by rw[<-hw1];exact e! _ _ _ o!),hT.4 h λk hk=>J.5 k<|hT.3 h hk,i!,λk hk=>by have:=hT.3 h hk;omega⟩
 have O:=WH hT Y hS hm;obtain⟨X,hX⟩:∃X,jd C.size C.1.1=X:=⟨_,q?⟩;rw[hX]at O⊢
 have aa:J? (∀w',dy (G5 (l.1.size+1) l.1.size t) w1 w'->dy t.3 l w'):=λw' g=>(dy.eF J).trans g (λi hi hg=>by
  obtain h|h|h:=hg
  omega;omega
  exact h)
 clear h U J V W Y hT hX;unfold PU.v at hw1⊢;have ae:∀(a:Addr)(l:w?),(store a _).run _ l=stored prog l a (.func (.func t.1) #[] t.2) _:=λa l=>run_store _ l a _ _ rfl;go_enter func117,ntmps117;go_wp2_with fail;apply O.mono;rintro e w2 ⟨g1,g2⟩;clear O
 cases X with
 |none=>cases g2;go_wp2;go_ret;exact⟨aa _ g1,q?⟩
 |some x=>obtain⟨rfl,g2⟩:=g2;have HS:=h! g2;clear g2;go_wp2;go_ret;exact⟨aa _ g1,q?,HS⟩
def ZbO(J B:Nat):PU where
 fn:=130
 cp:=#[p?<|y? ⟨J,0,x?⟩]
 own k:=k=B
 dom k:=k=B\/k=J
 T w told:=w.1[J]?=y? (c? #[.map<|y? B] 85 (0,0))/\fN w B (sn told)
def X9(Bx Bs mx):(ZbO Bx Bs).Ok mx where
 iI:=⟨_,_,func130,q?,k!⟩
 sub _ h:=Or.inl h
 lt:=by rintro w told k ⟨B,J⟩ (rfl|rfl);exact ed.lt J;exact eN B
 stay:=by intro w w' told ⟨B,J⟩ h;exact⟨by rwa[h Bx<|.inr q?],ed.stay J<|h Bs<|.inl q?⟩
 tell:=by intro w q told e ⟨B,J⟩ U W V _;apply (Vh Bx Bs (sn told) e q w B J U (by rwa[Z5]) (by have:=V.1;unfold nl;omega)).mono;rintro Y w' ⟨rfl,g1,O⟩;exact⟨q?,⟨by rwa[O.5 Bx (eN B)<|λk=>ed.qc J B k.symm],by rwa[show sn _=sn told++[e] by simp[sn]]⟩,O⟩
def ZaN(w:w?)(X:Option<|E?×E?)(e:Ending)(w':w?):Prop:=match X with
 |some x=>∃B,e=e? (.tuple #[.map<|y? B,.bool t?])/\w.1.size<=B/\fN w' B (x.1++x.2)|none=>e=e? (.tuple #[.map x?,.bool f?])
def Dt(S:b?)(w)(hS:S.size<=1099511627775) :
  nr prog 88 #[s? S] w λe w'=>B? w w'/\ZaN w (pE S.1.1) e w':=by
 have ag:=@yo prog;have ah:∀(fn:Fn)(first cap:V?)(w:w?),(Instr.makeFunc fn first cap).run prog w=.ok _ w:=λ_ _ _ _=>rfl;obtain⟨w0,J⟩:∃w0,w.alloc (.map #[] 0)=w0:=⟨_,q?⟩;have ab:w0.1.size=w.1.size+1:=by rw[<-J];simp
 obtain⟨w1,O⟩:∃w1,w0.alloc (c? #[.map<|y? w.1.size] 85)=w1:=⟨_,q?⟩;have ac:B? w w0:=by rw[<-J];exact(oA ..).alloc (Zu _) _
 have ad:B? w w1:=by rw[<-O];exact ac.alloc o! _
 have ae:fN w0 w.1.size []:=by rw[<-J];exact ed.made w
 have af:fN w1 _ []:=ed.stay ae (by rw[<-O];exact e! _ _ _ o!);have V:w1.1[w.1.size+1]?=y? (c? #[.map<|y? w.1.size] 85 (0,0)):=by rw[<-O,<-ab];exact U! w0 _
 have W:=Sm (X9 _ _ _) ⟨V,af⟩ hS<|Zu _;rw[Sz _];obtain⟨X,hX⟩:∃X,jd S.size S.1.1=X:=⟨_,q?⟩;rw[hX]at W⊢;have Y:=h! V;have B:=h! ad;go_enter func88,ntmps88;go_wp2_with fail;apply W.mono;rintro e w2 ⟨U,g2⟩
 have aa:J?<|B? w w2:=by refine⟨U.1.trans B.1,U.2.trans B.2,U.3.trans B.3,ZE B.4 U.4,λk hk=>?_⟩;rw[U.5 k (AT hk B.4) (by show k≠_;omega),B.5 k hk]
 have c2:C? w2 ⟨w.1.size+1,0,x?⟩=y? (.map<|y? w.1.size):=by rw[dx (by rw[U.5 _ (eN Y.o) (by show w.1.size+1≠_;omega)];exact Y)];rfl
 cases X with
 |none=>cases g2;go_wp2;go_ret2;exact⟨aa,q?⟩
 |some x=>
  obtain⟨rfl,g2⟩:=g2;have HS:J?<|fN w2 w.1.size<|sn x.1++sn x.2:=by rw[<-show sn _=sn _++sn _ from Z4];exact g2.2
  go_wp2;go_ret2;exact⟨aa,_,q?,Zu _,HS⟩
end
section
open RowKit
variable {f C x1 x2:E?}{g:List (E?)}{i U:Nat}{l P x0:w?}{o:Wd}{p:eE}{I:L?}{J:F?}
def mn(B:E?)(ss:List<|E?)(name:Wd):Nat×List eE:=
 if gr name=t? then
  if jC (dV ss B) name=x? then(5,B)
  else if 100<=l? B-(dE B).length then(4,B)
  else(0,dT B [⟨name,t?,[],0,0⟩])
 else(1,B)
def Ph(F:F?)(b)(B:E?)(ss:List<|E?)(ts:List<|W?)(name:b?)(w:w?)(hF:∀k,F k->k<w.1.size)(hR:lc w F b B ss ts)(hn:name.size<=nl)
  (h1:gO ss<=536870912) (h2:l? B<=536870912) :
  nr prog 105 #[p?<|y? ⟨b,0,x?⟩,s? name] w λe w'=>e=e? (n? i? (mn B ss name.1.1).1)/\
   lc w' (iJ F w w') b (mn B ss name.1.1).2 ss ts/\dy F w w':=by
 have HR:=h! hR;clear hR;by_cases V:gr name.1.1=t?
 .let ⟨vB,vS,vT,hh,ai,aj,ak,al⟩:=HR.o;have az:=hF b ai
  have HU:J? (mn B ss name.1.1=if jC (dV ss B) name.1.1=x? then(5,B)else if 100<=l? B-(dE B).length then(4,B)else(0,dT B [⟨name.1.1,t?,[],0,0⟩])):=by show mn _ _ _=_;unfold mn;rw[if_pos V]
  go_enter func105,ntmps105;go_wp2_with fail;apply g!<|lg name _ hn;rw[V];have HH:=h! hh;have am:=h! aj;have an:=h! ak;have a0:=h! al;clear hh aj ak al V;go_wp2_with fail;apply (uB F b vB vS vT B ss w HH am an h1 h2).mono;rintro e w1 ⟨u,rfl,ao,O⟩;have a1:=O.4;have ap:C? w1 ⟨b,0,x?⟩=y? vB:=Z0 O (by rw[dx HH.o];rfl);have ae:=(jB.eo am.1).below O;go_wp2_with fail;have af:=xP u _ name.1.1 w1<|jB.eo ao;rw[<-bytes_eta name]at af;apply af.mono;clear af;rintro e w' ⟨rfl,rfl⟩
  cases Y:jC (dV ss B) name.1.1 with
  |none=>
   have J:J?<|mn B ss name.1.1=(5,B):=h!<|by rw[HU.o,if_pos Y]
   rw[show zx x? = -1 from rfl];clear Y;go_wp2;go_ret;refine⟨dQ (by rw[J.o];rfl),?_,dy.eF O⟩;rw[J.o];exact kH HR hF O
  |some j=>
   have aq:J? (mn B ss name.1.1=if 100<=l? B-(dE B).length then(4,B)else(0,dT B [⟨name.1.1,t?,[],0,0⟩])):=h!<|by rw[HU.o,if_neg (λh=>by rw[Y]at h;simp at h)]
   rw[show zx _=j from rfl];clear Y ao;go_wp2_with fail;apply (I3 vB B w1 ae o!).mono;rintro e w2 ⟨rfl,W⟩;have a7:=W.4;have U:=O.trans<|W.mono a1;have a4:=Z0 W ap;have ar:=ae.below W;clear ap ae O W;by_cases ab:100<=l? B-(dE B).length
   .have J:J?<|mn B ss name.1.1=(4,B):=h!<|by rw[aq.o,if_pos ab]
    go_wp2;go_ret;refine⟨dQ (by rw[J.o];rfl),?_,dy.eF U⟩;rw[J.o];exact kH HR hF U
   have J:J?<|mn B ss name.1.1=(0,dT B [⟨name.1.1,t?,[],0,0⟩]):=h!<|by rw[aq.o,if_neg ab]
   have au:=U.4
   have ac:jB (w2.alloc<|c? #[s? name,.bool t?,s? ⟨#[]⟩,n? i? 0,n? i? 0] 202) 5 (.slice (y? ⟨w2.1.size,0,x?⟩) 1 1) 1<|dG [⟨name.1.1,t?,[],0,0⟩]:=by have:=jB.uH (w:=w2) (e:=⟨name.1.1,t?,[],0,0⟩) (t:=202) rfl;simp only[<-bytes_eta]at this;simpa[dG]using this
   have ag:Below _ w<|w2.alloc<|c? #[s? name,.bool t?,s? ⟨#[]⟩,n? i? 0,n? i? 0] 202:=U.alloc au _;have ad:=ar.below<|(oA _ _).alloc (Zu _)<|c? #[s? name,.bool t?,s? ⟨#[]⟩,n? i? 0,n? i? 0] 202;have a8:b<w2.1.size:=o!;go_wp2_with fail;apply (rV _ _ B [⟨name.1.1,t?,[],0,0⟩] _ ad ac o! i!).mono;rintro e w3 ⟨u3,rfl,ah,av⟩;obtain⟨a3,c3,rfl,a9⟩:=dK ah;have aw:=ag.4;have aa:=ag.trans<|av.mono aw;have ax:=wI hF HH ai an a0 aa<|eH ah aw;have a5:C? w3 ⟨b,0,x?⟩=y? vB:=Z0 aa (by rw[dx HH.o];rfl);have a6:w3.frozen? ⟨b,0,x?⟩=f?:=by rw[aa.frozen az];exact dO HH 0
   have a2:=h! ax;clear ax ah av aa ac ad ag;generalize dT B [⟨name.1.1,t?,[],0,0⟩]=nb at *;go_wp2;go_ret;refine⟨dQ (by rw[J.o];rfl),?_⟩;rw[J.o];exact a2
 have HU:J?<|mn B ss name.1.1=(1,B):=h!<|by unfold mn;rw[if_neg V]
 have ay:gr name.1.1=f?:=by simpa using V
 clear V;go_enter func105,ntmps105;go_wp2_with fail;apply g!<|lg name _ hn;rw[ay];go_wp2;go_ret;refine⟨dQ (by rw[HU.o];rfl),?_,dy.refl _ _⟩;rw[HU.o];exact iJ.pa HR
def iE(B:E?)(ss:List<|E?):List eE:=if ss.length=0 then dE B else B
def fZ(B:E?)(ss:List<|E?):Nat×E?×List (E?):=
 if B.length=0 then(5,B,ss)else if 6<=ss.length then(4,B,ss)
 else(0,[],if 0<(iE B ss).length then ss++[iE B ss]else ss)
def Q6{b}{ts:List<|W?}(h:lc l J b f g ts):lc (l.setCell ⟨b,0,x?⟩<|.slice x? 0 0) J b [] g ts:=by obtain⟨vB,vS,vT,V,Y,_,hs,hT⟩:=h;have B:∀k,k≠b->(l.setCell ⟨b,0,x?⟩<|.slice x? 0 0).1[k]?=l.1[k]?:=λk O=>ZH _ _ _ _ O;refine⟨.slice x? 0 0,vS,vT,by rw[heap_set V];rfl,Y,⟨Z9 ..,nofun⟩,?_,?_⟩;obtain⟨vs,h1,W,h3,h4⟩:=hs;refine⟨vs,h1,dH W<|λk O=>B k (λe=>by subst e;exact fD V W d! O),h3,λi hi=>?_⟩;obtain⟨v,hv,U⟩:=h4 i hi;exact⟨v,hv,dJ U.1<|λk O=>B k (λe=>by subst e;exact fC V U.1 d! O),U.2⟩;obtain⟨vs,h1,W,h3,h4⟩:=hT;refine⟨vs,h1,dH W<|λk O=>B k (λe=>by subst e;exact fD V W d! O),h3,λi hi=>?_⟩;obtain⟨v,hv,U,hf⟩:=h4 i hi;exact⟨v,hv,dH U<|λk O=>B k (λe=>by subst e;exact fD V U d! O),hf⟩
def zU{b vB Y vS' vT u}{ts:List<|W?}{o}(hF:∀k,J k->k<l.1.size)
  (hh:l.1[b]?=y? (c? #[vB,Y,vT] 120 (0,0))) (ae:J b) (al:kX l J vB f) (af:l? I=l? g) (aa:R? l 0 75 1 Y g.length I) (ag:∀k,O? Y=y? k->J k)
  (am:∀i(h:i<l? g),∃u,I[i]?=y? u/\kX l J u g[i]) (hT:nM l J vT ts) (O:B? l P)
  (hu:R? P 0 202 5 u C.length<|dG C) (an:∀k,O? u=y? k->J k\/l.1.size<=k)
  (ho:R? x0 0 75 1 vS' (l? g+1)<|I++[u]) (hg:(P.alloc o).grownBy x0<|O? Y) (V:O? vS'=O? Y\/O? vS'=y? U) (hN:U=P.1.size+1) :
  x0.1[b]?=y? (c? #[vB,Y,vT] 120 (0,0))/\lc (x0.setCell ⟨b,1,x?⟩ vS') (iJ J l<|x0.setCell ⟨b,1,x?⟩ vS') b f (g++[C]) ts/\dy J l (x0.setCell ⟨b,1,x?⟩ vS'):=by
 have ar:=O.4;have au:P.1.size+1<=x0.1.size:=by have:=hg.4;simpa using this
 have ah:=hF b ae;have ao:(x0.setCell ⟨b,1,x?⟩ vS').1.size=x0.1.size:=by simp[rx]
 have hold:∀k,k<l.1.size->O? Y≠y? k->x0.1[k]?=l.1[k]?:=λk V ab=>by rw[hg.5 k j!<|λe=>ab e.symm,e! _ _ _ o!,O.5 k V]
 have ai:∀k,k<P.1.size->O? Y≠y? k->x0.1[k]?=P.1[k]?:=λk V ab=>by rw[hg.5 k j!<|λe=>ab e.symm,e! _ _ _ V]
 have ad:x0.1[b]?=y? (c? #[vB,Y,vT] 120 (0,0)):=by rwa[hold b ah<|fD hh aa d!]
 have W:∀k,k≠b->(x0.setCell ⟨b,1,x?⟩ vS').1[k]?=x0.1[k]?:=λk V=>ZH _ _ _ _ V;have fu:∀k,J k->O? Y≠y? k->k≠b->(x0.setCell _ vS').1[k]?=l.1[k]?:=λk V h1 h2=>by rw[W k h2,hold k (hF k V) h1]
 have ac:∀(v:v?)(es:E?),kX l J v es->kX _ (iJ J l<|x0.setCell ⟨b,1,x?⟩ vS') v es:=λv es hE=>⟨dJ hE.1<|λk V=>fu k (hE.2 k V) (λe=>fX hE.1 aa d! k V e) (λe=>by subst e;exact fC hh hE.1 d! V),λk V=>Or.inl<|hE.2 k V⟩
 refine⟨ad,⟨vB,vS',vT,?_,.inl ae,ac _ _ al,⟨I++[u],by simp[af],?_,?_,?_⟩,?_⟩,?_⟩;rw[heap_set ad];rfl;have e:(g++[C]).length=l? g+1:=i!;rw[e];refine dH ho<|λk B=>W k<|λe=>?_;subst e;exact fD ad ho d! B;intro k B;obtain h1|h1:=V
 exact .inl (ag k<|by rwa[<-h1]);rw[h1]at B;simp only[m?]at B;have:=(ho.lt k<|by rw[h1,B]).2;exact .inr ⟨o!,by rwa[ao]⟩;intro i hi;by_cases aj:i<l? g;obtain⟨v,hv,hE⟩:=am i aj;refine⟨v,by rwa[Zt o!],?_⟩;rw[Zx aj];exact ac v _ hE;have ap:i=l? g:=by simp at hi;omega
 subst ap;refine⟨u,by rw[<-af];simp,?_⟩;have e:(g++[C])[l? g]=C:=i!;rw[e];have ak:∀k,O? u=y? k->k<P.1.size:=λk B=>(hu.lt k B).2
 have ab:∀k,O? u=y? k->O? Y≠y? k:=λk B e=>by exact fX hu (j7 aa O) d! k B e
 have aq:P.1[b]?=y? (c? #[vB,Y,vT] 120 (0,0)):=by rwa[O.5 b ah]
 refine⟨dJ hu<|λk B=>?_,λk B=>?_⟩;rw[W k (λe=>by subst e;exact fC aq hu d! B),ai k (ak k B)<|ab k B];obtain h1|h1:=an k B
 exact .inl h1;exact .inr ⟨h1,by have:=ak k B;omega⟩;obtain⟨vs',h1,h2,h3,h4⟩:=hT;refine⟨vs',h1,dH h2<|λk B=>fu k (h3 k B) (λe=>fX h2 aa d! k B e) (λe=>by subst e;exact fD hh h2 d! B),λk B=>Or.inl<|h3 k B,λi hi=>?_⟩;obtain⟨v,hv,hE,hf⟩:=h4 i hi;exact⟨v,hv,dH hE<|λk B=>fu k (hf k B) (λe=>fX hE aa d! k B e) (λe=>by subst e;exact fD hh hE d! B),λk B=>Or.inl<|hf k B⟩;refine⟨hg.1.trans O.1,hg.2.trans O.2,hg.3.trans O.3,o!,λk B hn=>?_⟩;rw[W k<|λe=>hn<|by rwa[e],hold k B<|λe=>hn<|ag k e]
def My:(prog.info? 75).map (λi=>(i.8,i.3,i.4))=y? (y?<|.slice x? 0 0,1,24):=by kernel_rfl
def lc.mono{G:F?}{b}{O:List<|W?}(h:lc l J b f g O)(B:∀k,J k->G k):lc l G b f g O:=by obtain⟨U,V,W,Y,h2,h3,h4,h5⟩:=h;exact⟨U,V,W,Y,B b h2,h3.stay (λ_ _=>rfl) B,h4.stay (λ_ _=>rfl) B,h5.stay (λ_ _=>rfl) B⟩
def yX{b}{V:List<|W?}(Y:J b)(h:lc P (iJ J l P) b f g V)(O:dy J l P) :
  lc (P.setCell ⟨b,0,x?⟩<|.slice x? 0 0) (iJ J l<|P.setCell ⟨b,0,x?⟩<|.slice x? 0 0) b [] g V/\dy J l (P.setCell ⟨b,0,x?⟩<|.slice x? 0 0):=by
 have U:(P.setCell ⟨b,0,x?⟩<|.slice x? 0 0).1.size=P.1.size:=by simp[rx]
 refine⟨(Q6 h).mono<|λk B=>?_,?_⟩;obtain B|B:=B
 exact .inl B;exact .inr ⟨B.1,by rw[U];exact B.2⟩;refine⟨O.1,O.2,O.3,by rw[U];exact O.4,λk B W=>?_⟩;rw[ZH _ _ _ _<|λe=>W<|by rwa[e]];exact O.5 k B W
def UT(F:F?)(b)(B:E?)(ss:List<|E?)(ts:List<|W?)(w:w?)(hF:∀k,F k->k<w.1.size)(hR:lc w F b B ss ts)(h2:l? B<=536870912) :
  nr prog 106 #[p?<|y? ⟨b,0,x?⟩] w λe w'=>e=e? (n? i? (fZ B ss).1)/\lc w' (iJ F w w') b (fZ B ss).2.1 (fZ B ss).2.2 ts/\dy F w w':=by
 obtain⟨i8,al,am,an,ao⟩:=Zz My;obtain⟨vB,vS,vT,hh,aa,ag,a7,ap⟩:=id hR;have HR:=h! hR;obtain⟨vs,aq,ah,ar,av⟩:=a7;obtain⟨aB,cB,rfl,aG⟩:=dK ag.1;obtain⟨aS,cS,rfl,aH⟩:=dC ah;have aw:=dx hh;have aI:=dO hh 0;have a8:=hF b aa;have HH:=h! hh;have ab:=h! ag;have ae:=h! ah;have ax:=h! av;have ay:=h! ar;have az:=h! ap;have a0:=h! aq;clear hh ag ah av ar ap aq hR;by_cases ai:l? B=0
 .have HU:J?<|fZ B ss=(5,B,ss):=h!<|by unfold fZ;rw[if_pos ai]
  have hz:((l? B:Int)==0)=t?:=beq_iff_eq.2 o!;go_enter pt,pi;go_wp2;go_ret;refine⟨dQ (by rw[HU.o];rfl),?_,dy.refl _ _⟩;rw[HU.o];exact iJ.pa HR
 have hz:((l? B:Int)==0)=f?:=beq_eq_false_iff_ne.2 o!;by_cases h6:6<=l? ss
 .have HU:J?<|fZ B ss=(4,B,ss):=h!<|by unfold fZ;rw[if_neg ai,if_pos h6]
  go_enter pt,pi;go_wp2;go_ret;refine⟨dQ (by rw[HU.o];rfl),?_,dy.refl _ _⟩;rw[HU.o];exact iJ.pa HR
 have HU:J?<|fZ B ss=(0,[],if 0<(iE B ss).length then ss++[iE B ss]else ss):=h!<|by unfold fZ;rw[if_neg ai,if_neg h6]
 by_cases aj:l? ss=0
 .have a9:((l? ss:Int)==0)=t?:=beq_iff_eq.2 o!;have af:J?<|iE B ss=dE B:=h!<|by unfold iE;rw[if_pos aj]
  clear aj;go_enter pt,pi;go_wp2_with fail;apply (pW _ B w (jB.eo ab.1) o!).mono;rintro e w1 ⟨u,rfl,ak,U⟩;obtain⟨au,cu,rfl,aJ⟩:=dK ak;have aK:=U.4;have aD:=Z0 U<|aw 0;have aE:=Z0 U<|aw 1;have aF:w1.frozen? ⟨b,0,x?⟩=f?:=by rwa[U.frozen a8]
  have aL:(dE B).length<=l? B:=No _ _;by_cases a1:0<(dE B).length
  .have V:J?<|fZ B ss=(0,[],ss++[dE B]):=h!<|by rw[HU.o,af.o,if_pos a1]
   go_wp2_with (at_builtin;go_must (refine dU _ q? _ _ 118 q? 0 75 i8 _ 24 p' al am an ao q? _ _ _ q? ((j7 ae U).alloc _) _ [.slice au (dE B).length cu] q? ?k0 ?k9 ?k1 ?k2 ?k3 ?_))
   case k0=>go_light;exact Rd.one<|jn q?
   case k9=>intro u hu;simp at hu;subst hu;rfl
   case k1=>simp;omega
   case k2=>simp[nl];omega
   case k3=>exact ZP _
   intro a' w2 Y ac ad;obtain⟨aA,aC,rfl,a2⟩:=dC Y;have J:=zU hF HH aa ab a0 ae ay ax az U (eH ak<|ZP _) (λk hk=>Or.inr (ak.lt k hk).1) Y ac ad rfl;have a3:=dx J.1 1;have a4:=dO J.1 1;have a5:=dx J.1 0;have a6:=dO J.1 0;have O:=yX aa J.2.1 J.2.2;have W:=h! O;clear O J Y ac ad;go_wp2;go_ret;refine⟨dQ (by rw[V.o];rfl),?_⟩;rw[V.o];exact W
  have V:J?<|fZ B ss=(0,[],ss):=h!<|by rw[HU.o,af.o,if_neg a1]
  have O:=yX aa (kH HR hF U)<|dy.eF U;have W:=h! O;clear O;go_wp2;go_ret;refine⟨dQ (by rw[V.o];rfl),?_⟩;rw[V.o];exact W
 have a9:((l? ss:Int)==0)=f?:=beq_eq_false_iff_ne.2 o!;have af:J?<|iE B ss=B:=h!<|by unfold iE;rw[if_neg aj]
 have V:J?<|fZ B ss=(0,[],ss++[B]):=h!<|by rw[HU.o,af.o,if_pos o!]
 go_enter pt,pi;go_wp2_with (at_builtin;go_must (refine dU _ q? _ _ 118 q? 0 75 i8 _ 24 p' al am an ao q? _ _ _ q? (ae.alloc _) _ [.slice aB B.length cB] q? ?m0 ?m9 ?m1 ?m2 ?m3 ?_))
 case m0=>go_light;exact Rd.one<|jn q?
 case m9=>intro u hu;simp at hu;subst hu;rfl
 case m1=>simp;omega
 case m2=>simp[nl];omega
 case m3=>exact ZP _
 intro a' w2 Y ac ad;obtain⟨aA,aC,rfl,a2⟩:=dC Y;have J:=zU hF HH aa ab a0 ae ay ax az (oA _ _) ab.1 (λk hk=>Or.inl<|ab.2 k hk) Y ac ad rfl;have a3:=dx J.1 1;have a4:=dO J.1 1;have a5:=dx J.1 0;have a6:=dO J.1 0;have O:=yX aa J.2.1 J.2.2;have W:=h! O;clear O J Y ac ad;go_wp2;go_ret;refine⟨dQ (by rw[V.o];rfl),?_⟩;rw[V.o];exact W
def xT(s:b?)(n):s.extract 0 n=⟨(s.1.1.take n).toArray⟩:=by apply ByteArray.ext;apply Array.toList_inj.1;simp
def Vc(n):((u8 n).toNat)=n % 256:=by unfold u8;have:(UInt8.ofNat (n % 256).toNat).toNat=(n % 256).toNat % 256:=i!;omega
def P5(a)(s:b?):(⟨a? a⟩:b?)++s=⟨(a++s.1.1).toArray⟩:=by apply ByteArray.ext;simp
def l5(n):eX [u8 n]=[n? .u8<|n % 256]:=by simp only[eX,ZK,ZU,Vc]
def Ip{w:w?}{l}(cs:V?)(n)(h:cs.1=eX l)(J:cs.size=n)(hm:n<=nl) :
  (convert 60 9<|.slice (y? ⟨w.1.size,0,x?⟩) n n).run prog (w.alloc<|c? cs 5)=.ok (s? ⟨a? l⟩) (w.alloc<|c? cs 5):=by
 have B:=World.ownsRow_lit (size:=1) (e:=5) w cs n (Zu _) hm o!;rw[h]at B;exact vW B oS qz oQ
def sP(s p:b?)(w) :
  nr prog 201 #[s? s,s? p] w λe w'=>e=e? (.bool<|ji s.1.1 p.1.1)/\w=w':=by
 by_cases h:p.size<=s.size
 .go_wp2;go_ret;rw[AF,ByteArray.toList_eq,ByteArray.toList_eq];simp[h]
 go_wp2;go_ret;rw[AF];simp[h]
def Ex(s:b?)(w)(B:s.size<=1099511627776) :
  nr prog 149 #[s? s] w λe w'=>e=e? (s? ⟨(dM s.1.1).toArray⟩)/\B? w w':=by
 have J:=Ip (w:=w) (l:=[u8 s.size]) _ 1 (by rw[l5]) q? (by unfold nl;omega);go_wp2;go_ret;refine⟨xv ?_,(oA _ w).alloc (Zu _)<|c? #[n? .u8<|s.size % 256] 5⟩;exact P5 _ s
def Pu(n)(w)(B : -9223372036854775808<=n)(J:n<=9223372036854775807) :
  nr prog 202 #[n? i? n] w λe w'=>e=e? (s? ⟨(gK n).toArray⟩)/\B? w w':=by
 have O:=Ip (w:=w) (l:=gK n) #[n? .u8<|n.tdiv 65536 % 256,n? .u8<|(n.tdiv 256).tmod 256 % 256,n? .u8<|n.tmod 256 % 256] 3 (by simp only[gK,eX,ZK,ZU,Vc]) q? (by unfold nl;omega);go_wp2;go_ret;exact⟨q?,(oA _ w).alloc (Zu _)<|c? #[n? .u8<|n.tdiv 65536 % 256,n? .u8<|(n.tdiv 256).tmod 256 % 256,n? .u8<|n.tmod 256 % 256] 5⟩
def j5{a}(h:Below i a l)(q):Below i a<|l.drewN q:=⟨h.1,h.2,h.3,h.4,h.5⟩
def oG(l:E?)(k:Nat):List eE:=eY<|l.take k
def IX(l:E?)(k)(h):oG l (k+1)=sj (oG l k) l[k]:=by unfold oG eY;rw[IS h,b!];rfl
def Mw(l:E?)(k)(h:k<=l? l):(oG l k).length=k:=by unfold oG;rw[uV];simp;omega
def Ow(out:E?)(x)(p)(O:p<=l? out)(U:∀j(h:j<p),ya (out[j]'o!) x=t?)(V:∀h:p<l? out,ya out[p] x=f?):sj out x=out.take p++([x]++out.drop p):=by
 have B:=lT (λy=>ya y x) out p O U V;have J:=D? (p:=λy=>ya y x) (l:=out)
 have W:out.take p=out.takeWhile λy=>ya y x:=by
  conv=>lhs;rw[<-J,<-B]
  rw[md]
 have Y:out.drop p=out.dropWhile λy=>ya y x:=by
  conv=>lhs;rw[<-J,<-B]
  rw[mp]
 rw[W,Y];rfl
def J7(v)(l:E?)(w)(hv:jB w 5 v l.length<|dG l)(hl:l? l<=1073741824) :
  nr prog 148 #[v] w λe w'=>∃u,e=e? u/\R? w' w.1.size 202 5 u (eY l).length (dG<|eY l)/\B? w w':=by
 obtain⟨i5,ab,ac,ad,ae⟩:=Zz xe;obtain⟨a,cap,rfl,hc,hm,_,_⟩:=id hv;have HV:=h! hv;clear hv;unfold nl at hm;go_enter func148,ntmps148;go_wp2;go_loopw [3,4] (λv i wr=>∃k:Nat,k<=l? l/\i=n? i? k/\R? wr w.1.size 202 5 v (oG l k).length (dG (oG l k))/\B? w wr) (λ_ i _=>l? l-(intOf i).toNat);exact⟨0,ZP _,q?,Z9 _ _ _ _,oA _ _⟩;obtain⟨k,hk,rfl,aa,V⟩:=hrel;have HS:=V.4;have aw:=Nat.le_of_eq<|Mw l k hk;by_cases ah:k<l? l
 .obtain⟨bl,ol,rfl,c0,c1,c2,c3,c4⟩:=jo (HV.below V) k ah;have HU:=h!<|IX l k ah;generalize oG l k=out at *;generalize l[k]=x at *;obtain⟨a3,ai,rfl,ay,hm3,_,_⟩:=jB.eo aa;have HRd:=h!<|jB.eo aa;unfold nl at hm3;go_wp2_with fail;generalize wr=wo at *;go_loopw [5] (λi w9=>∃p:Nat,i=n? i? p/\p<=l? out/\(∀j(h:j<p)(h':j<l? out),ya out[j] x=t?)/\B? wo w9) (λi _=>l? out-(intOf i).toNat);exact⟨0,q?,ZP _,λ_ h=>o!,oA _ _⟩;obtain⟨p,rfl,hp,fu,W⟩:=hrel;have az:=W.4;have HA:=h! fu;clear fu;by_cases ao:p<l? out
  case' neg=>
   have g0:=Z0 W c0;have HI:=h!<|Ow out x p hp (λj h=>HA.o j h o!)<|λh=>o!;obtain af|af:=Decidable.em<|p=ai
   case' inl=>subst af
   case' inr=>have ax:¬ai=p:=λh=>af h.symm
  case' pos=>
   obtain⟨b3,o3,rfl,d0,_,_,_,_⟩:=jo (HRd.below W) p ao;have g0:=Z0 W c0;have a0:(p:Int)<(l? out:Int):=o!;have a1:(k:Int)<(l? l:Int):=o!;by_cases B:ya out[p] x=t?
   .have an:sr _ _=t?:=B;go_wp2;go_quiet (fail);go_wp2;go_roundw
    case rel=>exact⟨p+1,by go_num,o!,λj h h'=>by
     by_cases e:j=p;subst e;exact B
     exact HA j o! h',j5 W _⟩
    exact M!
   have ap:sr out[p].1 x.1=f?:=by simpa[ya]using B
   have HI:=h!<|Ow out x p hp (λj h=>HA.o j h o!)<|λ_=>ap;clear B
  all_goals
   go_wp2;go_quiet (fail);have hBX:=j5 W nq;go_wp2_with (at_builtin;go_must (refine gE _ q? _ _ 75 q? wo.1.size 202 i5 _ 5 56 pd ab ac ad ae q? d! _ _ _ q? (Z9 _ _ _ _) _ p (dG<|out.take p) q? ?ac0 mz ?ac1 ?ac2 ?ac3 ?_))
   case ac0=>have:=(HRd.below hBX).take p hp;rwa[<-FJ]at this
   case ac1=>omega
   case ac2=>simp only[nl];omega
   case ac3=>exact hBX.4
   intro v1 w1 J aq _
   try simp only[ZD,E!]at J
   have O:=hBX.grown aq hBX.4 (by simp[tl]);have aj:=O.4;obtain⟨a2,a4,rfl,_⟩:=dK J;have q0:=Z0 O c0;have q1:=Z0 O c1;have q2:=Z0 O c2;have q3:=Z0 O c3;have q4:=Z0 O c4;go_wp2_with (at_builtin;go_must (refine gE _ q? _ _ 75 q? _ 202 i5 _ 5 56 pd ab ac ad ae q? d! _ _ _ q? (J.alloc _) _ 1 (e9 x) q? ?ad0 ?ad9 ?ad1 ?ad2 ?ad3 ?_))
   case ad0=>go_light;exact jB.uH rfl
   case ad9=>intro u hu;exact mz (es:=[x]) u (by simpa[dG]using hu)
   case ad1=>omega
   case ad2=>simp only[nl];omega
   case ad3=>simp;omega
   intro v2 w2 U ar _;have ag:=(O.alloc aj _).grown ar j!<|λb hb=>(J.lt b hb).1;have ak:=ag.4;obtain⟨a5,a6,rfl,_⟩:=dK U;go_wp2_with (at_builtin;go_must (refine gE _ q? _ _ 75 q? _ 202 i5 _ 5 56 pd ab ac ad ae q? d! _ _ _ q? U _ (l? out-p) (dG<|out.drop p) q? ?ae0 mz ?ae1 ?ae2 ?ae3 ?_))
   case ae0=>go_light;simp only[Act.eval,By];first|(have:=(HRd.below ag).Xr p hp;rwa[<-GH]at this)|(rw[List.drop_of_length_le o!];first|exact jB.empty o! (by unfold nl;omega)|(rw[(o!:l? out-p=0)];exact jB.empty o! (by unfold nl;omega)))
   case ae1=>omega
   case ae2=>simp only[nl];omega
   case ae3=>omega
   intro v3 w3 Y au _;have al:p+1+(l? out-p)=(sj out x).length:=by rw[HI.o];simp;omega
   have am:dG (out.take p)++(e9 x++dG (out.drop p))=dG (sj out x):=by rw[HI.o];simp[dG]
   have Y:R? w3 wo.1.size 202 5 v3 (oG l<|k+1).length<|dG<|oG l<|k+1:=by
    rw[HU.o,<-am]
    first|(rwa[<-al])|(rwa[(o!:(sj out x).length=p+1)])
   have av:=ag.grown au ak<|λb hb=>(U.lt b hb).1;clear al am;go_wp2;go_roundw
   .exact⟨k+1,o!,by go_num,eH Y HS,V.trans<|av.mono HS⟩
   exact M!
 have ek:k=l? l:=o!;subst ek;go_wp2;go_ret;refine⟨_,q?,?_,V⟩;have e:eY l=oG l l.length:=by unfold oG;rw[o?]
 rwa[e]
def Zip(E:v?->E?->Prop)(vs:L?)(ss:List<|E?):Prop:=l? vs=l? ss/\∀i(h:i<l? ss),∃u,vs[i]?=y? u/\E u ss[i]
def Zip.nil(E:v?->E?->Prop):Zip E [] []:=⟨q?,λi h=>by simp at h⟩
def Zip.one{E:v?->E?->Prop}{u}(h:E u f):Zip E [u] [f]:=⟨q?,λi B=>by
 have:i=0:=by simp at B;omega
 subst this
 exact⟨u,q?,h⟩⟩
def Zip.append{E:v?->E?->Prop}{O:L?}{st:List<|E?}(J:Zip E I g)(U:Zip E O st):Zip E (I++O)<|g++st:=by
 refine⟨by rw[Zh,Zh,J.1,U.1],λi V=>?_⟩;by_cases B:i<l? g;obtain⟨u,W,Y⟩:=J.2 i B;exact⟨u,by rwa[Zt (by rw[J.1];exact B)],by rwa[Zx B]⟩;have On:i-l? g<l? st:=by rw[Zh]at V;omega
 let ⟨u,W,Y⟩:=U.2 _ On;refine⟨u,?_,?_⟩;rwa[K? (by rw[J.1];omega),J.1];rwa[K! o!]
def Zip.take{E:v?->E?->Prop}(h:Zip E I g)(k):Zip E (I.take k)<|g.take k:=by refine⟨by simp[h.1],λi B=>?_⟩;rw[dd]at B;obtain⟨u,J,O⟩:=h.2 i o!;exact⟨u,by rwa[Zi,if_pos o!],by rwa[lv]⟩
def Zip.drop{E:v?->E?->Prop}(h:Zip E I g)(k):Zip E (I.drop k)<|g.drop k:=by refine⟨by simp[h.1],λi B=>?_⟩;rw[u?]at B;obtain⟨u,J,O⟩:=h.2 (k+i) o!;exact⟨u,by rwa[kd],by rwa[lw]⟩
def Zip.mono{E E':v?->E?->Prop}(h:Zip E I g)(B:∀u l,E u l->E' u l):Zip E' I g:=⟨h.1,λi J=>by
 obtain⟨u,O,U⟩:=h.2 i J
 exact⟨u,O,B u _ U⟩⟩
def kL(ss:List<|E?)(n:Nat):List eE:=if n=0 then dE (dT (ss.getD n [])<|ss.getD (n+1) [])else dT (ss.getD n []) (ss.getD (n+1) [])
def gI(ss:List<|E?)(n:Int):Nat×List (E?):=
 if n<0\/(l? ss:Int)-1<=n then(6,ss)
 else if 100<(kL ss n.toNat).length-(dE<|kL ss n.toNat).length then(4,ss)
 else(0,ss.take n.toNat++((if 0<(kL ss n.toNat).length then [kL ss n.toNat]else [])++ss.drop (n.toNat+2)))
def pR:Nat->Wd->Option (E?×Wd)
 |0,B=>y? ([],B)|n+1,B=>(gL B).bind λx=>(gL x.2).bind λy=>(fA y.2).bind λz=>(rdNum z.2).bind λu=>(pR n u.2).bind λv=>y? (⟨x.1,f?,y.1,z.1,u.1⟩::v.1,v.2)
def pV:Nat->Wd->Option (E?×Wd)
 |0,B=>y? ([],B)|n+1,B=>(gL B).bind λx=>(pV n x.2).bind λv=>y? (⟨x.1,t?,[],0,0⟩::v.1,v.2)
def qq(node:Wd->Option (E?×Wd)):Nat->Wd->Option (E?×Wd)
 |0,B=>y? ([],B)|n+1,B=>(node B).bind λx=>(qq node n x.2).bind λy=>y? (x.1++y.1,y.2)
def o9:Nat->Nat->Wd->Option (E?×Wd)
 |0,_,_=>x?|f+1,B,J=>(gL J).bind λa=>(fA a.2).bind λb=>(rdNum b.2).bind λc=>(pR c.1 c.2).bind λd=>(rdNum d.2).bind λe=>if 0<e.1/\30<B then x? else(qq (o9 f<|B+1) e.1 e.2).bind λg=>y? (d.1++g.1,g.2)
def zi(B:Wd):Option<|Nat×E?×Wd:=(rdNum B).bind λa=>(pV a.1 a.2).bind λb=>(o9 32 0 b.2).bind λc=>y? (a.1,b.1++c.1,c.2)
def oU(l:E?):Nat:=(l.map λe=>l? e.3).sum+26
def oq(l:E?):Wd:=u8 ((eY l).filter λe=>e.2).length::(((eY l).filter λe=>e.2).flatMap (λe=>dM e.1)++mu (oU l) ((eY l).filter λe=>!e.2) [] [])
def oL(l:E?)(i:Nat)(x:eE):Bool:=gr x.1&&eh x.3&&(x.2 || x.3 != [])&&decide (x.4<=1000000)&&(jC (l.take i) x.1).isNone
def OX(l:E?)(k:Nat):Prop:=∀i(h:i<l? l),i<k->oL l i l[i]=t?
def Gt(B:Wd):Option<|E?:=
 if 4000<B.length then x?
 else match zi B with
  |none=>x?|some (n,l,r)=>if r≠[]\/l? l=0\/100<n\/30<(l? l:Int)-n then x?
   else if ∀i,(h:i<l? l)->oL l i l[i]=t? then(if oq l=B then y? l else x?)else x?
def Qk:∀(n)(path)(U:W?)(last O)(es:E?)(r),pG n path U last O=y? (es,r)->pR n O=y? (es,r):=by
 intro n;induction n with
 |zero=>intro path U last O es r h;exact h|succ n W=>intro path U last O es r h;obtain⟨x,J,h⟩:=ZC.1 h;obtain⟨y,B,h⟩:=ZC.1 h;split at h;obtain⟨z,Y,h9⟩:=ZC.1 h;obtain⟨x',V,J⟩:=ZC.1 J;split at J;simp only[m?]at J;subst J;obtain⟨t,ht,B⟩:=ZC.1 B;split at B;obtain⟨w,hw,B⟩:=ZC.1 B;split at B;obtain⟨u,hu,B⟩:=ZC.1 B;simp only[m?]at B;subst B;unfold pR;rwa[V,Zf,ht,Zf,hw,Zf,hu,Zf,W _ _ _ _ _ _ Y];simp at B;simp at B;simp at J;simp at h
def QH:∀(n)(O:W?)(last J)(es:E?)(r),pN n O last J=y? (es,r)->pV n J=y? (es,r):=by
 intro n;induction n with
 |zero=>intro O last J es r h;exact h|succ n V=>intro O last J es r h;obtain⟨x,B,h⟩:=ZC.1 h;obtain⟨z,W,h⟩:=ZC.1 h;obtain⟨Y,U,B⟩:=ZC.1 B;split at B;simp only[m?]at B;subst B;unfold pV;rwa[U,Zf,V _ _ _ _ _ W];simp at B
def Zbi(f:Nat):Prop:=∀(path:Wd)(O:W?)(label J:Wd)(g:Nat)(es:E?)(r:Wd),l? label<256->kP f path O J=y? (g,es,r)->∀f' B,B<=l? path->32<=f'+B->o9 f' B (dM label++J)=y? (es,r)
def R3(V:Zbi i)(f' B)(hf:31<=f'+B):∀(n)(path:Wd)(J:W?)(last)(O)(g)(es:E?)(r),B<=l? path->pL (kP i) n path J last O=y? (g,es,r)->qq (o9 f'<|B+1) n O=y? (es,r):=by
 intro n;induction n with
 |zero=>intro path J last O g es r _ h;obtain⟨rfl,rfl,rfl⟩:=h;rfl
 |succ n W=>intro path J last O g es r Y h;obtain⟨⟨t,rt⟩,hx,h⟩:=ZC.1 h;split at h;rename_i hc;obtain⟨⟨gy,ey,ry⟩,hy,h⟩:=ZC.1 h;obtain⟨⟨gz,ez,rz⟩,hz,h⟩:=ZC.1 h;obtain⟨rfl,rfl,rfl⟩:=h;have U:=gq hx;have hl:=gc.2 hc.1;unfold qq;rw[U.1,V _ J t rt gy ey ry U.2 hy f' (B+1) (by rw[Zh];omega) o!,Zf,W path _ _ _ _ _ _ Y hz];rfl;simp at h
def Qw:∀f,Zbi f:=by
 intro f;induction f with
 |zero=>intro path U label O g es r _ h;simp[kP]at h|succ f V=>
  intro path U label O g es r W h f' B Y hf;unfold kP at h;split at h;obtain⟨⟨a,ra⟩,ha,h⟩:=ZC.1 h;obtain⟨⟨b,rb⟩,hb,h⟩:=ZC.1 h;obtain⟨⟨own,rc⟩,hc,h⟩:=ZC.1 h;obtain⟨⟨d,rd⟩,J,h⟩:=ZC.1 h;obtain⟨⟨gk,ek,re⟩,he,h⟩:=ZC.1 h;split at h;obtain⟨rfl,rfl,rfl⟩:=h
  cases f' with
  |zero=>omega|succ f'=>unfold o9;rw[ng label O W,Zf,ha,Zf,hb,Zf,Qk _ _ _ _ _ _ _ hc,Zf,J,Zf,if_neg o!,R3 V f' B o! d path _ _ _ _ _ _ Y he];rfl
  simp at h;simp at h
def VV(e:eE):Prop:=e.2=f?/\0<=e.4/\0<=e.5/\e.5<=255
def NF:∀(n)(J)(es:E?)(r),pR n J=y? (es,r)->∀e∈es,VV e:=by
 intro n;induction n with
 |zero=>intro J es r h;simp only[pR,m?,wi]at h;obtain⟨rfl,rfl⟩:=h;simp
 |succ n O=>
  intro J es r h;obtain⟨x,W,h⟩:=ZC.1 h;obtain⟨y,Y,h⟩:=ZC.1 h;obtain⟨z,hz,h⟩:=ZC.1 h;obtain⟨u,U,h⟩:=ZC.1 h;obtain⟨v,V,h⟩:=ZC.1 h;obtain⟨rfl,rfl⟩:=h;intro e B;simp only[Zm]at B;obtain rfl|B:=B
  have:=(fT U).2;exact⟨q?,i!,i!,j!⟩;exact O _ _ _ V e B
def M1:∀(n)(J)(es:E?)(r),pV n J=y? (es,r)->l? es=n/\∀e∈es,e=⟨e.1,t?,[],0,0⟩:=by
 intro n;induction n with
 |zero=>intro J es r h;simp only[pV,m?,wi]at h;obtain⟨rfl,rfl⟩:=h;simp
 |succ n O=>
  intro J es r h;obtain⟨x,Y,h⟩:=ZC.1 h;obtain⟨v,U,h⟩:=ZC.1 h;obtain⟨rfl,rfl⟩:=h;obtain⟨V,W⟩:=O _ _ _ U;refine⟨by simp[V],λe B=>?_⟩;simp only[Zm]at B;obtain rfl|B:=B
  rfl;exact W e B
def Nb{node:Wd->Option (E?×Wd)}(O:∀J es r,node J=y? (es,r)->∀e∈es,VV e):∀(n)(J)(es:E?)(r),qq node n J=y? (es,r)->∀e∈es,VV e:=by
 intro n;induction n with
 |zero=>intro J es r h;simp only[qq,m?,wi]at h;obtain⟨rfl,rfl⟩:=h;simp
 |succ n U=>
  intro J es r h;obtain⟨x,V,h⟩:=ZC.1 h;obtain⟨v,W,h⟩:=ZC.1 h;obtain⟨rfl,rfl⟩:=h;intro e B;rw[Z3]at B;obtain B|B:=B
  exact O _ _ _ V e B;exact U _ _ _ W e B
def MF:∀(f B)(O)(es:E?)(r),o9 f B O=y? (es,r)->∀e∈es,VV e:=by
 intro f;induction f with
 |zero=>intro B O es r h;simp[o9]at h|succ f U=>
  intro B O es r h;obtain⟨a,Y,h⟩:=ZC.1 h;obtain⟨b,hb,h⟩:=ZC.1 h;obtain⟨c,hc,h⟩:=ZC.1 h;obtain⟨d,V,h⟩:=ZC.1 h;obtain⟨e,he,h⟩:=ZC.1 h;split at h;simp at h;obtain⟨g,W,h⟩:=ZC.1 h;obtain⟨rfl,rfl⟩:=h;intro x J;rw[Z3]at J;obtain J|J:=J
  exact NF _ _ _ _ V x J;exact Nb (U _) _ _ _ _ W x J
def Ms:∀(f)(p:Wd)(G:E?),(∀e∈G,(dF e).length<=f+l? p)->jP (f+1) p G=jP (f+2) p G:=by
 intro f;induction f with
 |zero=>
  intro p G h
  have U:jD G p=[]:=by rw[List.eq_nil_iff_forall_not_mem];intro c J;obtain⟨e,O,V⟩:=uC.1 J;have W:=h e O;have Y:=V.length_le;simp at Y;omega
  unfold jP;rw[U];rfl
 |succ f ih=>intro p G h;rw[jP];congr 4;refine mV λc J=>?_;have B:=tI<|(rQ J);rw[<-nI]at B;have:=B.length_le;rw[ih _ _<|λe O=>?_];have W:=h e (jE.1 O).1;simp at this;omega
def Qh(f k)(p:Wd)(G:E?)(h:∀e∈G,(dF e).length<=f+l? p):jP (f+1+k) p G=jP (f+1) p G:=by
 induction k with
 |zero=>rfl|succ k B=>rw[<-B,(o!:f+1+(k+1)=(f+k)+2),(o!:f+1+k=(f+k)+1)];exact(Ms _ p G (λe J=>by have:=h e J;omega)).symm
def W4(l:E?):ma l []=l:=by unfold ma;rw[ZO];intro e _;exact(fy ..).2 ie
def G7(h:∀e∈f,e.2=f?->(dF e).length<=24):oq f=fc f:=by unfold oq fc;rw[EX,W4,show oU f=25+1+(f.map λe=>l? e.3).sum by unfold oU;omega,Qh 25 _ [] _<|λe B=>?_];rfl;have hm:=Zb.1 B;have:=h e (jG.1 hm.1)<|u! hm.2;omega
def yY(h:jC f o=x?):o ∉ f.map eE.name:=by unfold jC at h;rw[kl]at h;intro hm;obtain⟨e,B,J⟩:=Zv.1 hm;have:=h e B;rw[J]at this;simp at this
def ta(h:o ∉ f.map eE.name):jC f o=x?:=by unfold jC;rw[kl];intro e B;rw[beq_eq_false_iff_ne];intro J;exact h<|Zv.2 ⟨e,B,J⟩
def Eh(h:∀i(h),f[i].1 ∉ (f.take i).map eE.name):(f.map eE.name).Nodup:=by rw[lo,Zr];intro i j J B O e;simp only[Z5]at J B;rw[z?,z?]at e;refine h j B<|Zv.2 ⟨f[i],?_,e⟩;rw[ZF];exact⟨i,j!,i!⟩
def DQ(h:(f.map eE.name).Nodup)(i)(hi):f[i].1 ∉ (f.take i).map eE.name:=by intro hm;rw[lo,Zr]at h;obtain⟨e,J,B⟩:=Zv.1 hm;obtain⟨j,O,rfl⟩:=ZF.1 J;simp only[dd]at O;rw[lv]at B;have:=h j i j! (u! hi) o!;rw[z?,z?]at this;exact this B
def WO(h:Sh p)(B:p.2=f?):(dF p).length<=24:=by
 obtain h|h:=h
 exact(sO h).1;rw[h.1]at B;simp at B
def yA(h:nz f):∀e∈f,e.2=f?->(dF e).length<=24:=λe B J=>WO (h.1 e B) J
def LZ(V):Gt V=gG V:=by
 unfold Gt gG;by_cases h4:4000<l? V;rw[if_pos h4,if_pos h4];rw[if_neg h4,if_neg h4]
 have aa:∀J es,pE V=y? (J,es)->∃n,zi V=y? (n,J++es,[])/\n=l? J:=by intro J es h;unfold pE at h;obtain⟨⟨n,ra⟩,ha,h⟩:=ZC.1 h;obtain⟨⟨gs',rb⟩,hb,h⟩:=ZC.1 h;obtain⟨⟨t,rc⟩,hc,h⟩:=ZC.1 h;split at h;rename_i ht;obtain⟨⟨g,af,rd⟩,hd,h⟩:=ZC.1 h;split at h;rename_i ab;simp only[m?,wi]at h ab ht hb hc hd;obtain⟨rfl,rfl⟩:=h;subst ht;have U:=Qw 26 [] _ [] rc g af rd i! hd 32 0 i! o!;rw[<-(gq hc).1]at U;refine⟨n,?_,((ur _ _ _ _ _ _ hb).1).symm⟩;unfold zi;rw[ha,Zf,QH _ _ _ _ _ _ hb,Zf,U,Zf,ab.1];simp at h;simp at h
 cases hr:pE V with
 |some x=>
  let ⟨J,es⟩:=x;let ⟨n,h1,U⟩:=aa J es hr;let ⟨B,ag,hg,O⟩:=CO hr;have ac:=gc.2 B.3;have ah:=B.4;have ai:=B.5;rw[Zj,ZO.2 hg,R!.2 (λe h=>by rw[O e h];simp),Z6]at ah;rw[Zj,R!.2 (λe h=>by rw[hg e h];simp),ZO.2 (λe h=>by rw[O e h];rfl),E!]at ai;rw[h1];simp only[N!];rw[if_neg,if_pos,if_pos<|by rw[G7<|yA B,<-ag]];intro i hi;unfold oL;rw[ta<|DQ B.2 i hi];obtain W|W:=B.1 _<|Zw hi
  simp[W.2.1,W.2.2.1,W.2.2.2.1,W.2.2.2.2.2.1];have Y:=W.1;have e1:(J++es)[i].2=t?:=by rw[Y]
  have e2:(J++es)[i].3=[]:=by rw[Y]
  have e3:(J++es)[i].4=0:=by rw[Y]
  rw[e1,e2,e3,W.2];rfl;rw[Zh]at ac⊢;intro hh;obtain hh|hh|hh|hh:=hh
  exact hh rfl;omega;omega;omega
 |none=>
  simp only[Option.map_none]
  cases ht:zi V with
  |none=>rfl|some y=>
   let ⟨n,l,r⟩:=y;simp only;split;rfl;rename_i hc;split;rename_i hs;split;rename_i hp;exfalso;unfold zi at ht;obtain⟨a,ha,ht⟩:=ZC.1 ht;obtain⟨b,hb,ht⟩:=ZC.1 ht;obtain⟨c,aj,ht⟩:=ZC.1 ht;simp only[m?,wi]at ht;obtain⟨h1,U,h3⟩:=ht;obtain⟨g1,g2⟩:=M1 _ _ _ _ hb;have e1:=MF _ _ _ _ _ aj
   have B:nz l:=by
    have hg:∀e∈b.1,e.2=t?:=λe O=>by rw[g2 e O]
    have O:∀e∈c.1,e.2=f?:=λe O=>(e1 e O).1;have ak:=congrArg kj U;rw[Zh]at ak;refine⟨λe hm=>?_,Eh<|λi hi=>?_,λe=>?_,?_,?_⟩;obtain⟨i,hi,rfl⟩:=ZF.1 hm;have hq:=hs i hi;unfold oL at hq;simp only[IT,decide_eq_true_eq,Z7,bne_iff_ne]at hq;obtain⟨⟨⟨⟨q1,q2⟩,q3⟩,q4⟩,q5⟩:=hq;have ad:l[i]∈b.1++c.1:=by rwa[U]
    rw[Z3]at ad;obtain hm|hm:=ad
    exact .inr ⟨g2 _ hm,q1⟩;have hx:=e1 _ hm;refine .inl ⟨hx.1,q1,q2,?_,hx.2.1,q4,hx.2.2.1,hx.2.2.2⟩;obtain q3|q3:=q3
    rw[hx.1]at q3;simp at q3;exact q3;have hq:=hs i hi;unfold oL at hq;simp only[IT]at hq;exact yY (by have:=hq.2;simpa using this);exact hc<|.inr<|.inl (by rw[e];rfl);rw[<-U,Zj,ZO.2 hg,R!.2 (λe h=>by rw[O e h];simp),Z6];omega;rw[<-U,Zj,R!.2 (λe h=>by rw[hg e h];simp),ZO.2 (λe h=>by rw[O e h];rfl),E!];omega
   let ⟨J,es,ae,_⟩:=wk B;rw[<-G7<|yA B,hp,hr]at ae;simp at ae;rfl;rfl
def Hz(a b:eE):Prop:=sr (dF a) (dF b)=t?\/(dF a=dF b/\sr a.1 b.1=t?)
def km(l:E?):Prop:=l.Pairwise Hz
def fW(d:Nat)(e:eE):UInt8:=(dF e).getD d 0
def lF(L:E?)(d:Nat):Nat:=(L.takeWhile λe=>(dF e).length==d).length
def runs(d:Nat):E?->List (E?)
 |[]=>[]
 |e::l=>match runs d l with
  |[]=>[[e]]
  |[]::B=>[e]::B|(x::g)::B=>if fW d e=fW d x then(e::x::g)::B else [e]::(x::g)::B
def kZ(C:E?):Wd:=match C with
 |[]=>[]
 |e::C=>wv (dF e)<|dF<|(e::C).getLast i!
def jJ:Nat->Nat->E?->Wd
 |0,_,_=>[]
 |f+1,d,L=>gK (gJ L)++(u8 (lF L d)::((L.take<|lF L d).flatMap lH++(u8 (runs d<|L.drop<|lF L d).length::(runs d<|L.drop<|lF L d).flatMap λC=>dM ((kZ C).drop d)++jJ f (kZ C).length C)))
def GO{a b}(h:Hz a b):sr (dF b) (dF a)=f?:=by
 obtain h|h:=h
 exact sE h;rw[h.1];exact jl _
def Ox:∀(r a b c:Wd),r <+: a->r <+: c->sr b a=f?->sr c b=f?->r <+: b
 |[],_,_,_,_,_,_,_=>ie
 |x::r,[],_,_,h,_,_,_=>by simp at h
 |x::r,_::_,_,[],_,h,_,_=>by simp at h
 |x::r,y::a,[],z::c,_,_,B,_=>by simp[sr]at B
 |x::r,y::a,w::b,z::c,Y,h2,B,J=>by
  simp only[sr,s6,sB,decide_eq_false_iff_not,beq_iff_eq]at B J
  let ⟨O,U⟩:=(U?.1 Y)
  let ⟨V,W⟩:=(U?.1 h2);subst O;subst V
  have e:w=x:=by have a1:=B.1;have a2:=J.1;apply H?.1;simp only[Y?]at a1 a2;omega
  subst e;exact U?.2 ⟨q?,Ox r a b c U W (B.2 q?)<|J.2 q?⟩
def U0:∀(C:E?),C≠[]->km C->lm C=kZ C:=by
 intro C J O
 cases C with
 |nil=>exact absurd q? J|cons e C=>
  refine Oi i! ⟨λs h=>?_,λr U=>?_⟩;obtain⟨x,B,rfl⟩:=Zv.1 h
  have V:x=e\/Hz e x:=by
   simp only[Zm]at B;obtain rfl|B:=B
   exact .inl rfl;exact .inr ((ZS.1 O).1 x B)
  have hb:x=(e::C).getLast i!\/Hz x ((e::C).getLast i!):=by obtain⟨i,W,rfl⟩:=ZF.1 B;rw[kr];by_cases h:i=(e::C).length-1;simp[h];right;exact Zr.1 O i _ W _ o!
  have Y:sr (dF x) (dF e)=f?:=by
   obtain rfl|h:=V
   exact jl _;exact GO h
  have h2:sr (dF<|(e::C).getLast i!) (dF x)=f?:=by
   obtain h|h:=hb
   rw[<-h];exact jl _;exact GO h
  exact Ox _ _ _ _ (uv (dF e)<|dF<|(e::C).getLast i!) (tk (dF e)<|dF<|(e::C).getLast i!) Y h2;exact uy _ _ _ (U _<|Zv.2 ⟨e,i!,q?⟩)<|U _<|Zv.2 ⟨_,List.getLast_mem _,q?⟩
def U'{s:Wd}(h:o <+: s)(J:s≠o):sr o s=t?:=by
 obtain B|B|B:=jz o s
 exact B;exact absurd B.symm J;exfalso;obtain⟨t,rfl⟩:=h;clear J;induction o with
 |nil=>cases t<;>simp[sr]at B
 |cons a o O=>
  simp only[B!,sr,Z7,decide_eq_true_eq,IT,beq_self_eq_true,true_and]at B;obtain B|B:=B
  simp at B;exact O B
def Wi{a b:Wd}(O:o <+: a)(hb:o <+: b)(B:l? o<l? a)(J:l? o<l? b)(h:sr b a=f?):(a.getD o.length 0).toNat<=(b.getD o.length 0).toNat:=by
 obtain⟨s,rfl⟩:=O;obtain⟨t,rfl⟩:=hb;induction o with
 |nil=>
  cases s with
  |nil=>simp at B|cons x s=>
   cases t with
   |nil=>simp at J|cons y t=>simp only[E!,sr,s6,decide_eq_false_iff_not,Y?]at h;simp;omega
 |cons x o U=>simp only[B!,sr,s6,sB,decide_eq_false_iff_not,beq_self_eq_true,true_implies]at h;have:=U (u! B) (u! J) h.2;simpa using this
def Dl(W:km f)(U:∀e∈f,o <+: dF e):(∀e∈f.take (lF f o.length),dF e=o)/\∀e∈f.drop (lF f o.length),dF e≠o:=by
 have Y:f.take (lF f o.length)=f.takeWhile λe=>(dF e).length==l? o:=by
  unfold lF;conv=>lhs;arg 2;rw[<-D? (p:=λe=>(dF e).length==l? o) (l:=f)]
  rw[md]
 have e2:f.drop (lF f o.length)=f.dropWhile λe=>(dF e).length==l? o:=by
  unfold lF;conv=>lhs;arg 2;rw[<-D? (p:=λe=>(dF e).length==l? o) (l:=f)]
  rw[mp]
 rw[Y,e2];refine⟨λe J=>?_,λe J V=>?_⟩;have h1:=UY f e J;exact((U e<|(Q? _).mem J).eq_of_length<|by simpa using(beq_iff_eq.1 h1).symm).symm;have hs:km<|f.dropWhile λe=>(dF e).length==l? o:=uL (k6 _) W;have hm:∀e∈f.dropWhile (λe=>(dF e).length==l? o),o <+: dF e:=λe J=>U e<|(k6 _).mem J;have hd:=Of (p:=λe=>(dF e).length==l? o) f;generalize f.dropWhile _=B at *
 cases B with
 |nil=>simp at J|cons b B=>
  have hb:=hd b B rfl;have O:dF b≠o:=λh=>by rw[h]at hb;simp at hb
  simp only[Zm]at J;obtain rfl|J:=J
  exact O V;have:=GO<|(ZS.1 hs).1 e J;rw[V,U' (hm b i!) O]at this;cases this
def Cl(p:Wd):∀(L:E?),km L->(∀e∈L,p <+: dF e/\dF e≠p)->∃O:List<|UInt8×E?,runs p.length L=O.map (·.2)/\OM O/\CU p O/\mH O=L/\(∀x∈O,km x.2)/\∀x∈O,∃e g,x.2=e::g/\x.1=fW p.length e:=by
 intro L;induction L with
 |nil=>intro _ _;exact⟨[],q?,List.Pairwise.nil,λ_ h=>by simp at h,q?,λ_ h=>by simp at h,λ_ h=>by simp at h⟩|cons e L ih=>
  intro hL Y;have V:=ZS.1 hL;let ⟨O,h1,h2,h3,h4,h5,h6⟩:=ih V.2 (λx J=>Y x<|by simp[J]);have W:p++[fW _ e] <+: dF e:=(iD _ _ _).2 ⟨(Y e i!).1,oz (Y e i!).1 (Y e i!).2,q?⟩
  cases O with
  |nil=>refine⟨[(fW p.length e,[e])],?_,i3 _ _,?_,?_,?_,?_⟩;rw[runs,h1];rfl;intro x J;simp at J;subst J;exact⟨i!,λy U=>by simp at U;subst U;exact W⟩;simp only[mH,hQ]at h4;rw[<-h4];rfl;intro x J;simp at J;subst J;exact i3 _ _;intro x J;simp at J;subst J;exact⟨e,[],q?,q?⟩
  |cons y O=>
   let ⟨x,g,U,aa⟩:=h6 y i!;let ⟨yc,yg⟩:=y;simp only at U aa;subst U;subst aa;have ab:runs _ L=(x::g)::O.map _:=h1;by_cases hb:fW p.length e=fW p.length x;refine⟨(fW p.length e,e::x::g)::O,?_,?_,?_,?_,?_,?_⟩;rw[runs,ab];simp[hb];have:=ZS.1 h2;exact ZS.2 ⟨λz B=>by have:=this.1 z B;rwa[hb],this.2⟩;intro z B;simp only[Zm]at B;obtain rfl|B:=B
   refine⟨i!,λw hw=>?_⟩;obtain rfl|hw:=Zm.1 hw
   exact W;show p++[fW p.length e] <+: dF w;rw[hb];exact(h3 (fW _ x,x::g) i!).2 w hw;exact h3 z (by simp[B]);rw[<-h4];rfl;intro z B;simp only[Zm]at B;obtain rfl|B:=B
   refine ZS.2 ⟨λw hw=>V.1 w ?_,h5 (fW p.length x,x::g) i!⟩;rw[<-h4];exact k8 _ hw;exact h5 z (by simp[B]);intro z B;simp only[Zm]at B;obtain rfl|B:=B
   exact⟨e,x::g,q?,q?⟩;exact h6 z (by simp[B]);refine⟨(fW p.length e,[e])::(fW p.length x,x::g)::O,?_,?_,?_,?_,?_,?_⟩;rw[runs,ab];simp[hb];have J:x∈L:=by rw[<-h4];simp[mH]
   have ac:(fW p.length e).toNat<(fW p.length x).toNat:=by have a1:=Y e i!;have a2:=Y x (by simp[J]);have:=Wi a1.1 a2.1 (oz a1.1 a1.2) (oz a2.1 a2.2)<|GO<|V.1 x J;have ad:(fW _ e).toNat≠(fW _ x).toNat:=λh=>hb<|H?.1 h;unfold fW at *;omega
   refine ZS.2 ⟨λz B=>?_,h2⟩;simp only[Zm]at B;obtain rfl|B:=B
   exact ac;have:=(ZS.1 h2).1 z B;exact Nat.lt_trans ac this;intro z B;rw[Zm]at B;obtain rfl|B:=B
   exact⟨i!,λy U=>by simp at U;subst U;exact W⟩;exact h3 z B;rw[<-h4];rfl;intro z B;rw[Zm]at B;obtain rfl|B:=B
   exact i3 ..;exact h5 z B;intro z B;rw[Zm]at B;obtain rfl|B:=B
   exact⟨e,[],q?,q?⟩;exact h6 z B
def JN(h:km f)(B:∀e∈f,dF e=o):kp f:=by
 refine vb (fun {a b} ha hb h=>?_) h;obtain h|h:=h
 rw[B a ha,B b hb,jl]at h;cases h;exact h.2
def X2:∀(f)(p:Wd)(L:E?),km L->(∀e∈L,p <+: dF e)->jJ f p.length L=jP f p (eY L):=by
 intro f;induction f with
 |zero=>intro p L _ _;rfl|succ f ih=>
  intro p L W hp;obtain⟨h1,h2⟩:=Dl W hp;let ⟨hs,r1,r2,r3,r4,r5,r6⟩:=Cl p _ (uL (ly ..) W)<|λe V=>⟨hp e<|V! V,h2 e V⟩;have B:L.take (lF L p.length)++mH hs=L:=by rw[r4,S!]
  have hb:=Ck f p _ hs (JN (uL (List.take_sublist ..) W) h1) h1 r2 r3;rw[B]at hb
  have J:(L.take<|lF L p.length).length=lF L p.length:=by have:lF L p.length<=l? L:=(Q? _).length_le;simp;omega
  rw[hb,jJ,r1,Z5,J,lE];congr 4;refine mV λx Y=>?_;have O:=(r3 x Y).1;have U:=U0 _ O<|r5 x Y;unfold Part;rw[U,ih _ _ (r5 x Y)<|λe V=>?_];rw[<-U];exact(oZ O).1 _<|Zv.2 ⟨e,V,q?⟩
def names(l:E?):List Wd:=l.map eE.name
def jN:ix f p=t?↔p.1 ∉ names f:=by
 unfold ix names;constructor;intro h;apply yY
 cases B:jC f _ with
 |none=>rfl|some i=>rw[B]at h;simp at h
 intro h;rw[ta h];rfl
def nR{a b:E?}:p∈dT a b↔(p∈a/\p.1 ∉ names b)\/p∈b:=by unfold dT;rw[Z3,Zb,jN]
def ru:o∈names f↔∃e∈f,e.1=o:=by unfold names;rw[Zv]
def MR{a b:E?}:o∈names (dT a b)↔o∈names a\/o∈names b:=by
 rw[ru,ru,ru];constructor;rintro⟨e,B,rfl⟩;obtain h|h:=nR.1 B
 exact .inl ⟨e,h.1,q?⟩;exact .inr ⟨e,h,q?⟩;rintro(⟨e,B,rfl⟩|⟨e,B,rfl⟩);by_cases h:e.1∈names b;obtain⟨f,J,O⟩:=ru.1 h;exact⟨f,nR.2<|.inr J,O⟩;exact⟨e,nR.2<|.inl ⟨B,h⟩,q?⟩;exact⟨e,nR.2<|.inr B,q?⟩
def wA{a b:E?}(B:(a.map eE.name).Nodup)(hb:(b.map eE.name).Nodup):((dT a b).map eE.name).Nodup:=by unfold dT;rw[Z4,Zn];refine⟨B.sublist<|ZN.map _,hb,?_⟩;intro x J y O e;subst e;obtain⟨f,U,rfl⟩:=Zv.1 J;exact(jN.1 (Zb.1 U).2) O
def sG{a:E?}(B:(a.map eE.name).Nodup):((dE a).map eE.name).Nodup:=B.sublist<|ZN.map _
def Iw{b c:E?}(h:∀x,x∈names b↔x∈names c)(e):ix b e=ix c e:=by rw[Z8,jN,jN,h]
def PD{a b:E?}(J:a.Perm f)(B:b.Perm C):(dT a b).Perm<|dT f C:=by refine ut ?_ B;have:a.filter _=a.filter _:=d? λe _=>Iw (λx=>(B.map _).mem_iff) e;rw[this];exact J.filter _
def Ae{a b:E?}(h:a.Perm b):(dE a).Perm<|dE b:=h.filter _
def tf(a b c:E?):dT (dT a b) c=dT a (dT b c):=by
 have h:∀e,ix (dT b c) e=(ix b e&&ix c e):=by intro e;rw[Z8,IT,jN,jN,jN,MR];exact not_or
 unfold dT at h⊢;rw[Zj,ZV,Zq];congr 1;refine d? λe _=>?_;rw[h e,sA]
def ub(a:E?):dT [] a=a:=by simp[dT]
def pC(a:E?):dT a []=a:=by unfold dT;rw[Z6,ZO];intro e _;exact jN.2 (by simp[names])
def pI(a b:E?):dE (dT (dE a) b)=dE (dT a b):=by unfold dE dT;rw[Zj,Zj,ZV,ZV];congr 1;rw[ZV];refine d? λe _=>?_;cases e.2<;>simp
def nQ(a:E?):dE (dE a)=dE a:=by unfold dE;rw[ZV];refine d? λe _=>?_;cases e.2<;>simp
def IR(L:List<|E?):∀a:E?,dE (L.foldl dT<|dE a)=dE (L.foldl dT a):=by
 induction L with
 |nil=>intro a;exact nQ a|cons b L B=>intro a;rw[G?,G?,<-B _,pI,B]
def gP(L:List<|E?):List eE:=L.foldl dT []
def mR(L M:List<|E?):gP (L++M)=M.foldl dT (gP L):=by unfold gP;rw[b!]
def fE(L:List<|E?)(b:E?):gP (L++[b])=dT (gP L) b:=by rw[mR];rfl
def Da(ss:List<|E?)(k):kw ss k=gP (ss.take k):=rfl
def iL(ss:List<|E?)(B:E?):dV ss B=dE (gP<|ss++[B]):=by unfold dV;rw[fE,Da,o?]
def nh(a b:E?):(dE b).length<=(dE<|dT a b).length:=by unfold dT dE;rw[Zj,Zh];omega
def r9(a:E?):(dE a).length<=l? a:=No ..
def lz(l:E?):l? l-(dE l).length=(l.filter λe=>e.2).length:=by
 have h:∀l,(l.filter λe=>e.2).length+(dE l).length=l? l:=by
  intro l;unfold dE;induction l with
  |nil=>rfl|cons e l B=>cases h:e.2<;>simp[h]<;>omega
 have:=h l;omega
structure Inv(buf:E?)(ss:List (E?)):Prop where
 each:∀e∈buf,Sh e
 nodup:(buf.map eE.name).Nodup
 gone:(buf.filter λe=>e.2).length<=100
 CP:∀s∈ss,nz s
 few:l? ss<=6
 there:∀k,k<=l? ss->(dE (gP (ss.take k))).length<=30
 all:(dV ss buf).length<=30
def OU:Inv [] []:=⟨nofun,List.Pairwise.nil,i!,nofun,i!,λk _=>by simp[gP,dE],by simp[dV,kw,dT,dE]⟩
def vD(B:E?)(e):((dT B [e]).filter λe=>e.2).length<=(B.filter λe=>e.2).length+(if e.2 then 1 else 0):=by
 unfold dT
 have J:(B.filter λx=>x.2&&ix [e] x).length<=(B.filter λx=>x.2).length:=by rw[show(B.filter _)=(B.filter λx=>x.2).filter _ by rw[ZV];exact d? λx _=>sA ..];exact No ..
 cases h:e.2<;>simp[h]<;>omega
def Inv.Yb(h:Inv f g)(J:Sh p)(O:((dT f [p]).filter λp=>p.2).length<=100)(U:(dV g<|dT f [p]).length<=30):Inv (dT f [p]) g where
 each:=λx V=>by
  obtain B|B:=nR.1 V
  exact h.1 x B.1;simp only[Zg]at B;subst B;exact J
 nodup:=wA h.2 i!;gone:=O;CP:=h.4;few:=h.5;there:=h.6;all:=U
def Ah(ss:List<|E?)(B:E?)(e):dV ss (dT B [e])=dE (dT (gP<|ss++[B]) [e]):=by rw[iL,fE,fE,tf]
def xW(T:E?)(e):dE (dT T [e])=(dE T).filter (ix [e])++dE [e]:=by unfold dE dT;rw[Zj,ZV,ZV];congr 1;exact d? λx _=>sA ..
def O9(h:Inv f g)(name text)(dR dY):Inv (kM f g name text dR dY).2 g:=by
 unfold kM;split;rename_i W;split;rename_i U;split;exact h;split;exact h;rename_i hm;apply h.Yb<|.inl ⟨q?,W,U.1,U.2,j!,j!,j!,j!⟩;have:=vD f ⟨name,f?,text,dR,dY⟩;have:=h.3;simp only[Zk,if_false]at *;omega;rw[Ah,xW,Zh];have e1:(dE [⟨name,f?,text,dR,dY⟩]).length=1:=rfl;have Y:=h.7;rw[iL]at Y hm;generalize dE _=T at *;by_cases B:30<=l? T
 have J:name∈names T:=by by_cases V:name∈names T;exact V;exact absurd (ta V)<|λhf=>hm ⟨B,hf⟩
 let ⟨x,hx,O⟩:=ru.1 J
 have:(T.filter<|ix [⟨name,f?,text,dR,dY⟩]).length<l? T:=by rw[List.length_filter_lt_length_iff_exists];refine⟨x,hx,?_⟩;rw[jN];simp[names,O]
 omega;have:=No (ix [⟨name,f?,text,dR,dY⟩]) T;omega;exact h;exact h
def Ou(h:Inv f g)(name):Inv (mn f g name).2 g:=by unfold mn;split;rename_i B;split;exact h;split;exact h;rename_i J;rw[lz]at J;apply h.Yb<|.inr ⟨q?,B⟩;have:=vD f ⟨name,t?,[],0,0⟩;simp only[if_true]at this;omega;rw[Ah,xW,Zh];have U:(dE [⟨name,t?,[],0,0⟩]).length=0:=rfl;have O:=h.7;rw[iL]at O;have:=No (ix [⟨name,t?,[],0,0⟩])<|dE<|gP<|g++[f];omega;exact h
def vI(l:E?):((dE l).filter λe=>e.2)=[]:=by rw[R!];intro e B;have:=(Zb.1 B).2;simpa using this
def BG(J:∀e∈f,Sh e)(O:(f.map eE.name).Nodup)(B:0<l? f)(U:(f.filter λe=>e.2).length<=100)(V:(dE f).length<=30):nz f:=
 ⟨J,O,λe=>by rw[e]at B;simp at B,U,V⟩
def Ej(h:Inv f g):Inv (fZ f g).2.1 (fZ f g).2.2:=by
 unfold fZ;split;exact h;split;exact h
 have J:∀B,(∀s∈B,nz s)->l? B<=6->(∀k,k<=l? B->(dE _).length<=30)->Inv [] B:=λB g1 g2 Y=>
  ⟨nofun,List.Pairwise.nil,i!,g1,g2,Y,by
    rw[iL,fE,pC];have:=Y _<|Zu _;rw[o?]at this
    exact this⟩
 have fu:=h.7;rw[iL,fE]at fu;have W:=ZE (nh ..) fu;split;rename_i hpos;refine J _ ?_ j! ?_;intro s hs;obtain V|V:=Z3.1 hs
 exact h.4 s V;simp only[Zg]at V;subst V;unfold iE at hpos⊢;split
 rename_i O;rw[if_pos O]at hpos;refine BG (λe he=>h.1 e (Zb.1 he).1) (sG h.2) hpos ?_ ?_;rw[vI];simp;rwa[nQ];rename_i O;rw[if_neg O]at hpos;exact BG h.1 h.2 hpos h.3 W;intro k hk;by_cases U:k<=l? g;rw[hV U];exact h.6 k U;rw[If j!,fE];unfold iE;split;rename_i O;have:=ej.1 O;subst this;show(dE<|dT [] _).length<=30;rwa[ub,nQ];exact fu;exact J g h.4 h.5 h.6
def zO(L M:List<|E?)(a b:E?):gP (L++[dT a b]++M)=gP (L++[a,b]++M):=by rw[mR _ M,mR _ M,fE];rw[show L++[a,b]=(L++[a])++[b] by simp,fE,fE,tf]
def Nr(n:Nat)(a b:E?):List eE:=if n=0 then dE (dT a b)else dT a b
def tA(n:Nat)(a b:E?):List<|E?:=if 0<(Nr n a b).length then [Nr n a b]else []
def W3{a b:E?}(h:f∈tA i a b):f=Nr i a b/\0<l? f:=by unfold tA at h;split at h;rename_i B;simp only[Zg]at h;subst h;exact⟨q?,B⟩;simp at h
def xr(L X:List<|E?)(a b:E?):dE (gP<|L++(tA L.length a b++X))=dE (gP<|L++([a,b]++X)):=by
 unfold tA Nr;by_cases B:l? L=0;have:=ej.1 B;subst this;simp only[F!,if_true,E!]
 have J:gP ([a,b]++X)=X.foldl dT (dT a b):=by show X.foldl dT _=_;rw[ub]
 rw[J,<-IR X _];split;show dE (X.foldl dT _)=_;rw[ub];have:dE (dT a b)=[]:=ej.1 o!;rw[this];rfl;rw[if_neg B];split;rw[<-Zq,<-Zq,zO];have O:dT a b=[]:=ej.1 o!;have e:=zO L X a b;rw[O]at e
 have U:gP (L++[[]]++X)=gP (L++([]++X)):=by rw[mR,fE,pC,E!,mR]
 rw[<-U,e,Zq]
def Fy(ss:List<|E?)(n)(h:n+1<l? ss):ss=ss.take n++([ss.getD n [],ss.getD (n+1) []]++ss.drop (n+2)):=by
 have B:ss.getD n []=ss[n]:=by rw[AS,BY _];rfl
 have J:ss.getD (n+1) []=ss[n+1]:=by rw[AS,BY _];rfl
 rw[B,J]
 have O:ss.drop n=ss[n]::ss[n+1]::ss.drop (n+2):=by rw[M? _,M? _]
 have:=S! n ss;rw[O]at this;exact this.symm
def Mg(ss:List<|E?)(n):(if 0<(kL ss n).length then [kL ss n]else [])=tA n (ss.getD n []) (ss.getD (n+1) []):=rfl
def KU(ss:List<|E?)(n)(h:n+1<l? ss)(Y:List<|E?):dE (gP<|(ss.take n++(tA n (ss.getD n []) (ss.getD (n+1) [])++ss.drop (n+2)))++Y)=dE (gP<|ss++Y):=by
 have B:(ss.take n).length=n:=j!;have e:=xr (ss.take n) (ss.drop (n+2)++Y) (ss.getD n [])<|ss.getD (n+1) [];rw[B]at e;conv=>rhs;rw[Fy ss n h]
 simp only[Zq]at e⊢;exact e
def Xb(n)(a b:E?):(tA n a b).length<=1:=by unfold tA;split<;>simp
def r8{J:Type}(A B:List J)(k)(h:l? A<=k):(A++B).take k=A++B.take (k-l? A):=by rw[List.take_append,If h]
def EG(h:Inv f g)(n):Inv f (gI g n).2:=by
 unfold gI;split;exact h;split;exact h;rename_i hn hg;obtain⟨m,rfl⟩:∃m:Nat,n=m:=⟨n.toNat,o!⟩;have hm:m+1<l? g:=o!;rw[xb]at *;rw[Mg]at *;show Inv f (g.take m++(tA m (g.getD m []) (g.getD (m+1) [])++g.drop (m+2)));have V:=Fy g m hm;have ab:=KU g m hm [f]
 have J:g.getD m []∈g/\g.getD (m+1) []∈g:=by rw[AS,AS,BY o!,BY hm];exact⟨Zw _,Zw _⟩
 have hA:=h.4 _ J.1;have hB:=h.4 _ J.2;change ¬100<(Nr m (g.getD m [])<|g.getD (m+1) []).length-(dE<|Nr m (g.getD m [])<|g.getD (m+1) []).length at hg;clear J;generalize g.getD m []=A at *;generalize g.getD (m+1) []=B at *;have ae:=Xb m A B
 have ac:(dE<|dT A B).length<=30:=by
  have O:=h.6 (m+2) o!
  have e:g.take (m+2)=g.take m++[A,B]:=by
   conv=>lhs;rw[V]
   rw[r8 _ _ _ j!];have:(g.take m).length=m:=j!;rw[this,(o!:m+2-m=2)];simp
  rw[e,show g.take m++[A,B]=(g.take m++[A])++[B] by simp,fE,fE,tf]at O;exact ZE (nh _ _) O
 refine⟨h.1,h.2,h.3,?_,?_,?_,?_⟩;intro s hs;obtain h1|h1:=Z3.1 hs
 exact h.4 s<|Za h1;obtain h1|h1:=Z3.1 h1
 obtain⟨h1,W⟩:=W3 h1;rw[<-h1,lz]at hg;unfold Nr at h1
 have Y:∀e∈s,e∈dT (A) (B):=by intro e U;rw[h1]at U;split at U;exact(Zb.1 U).1;exact U
 have aa:=wA hA.2 hB.2;refine BG (λe U=>?_) ?_ W o! ?_;obtain O|O:=nR.1<|Y e U
 exact hA.1 e O.1;exact hB.1 e O;rw[h1];split;exact sG aa;exact aa;rw[h1];split;rwa[nQ];exact ac;exact h.4 s<|V! h1;have:=h.5;simp only[Zh,dd,u?];omega;intro k hk;by_cases ad:k<=m;rw[hV j!,mb,ov ad];exact h.6 k o!;have e0:(g.take m).length=m:=j!;rw[r8 _ _ _ o!,e0,r8 _ _ _ o!];have e:=xr (g.take m) ((g.drop<|m+2).take<|k-m-(tA m A B).length) (A)<|B;rw[e0]at e;rw[e]
 have e4:g.take m++([A,B]++(g.drop<|m+2).take (k-m-(tA m A B).length))=g.take (m+2+(k-m-(tA m A B).length)):=by
  conv=>rhs;rw[V]
  rw[r8 _ _ _ o!,r8 _ _ _ j!];simp;omega
 rw[e4];apply h.there _;simp only[Zh,dd,u?]at hk;omega;rw[iL,ab,<-iL];exact h.7
def iT(B:E?)(ss:List<|E?)(J:Wd):Nat×List (E?):=
 match gG J with
 |none=>(7,ss)
 |some l=>if 0<B.length then(3,ss)else if 6<l? ss+1\/30<(dV (ss++[l]) []).length then(4,ss)else(0,ss++[l])
def uO(h:gG o=y? f):nz f/\fc f=o:=by rw[yx]at h;split at h;simp at h;obtain⟨x,B,rfl⟩:=Option.map_eq_some_iff.1 h;have:=CO B;exact⟨this.1,this.2.1.symm⟩
def Hp(h:Inv f g)(bs):Inv f (iT f g bs).2:=by
 unfold iT;split;exact h;rename_i l U;split;exact h;split;exact h;have O:f=[]:=ej.1 o!;subst O
 have W:=by have:(dV (g++[l]) []).length<=30:=o!;rwa[iL,fE,pC]at this
 refine⟨h.1,h.2,h.3,?_,j!,?_,by show(dV (g++[l]) []).length<=30;omega⟩;intro s V;obtain J|J:=Z3.1 V
 exact h.4 s J;simp only[Zg]at J;subst J;exact(uO U).1;intro k Y;by_cases B:k<=l? g;rw[hV B];exact h.6 k B;rwa[If j!]
open Maps
def xp(es:E?)(e)(v)(B:v=ve e):tL (es.map mQ) e.1 v=(dT es [e]).map mQ:=by
 subst B;unfold tL dT;rw[Z4,List.filter_map]
 have:(es.filter<|(λp=>p.1 != e.1) ∘ mQ)=es.filter (ix [e]):=by refine d? λx _=>?_;rw[Z8,jN];simp[names,mQ]
 rw[this];rfl
def fN.perm(h:fN l i f)(B:f.Perm C):fN l i C:=ed.perm h<|B.map mQ
def fN.nodup(h:fN l i f):(f.map eE.name).Nodup:=by have:=ed.nodup h;rwa[List.map_map]at this
def VC(B)(es:E?)(e:eE)(w)(hs:fN w B es)(hg:e.2=f?)(hl:l? es<1099511627776)(V:l? e.1<=nl) :
  nr prog 72 #[.map<|y? B,CE e] w λen w'=>en=e? (.tuple #[])/\fN w' B (dT es [e])/\dy (· = B) w w':=by
 obtain⟨nm,gn,tx,wt,tg⟩:=e;simp only at hg;subst hg;obtain⟨w0,O⟩:∃w0,w.alloc (c? #[s? ⟨a? nm⟩,s? ⟨a? tx⟩,n? i? wt,n? i? tg] 96)=w0:=⟨_,q?⟩;have J:B? w w0:=by rw[<-O];exact(oA _ _).alloc (Zu _) _
 have U:w0.1[w.1.size]?=y? (c? #[s? ⟨a? nm⟩,s? ⟨a? tx⟩,n? i? wt,n? i? tg] 96 (0,0)):=by rw[<-O];exact U! w _
 have d0:=dx U;have W:=h! J;have Y:J?<|fN w0 B es:=ed.below hs J;have HP:J?<|tL _ nm _=(dT es _).map mQ:=(xp es ⟨nm,f?,tx,wt,tg⟩ (.agg #[.bool f?,s? ⟨a? nm⟩,s? ⟨a? tx⟩,n? _ wt,n? _ tg]) q?);clear hs U J;unfold CE;go_enter func72,ntmps72;go_wp2_with (first|(at_mapUpdate;apply lq _ q? _ _ _ 85 q? 111 oQ oN q? Y (by rw[Z5];unfold nl;omega) nm V q? (.agg #[.bool f?,s? ⟨a? nm⟩,s? ⟨a? tx⟩,n? i? wt,n? i? tg]) rfl;intro w1 ab aa ac));go_end0;refine⟨q?,?_,(dy.eF W).then<|dy.rY aa⟩;unfold fN;rwa[<-HP.o]
def GN(B)(es:E?)(nm:Wd)(w)(V:fN w B es)(hl:l? es<1099511627776)(J:l? nm<=nl) :
  nr prog 71 #[.map<|y? B,s? ⟨a? nm⟩] w λW w'=>W=e? (.tuple #[])/\fN w' B (dT es [⟨nm,t?,[],0,0⟩])/\dy (· = B) w w':=by
 have O:J? _:=V;go_enter func71,ntmps71;go_wp2_with (first|(refine lq _ q? _ _ _ 85 q? _ oQ oN q? O (by rw[Z5];unfold nl;omega) nm J q? _ q? ?_;intro w1 Y U aa));go_end0;refine⟨q?,?_,dy.rY U⟩;unfold fN;rwa[<-(h!<|xp es ⟨nm,t?,[],0,0⟩ (.agg #[.bool t?,s? ⟨#[]⟩,s? ⟨#[]⟩,n? _ 0,n? _ 0]) q?).o]
def vn(w:w?)(B r:Nat)(es J:E?):Prop:=fg prog 9 w B r (es.map mQ)<|J.map mQ
def fg.perm{P k l a b}(h:fg P k x0 i U l a)(B:a.Perm b):fg P k x0 i U l b:=by obtain⟨J,O,D,left,cnt,V,W,Y⟩:=h;exact⟨(B.map _).nodup_iff.1 J,λp hm=>O p<|B.mem_iff.2 hm,D,left,cnt,V,W,λx=>by rw[Y x,I7 B]⟩
def Wg{p left}(h:(f.map mQ).Perm (p::left)):∃e B,p=mQ e/\left.Perm (B.map mQ)/\f.Perm (e::B):=by obtain⟨e,J,rfl⟩:=Zv.1<|h.mem_iff.2<|ZT ..;obtain⟨a,b,rfl⟩:=List.append_of_mem J;refine⟨e,a++b,q?,?_,p!⟩;exact(h.symm.trans<|by exact p!.map _).cons_inv
def lW(w){ops rest}{o:Oper}{a:Act}{Q}(J:o.6=x?)(m)(B:o.2=Op.range 85 m)(hm:a.eval m=.map (y? i))(h:fN w i f)
  (O:∀w',vn w' i w.1.size f f->w.grownBy w' x?->w'.1.size=w.1.size+1->n7 prog ops Q rest (a.put o.1<|p?<|y? ⟨w.1.size,0,x?⟩) w') :
  n7 prog ops Q (o::rest) a w:=
 DT w J m 85 B _ oQ oN hm h O
def mN(w:w?){ops:Array Oper}{rest:List Oper}{o:Oper}{a:Act}{Q:Exit->Act->w?->Prop}(hg:o.6=x?)(it:Operand)(U:o.2=Op.next it f?)(r:Nat)(J:E?)
  (V:a.eval it=p? (y? ⟨r,0,x?⟩)) (h:vn w i r f J)
  (O:J=[]->n7 prog ops Q rest (a.put o.1<|.tuple #[.bool f?]) w)
  (hMore:∀(e:eE)(B:E?)(w':w?),J.Perm (e::B)->vn w' i r f B->w'.rangeLeft i r<w.rangeLeft i r->w.grownBy w' (y? r)->w'.1.size=w.1.size->
    (Instr.entry<|p?<|y? ⟨r,0,x?⟩).run prog w'=.ok (.tuple #[s? ⟨a? e.1⟩,.agg #[.bool e.2,s? ⟨(Gy e).toArray⟩,s? ⟨a? e.3⟩,n? i? e.4,n? i? e.5]]) w'->
    n7 prog ops Q rest (a.put o.1<|.tuple #[.bool t?,s? ⟨a? e.1⟩,.agg #[.bool e.2,s? ⟨(Gy e).toArray⟩,s? ⟨a? e.3⟩,n? i? e.4,n? i? e.5]]) w') :
  n7 prog ops Q (o::rest) a w:=by
 apply FM w hg it U oQ r _ V h<|λh0=>O<|u! h0;intro p W w' hp hr Y aa ab ac;obtain⟨e,B,rfl,h1,h2⟩:=Wg hp;exact hMore e B w' h2 (hr.perm h1) Y aa ab ac
def vn.alloc(h:vn l i U f C)(o):vn (l.alloc o) i U f C:=fg.kept h (rv l o x?) i! i!
def ku{o}(B:i<l.1.size)(J:U<l.1.size):(l.alloc o).rangeLeft i U=l.rangeLeft i U:=
 fg.l7 (e! _ _ _ B) (e! _ _ _ J)
def nF(h:B? l P)(B:P.grownBy x0<|y? i)(J:l.1.size<=i):B? l x0:=h.grown B h.4 (λk O=>by cases O;exact J)
def kU(es:E?):Nat:=(es.filter λe=>e.2).length
def AU(es:E?)(e:eE):kU (es++[e])=kU es+(if e.2 then 1 else 0):=by unfold kU;cases h:e.2<;>simp[h]
def It(es:E?):kU es<=l? es:=No ..
def Nw(h:f.Perm C):kU f=kU C:=(h.filter _).length_eq
def kI(h:(f++C).Perm x2)(B:C.Perm (p::x1)):((f++[p])++x1).Perm x2:=by refine List.Perm.trans ?_ h;rw[Zq];exact(ua f).append B.symm
def Eo(B)(es:E?)(w)(hs:fN w B es)(hl:es.length<1099511627776) :
  nr prog 70 #[.map<|y? B] w λen w'=>en=.returned (.int i?<|kU es)/\B? w w':=by
 have HS:=h! hs;have ak:=ed.lt hs;clear hs;go_enter func70,ntmps70;go_wp2_with (first|(at_range;apply lW _ rfl _ rfl rfl HS.o;intro w0 Y aj al));go_frame;go_loopw [3] (λg wr=>∃(J O:E?),(J++O).Perm es/\g=.int i? (kU J)/\vn wr B w.1.size es O/\B? w wr) (λ_ wr=>wr.rangeLeft B w.1.size);exact⟨[],es,ua _,q?,Y,(oA _ w).grown aj (Zu _)<|λk hk=>by cases hk⟩;obtain⟨J,O,fL,rfl,hr,hb⟩:=hrel;have HP:=h! fL;have HR:=h! hr;have HB:=h! hb
 have am:kU J<=es.length:=by have h1:=It J;have h2:=fL.length_eq;rw[Zh]at h2;omega
 clear fL hr hb;go_wp2_with (first|(at_next;refine mN _ q? _ q? _ O q? HR.o ?_ ?_))
 .intro h0
  have HE:J?<|kU J=kU es:=by show _=_;apply Nw;have:=HP.o;rwa[h0,Z6]at this
  clear h0;go_wp2;go_ret;exact⟨dQ<|by rw[HE.o],HB.o⟩
 intro e V w1 aa U W ab ac an;have ad:=fg.lt U;have ae:=ed.lt<|fg.owns U;have af:=h!<|nF HB.o ab<|Zu _;have ag:=h! U;have ah:=h! W;have ai:=h! aa;clear aa U W ab;obtain⟨nm,gn,tx,wt,tg⟩:=e
 cases gn with
 |false=>go_wp2;go_roundw;refine⟨J++[⟨nm,f?,tx,wt,tg⟩],V,kI HP.o ai.o,?_,ag.o.alloc _,af.o.alloc (ZE HB.o.4 (by rw[ac];exact Zu _)) _⟩;rw[AU];simp;rw[ku ae ad];exact ah.o
 |true=>
  go_wp2;go_roundw
  .refine⟨J++[⟨nm,t?,tx,wt,tg⟩],V,kI HP.o ai.o,?_,ag.o.alloc _,af.o.alloc (ZE HB.o.4 (by rw[ac];exact Zu _)) _⟩;rw[AU];go_num
  rw[ku ae ad];exact ah.o
def IU(h:p.1 ∉ f.map eE.name):dT f [p]=f++[p]:=by unfold dT;rw[ZO.2];intro x B;rw[jN];simp only[names,ZK,ZU,Zg];intro J;exact h<|Zv.2 ⟨x,B,J⟩
def Jx(O:(x2.map eE.name).Nodup)(h:(f++C).Perm x2)(U:C.Perm (p::x1)):p.1 ∉ f.map eE.name:=by have B:=((kI h U).map _).nodup_iff.2 O;rw[Z4,Z4,Zn]at B;have J:=B.1;rw[Zn]at J;intro hm;exact J.2.2 _ hm _ i! rfl
def zT(l:E?)(e:eE):dE (l++[e])=dE l++(if e.2 then []else [e]):=by unfold dE;cases h:e.2<;>simp[h]
def F9(h:o ∉ f.map eE.name):o ∉ (dE f).map eE.name:=by intro hm;obtain⟨e,B,rfl⟩:=Zv.1 hm;exact h<|Zv.2 ⟨e,(Zb.1 B).1,q?⟩
def qM(B)(es:E?)(w)(hs:fN w B es)(hl:es.length<1099511627776)(ak:∀e∈es,e.1.length<=nl) :
  nr prog 60 #[.map<|y? B] w λen w'=>∃C,en=.returned (.map<|y? C)/\w.1.size<=C/\fN w' C (dE es)/\B? w w':=by
 have a6:=@yo prog;have al:=hs.nodup;obtain⟨w0,af⟩:∃w0,w.alloc (.map #[] 0)=w0:=⟨_,q?⟩;have ax:w0.1.size=w.1.size+1:=by rw[<-af];simp
 have ag:B? w w0:=by rw[<-af];exact(oA _ _).alloc (Zu _) _
 have ay:fN w0 w.1.size []:=by rw[<-af];exact ed.made w
 have HS:J?<|fN w0 B es:=ed.below hs ag;have az:=h! al;have a0:=h! ak;have a7:=ed.lt hs;clear hs al ak;go_enter func60,ntmps60;go_wp2_with (first|(at_range;apply lW _ rfl _ rfl rfl HS.o;intro w1 ab am a1));rw[ax]at ab a1⊢;go_frame;go_loopw [4] (λ_ wr=>∃(J U:E?),(J++U).Perm es/\vn wr B (w.1.size+1) es U/\fN wr w.1.size (dE J)/\B? w wr) (λ_ wr=>wr.rangeLeft B<|w.1.size+1);exact⟨[],es,ua _,ab,ed.kept ay am i!,ag.grown am ag.4<|λk hk=>by cases hk⟩;obtain⟨J,U,fL,hr,hm,hb⟩:=hrel;have HP:=h! fL;have HR:=h! hr;have HM:=h! hm;have HB:=h! hb
 have a8:(dE J).length<=es.length:=by have h1:=r9 J;have h2:=fL.length_eq;rw[Zh]at h2;omega
 clear fL hr hb hm;go_wp2_with (first|(at_next;refine mN _ q? _ q? _ U q? HR.o ?_ ?_))
 .intro h0
  have HE:J?<|J.Perm es:=by show List.Perm _ _;have:=HP.o;rwa[h0,Z6]at this
  clear h0;go_wp2;go_ret;exact⟨_,q?,Zu _,HM.o.perm<|Ae HE.o,HB.o⟩
 intro e ac w2 V W ad ah a2 a9;have an:=fg.lt W;have ao:=ed.lt<|fg.owns W;have ai:=h!<|nF HB.o ah o!;have ap:=h! W;have aq:=h! ad;have ar:=h! V;have au:J?<|fN w2 _ _:=ed.kept HM.o ah i!;have a3:=a0.o e<|HP.o.mem_iff.1<|Z' _<|V.mem_iff.2<|ZT ..;have ae:=Jx az.o HP.o V;have O:=xp (dE J) e (.agg _) rfl;rw[IU<|F9 ae]at O;have Y:=zT J e;clear V W ad ah ae;obtain⟨nm,gn,tx,wt,tg⟩:=e
 cases gn with
 |true=>
  have aj:J?<|dE (J++[⟨nm,t?,tx,wt,tg⟩])=dE J:=h!<|by rw[Y];simp
  clear Y O;go_wp2;go_roundw;exact⟨J++[⟨nm,t?,tx,wt,tg⟩],ac,kI HP.o ar.o,ap.o.alloc _,by rw[aj.o];exact ed.kept au.o (rv _ _ x?) i!,ai.o.alloc (ZE HB.o.4 (by rw[a2];exact Zu _)) _⟩;rw[ku ao an];exact aq.o
 |false=>
  have aj:J?<|dE (J++[⟨nm,f?,tx,wt,tg⟩])=dE J++[⟨nm,f?,tx,wt,tg⟩]:=h!<|by rw[Y];simp
  have av:J?<|tL _ nm (.agg #[.bool f?,.string _,.string ⟨a? tx⟩,.int _ wt,.int _ tg])=(dE J++[(⟨nm,f?,tx,wt,tg⟩:eE)]).map mQ:=O;clear Y O;have aw:=λo:Obj=>ed.kept au.o (rv w2 o x?) i!;have a4:=h! aw;clear aw;go_wp2_with (first|(at_mapUpdate;apply lq _ rfl _ _ _ 85 rfl 111 oQ oN rfl (a4.o _) (by rw[Z5];unfold nl;omega) nm a3 rfl (.agg #[.bool f?,.string ⟨(Gy (⟨nm,f?,tx,wt,tg⟩:eE)).toArray⟩,.string ⟨a? tx⟩,.int i? wt,.int i? tg]) rfl;intro w3 a' aa aA));have a5:=ai.o.4;refine⟨⟨J++[⟨nm,f?,tx,wt,tg⟩],ac,kI HP.o ar.o,fg.kept (ap.o.alloc _) aa j! i!,?_,(ai.o.alloc a5 _).grown aa j! (λk hk=>by cases hk;exact Zu _)⟩,?_⟩;rw[aj.o];unfold fN;rwa[<-av.o];rw[fg.l7 (aa.5 B j! j!)<|aa.5 _ j! i!,ku ao an];exact aq.o
def UP(B C)(ds es:E?)(w)(hd:fN w B ds)(hs:fN w C es)(av:B≠C)(hl:l? es<549755813888)(aw:l? ds<549755813888)(ad:∀e∈es,l? e.1<=nl) :
  nr prog 89 #[.map<|y? B,.map<|y? C] w λen w'=>en=e? (.tuple #[])/\fN w' B (dT ds es)/\dy (· = B) w w':=by
 have HS:=h! hs;have HD:=h! hd;have ai:=h! hs.nodup;have aj:=h! ad;have ax:=ed.lt hd;have ay:=ed.lt hs;clear hs hd ad;go_enter func89,ntmps89;go_wp2_with (first|(at_range;apply lW _ rfl _ rfl rfl HS;intro w1 ae O az));go_frame;go_loopw [4] (λ_ wr=>∃(J V:E?),(J++V).Perm es/\vn wr C w.1.size es V/\fN wr B (dT ds J)/\dy (· = B) w wr) (λ_ wr=>wr.rangeLeft C w.1.size);exact⟨[],es,ua _,ae,by rw[pC];exact ed.kept HD O i!,⟨O.1,O.2,O.3,O.4,λk hk _=>O.5 k hk i!⟩⟩;obtain⟨J,V,fL,hr,hm,hb⟩:=hrel;have HP:=h! fL;have HR:=h! hr;have HM:=h! hm;have HB:=h! hb
 have a0:(dT ds J).length<=1099511627775:=by have h1:=uS ds J;have h2:=fL.length_eq;rw[Zh]at h2;omega
 clear fL hr hb hm;go_wp2_with (first|(at_next;refine mN _ q? _ q? _ V q? HR ?_ ?_))
 .intro h0
  have HE:J?<|J.Perm es:=by show List.Perm _ _;have:=HP.o;rwa[h0,Z6]at this
  clear h0;go_wp2;go_end0;exact⟨q?,HM.perm<|PD (ua _) HE,HB⟩
 intro e af w2 W Y ab ac a1 a2;have ak:=fg.lt Y;have al:=ed.lt<|fg.owns Y;have a3:=HB.4;have am:=h!<|HB.trans (dy.rY ac)<|λi hi hg=>o!;have an:=h! Y;have ao:=h! ab;have ap:=h! W;have ag:J?<|fN w2 B _:=ed.kept HM ac j!;have aq:=aj.o e<|HP.mem_iff.1<|Z' _<|W.mem_iff.2<|ZT ..;have U:=xp (dT ds J) e (.agg _) rfl;rw[tf,IU<|Jx ai.o HP.o W]at U;have ah:=h! U;have ar:J? _:=λo=>ed.kept ag (rv w2 o x?) i!;clear W Y ab ac U;go_wp2_with (first|(at_mapUpdate;apply lq _ q? _ _ _ 85 q? 111 oQ oN q? (ar _) (by rw[Z5];unfold nl;omega) e.name aq q? (.agg #[.bool e.gone,s? ⟨(Gy e).toArray⟩,s? ⟨a? e.text⟩,n? i? e.dR,n? i? e.dY]) rfl;intro w3 a4 aa a5));have au:=ed.lt ag;refine⟨⟨_,_,_,_,_,_,_,_,_,_,⟨J++[e],af,kI HP ap,fg.kept (an.alloc _) aa j! j!,?_,(am.then<|dy.eF<|(oA _ _).alloc (Zu _) _).then<|dy.rY aa⟩,q?⟩,?_⟩;unfold fN;rwa[<-ah.o];rw[fg.l7 (aa.5 C j! j!)<|aa.5 _ j! j!,ku al ak];exact ao
end
section
open RowKit
variable {f:E?}
def oX(e:eE):Prop:=l? e.1<=1048576/\l? e.3<=1048576/\(-9223372036854775808<=e.4/\e.4<=9223372036854775807)/\-9223372036854775808<=e.5/\e.5<=9223372036854775807
def Th{e}(h:oX e):(lH e).length<=2097160:=by have B:=h.1;have J:=h.2.1;simp[lH,dM,gK];omega
def Kh(m:E?)(h:∀e∈m,oX e):(m.flatMap lH).length<=l? m*2097160:=by
 induction m with
 |nil=>simp|cons e m B=>have O:=Th<|h e i!;have U:=B (λx J=>h x<|by simp[J]);rw[c!,Zh,w!];omega
def Jp(p:Wd)(e:eE)(c:UInt8):Nat:=if ji (dF e) (p++[c])=t? then 1 else 0
def JO(p)(e):∀(cs:List UInt8),(∀c∈cs,ji (dF e) (p++[c])=f?)->(cs.map<|Jp p e).sum=0:=by
 intro cs;induction cs with
 |nil=>intro _;rfl|cons c cs B=>intro h;rw[ZK,J!,B<|λd J=>h d<|by simp[J]];simp[Jp,h c i!]
def XI(p)(e):∀(cs:List UInt8),cs.Nodup->(cs.map<|Jp p e).sum<=1:=by
 intro cs;induction cs with
 |nil=>simp|cons c cs O=>
  intro h;have J:=Z2.1 h;rw[ZK,J!]
  cases hb:ji (dF e) (p++[c])with
  |false=>have:=O J.2;simp only[Jp,hb];simpa using this|true=>rw[JO p e cs<|λd U=>?_];simp[Jp,hb];rw[j?];intro B;have:=tH ((fy ..).1 hb)<|(fy ..).1 B;subst this;exact J.1 U
def Wx(p)(cs:List UInt8)(e)(G:E?):(cs.map λc=>(kR (e::G) p c).length).sum=(cs.map<|Jp p e).sum+(cs.map λc=>(kR G p c).length).sum:=by
 induction cs with
 |nil=>rfl|cons c cs B=>
  simp only[ZK,J!,B]
  have:(kR (e::G) p c).length=Jp p e c+(kR G p c).length:=by unfold kR Jp;rw[A!];split;simp;omega;simp
  omega
def QM(p)(cs:List UInt8)(O:cs.Nodup):∀G:E?,(gF G p).length+(cs.map λc=>(kR G p c).length).sum<=l? G:=by
 intro G;induction G with
 |nil=>
  have:∀cs:List UInt8,(cs.map λc=>(kR [] p c).length).sum=0:=by
   intro cs;induction cs with
   |nil=>rfl|cons c cs J=>rw[ZK,J!,J];rfl
  rw[this];simp[gF]
 |cons e G J=>
  rw[Wx];by_cases B:dF e=p
  have U:=JO p e cs (λc _=>by
   rw[j?];intro hb;have:=((iD ..).1<|(fy ..).1 hb).2.1
   rw[B]at this;omega)
  have V:(gF (e::G) p).length=(gF G p).length+1:=by unfold gF;rw[A!,if_pos<|beq_iff_eq.2 B];rfl
  rw[w!];omega;have U:=XI p e cs O
  have V:(gF (e::G) p).length=(gF G p).length:=by unfold gF;rw[A!,if_neg<|u! B]
  rw[w!];omega
def I4:∀(f)(p)(G:E?),(∀e∈G,oX e)->(jP f p G).length<=f*(l? G*3145743)+5:=by
 intro f;induction f with
 |zero=>simp[jP]|succ f ih=>
  intro p G O;have W:=Kh (gF G p)<|λe U=>O e (Zb.1 U).1;have Y:=QM p _ (pj<|sk G p) G
  have hk:∀cs:List UInt8,(∀c∈cs,c∈jD G p)->(cs.flatMap λc=>dM ((lm<|kR G p c).drop p.length)++jP f (lm<|kR G p c) (kR G p c)).length<=(cs.map λc=>(kR G p c).length).sum*(1048582+f*3145743):=by
   intro cs;induction cs with
   |nil=>simp|cons c cs V=>
    intro hc;have h1:=V (λd hd=>hc d<|by simp[hd]);have B:=rQ<|hc c i!;rw[<-nI]at B;have aa:=gc.2 B;let ⟨e0,J⟩:=L! _ B
    have ab:(lm<|kR G p c).length<=1048576:=by have a:=((oZ B).1 _<|Zv.2 ⟨e0,J,q?⟩).length_le;have b:=(O e0 (jE.1 J).1).2.1;unfold dF at a;rw[eB]at a;omega
    have h2:=ih (lm<|kR G p c) (kR G p c)<|λe U=>O e (jE.1 U).1;have h3:(dM<|(lm<|kR G p c).drop p.length).length<=1048577:=by simp[dM];omega
    rw[c!,Zh,Zh,ZK,J!,o6];generalize (kR G p c).length=n at *;have e1:n*(1048582+f*3145743)=n*1048582+f*(n*3145743):=by rw[o5,Y!]
    omega
  have ac:=hk _<|λ_ h=>h;rw[jP];simp only[Zh,w!];have h3:(gK<|gJ G).length=3:=rfl;generalize ((jD G p).map λc=>(kR G p c).length).sum=m at *;have e1:m*(1048582+f*3145743)=m*1048582+m*(f*3145743):=o5 ..;have e2:(f+1)*(l? G*3145743)=l? G*3145743+l? G*(f*3145743):=by rw[o6,Y!];omega
  have e3:m*(f*3145743)<=l? G*(f*3145743):=IN _ o!;omega
def Cy(f)(l:E?)(p a)(B:∀e∈l,oX e):(mu f l p a).length<=f*(l? l*3145743)+l? p+6:=by rw[EX];have O:=I4 f p (ma l p)<|λe J=>B e (pq.1 J).1;have U:f*((ma l p).length*3145743)<=f*(l? l*3145743):=Nat.mul_le_mul_left _<|IN _<|No ..;rw[Zh];simp only[dM,w!,u?];omega
open Maps
def Js(c:Nat):v?:=.map<|y? c
structure Ty(w:w?)(v:v?)(Cs:List Nat)(ls:List (E?)):Prop where
 rd:Rd w v (Cs.map Js)
 len:l? Cs=l? ls
 each:∀i(h:i<l? ls)(h':i<l? Cs),fN w Cs[i] ls[i]
def A3(B:List<|E?)(k)(h):gP (B.take<|k+1)=dT (gP<|B.take k) B[k]:=by rw[IS h,fE]
def Uw(B:List<|E?)(k)(h:k<l? B):B[k].length<=gO B:=by have J:=qh B k h;have O:=rS B<|k+1;omega
def uw(B:List<|E?)(k)(J:k<=l? B):(gP<|B.take k).length<=gO B:=by have O:=zB B k J;have U:=rS B k;rw[Da]at O;omega
def wz(v)(Cs)(J:List<|E?)(w)(h:Ty w v Cs J)(aj:gO J<=536870912)(ab:∀l∈J,∀e∈l,l? e.1<=nl) :
  nr prog 58 #[v] w λen w'=>∃B,en=e? (.map<|y? B)/\w.1.size<=B/\fN w' B (gP J)/\B? w w':=by
 have ak:=@yo prog;obtain⟨a,cap,rfl,af,hcm,ac⟩:=h.rd;have ad:(Cs.map Js).length=l? J:=by rw[Z5,h.2]
 rw[ad]at af⊢;have al:=za J;unfold nl at hcm;obtain⟨w0,Y⟩:∃w0,w.alloc (.map #[] 0)=w0:=⟨_,q?⟩;have am:w0.1.size=w.1.size+1:=by rw[<-Y];simp
 have HL:=h! h;have ag:=h! ac;have ah:=h! ab;clear h ac ad ab;go_enter func58,ntmps58;go_wp2;go_loopw [9] (λi wr=>∃k:Nat,k<=l? J/\i=n? i? k/\fN wr w.1.size (gP (J.take k))/\B? w wr) (λi _=>l? J-(intOf i).toNat);exact⟨0,ZP _,q?,(by rw[<-Y];exact ed.made w),(by rw[<-Y];exact(oA _ _).alloc (Zu _) _)⟩;obtain⟨k,hk,rfl,hm,hb⟩:=hrel;have HM:=h! hm;have U:=h! hb;clear hm hb;by_cases V:k<l? J
 .have ae:k<l? Cs:=by rwa[HL.2]
  obtain⟨bb,off,rfl,O⟩:=ag.o k (Js Cs[k]) (by simp[ae]);have hc:=Z0 U O;unfold Js at hc;have aa:=HL.3 k V ae;have an:=ed.lt aa;have W:=UP _ _ _ _ wr HM (ed.below aa U) o! (v!<|Uw J k V) (v!<|uw J k hk)<|ah _<|Zw V;rw[<-A3 J k V]at W;clear O aa;go_wp2_with fail;apply W.mono;rintro e w1 ⟨rfl,q1,q2⟩
  have ai:J?<|B? w w1:=by refine⟨q2.1.trans U.1,q2.2.trans U.2,q2.3.trans U.3,ZE U.4 q2.4,λi hi=>?_⟩;rw[q2.5 i (AT hi U.4) o!,U.5 i hi]
  go_wp2;go_roundw
  .exact⟨k+1,o!,by go_num,(h! q1).o,ai⟩
  exact M!
 have HE:J?<|J.take k=J:=If o!;go_wp2;go_ret;refine⟨_,q?,Zu _,?_,U⟩;have:=HM.o;rwa[HE.o]at this
def XH{e}(h:Sh e):oX e:=by
 obtain h|h:=h
 have B:=iq h.2.1;have O:=l9 h.2.2.1;have U:=h.2.2.2.2;exact⟨o!,o!,⟨o!,o!⟩,o!,o!⟩;have B:=iq h.2;have J:e.3=[]:=by rw[h.1]
 have V:e.4=0:=by rw[h.1]
 have W:e.5=0:=by rw[h.1]
 exact⟨o!,by rw[J];simp,⟨o!,o!⟩,o!,o!⟩
def tX{e}(h:Sh e):gr e.1=t?:=by
 obtain h|h:=h
 exact h.2.1;exact h.2
def Mx(l:E?)(h:∀e∈l,l? e.1<=8):(l.flatMap λe=>dM e.1).length<=l? l*9:=by
 induction l with
 |nil=>simp|cons e l B=>rw[c!,Zh];have J:=B<|λx O=>h x<|ZG _ O;have U:=h e<|ZT ..;simp only[dM,w!]at J⊢;omega
def r7(h:nz f):(fc f).length<=3000000000:=by
 unfold fc
 have O:((eY f).filter λe=>e.2).length<=100:=by rw[((ii f).filter _).length_eq];exact h.4
 have U:((eY f).filter λe=>!e.2).length<=30:=by rw[((ii f).filter _).length_eq];exact h.5
 have V:=Mx ((eY f).filter λe=>e.2)<|λe B=>(iq<|tX<|h.1 e<|jG.1 (Zb.1 B).1).2;have W:=I4 26 [] ((eY f).filter λe=>!e.2)<|λe B=>XH<|h.1 e<|jG.1 (Zb.1 B).1;have J:(dM []).length=1:=rfl;simp only[w!,Zh,J];omega
def ox(h:nz f):∀e∈f,l? e.1<=nl:=λe B=>by have:=(iq<|tX<|h.1 e B).2;unfold nl;omega
def kF(h:nz f):l? f<=130:=by have B:=lz f;have J:=h.4;have O:(dE f).length<=30:=h.5;omega
def qS(s:E?)(w)(h:nz s) :
  nr prog 73 #[s? ⟨(fc s).toArray⟩] w λW w'=>∃B,W=e? (.map<|y? B)/\w.1.size<=B/\fN w' B s/\B? w w':=by
 have Y:=r7 h;let ⟨gs,es,O,U⟩:=wk h;have J:=Dt ⟨(fc s).toArray⟩ w (by show(fc s).toArray.size<=_;simp;omega);rw[O]at J;have HP:=h! U;clear U O Y h;go_enter func73,ntmps73;go_wp2_with fail;apply J.mono;rintro e w1 ⟨hb,B,rfl,hB,V⟩;have HS:=h!<|fN.perm V HP;have HB:=h! hb;clear J V hb;go_wp2;go_ret;exact⟨B,q?,hB,HS,HB⟩
def Wr:(prog.info? 85).map (λi=>(i.8,i.3,i.4))=y? (y?<|.map x?,1,8):=by kernel_rfl
structure OL(w:w?)(F:F?)(b:Nat)(buf:E?)(ss:List (E?))(Bb:Nat)(vS vM vK:v?):Prop where
 blk:w.1[b]?=some (.cells #[.map (some Bb),vS,vM,vK] 90 (0,0))
 fb:F b
 fB:F Bb
 say:fN w Bb buf
 row:R? w 0 9 1 vS ss.length (du (ss.map fc))
 Iz:∀k,O? vS=some k->F k
 inv:Inv buf ss
def sx{w}{base e n:Nat}{v}{xs:L?}(O:R? w base e 1 v n xs){P k B l}(hm:ed P k w B l):y? B≠O? v:=by
 obtain⟨rfl,_⟩|⟨g,cap,cur,rfl,_,U,_⟩:=O.2
 simp[tl];intro J;simp only[tl,m?]at J;exact hm.qc U J
def pf{ss:List<|E?}(h:Inv f ss):l? f<=130:=by have J:=lz f;have O:=h.3;have B:=h.7;rw[iL,fE]at B;have U:=nh (gP ss) f;omega
def Ra(ss:List<|E?)(h:∀s∈ss,nz s):gO ss<=l? ss*131:=by
 induction ss with
 |nil=>simp[gO]|cons s ss B=>have J:=B<|λx O=>h x<|ZG _ O;have U:=kF<|h s<|ZT ..;simp only[gO,ZK,J!,w!]at J⊢;omega
def IA(a b:List<|E?):gO (a++b)=gO a+gO b:=by simp[gO]
def xg{ss:List<|E?}(h:Inv f ss):gO (ss++[f])<=1000:=by
 have B:=Ra ss h.4;have J:=h.5;have O:=pf h;rw[IA];have:gO [f]=l? f+1:=by simp[gO]
 omega
def yO{ss:List<|E?}(h:Inv f ss):∀l∈ss++[f],∀e∈l,l? e.1<=nl:=by
 intro l O e J;obtain B|B:=Z3.1 O
 exact ox (h.4 l B) e J;simp only[Zg]at B;subst B;have:=(iq<|tX<|h.1 e J).2;unfold nl;omega
def qA{B:List<|E?}(h:∀l∈B,∀e∈l,l? e.1<=nl):∀e∈gP B,l? e.1<=nl:=by
 have:∀(B:List _)(a:E?),(∀e∈a,l? e.1<=nl)->(∀l∈B,∀e∈l,l? e.1<=nl)->∀e∈B.foldl dT a,l? e.1<=nl:=by
  intro B;induction B with
  |nil=>intro a J _ e O;exact J e O|cons l B W=>
   intro a J V e O;refine W _ (λx Y=>?_) (λm hm=>V m<|ZG _ hm) e O;obtain U|U:=nR.1 Y
   exact J x U.1;exact V l (ZT ..) x U
 exact this B [] (nofun) h
def wD(F:F?)(b)(O:E?)(ss:List<|E?)(Bb)(vS vM vK)(w)(h:OL w F b O ss Bb vS vM vK) :
  nr prog 59 #[p?<|y? ⟨b,0,x?⟩] w λen w'=>∃C,en=e? (.map<|y? C)/\w.1.size<=C/\fN w' C (dV ss O)/\B? w w':=by
 obtain⟨i0,hi,ai,aj,ak⟩:=Zz Wr;obtain⟨aS,cS,rfl,aF⟩:=dC h.5;have al:=Rd.eo h.5;have a0:=dx h.1;have h6:=h.7.5
 have HR:J? (∀j(hj:j<l? ss),∃bb off,aS=y? ⟨bb,off,x?⟩/\C? w ⟨bb,off+j,x?⟩=y? (s? ⟨(fc ss[j]).toArray⟩)):=by intro j hj;obtain⟨a',c',he,_,_,hr⟩:=al;simp only[ti]at he;obtain⟨rfl,_,rfl⟩:=he;exact hr j _ (by simp[du,hj])
 have HP:=h! h;clear h al;go_enter func59,ntmps59;go_wp2;go_loopw [3,11] (λv i wr=>∃(k:Nat)(V:List Nat),k<=l? ss/\i=n? i? k/\l? V=k/\R? wr w.1.size 85 1 v k (V.map Js)/\(∀i(h:i<k)(h':i<l? V)(h2:i<l? ss),fN wr V[i] ss[i]/\w.1.size<=V[i])/\B? w wr) (λ_ i _=>l? ss-(intOf i).toNat);exact⟨0,[],ZP _,q?,q?,Z9 _ _ _ _,λi h=>o!,oA _ _⟩;obtain⟨k,V,hk,rfl,ae,J,Y,hb⟩:=hrel;have HB:=h! hb;have hz:=hb.4;have HE:=h! Y;clear Y hb;by_cases am:k<l? ss
 .obtain⟨bb,off,rfl,aa⟩:=HR.o k am;have hc:=Z0 HB aa;have an:=qS _ wr<|HP.7.4 _<|Zw am;clear aa;go_wp2_with fail;apply an.mono;rintro e w1 ⟨C,rfl,hC,hs,ab⟩;have aD:=ab.4;have W:=dH J<|λj hj=>ab.5 j (J.lt j hj).2;have ao:J?<|fN w1 C _/\wr.1.size<=C:=⟨hs,hC⟩;have a1:=h!<|HB.trans<|ab.mono hz;have a2:=h! ab;clear an hs ab
  go_wp2_with (first
   |(at_builtin;refine eu _ q? _ _ 136 q? _ 85 i0 _ 8 p7 hi ai aj ak q? _ _ _ q? (W.alloc _) _ _ q? fF q? ?c1 ?c2 ?c3 ?_))
  case c1=>omega
  case c2=>unfold nl;omega
  case c3=>first|omega|(simp;omega)
  intro v' w2 U B _
  have ap:J?<|R? w2 w.1.size 85 1 v' (k+1)<|(V++[C]).map Js:=by show R? w2 _ _ _ _ _ _;rwa[Z4]
  have af:=h!<|(a1.alloc o! _).grown B j!<|λb hb=>(J.lt b hb).1
  have a3:J? (∀i(h:i<k+1)(h':i<(V++[C]).length)(h2:i<l? ss),fN w2 (V++[C])[i] ss[i]/\w.1.size<=(V++[C])[i]):=by
   intro i h h' h2
   have key:∀(D:Nat)(l:E?),fN w1 D l->fN w2 D l:=λD l hm=>by have ac:fN (w1.alloc<|c? #[.map<|y? C] 85) D l:=ed.kept hm (rv _ _ x?) i!;exact ed.kept ac B<|sx (W.alloc _) ac
   by_cases ad:i<k;rw[Zx o!];have hh:=HE.o i ad o! h2;exact⟨key _ _<|ed.below hh.1 a2,hh.2⟩;have aq:i=k:=o!;subst aq;rw[K! o!];simp only[ae,Nat.sub_self,Q!];exact⟨key _ _ ao.1,ZE hz ao.2⟩
  obtain⟨a',c',rfl,aG⟩:=dC ap;clear U B J W;go_wp2;go_roundw
  .exact⟨k+1,V++[C],o!,by go_num,by simp[ae],ap,a3,af⟩
  exact M!
 have a4:k=l? ss:=o!;subst a4;have aE:=Z0 HB<|a0 0
 go_wp2_with (first
  |(at_builtin;refine eu _ q? _ _ 136 q? _ 85 i0 _ 8 p7 hi ai aj ak q? _ _ _ q? (J.alloc _) _ _ q? fF q? ?c1 ?c2 ?c3 ?_))
 case c1=>omega
 case c2=>unfold nl;omega
 case c3=>first|omega|(simp;omega)
 intro v' w2 U B _;have ar:=(HB.alloc hz _).grown B j!<|λb hb=>(J.lt b hb).1
 have au:Ty w2 v' (V++[Bb])<|ss++[O]:=by
  refine⟨?_,by simp[ae],λi h h'=>?_⟩;rw[Z4];exact Rd.eo U
  have key:∀(D:Nat)(l:E?),fN wr D l->fN w2 D l:=λD l hm=>by have ac:fN (wr.alloc<|c? #[.map<|y? Bb] 85) D l:=ed.kept hm (rv _ _ x?) i!;exact ed.kept ac B<|sx (J.alloc _) ac
  by_cases ad:i<l? ss;have e1:(V++[Bb])[i]=V[i]'o!:=Zx _;have e2:(ss++[O])[i]=ss[i]:=Zx ad;rw[e1,e2];exact key _ _ (HE i ad _ ad).1;have a5:i=l? ss:=by simp at h;omega
  subst a5;have h9:=h';have e1:(V++[Bb])[l? ss]'h9=Bb:=by rw[K! o!];simp[ae]
  have e2:(ss++[O])[l? ss]'h=O:=by rw[K! o!];simp
  rw[e1,e2];exact key _ _<|ed.below HP.4 HB
 have a6:=xg HP.7;have ag:=yO HP.7;have av:=wz v' _ _ w2 au o! ag;have af:=h! ar;have a7:=h! ag
 have a8:J?<|(gP<|ss++[O]).length<=1000:=by show _<=_;have:=uw (ss++[O]) _<|Zu _;rw[o?]at this;omega
 clear U B J au ar ag a6;go_wp2_with fail;apply av.mono;rintro e w3 ⟨B3,rfl,aH,aw,ax⟩;have ay:=qM B3 _ w3 aw (v! a8.o)<|qA a7;have ah:=h!<|af.trans<|ax.mono af.4;clear av aw ax;go_wp2_with fail;apply ay.mono;rintro e w4 ⟨C,rfl,hC,a9,az⟩;have aA:J?<|fN w4 C<|dV ss O:=h!<|by rwa[iL]
 have aB:=h!<|ah.trans<|az.mono ah.4;have aC:=ZE ah.4 hC;clear ay a9 az;go_wp2;go_ret;exact⟨C,q?,aC,aA,aB⟩
end
section
open Shelf
def Ka:Go.Shelf.Ren:=⟨fun|316=>90|n=>n,fun|9=>9|3=>3|4=>4|37=>60|0=>0|127=>187|5=>5|n=>n,fun|n=>n⟩
def VD:Go.Proofs.LaysM.n316 prog Ka:=by
 constructor
 .constructor<;>intros<;>kernel_rfl
 all_goals(intros;kernel_rfl)
def Jd:Go.Shelf.Ren:=⟨fun|190=>162|125=>125|258=>217|128=>172|129=>173|302=>243|303=>244|304=>245|305=>246|306=>247|307=>248|308=>249|309=>250|310=>251|333=>271|329=>219|330=>220|334=>272|335=>273|336=>175|344=>279|n=>n,fun|31=>31|9=>9|3=>3|46=>184|0=>0|51=>229|53=>141|4=>4|183=>222|182=>221|131=>226|5=>5|218=>272|222=>276|228=>292|229=>212|n=>n,fun|n=>n⟩
def AB:Go.Proofs.Lays.n190 prog Jd:=by constructor<;>intros<;>kernel_rfl
def FP:Go.Shelf.Ren:=⟨fun|6=>184|15=>125|14=>227|28=>172|29=>173|20=>257|21=>258|22=>259|23=>260|24=>261|25=>262|26=>263|27=>264|46=>276|47=>219|48=>220|49=>277|50=>278|57=>280|n=>n,fun|22=>190|24=>237|25=>242|3=>3|39=>184|0=>0|53=>229|55=>141|4=>4|46=>222|45=>221|50=>226|5=>5|9=>9|66=>272|70=>276|76=>292|77=>212|n=>n,fun|n=>n⟩
def K7:Go.Proofs.SlLaysF0.n6 prog FP:=by refine' {f6:=⟨f184.1,d!,k? func184⟩,f14:=⟨f227.1,d!,k? func227⟩,f20:=⟨f257.1,d!,k? func257⟩,f21:=⟨f258.1,d!,k? func258⟩,f22:=⟨f259.1,d!,k? func259⟩,f23:=⟨f260.1,d!,k? func260⟩,f24:=⟨f261.1,d!,k? func261⟩,f25:=⟨f262.1,d!,k? func262⟩,f26:=⟨f263.1,d!,k? func263⟩,f27:=⟨f264.1,d!,k? func264⟩,f46:=⟨f276.1,d!,k? func276⟩,f49:=⟨f277.1,d!,k? func277⟩,f50:=⟨f278.1,d!,k? func278⟩,f57:=⟨f280.1,d!,k? func280⟩,..}<;>intros<;>kernel_rfl
end
section
open RowKit Maps
variable {f I:w?}{g C U x1 x2:Nat}{i p J:v?}{l x0:E?}{P:Wd}
def uW(s:b?)(w)(B:s.size<=281474976710656) :
  nr prog 61 #[s? s] w λe w'=>e=e? (s? s)/\B? w w':=by
 go_enter func61,ntmps61;go_wp2_with fail;apply (Any.stringslite_Clone VD s w B).mono;rintro e w1 ⟨rfl,hb⟩;go_wp2;go_ret;exact⟨q?,(h! hb).o⟩
def wO(J O:v?)(w:w?)(F:F?)(b:Nat)(B:E?)(ss:List<|E?):Prop:=(∀k,F k->k<w.1.size)/\∃U V,OL w F b B ss U V J O
def OL.stay{w':w?}{F:F?}{b}{ss:List<|E?}(h:OL f F b l ss g i p J)(hb:∀k,F k->w'.1[k]?=f.1[k]?):OL w' F b l ss g i p J where
 blk:=by rw[hb b h.2];exact h.1
 fb:=h.2;fB:=h.3;say:=ed.stay h.4<|hb g h.3;row:=dH h.5<|λk B=>hb k<|h.6 k B;Iz:=h.6;inv:=h.7
def wO.below{w}{F:F?}{b}{ss:List<|E?}(h:wO i p w F b l ss)(hb:B? w f):wO i p f F b l ss:=by obtain⟨hF,J,O,U⟩:=h;exact⟨λk B=>AT (hF k B) hb.4,J,O,U.stay<|λk B=>hb.5 k<|hF k B⟩
def OL.buffer{F:F?}{b}{ss:List<|E?}(h:OL f F b l ss g i p J)(hF:∀k,F k->k<f.1.size)(B:dy (· = g) f I)(U:fN I g x0)(V:Inv x0 ss):OL I F b x0 ss g i p J where
 blk:=by rw[B.5 b (hF b h.2)<|λe=>ed.qc h.4 h.1 e.symm];exact h.1
 fb:=h.2;fB:=h.3;say:=U;row:=dH h.5 (λk O=>B.5 k (hF k<|h.6 k O)<|λe=>sx h.5 h.4<|by rw[O,e]);Iz:=h.6;inv:=V
def O7(w):(zeroValue 111).run prog w=.ok (.agg #[.bool f?,s? ⟨#[]⟩,s? ⟨#[]⟩,n? i? 0,n? i? 0]) w:=by kernel_rfl
def Kf(h:fN f C l)(x:Wd)(O:l? x<=nl):∃g a t n m,(Instr.lookup 85 (.map<|y? C) (s? ⟨a? x⟩) t?).run prog f=.ok (.tuple #[.agg #[.bool g,s? a,s? t,n? i? n,n? i? m],.bool<|decide<|x∈l.map eE.name]) f:=by
 have hl:=(ed.look h oQ oN (O7 f) x O).2
 have U:((l.map mQ).any λp=>p.1==x)=decide (x∈l.map eE.name):=by rw[Z8,decide_eq_true_eq,List.any_eq_true,Zv];constructor;rintro⟨p,V,h⟩;obtain⟨e,B,rfl⟩:=Zv.1 V;exact⟨e,B,by simpa[mQ]using h⟩;rintro⟨e,B,rfl⟩;exact⟨mQ e,Zv.2 ⟨e,B,q?⟩,by simp[mQ]⟩
 rw[U]at hl;unfold qp at hl
 cases J:(l.map mQ).find? _ with
 |none=>rw[J]at hl;exact⟨_,_,_,_,_,hl⟩|some p=>rw[J]at hl;obtain⟨e,_,rfl⟩:=Zv.1<|List.mem_of_find?_eq_some J;exact⟨_,_,_,_,_,hl⟩
def Cj{x}:jC l x=x?↔x ∉ l.map eE.name:=⟨yY,ta⟩
def Wt(w)(F:F?)(b)(B:E?)(ss:List<|E?)(name text:b?)(dR dY)(hP:wO i p w F b B ss)(hn:name.size<=nl)(ht:text.size<=nl) :
  nr prog 38 #[p?<|y? ⟨b,0,x?⟩,s? name,s? text,n? i? dR,n? i? dY] w λe w'=>e=e? (n? i? (kM B ss name.1.1 text.1.1 dR dY).1)/\
   wO i p w' F b (kM B ss name.1.1 text.1.1 dR dY).2 ss/\dy F w w':=by
 have HP:=h! hP;have Y:=tZ name w hn;have ad:=sY text w ht;clear hP;by_cases J:gr name.1.1=t?
 .rw[J]at Y;by_cases U:eh text.1.1=t?/\text.1.1≠[]
  .rw[decide_eq_true U]at ad;by_cases ac:dR<0\/1000000<dR\/dY<0\/255<dY
   .have HU:J?<|kM B ss name.1.1 text.1.1 dR dY=(3,B):=h!<|by unfold kM;rw[if_pos J,if_pos U,if_pos ac]
    have a2:dR<0\/(0<=dR/\1000000<dR)\/(0<=dR/\dR<=1000000/\dY<0)\/(0<=dR/\dR<=1000000/\0<=dY/\255<dY):=o!;clear ac U J;obtain c1|⟨c1,c2⟩|⟨c1,c2,c3⟩|⟨c1,c2,c3,c4⟩:=a2
    all_goals
     go_enter pv,pm;go_wp2_with fail;apply g! Y;go_wp2_with fail;apply g! ad;go_wp2;go_ret;refine⟨dQ (by rw[HU.o];rfl),?_,dy.refl _ _⟩;rw[HU.o];exact HP
   have a':0<=dR:=o!;have aA:dR<=1000000:=o!;have aB:0<=dY:=o!;have aC:dY<=255:=o!;let ⟨hF,Bb,vS,hE⟩:=HP.o;have HE:=h! hE;have HF:=h! hF;have ag:=wD F b B ss Bb vS i p w hE
   have HU:J? (kM B ss name.1.1 text.1.1 dR dY=if 30<=(dV ss B).length/\jC (dV ss B) name.1.1=x? then(4,B)else(0,dT B [⟨name.1.1,f?,text.1.1,dR,dY⟩])):=by show kM _ _ _ _ _ _=_;unfold kM;rw[if_pos J,if_pos U,if_neg ac]
   have HI:J?<|Inv (kM B ss name.1.1 text.1.1 dR dY).2 ss:=O9 hE.7 _ _ _ _;have a9:=(iq J).2
   have a3:name.size<=281474976710656:=by have:l? name.1.1=name.size:=i!
                                          omega
   have a4:text.size<=281474976710656:=by have h1:=l9 U.1;have:l? text.1.1=text.size:=i!;omega
   have aq:l? name.1.1<=nl:=by unfold nl;omega
   clear ac U J hF hE;go_enter pv,pm;go_wp2_with fail;apply g! Y;go_wp2_with fail;apply g! ad;clear Y ad;go_wp2_with fail;apply ag.mono;rintro e w1 ⟨C,rfl,hC,hs,ae⟩;have ar:=ae.4;let ⟨g,aa,tt,nn,mm,ah⟩:=Kf hs _ aq;rw[<-bytes_eta name]at ah;have au:=h! ae;have aj:=λty o=>ed.len (ed.kept hs (rv w1 o x?) i!) oN ty;rw[Z5]at aj;have af:=Cj (l:=dV ss B) (x:=name.1.1);by_cases hk:name.1.1∈(dV ss B).map eE.name
   case' pos=>
    rw[decide_eq_true hk]at ah;have ab:J?<|kM B ss name.1.1 text.1.1 dR dY=(0,dT B [⟨name.1.1,f?,text.1.1,dR,dY⟩]):=h!<|by rw[HU.o,if_neg<|λh=>af.1 h.2 hk]
    clear af hk hs ae ag HU
   case' neg=>
    rw[decide_eq_false hk]at ah;by_cases av:30<=(dV ss B).length
    .have ab:J?<|kM B ss name.1.1 text.1.1 dR dY=(4,B):=h!<|by rw[HU.o,if_pos ⟨av,af.2 hk⟩]
     have aw:(30:Int)<=((dV ss B).length:Int):=o!;clear af hk hs ae ag HU;go_wp2;go_ret;have O:=au.alloc ar<|c? #[.bool g,s? aa,s? tt,n? i? nn,n? i? mm] 111;refine⟨dQ (by rw[ab.o];rfl),?_,dy.eF O⟩;rw[ab.o];exact wO.below HP O
    have ab:J?<|kM B ss name.1.1 text.1.1 dR dY=(0,dT B [⟨name.1.1,f?,text.1.1,dR,dY⟩]):=h!<|by rw[HU.o,if_neg<|λh=>av h.1]
    have aw:decide ((30:Int)<=((dV ss B).length))=f?:=decide_eq_false o!;clear af hk hs ae ag HU
   all_goals
    go_wp2_with fail;have O:=au.alloc ar<|c? #[.bool g,s? aa,s? tt,n? i? nn,n? i? mm] 111;clear aj ah;generalize w1.alloc (c? #[.bool g,s? aa,s? tt,n? i? nn,n? i? mm] 111)=w2 at O⊢
    have V:C? w2.drew ⟨b,0,x?⟩=y? (.map<|y? Bb):=by have:C? w2 ⟨b,0,x?⟩=y? (.map _):=Z0 O (by rw[dx HE.1];rfl);exact this
    have ax:J?<|Below _ w w2.drew:=⟨O.1,O.2,O.3,O.4,O.5⟩;clear O;refine nv (S:=λw'=>C? w' ⟨b,0,x?⟩=y? (.map<|y? Bb)) k! ?_;refine gf 0 ?_ V ?_<|gf 1 ?_ V ?_<|gf 2 ?_ V ?_<|gf 3 ?_ V ?_<|gf 4 ?_ V ?_<|gf 6 ?_ V ?_<|gf 8 ?_ V ?_<|gf 9 ?_ V ?_ ?_
    any_goals(rintro w' a5;exact n!)
    refine kY 5 λK' W=>?_;unfold te;go_simp;apply (uW name w2.drew a3).mono;rintro e w3 ⟨rfl,al⟩;have ay:=h!<|ax.trans<|al.mono ax.4;have az:=Z0 al V;clear al;refine W _ _ ⟨az,?_⟩;clear W;refine kY 7 λK' W=>?_;unfold te;go_simp;apply (uW text w3 a4).mono;rintro e w4 ⟨rfl,am⟩;have ai:=h!<|ay.trans<|am.mono ay.4;have a0:=Z0 am az;clear am;refine W _ _ ⟨a0,?_⟩;clear W;refine gf 10 ?_ a0 ?_ ?_;rotate_left
    .intro w' a5;exact n!
    refine kY 11 λK' W=>?_;unfold te;go_simp;have an:=VC Bb B ⟨name.1.1,f?,text.1.1,dR,dY⟩ w4 (ed.below HE.4 ai) q? (v!<|pf HE.7) aq;rw[show CE _=.agg #[s? name,s? text,n? i? dR,n? i? dY] by unfold CE;simp only[<-bytes_eta]]at an;apply an.mono;rintro e w5 ⟨rfl,q1,q2⟩;clear an;have a1:=HE.stay<|λk hk=>ai.5 k<|HF k hk;have ao:∀k,F k->k<w4.1.size:=λk hk=>AT (HF k hk) ai.4
    have hi:Inv (dT B [⟨name.1.1,f?,text.1.1,dR,dY⟩]) ss:=by have:=HI.o;rwa[ab.o]at this
    have ap:=a1.buffer ao q2 q1 hi;have a6:=h! ap;have a7:=h!<|(dy.eF ai).then<|q2.mono (λk hk=>by subst hk;exact HE.3);have a8:J? _:=λk hk=>AT (ao k hk) q2.4;refine W _ _ ⟨by rw[dx ap.1];rfl,n3 k! ?_ _⟩;clear W q1 q2 a1 ao hi ap;go_wp2;go_ret;refine⟨dQ (by rw[ab.o];rfl),?_,a7⟩;rw[ab.o];exact⟨a8,Bb,vS,a6⟩
  rw[decide_eq_false U]at ad;have HU:J?<|kM B ss name.1.1 text.1.1 dR dY=(2,B):=h!<|by unfold kM;rw[if_pos J,if_neg U]
  clear U J;go_enter pv,pm;go_wp2_with fail;apply g! Y;go_wp2_with fail;apply g! ad;go_wp2;go_ret;refine⟨dQ (by rw[HU.o];rfl),?_,dy.refl _ _⟩;rw[HU.o];exact HP
 have ak:gr name.1.1=f?:=by simpa using J
 rw[ak]at Y;have HU:J?<|kM B ss name.1.1 text.1.1 dR dY=(1,B):=h!<|by unfold kM;rw[if_neg J]
 clear J ak;go_enter pv,pm;go_wp2_with fail;apply g! Y;go_wp2;go_ret;refine⟨dQ (by rw[HU.o];rfl),?_,dy.refl _ _⟩;rw[HU.o];exact HP
def WN(w)(F:F?)(b)(B:E?)(ss:List<|E?)(name:b?)(hP:wO i p w F b B ss)(hn:name.size<=nl) :
  nr prog 37 #[p?<|y? ⟨b,0,x?⟩,s? name] w λe w'=>e=e? (n? i? (mn B ss name.1.1).1)/\
   wO i p w' F b (mn B ss name.1.1).2 ss/\dy F w w':=by
 have HP:=h! hP;have ac:=tZ name w hn;clear hP;by_cases U:gr name.1.1=t?
 .rw[U]at ac;let ⟨hF,Bb,vS,hE⟩:=HP.o;have HE:=h! hE;have HF:=h! hF;have al:=wD F b B ss Bb vS i p w hE
  have HU:J? (mn B ss name.1.1=if jC (dV ss B) name.1.1=x? then(5,B)else if 100<=kU B then(4,B)else(0,dT B [⟨name.1.1,t?,[],0,0⟩])):=by show mn _ _ _=_;unfold mn;rw[if_pos U,lz];rfl
  have HI:J?<|Inv (mn B ss name.1.1).2 ss:=Ou hE.7 _;have a4:=(iq U).2
  have ay:name.size<=281474976710656:=by have:l? name.1.1=name.size:=i!;omega
  have aq:l? name.1.1<=nl:=by unfold nl;omega
  clear U hF hE;go_enter func37,ntmps37;go_wp2_with fail;apply g! ac;clear ac;go_wp2_with fail;apply al.mono;rintro e w1 ⟨C,rfl,hC,hs,ah⟩;have ar:=ah.4;let ⟨g,aa,tt,nn,mm,ai⟩:=Kf hs _ aq;rw[<-bytes_eta name]at ai;have aj:=Cj (l:=dV ss B) (x:=name.1.1);have V:J?<|Below _ w<|w1.alloc<|c? #[.bool g,s? aa,s? tt,n? i? nn,n? i? mm] 111:=ah.alloc ar _;by_cases W:name.1.1∈(dV ss B).map eE.name
  .rw[decide_eq_true W]at ai;have am:J? (mn B ss name.1.1=if 100<=kU B then(4,B)else(0,dT B [⟨name.1.1,t?,[],0,0⟩])):=h!<|by rw[HU.o,if_neg<|λh=>aj.1 h W]
   clear aj W hs ah al HU;have ad:=V.o;obtain⟨w2,au⟩:∃w2,w1.alloc (c? #[.bool g,s? aa,s? tt,n? i? nn,n? i? mm] 111)=w2:=⟨_,q?⟩;rw[au]at ad;have az:C? w2 ⟨b,0,x?⟩=y? (.map _):=Z0 ad (by rw[dx HE.1];rfl);have av:=Eo Bb B w2 (ed.below HE.4 ad)<|v!<|pf HE.7;have aw:=h! ad;clear V ad;go_wp2_with fail;apply av.mono;rintro e w3 ⟨rfl,Y⟩;have J:=h!<|aw.trans<|Y.mono aw.4;clear av Y au ai az;by_cases ae:100<=kU B
   .have O:J?<|mn B ss name.1.1=(4,B):=h!<|by rw[am.o,if_pos ae]
    have af:(100:Int)<=(kU B:Int):=o!;go_wp2;go_ret;refine⟨dQ (by rw[O.o];rfl),?_,dy.eF J⟩;rw[O.o];exact wO.below HP J
   have O:J?<|mn B ss name.1.1=(0,dT B [⟨name.1.1,t?,[],0,0⟩]):=h!<|by rw[am.o,if_neg ae]
   have af:¬(100:Int)<=(kU B:Int):=o!;clear am ae ar;go_wp2_with fail;clear af;generalize w3=w2 at *
   have ab:C? w2.drew ⟨b,0,x?⟩=y? (.map<|y? Bb):=by have:C? w2 ⟨b,0,x?⟩=y? (.map _):=Z0 J (by rw[dx HE.1];rfl);exact this
   have V:J?<|Below _ w w2.drew:=⟨J.1,J.2,J.3,J.4,J.5⟩;clear J;refine nv (S:=λw'=>C? w' ⟨b,0,x?⟩=y? (.map<|y? Bb)) k! ?_;refine gf 0 ?_ ab ?_<|gf 1 ?_ ab ?_<|gf 2 ?_ ab ?_<|gf 3 ?_ ab ?_<|gf 4 ?_ ab ?_ ?_
   any_goals(rintro w' a5;exact n!)
   refine kY 5 λK' ag=>?_;unfold te;go_simp;apply (uW name w2.drew ay).mono;rintro e w3 ⟨rfl,Y⟩;have J:=h!<|V.trans<|Y.mono V.4;have a0:=Z0 Y ab;clear Y;refine ag _ _ ⟨a0,?_⟩;clear ag;refine kY 6 λK' ag=>?_;unfold te;go_simp;have an:=GN Bb B _ w3 (ed.below HE.4 J) (v!<|pf HE.7) aq;rw[<-bytes_eta name]at an;apply an.mono;rintro e w5 ⟨rfl,q1,q2⟩;clear an;have ax:=HE.stay<|λk W=>J.5 k<|HF k W;have ao:∀k,F k->k<w3.1.size:=λk W=>AT (HF k W) J.4
   have hi:Inv (dT B [⟨name.1.1,t?,[],0,0⟩]) ss:=by have:=HI.o;rwa[O.o]at this
   have ap:=ax.buffer ao q2 q1 hi;have a1:=h! ap;have a2:=h!<|(dy.eF J).then<|q2.mono (λk W=>by subst W;exact HE.3);have a3:J? _:=λk W=>AT (ao k W) q2.4;refine ag _ _ ⟨by rw[dx ap.1];rfl,n3 k! ?_ _⟩;clear ag q1 q2 ax ao hi ap;go_wp2;go_ret;refine⟨dQ (by rw[O.o];rfl),?_,a2⟩;rw[O.o];exact⟨a3,Bb,vS,a1⟩
  rw[decide_eq_false W]at ai;have O:J?<|mn B ss name.1.1=(5,B):=h!<|by rw[HU.o,if_pos<|aj.2 W]
  clear aj W hs ah al HU;go_wp2;go_ret;refine⟨dQ (by rw[O.o];rfl),?_,dy.eF V⟩;rw[O.o];exact wO.below HP V
 have ak:gr name.1.1=f?:=by simpa using U
 rw[ak]at ac;have HU:J?<|mn B ss name.1.1=(1,B):=h!<|by unfold mn;rw[if_neg U]
 clear U ak;go_enter func37,ntmps37;go_wp2_with fail;apply g! ac;go_wp2;go_ret;refine⟨dQ (by rw[HU.o];rfl),?_,dy.refl _ _⟩;rw[HU.o];exact HP
def QO(w)(F:F?)(b)(B:E?)(ss:List<|E?)(O:wO i p w F b B ss) :
  nr prog 30 #[p?<|y? ⟨b,0,x?⟩] w λe w'=>e=e? (n? i? ss.length)/\w=w':=by
 obtain⟨hF,W,Y,J⟩:=O;obtain⟨aS,cS,rfl,U⟩:=dC J.5;have V:=dx J.1 1;clear J;go_enter func30,ntmps30;go_wp2;go_ret;exact⟨q?,q?⟩
def jW(ss:List<|E?)(n:Int):Wd×Nat:=if n<0\/(l? ss:Int)<=n then([],6)else(fc<|ss.getD n.toNat [],0)
def Zay(w)(F:F?)(b)(O:E?)(ss:List<|E?)(n)(hP:wO i p w F b O ss) :
  nr prog 26 #[p?<|y? ⟨b,0,x?⟩,n? i? n] w λe w'=>e=e? (.tuple #[s? ⟨(jW ss n).1.toArray⟩,n? i? (jW ss n).2])/\w=w':=by
 obtain⟨hF,Bb,vS,B⟩:=hP;obtain⟨aS,cS,rfl,aa⟩:=dC B.5;have ab:=dx B.1 1;have h6:=B.7.5
 have HR:J? (∀j(W:j<l? ss),∃bb off,aS=y? ⟨bb,off,x?⟩/\C? w ⟨bb,off+j,x?⟩=y? (s? ⟨(fc ss[j]).toArray⟩)):=by intro j W;obtain⟨a',c',Y,_,_,hr⟩:=Rd.eo B.5;simp only[ti]at Y;obtain⟨rfl,_,rfl⟩:=Y;exact hr j _ (by simp[du,W])
 clear B;by_cases h0:n<0
 .have J:J?<|jW ss n=([],6):=h!<|by unfold jW;rw[if_pos<|.inl h0]
  go_enter ro,qr;go_wp2;go_ret2;rw[J.o];exact⟨q?,q?⟩
 have U:0<=n:=o!;by_cases h1:(l? ss:Int)<=n
 .have J:J?<|jW ss n=([],6):=h!<|by unfold jW;rw[if_pos<|.inr h1]
  go_enter ro,qr;go_wp2;go_ret2;rw[J.o];exact⟨q?,q?⟩
 obtain⟨m,rfl⟩:∃m:Nat,n=m:=⟨n.toNat,o!⟩;have hm:m<l? ss:=o!;have ac:(m:Int)<(l? ss:Int):=o!
 have J:J?<|jW ss (m:Int)=(fc ss[m],0):=by show jW _ _=_;unfold jW;rw[if_neg o!,xb,AS,BY hm];rfl
 obtain⟨bb,off,rfl,V⟩:=HR.o m hm;clear h0 U h1;go_enter ro,qr;go_wp2;go_ret2;rw[J.o];exact⟨q?,q?⟩
def B8{P}(w)(base)(t u ty e)(i)(ht:P.underlying t=y? (.slice e))(hu:P.underlying u=y? .string)(hi:P.info? e=y? i)(hz:i.8=y? (n? .u8 0))
  (B:i.3=1) (Y:i.4=1) (v) (n) (xs:L?) (J:R? w base e 1 v n xs) (hn:0<n) (s:b?) (hb:(n+s.size)*1<=140737488355328) (O:base<=w.1.size) :
  ∃W w',(vo #[t,u] ty #[v,s? s]).run P w=.ok W w'/\R? w' base e 1 W (n+s.size) (xs++eX s.1.1)/\w.grownBy w' (O? v)/\(O? W=O? v\/O? W=y? w.1.size):=by
 obtain⟨W,w',U,h2,h3,_⟩:=Lib.run_append_own_string w base t u ty e i ht hu hi hz B Y v n xs J s (by unfold nl;omega) o! O;refine⟨W,w',U,h2,h3,?_⟩;obtain⟨rfl,rfl⟩|⟨g,c,cur,rfl,ab,hg,ac,ad,ae,aa⟩:=J.2
 omega;by_cases V:n+s.size<=c;rw[Lib.run_append_room_string w t u ty e i ht hu hi B g n c cur hg s V o!]at U;simp only[Result.ok.injEq]at U;exact .inl (by rw[<-U.1];rfl);rw[Lib.run_append_grow_string w t u ty e i _ ht hu hi hz _ n c xs (by rw[B];exact J.1) (J.cells (g:=g) q?) s o! o! (by rw[Y];exact growslice_fits o! hb)]at U;simp only[Result.ok.injEq]at U;exact .inr (by rw[<-U.1];rfl)
def xQ{P}(w){ops rest}{o:Oper}{a:Act}{Q}(V:o.6=x?)(sl x)(t u)
  (Y:o.2=.call {callee:=.builtin .append,args:=#[sl,x],argTypes:=#[t,u]})
  (base) (e) (i) (ht:P.underlying t=y? (.slice e)) (hu:P.underlying u=y? .string) (hi:P.info? e=y? i) (hz:i.8=y? (n? .u8 0))
  (B:i.3=1) (W:i.4=1) (v) (n) (xs:L?) (hs:a.eval sl=v) (U:R? w base e 1 v n xs) (hn:0<n) (s:b?) (hx:a.eval x=s? s) (hb:(n+s.size)*1<=140737488355328) (J:base<=w.1.size)
  (h:∀O w',R? w' base e 1 O (n+s.size) (xs++eX s.1.1)->w.grownBy w' (O? v)->(O? O=O? v\/O? O=y? w.1.size)->n7 P ops Q rest (a.put o.1 O) w'):n7 P ops Q (o::rest) a w:=by
 refine ZW V λ_ hK=>?_;obtain⟨O,w',hr,h2,h3,h4⟩:=B8 w base t u o.3 e i ht hu hi hz B W v n xs U hn s hb J;unfold te oa;simp only[Y,nU,invoke,builtin,wS,wu,x9,i4,ZK,ZU,hs,hx,hr];exact hK _ _<|h O w' h2 h3 h4
def j8(w:w?)(base:Nat)(v:v?)(l:Wd):Prop:=R? w base 5 1 v l.length<|eX l
def iK(w w':w?)(v B:v?):Prop:=dy (λk=>O? v=y? k) w w'/\∀k,O? B=y? k->O? v=y? k\/w.1.size<=k
def iK.trans{a b c x}(h:iK a b p J)(k:iK b c J x):iK a c p x:=by
 refine⟨h.1.trans k.1<|λi O U=>?_,λi O=>?_⟩;obtain B|B:=h.2 i U
 exact B;omega;obtain B|B:=k.2 i O
 exact h.2 i B;exact .inr (ZE h.1.4 B)
def iK.below{w}(h:B? w f)(v):iK w f v v:=⟨dy.eF h,λ_ h=>Or.inl h⟩
def iK.of{o}(B:(f.alloc o).grownBy I<|O? i)(O:O? p=O? i\/O? p=y? (f.1.size+1)):iK f I i p:=by
 have U:=B.4;simp at U;refine⟨⟨B.1,B.2,B.3,o!,λk J V=>?_⟩,λk J=>?_⟩;rw[B.5 k j!<|λe=>V e.symm,e! _ _ _ J];obtain h|h:=O
 exact .inl (by rwa[<-h]);rw[h]at J;simp at J;exact .inr o!
def iK.of'(B:f.grownBy I<|O? i)(O:O? p=O? i\/O? p=y? f.1.size):iK f I i p:=by
 refine⟨⟨B.1,B.2,B.3,B.4,λk J U=>B.5 k J<|λe=>U e.symm⟩,λk J=>?_⟩;obtain h|h:=O
 exact .inl (by rwa[<-h]);rw[h]at J;simp at J;exact .inr o!
def UG(base:Nat)(w:w?)(v:v?)(l new:Wd)(e:Ending)(w':w?):Prop:=∃B,e=e? B/\j8 w' base B (l++new)/\iK w w' v B
def j8.below{w}(h:j8 w g i P)(hb:B? w f):j8 f g i P:=dH h<|λk B=>hb.5 k (h.lt k B).2
def jp(a b:Wd):eX (a++b)=eX a++eX b:=by simp[eX]
def lB(base)(v)(l)(s:b?)(w)(h:j8 w base v l)(hl:l? l<=1099511627776)(hs:s.size<=1099511627776)(ab:base<=w.1.size) :
  nr prog 177 #[v,s? s] w (UG base w v l<|dM s.1.1):=by
 obtain⟨i0,hi,O,U,V⟩:=Zz F0;obtain⟨a,c,rfl,hc⟩:=dC h;have HO:=h! h;clear h;go_enter func177,ntmps177
 go_wp2_with (first
  |(at_builtin;refine dU _ q? _ _ 60 q? base 5 i0 _ 1 oS hi O U V q? _ _ _ q? (HO.alloc _) _ _ q? (Rd.one fF) (by simp[tm]) ?c1 ?c2 ?c3 ?_))
 case c1=>simp;omega
 case c2=>unfold nl;simp;omega
 case c3=>simp;omega
 intro v1 w1 J W Y
 have hO1:j8 w1 base v1<|l++[u8 s.size]:=by unfold j8;rwa[jp,l5,Zh]
 have aa:=h!<|iK.of W Y
 have B:R? w1 base 5 1 v1 (l? l+1)<|eX<|l++[u8 s.size]:=by unfold j8 at hO1;rwa[Zh]at hO1
 obtain⟨a1,c1,rfl,aj⟩:=dC B;have ac:=h! B;have ai:=aa.1.4;clear J W Y hO1 B
 go_wp2_with (first
  |(at_builtin;refine xQ _ q? _ _ 60 9 q? base 5 i0 oS oQ hi O U V _ _ _ q? ac ?d1 s q? ?d2 ?d3 ?_))
 case d1=>omega
 case d2=>omega
 case d3=>omega
 intro v2 w2 ad ae af
 have ag:J?<|j8 w2 base v2<|l++dM s.1.1:=by show j8 _ _ _ _;unfold j8 dM;have e:l++u8 s.1.1.length::s.1.1=(l++[u8 s.size])++s.1.1:=i!;rw[e,jp,Zh];have e3:(l++[u8 s.size]).length=l? l+1:=i!;rwa[e3]
 have ah:J? _:=aa.trans<|iK.of' ae af;go_wp2;go_ret;exact⟨v2,q?,ag,ah⟩
def Rd.three{t}:Rd (f.alloc<|c? #[i,p,J] t) (.slice (y? ⟨f.1.size,0,x?⟩) 3 3) [i,p,J]:=by
 refine⟨y? _,3,q?,Zu _,by unfold nl;omega,λj u B=>⟨f.1.size,0,q?,?_⟩⟩;match j,B with
 |0,B=>simpa using B|1,B=>simpa using B|2,B=>simpa using B|j+3,B=>simp at B
def rI(base)(v)(l)(n)(w)(h:j8 w base v l)(hl:l? l<=1099511627776)(ac:0<=n)(hn:n<=1000000)(U:base<=w.1.size) :
  nr prog 178 #[v,n? i? n] w (UG base w v l<|gK n):=by
 obtain⟨i0,hi,V,W,Y⟩:=Zz F0;obtain⟨a,c,rfl,hc⟩:=dC h;have HO:=h! h;clear h;go_enter func178,ntmps178
 go_wp2_with (first
  |(at_builtin;refine dU _ q? _ _ 60 q? base 5 i0 _ 1 oS hi V W Y q? _ _ _ q? (HO.alloc _) _ _ q? Rd.three (by simp[tm]) ?c1 ?c2 ?c3 ?_))
 case c1=>simp;omega
 case c2=>unfold nl;simp;omega
 case c3=>simp;omega
 intro v1 w1 B J O
 have aa:J?<|j8 w1 base v1<|l++gK n:=by
  show j8 _ _ _ _;unfold j8;rw[jp,Zh]
  have e:eX (gK n)=[n? .u8<|n / 65536,n? .u8<|n / 256 % 256,n? .u8<|n % 256]:=by obtain⟨m,rfl⟩:∃m:Nat,n=m:=⟨n.toNat,o!⟩;rw[yl m o!];simp only[eX,ZK,ZU];rw[vX _ o!,vX _ o!,vX _ o!];simp
  rwa[e]
 have ab:=h!<|iK.of J O;clear B J O;go_wp2;go_ret;exact⟨v1,q?,aa,ab⟩
def j8.form(h:j8 f g i P):∃a c,i=.slice a P.length c:=by obtain⟨a,c,e,_⟩:=dC h;exact⟨a,c,e⟩
def Am(base)(v)(l)(e)(w)(h:j8 w base v l)(hl:l? l<=549755813888)(af:Es e)(a4:base<=w.1.size) :
  nr prog 181 #[v,CE e] w (UG base w v l<|lH e):=by
 obtain⟨i0,hi,a5,a6,a7⟩:=Zz F0;obtain⟨nm,gn,tx,wt,tg⟩:=e;have h1:=(iq af.2.1).2;have h2:=l9 af.2.2.1;obtain⟨_,_,_,_,h3,h4,h5,h6⟩:=af;simp only at h1 h2 h3 h4 h5 h6;obtain⟨a,c,rfl⟩:=h.form;obtain⟨w0,ag⟩:∃w0,w.alloc (c? #[s? ⟨a? nm⟩,s? ⟨a? tx⟩,n? i? wt,n? i? tg] 96)=w0:=⟨_,q?⟩;have V:Below w.1.size w w0:=by rw[<-ag];exact(oA _ _).alloc (Zu _) _
 have aS:=V.4;have ah:w0.1[w.1.size]?=y? (c? #[s? ⟨a? nm⟩,s? ⟨a? tx⟩,n? i? wt,n? i? tg] 96 (0,0)):=by rw[<-ag];exact U! w _
 have B:∀W:w?,W.1[w.1.size]?=y? (c? #[s? ⟨a? nm⟩,s? ⟨a? tx⟩,n? i? wt,n? i? tg] 96 (0,0))->C? W ⟨w.1.size,0,x?⟩=y? (s? ⟨a? nm⟩)/\C? W ⟨w.1.size,1,x?⟩=y? (s? ⟨a? tx⟩)/\C? W ⟨w.1.size,2,x?⟩=y? (n? i? wt)/\C? W ⟨w.1.size,3,x?⟩=y? (n? i? tg):=by intro W hW;exact⟨by rw[dx hW];rfl,by rw[dx hW];rfl,by rw[dx hW];rfl,by rw[dx hW];rfl⟩
 have HC:=h! B;let ⟨d0,_,_,_⟩:=B w0 ah;have ai:=h.below V;have a8:(⟨a? nm⟩:b?).size<=1099511627776:=by show nm.toArray.size<=_;simp;omega
 have a9:(⟨a? tx⟩:b?).size<=1099511627776:=by show tx.toArray.size<=_;simp;omega
 have ar:=lB base _ l _ w0 ai o! a8 o!;have a':J?<|iK w w0 _<|.slice a l.length c:=iK.below V _;have aj:=h! ah;have au:∀(W:w?)(v:v?)(k:Wd),j8 W base v k->W.1[w.1.size]?=y? (c? #[s? ⟨a? nm⟩,s? ⟨a? tx⟩,n? i? wt,n? i? tg] 96 (0,0))->O? v≠y? _:=λW v k ho hh=>fD hh ho d!;have ak:=h! au;have aA:=h! ai;clear h V ah B au ai;unfold CE;go_enter func181,ntmps181;go_wp2_with fail;apply ar.mono;rintro e1 w1 ⟨v1,rfl,J,Y⟩;obtain⟨L1,aa⟩:∃L1,L1=l++dM nm:=⟨_,q?⟩;have aW:l? L1<=l? l+30:=by rw[aa];simp[dM];omega
 have aB:=h! aa;change j8 w1 base v1 (l++dM nm)at J;rw[<-aa]at J;have al:w1.1[w.1.size]?=y? (c? #[s? ⟨a? nm⟩,s? ⟨a? tx⟩,n? i? wt,n? i? tg] 96 (0,0)):=by rw[Y.1.5 _ (eN aj.o)<|ak.o w0 _ _ aA.o aj.o];exact aj
 have aC:=h!<|a'.trans Y;obtain⟨a1,c1,rfl⟩:=J.form;have av:=h! J;have am:=h! al;let ⟨aD,aE,aF,aG⟩:=HC.o w1 al;have aT:=Y.1.4;clear ar J Y al aa;clear ag d0;have aw:=lB base _ L1 _ w1 av o! a9 o!;go_wp2_with fail;apply aw.mono;rintro e2 w2 ⟨v2,rfl,O,ab⟩;obtain⟨L2,ac⟩:∃L2,L2=L1++dM tx:=⟨_,q?⟩;have aX:l? L2<=l? L1+30:=by rw[ac];simp[dM];omega
 have aH:=h! ac;change j8 w2 base v2 (L1++dM tx)at O;rw[<-ac]at O;have an:w2.1[w.1.size]?=y? (c? #[s? ⟨a? nm⟩,s? ⟨a? tx⟩,n? i? wt,n? i? tg] 96 (0,0)):=by rw[ab.1.5 _ (eN am.o)<|ak.o w1 _ _ av.o am.o];exact am
 have aI:=h!<|aC.trans ab;obtain⟨a2,c2,rfl⟩:=O.form;have ax:=h! O;have ao:=h! an;let ⟨aJ,aK,aL,aM⟩:=HC.o w2 an;have aU:=ab.1.4;clear aw O ab an ac;have ay:=rI base _ L2 wt w2 ax o! h3 h4 o!;clear aD aE aF aG;go_wp2_with fail;apply ay.mono;rintro e3 w3 ⟨v3,rfl,U,ad⟩;obtain⟨L3,ae⟩:∃L3,L3=L2++gK wt:=⟨_,q?⟩;have aY:l? L3<=l? L2+30:=by rw[ae];simp[gK]
 have aN:=h! ae;change j8 w3 base v3 (L2++gK wt)at U;rw[<-ae]at U;have ap:w3.1[w.1.size]?=y? (c? #[s? ⟨a? nm⟩,s? ⟨a? tx⟩,n? i? wt,n? i? tg] 96 (0,0)):=by rw[ad.1.5 _ (eN ao.o)<|ak.o w2 _ _ ax.o ao.o];exact ao
 have aO:=h!<|aI.trans ad;obtain⟨a3,c3,rfl⟩:=U.form;have aP:=h! U;have aZ:=h! ap;let ⟨ba,bc,bd,be⟩:=HC.o w3 ap;have aV:=ad.1.4;clear ay U ad ap ae;clear aJ aK aL aM
 go_wp2_with (first
  |(at_builtin;refine dU _ q? _ _ 60 q? base 5 i0 _ 1 oS hi a5 a6 a7 q? _ _ _ q? (aP.alloc _) _ _ q? (Rd.one fF) (by simp[tm]) ?c1 ?c2 ?c3 ?_))
 case c1=>simp;omega
 case c2=>unfold nl;simp;omega
 case c3=>simp;omega
 intro v4 w4 aq az a0
 have aQ:J?<|j8 w4 base v4<|l++lH ⟨nm,gn,tx,wt,tg⟩:=by
  show j8 _ _ _ _;have e:l++lH ⟨nm,gn,tx,wt,tg⟩=L3++[u8 tg]:=by rw[aN.o,aH.o,aB.o];simp[lH]
  rw[e];unfold j8;rwa[jp,l5,Zh,(o!:tg % 256=tg)]
 have aR:=h!<|aO.trans<|iK.of az a0;clear aq az a0;go_wp2;go_ret;exact⟨v4,q?,aQ,aR⟩
structure yr(w:w?)(b o:Nat)(e:eE):Prop where
 path:C? w ⟨b,o,none⟩=some (.string ⟨(dF e).toArray⟩)
 name:C? w ⟨b,o+1,none⟩=some (.string ⟨a? e.1⟩)
 text:C? w ⟨b,o+2,none⟩=some (.string ⟨a? e.3⟩)
 dR:C? w ⟨b,o+3,none⟩=some (.int .i64 e.4)
 dY:C? w ⟨b,o+4,none⟩=some (.int .i64 e.5)
 blk:∃cs fz,w.1[b]?=some (.cells cs 237 fz)
def ye(w:w?)(v:v?)(L:E?):Prop:=∃a cap,v=.slice a L.length cap/\l? L<=cap/\cap<=nl/\∀i(h:i<l? L),∃b off,a=y? ⟨b,off,x?⟩/\yr w b (off+i*5) L[i]
def yr.stay{w' b e}(h:yr f b g e)(hb:w'.1[b]?=f.1[b]?):yr w' b g e:=by
 have B:∀(g:Nat)(u:v?),C? f ⟨b,g,x?⟩=y? u->C? w' ⟨b,g,x?⟩=y? u:=λg u J=>by simp only[sb]at J⊢;rwa[hb]
 exact⟨B _ _ h.1,B _ _ h.2,B _ _ h.3,B _ _ h.4,B _ _ h.5,by rw[hb];exact h.6⟩
def yr.lt{b e}(h:yr f b g e):b<f.1.size:=by obtain⟨cs,fz,B⟩:=h.6;exact(AI.1 B).1
def ye.below{w}(h:ye w p l)(hb:B? w f):ye f p l:=by obtain⟨a,cap,J,O,U,V⟩:=h;refine⟨a,cap,J,O,U,λi W=>?_⟩;obtain⟨b,off,Y,B⟩:=V i W;exact⟨b,off,Y,B.stay<|hb.5 b B.lt⟩
def ye.wrote{u'}(h:ye f p l)(O:j8 f g J P)(U:iK f I J u'):ye I p l:=by obtain⟨a,cap,V,W,Y,h4⟩:=h;refine⟨a,cap,V,W,Y,λi hi=>?_⟩;obtain⟨b,off,e1,B⟩:=h4 i hi;refine⟨b,off,e1,B.stay<|U.1.5 b B.lt<|λe=>?_⟩;obtain⟨cs,fz,hh⟩:=B.6;exact fD hh O d! e
def G4(v)(L:E?)(w)(h:ye w v L) :
  nr prog 179 #[v] w λe w'=>e=e? (n? i?<|gJ L)/\B? w w':=by
 obtain⟨a,cap,rfl,hc,hm,V⟩:=h;have W:=h! V;unfold nl at hm;clear V;go_enter func179,ntmps179;go_wp2;go_loopw [3,8] (λg i wr=>∃k:Nat,k<=l? L/\i=n? i? k/\g=n? i? (gJ (L.take k))/\B? w wr) (λ_ i _=>l? L-(intOf i).toNat);exact⟨0,ZP _,q?,q?,oA _ _⟩;obtain⟨k,hk,rfl,rfl,hb⟩:=hrel;have B:=h! hb;have Y:=hb.4;clear hb;by_cases J:k<l? L
 .obtain⟨b,off,rfl,O⟩:=W.o k J;have q0:=Z0 B O.1;have q1:=Z0 B O.2;have q2:=Z0 B O.3;have q3:=Z0 B O.4;have q4:=Z0 B O.5
  have U:J?<|gJ (L.take<|k+1)=max (gJ<|L.take k) L[k].4:=by show _=_;rw[IS J,ll,mo,show gJ []=0 from rfl];have:=mZ<|L.take k;omega
  go_wp2;go_roundw
  .exact⟨k+1,o!,by go_num,by rw[U.o],B.alloc Y _⟩
  exact M!
 have U:J?<|L.take k=L:=If o!;go_wp2;go_ret;exact⟨dQ<|by rw[U.o],B⟩
def Ws(L:E?)(d):lF L d<=l? L:=by exact(Q? _).length_le
def Hs(B:C<=l? l)(J:∀j(h:j<C),(dF<|l[j]'o!).length=g)(O:∀h:C<l? l,(dF l[C]).length≠g):lF l g=C:=by exact lT _ _ C B (λj U=>by simpa using J j U) (λh=>by simpa using O h)
def Aq(v)(L:E?)(d:Nat)(w)(h:ye w v L) :
  nr prog 180 #[v,n? i? d] w λe w'=>e=e? (n? i?<|lF L d)/\B? w w':=by
 obtain⟨a,cap,rfl,hc,hm,W⟩:=h;have HR:=h! W;unfold nl at hm;clear W;go_enter func180,ntmps180;go_wp2;go_loopw [5] (λi wr=>∃k:Nat,k<=l? L/\i=n? i? k/\(∀j(h:j<k)(h':j<l? L),(dF L[j]).length=d)/\B? w wr) (λi _=>l? L-(intOf i).toNat);exact⟨0,ZP _,q?,λj h=>o!,oA _ _⟩;obtain⟨k,Y,rfl,fu,hb⟩:=hrel;have O:=h! hb;have U:=h! fu;clear hb fu;by_cases J:k<l? L
 .obtain⟨b,off,rfl,hL⟩:=HR.o k J;have q0:=Z0 O hL.1;have aa:(k:Int)<(l? L:Int):=o!;clear hL;by_cases B:(dF L[k]).length=d
  .have HD:=h! B;have V:(((dF L[k]).length)==(d:Int))=t?:=beq_iff_eq.2 o!;clear B;go_wp2;go_roundw
   case rel=>exact⟨k+1,o!,by go_num,λj h h'=>by
    by_cases e:j=k;subst e;exact HD
    exact U j o! h',O⟩
   exact M!
  have V:(((dF L[k]).length:Int)==d)=f?:=beq_eq_false_iff_ne.2 o!;go_wp2;go_ret;exact⟨dQ<|by rw[(h!<|Hs Y (λj h=>U.o j h o!)<|λ_=>B).o],O⟩
 go_wp2;go_ret;exact⟨dQ<|by rw[(h!<|Hs Y (λj h=>U.o j h _)<|λh=>absurd h J).o],O⟩
def AM{B:Type}{L:List B}(h:L≠[]):0<l? L:=gc.2 h
def BS{a b:Wd}(Y:g<=l? a)(O:a.take g=b.take g)(U:g=l? a\/g=l? b\/a.getD g 0≠b.getD g 0):(wv a b).length=g:=by
 have V:=(uy a b _ (l0 ..) (by rw[O];exact l0 ..)).length_le;rw[dd]at V;have J:=uv a b;have hb:=tk a b;obtain B|W:=Nat.lt_or_ge g _
 have:=J.length_le;have:=hb.length_le;obtain h|h|h:=U
 omega;omega;exact absurd ((rl J g B).trans (rl hb g B).symm) h;omega
def QL{a b:Wd}(J:g<l? a)(O:g<l? b)(U:a.take g=b.take g)(B:a.getD g 0=b.getD g 0):a.take (g+1)=b.take (g+1):=by rw[IS J,IS O,U];rw[AS,BY J,AS,BY O]at B;simp only[I!]at B;rw[B]
def U5(h:l≠[]):kZ l=wv (dF<|l[0]'(AM h)) (dF<|l[l? l-1]'(v!<|AM h)):=by
 cases l with
 |nil=>exact absurd q? h|cons e C=>unfold kZ;simp only[Q!];rw[kr]
def L'(v)(L:E?)(w)(h:ye w v L)(V:L≠[])(O:∀e∈L,(dF e).length<=24) :
  nr prog 183 #[v] w λe w'=>e=e? (n? i? (kZ L).length)/\B? w w':=by
 obtain⟨a,cap,rfl,hc,hm,hr⟩:=h;unfold nl at hm;have J:=AM V;obtain⟨b,off,rfl,h0⟩:=hr 0 J;let ⟨b',aj,e',h1⟩:=hr (l? L-1) o!;simp only[m?,O!,and_true]at e';obtain⟨rfl,rfl⟩:=e';have HC:J?<|kZ L=wv (dF<|L[0]'J) (dF<|L[l? L-1]'o!):=U5 V;have hA:(dF<|L[0]'J).length<=24:=O _<|Zw _;have hB:(dF<|L[l? L-1]'o!).length<=24:=O _<|Zw _;have c0:=h0.1;have c1:=h1.1;rw[o1]at c0;obtain⟨m,ab⟩:∃m,l? L=m+1:=⟨l? L-1,o!⟩;have U:l? L-1=m:=o!;rw[show off+(l? L-1)*5=off+m*5 by rw[U]]at c1;clear h0 h1 hr O;generalize ac:dF (L[0]'J)=A at *;generalize ad:dF (L[l? L-1]'o!)=B at *;clear ac ad V U J;rw[ab]at hc⊢;have al:IntKind.i64.wrap (((m+1:Nat):Int)-1)=(m:Int):=by simp only[X?];omega
 have ak:IntKind.i64.wrap ((m:Int)+1-1)=(m:Int):=by simp only[X?];omega
 have i0:(0:Int)<(m:Int)+1:=o!;have i1:(m:Int)<(m:Int)+1:=o!;have i2:(0:Int)<=(m:Int):=o!;have am:(⟨a? A⟩:b?).size=l? A:=by show A.toArray.size=_;simp
 have an:(⟨a? B⟩:b?).size=l? B:=by show B.toArray.size=_;simp
 have ae:J? (∀(n:Nat)(h:n<(⟨a? A⟩:b?).size),(⟨a? A⟩:b?)[n]=A.getD n 0):=λn h=>(ir _ n h).symm;have af:J? (∀(n:Nat)(h:n<(⟨a? B⟩:b?).size),(⟨a? B⟩:b?)[n]=B.getD n 0):=λn h=>(ir _ n h).symm;generalize (⟨a? A⟩:b?)=bA at *;generalize (⟨a? B⟩:b?)=bB at *;go_enter func183,ntmps183;go_wp2_with fail;go_quiet (fail);go_wp2;go_loopw [5] (λi wr=>∃n:Nat,n<=l? A/\n<=l? B/\i=n? i? n/\A.take n=B.take n/\B? w wr) (λi _=>l? A-(intOf i).toNat);exact⟨0,ZP _,ZP _,q?,i!,j5 (oA _ _) _⟩;obtain⟨n,W,ao,rfl,aa,hb⟩:=hrel;have HB:=h! hb;have HE:=h! aa;clear hb aa;by_cases h1:n<l? A
 .have ag:(n:Int)<(l? A:Int):=o!;by_cases h2:n<l? B
  .have ah:(n:Int)<(l? B:Int):=o!;have gA:=ae.o n o!;have gB:=af.o n o!;by_cases h3:A.getD n 0=B.getD n 0
   .have Y:=h!<|QL h1 h2 HE h3;have ai:(((bA[n]'o!).toNat)==((bB[n]'o!).toNat:Int))=t?:=beq_iff_eq.2 (by rw[gA,gB,h3]);clear h3 gA gB;go_wp2_with fail;go_quiet (fail);go_wp2;go_roundw
    .exact⟨n+1,o!,o!,by go_num,Y,j5 HB _⟩
    exact M!
   have Y:J?<|(kZ L).length=n:=h!<|by rw[HC.o];exact BS W HE<|.inr<|.inr h3
   have ai:(((bA[n]'o!).toNat)==((bB[n]'o!).toNat:Int))=f?:=beq_eq_false_iff_ne.2 (by
    rw[gA,gB];intro hh
    exact h3<|H?.1 o!)
   clear h3 gA gB;go_wp2_with fail;go_quiet (fail);go_wp2;go_ret;exact⟨dQ<|by rw[Y.o],j5 HB _⟩
  have Y:J?<|(kZ L).length=n:=h!<|by rw[HC.o];exact BS W HE<|.inr<|.inl o!
  have ah:decide ((n:Int)<l? B)=f?:=decide_eq_false o!;go_wp2_with fail;go_quiet (fail);go_wp2;go_ret;exact⟨dQ<|by rw[Y.o],j5 HB _⟩
 have Y:J?<|(kZ L).length=n:=h!<|by rw[HC.o];exact BS W HE<|.inl o!
 have ag:decide ((n:Int)<l? A)=f?:=decide_eq_false o!;go_wp2_with fail;go_quiet (fail);go_wp2;go_ret;exact⟨dQ<|by rw[Y.o],j5 HB _⟩
def QI(d)(e)(l:E?):∃g B,runs d (e::l)=(e::g)::B:=by unfold runs;split;exact⟨[],[],q?⟩;exact⟨[],_,q?⟩;split;exact⟨_,_,q?⟩;exact⟨[],_,q?⟩
def SR(d):∀(X:E?)(j),j<l? X->(∀i,i<j->∀(U:i+1<l? X),fW d (X[i]'o!)=fW d X[i+1])->(∀h:j+1<l? X,fW d (X[j]'o!)≠fW d X[j+1])->
  runs d X=X.take (j+1)::runs d (X.drop<|j+1):=by
 intro X;induction X with
 |nil=>intro j h;simp at h|cons e l ih=>
  intro j hj V W
  cases j with
  |zero=>
   cases l with
   |nil=>simp[runs]|cons x Y=>obtain⟨g,gs,hg⟩:=QI d x Y;have B:=W i!;simp only[Q!,kt]at B;simp only[Z?,List.take_zero,ld,List.drop_zero];rw[runs,hg];simp only;rw[if_neg B]
  |succ j=>
   have J:=by simpa using hj
   have h1:=ih j J (λi h U=>by have:=V (i+1) o!<|u! U;simpa using this) (λh=>by have:=W<|u! h;simpa using this)
   cases l with
   |nil=>simp at J|cons x Y=>have O:=V 0 o! i!;simp only[Q!,kt]at O;rw[Z?,ld,runs,h1,Z?];simp only;rw[if_pos O]
def Br(J:C<=U)(Y:U<l? l)(O:∀i,C<=i->i<U->∀(B:i+1<l? l),fW g (l[i]'o!)=fW g l[i+1])(V:∀h:U+1<l? l,fW g (l[U]'o!)≠fW g l[U+1]) :
  runs g (l.drop C)=(l.drop C).take (U+1-C)::runs g (l.drop<|U+1):=by
 have h:=SR g (l.drop C) (U-C) j! (λi hi B=>by
  have:=O (C+i) o! o! o!
  simpa[Nat.add_assoc]using this) (λB=>by
  rw[u?]at B;have:=V o!;have e:C+(U-C)=U:=o!;have W:C+(U-C+1)=U+1:=o!
  simpa[e,W]using this)
 rw[h,List.drop_drop,(o!:C+(U-C+1)=U+1),(o!:U-C+1=U+1-C)]
def ye.sub{b}(h:ye f (.slice (y? ⟨b,g,x?⟩) C U) l)(s t)(O:s<=t)(ht:t<=l? l):ye f (.slice (y? ⟨b,g+s*5,x?⟩) (t-s)<|U-s)<|(l.drop s).take<|t-s:=by obtain⟨a,c,e,h1,h2,V⟩:=h;obtain⟨rfl,_,rfl⟩:=e;have B:((l.drop s).take<|t-s).length=t-s:=j!;refine⟨y? _,U-s,by rw[B],o!,o!,λi W=>?_⟩;rw[B]at W;obtain⟨b',J,Y,hL⟩:=V (s+i) o!;obtain⟨rfl,rfl⟩:=Y;refine⟨b,g+s*5,q?,?_⟩;have e2:((l.drop s).take _)[i]'(by rwa[B])=l[s+i]'o!:=i!;rwa[e2,(o!:g+s*5+i*5=g+(s+i)*5)]
def ui(w:w?)(v:v?)(B:List<|E?):Prop:=∃vs:L?,R? w 0 190 1 v B.length vs/\Zip (ye w) vs B
def ui.below{w}{B:List<|E?}(h:ui w i B)(hb:B? w f):ui f i B:=by obtain⟨vs,J,O⟩:=h;exact⟨vs,dH J<|λk U=>hb.5 k (J.lt k U).2,O.mono<|λu l V=>V.below hb⟩
def ui.wrote{O:List<|E?}(h:ui f i O)(U:j8 f g p P)(V:iK f I p J):ui I i O:=by obtain⟨vs,B,Y⟩:=h;exact⟨vs,dH B<|λk W=>V.1.5 k (B.lt k W).2<|λe=>fX B U d! k W e,Y.mono<|λp P hu=>hu.wrote U V⟩
def YA:(prog.info? 190).map (λi=>(i.8,i.3,i.4))=y? (y?<|.slice x? 0 0,1,24):=by kernel_rfl
def RR(v)(L:E?)(d)(w)(h:ye w v L)(hk:∀e∈L,d<(dF e).length)(aq:∀e∈L,(dF e).length<=24)(hl:l? L<=1048576) :
  nr prog 182 #[v,n? i? d] w λe w'=>∃v',e=e? v'/\ui w' v' (runs d L)/\B? w w':=by
 obtain⟨i0,hi,ar,au,av⟩:=Zz YA;obtain⟨a,cap,rfl,hc,hm,hr⟩:=id h;have HL:=h! h;have HR:=h! hr;have HK:=h! hk;have aw:=h! aq;unfold nl at hm;clear hr h hk aq;go_enter func182,ntmps182;go_wp2;go_loopw [5,6,11] (λv s i wr=>∃(k st:Nat)(Ps:List (E?))(vs:L?),k<=l? L/\st<=k/\i=n? i? k/\s=n? i? st/\l? Ps<=k/\R? wr w.1.size 190 1 v Ps.length vs/\Zip (ye w) vs Ps/\runs d L=Ps++runs d (L.drop st)/\(∀i(h:st<=i)(h2:i<k)(h':i+1<l? L),fW d (L[i]'o!)=fW d L[i+1])/\(k=l? L->st=k)/\B? w wr) (λ_ _ i _=>l? L-(intOf i).toNat);exact⟨0,0,[],[],ZP _,Zu _,q?,q?,Zu _,Z9 _ _ _ _,Zip.nil _,i!,λi h h2=>o!,λ_=>rfl,oA _ _⟩;obtain⟨k,st,Ps,vs,aF,ax,rfl,rfl,aG,U,ah,V,W,Y,hb⟩:=hrel;have HB:=h! hb;have HO:=h! U;have HZ:=h! ah;have ad:=h! V;have HS:J? (∀i(h:st<=i)(h2:i<k)(h':i+1<l? L),fW d (L[i]'o!)=fW d _):=W;obtain⟨aP,cP,rfl,aH⟩:=dC U;have hz:=hb.4;clear hb U ah V W;by_cases aa:k<l? L
 .obtain⟨b,off,rfl,hL⟩:=HR.o k aa;have q0:=Z0 HB hL.1;have a7:(k:Int)<(l? L:Int):=o!;have ay:=h!<|HL.sub st (k+1) o! o!;have aI:=HK.o _<|Zw aa;clear hL Y;by_cases ab:k+1=l? L
  .have a1:(((k:Int)+1)==l? L)=t?:=beq_iff_eq.2 o!;have HC:=h!<|Br ax aa (HS)<|λh=>o!;have az:st<cap:=o!;have ae:(k:Int)+1<=(cap:Int):=o!;clear ab;go_wp2_with fail;go_quiet (fail);have ac:J?<|R? (wr.drewN nq) _ 190 1 _ _ vs:=HO.o;have aj:=h!<|j5 HB nq;have ak:w.1.size<=(wr.drewN nq).1.size:=hz;clear HO;generalize wr.drewN nq=wd at *
   go_wp2_with (first
    |(at_builtin;refine eu _ q? _ _ 239 q? _ 190 i0 _ 24 p6 hi ar au av q? _ _ _ q? (ac.alloc _) _ _ q? fF q? ?c1 ?c2 ?c3 ?_))
   case c1=>omega
   case c2=>unfold nl;omega
   case c3=>first|omega|(simp;omega)
   intro v' w1 J B _
   have al:J?<|R? w1 w.1.size 190 1 v' (Ps++[(L.drop st).take<|k+1-st]).length<|vs++[.slice (y? ⟨b,off+st*5,x?⟩) (k+1-st)<|cap-st]:=by show R? w1 _ _ _ _ _ _;rwa[Zh]
   have am:=h!<|(aj.alloc ak _).grown B j!<|λb hb=>(ac.lt b hb).1;have an:=h!<|HZ.append<|Zip.one ay;clear J B;go_wp2;go_roundw
   .refine⟨k+1,k+1,_,_,o!,Zu _,by go_num,by go_num,j!,al,an,?_,λi h h2=>o!,λ_=>rfl,am⟩;rw[ad.o,HC.o];simp
   exact M!
  have a1:(((k:Int)+1)==l? L)=f?:=beq_eq_false_iff_ne.2 o!;have ae:k+1<l? L:=o!;have a8:(k:Int)+1<(l? L:Int):=o!;let ⟨b',a9,e',a0⟩:=HR.o _ ae;simp only[m?,O!,and_true]at e';obtain⟨rfl,rfl⟩:=e';have q1:=Z0 HB a0.1;have a':=HK.o _<|Zw ae;have aA:=aw.o _<|Zw aa;have aB:=aw.o _<|Zw ae;have a2:(⟨(dF L[k]).toArray⟩:b?).size=(dF L[k]).length:=by show(dF L[k]).toArray.size=_;simp
  have a3:(⟨(dF L[k+1]).toArray⟩:b?).size=(dF L[k+1]).length:=by show(dF L[k+1]).toArray.size=_;simp
  have gA:∀h:d<(⟨(dF L[k]).toArray⟩:b?).size,(⟨(dF _).toArray⟩:b?)[d]=fW d _:=λh=>(ir _ d h).symm;have gB:∀h:d<(⟨(dF L[k+1]).toArray⟩:b?).size,(⟨(dF _).toArray⟩:b?)[d]=fW d _:=λh=>(ir _ d h).symm;generalize (⟨(dF L[k]).toArray⟩:b?)=bA at *;generalize (⟨(dF L[k+1]).toArray⟩:b?)=bB at *;have ao:d<bA.size:=o!;have ap:d<bB.size:=o!;have aC:(d:Int)<(bA.size:Int):=o!;have aD:(d:Int)<(bB.size:Int):=o!;have af:=gA ao;have ag:=gB ap;have aJ:IntKind.i64.wrap ((k:Int)+1)=((k+1:Nat):Int):=by simp only[X?];omega
  have aE:((k+1:Nat):Int)<(l? L:Int):=o!;have az:st<cap:=o!;have aK:(k:Int)+1<=(cap:Int):=o!;clear a0 a2 a3 ab gA gB;by_cases O:fW d L[k]=fW d L[k+1]
  .have a4:(((bA[d]'ao).toNat:Int) != ((bB[d]'ap).toNat:Int))=f?:=by rw[af,ag,O];simp
   have a5:=h! O;clear O af ag;go_wp2_with fail;go_quiet (fail);go_wp2;go_roundw
   .refine⟨k+1,st,Ps,vs,o!,o!,by go_num,q?,o!,HO,HZ,ad,λi h h2 h'=>?_,λh=>o!,j5 HB _⟩;by_cases e:i=k;subst e;exact a5;exact HS i h o! h'
   exact M!
  have a4:(((bA[d]'ao).toNat:Int) != ((bB[d]'ap).toNat:Int))=t?:=by rw[af,ag,bne_iff_ne];intro hh;exact O<|H?.1 o!
  have HC:=h!<|Br ax aa (HS)<|λ_=>O;clear O af ag;go_wp2_with fail;go_quiet (fail);have ac:J?<|R? (wr.drewN nq) _ 190 1 _ _ vs:=HO.o;have aj:=h!<|j5 HB nq;have ak:w.1.size<=(wr.drewN nq).1.size:=hz;clear HO;generalize wr.drewN nq=wd at *
  go_wp2_with (first
   |(at_builtin;refine eu _ q? _ _ 239 q? _ 190 i0 _ 24 p6 hi ar au av q? _ _ _ q? (ac.alloc _) _ _ q? fF q? ?c1 ?c2 ?c3 ?_))
  case c1=>omega
  case c2=>unfold nl;omega
  case c3=>first|omega|(simp;omega)
  intro v' w1 J B _
  have al:J?<|R? w1 w.1.size 190 1 v' (Ps++[(L.drop st).take<|k+1-st]).length<|vs++[.slice (y? ⟨b,off+st*5,x?⟩) (k+1-st)<|cap-st]:=by show R? w1 _ _ _ _ _ _;rwa[Zh]
  have am:=h!<|(aj.alloc ak _).grown B j!<|λb hb=>(ac.lt b hb).1;have an:=h!<|HZ.append<|Zip.one ay;clear J B;go_wp2;go_roundw
  .refine⟨k+1,k+1,_,_,o!,Zu _,by go_num,by go_num,j!,al,an,?_,λi h h2=>o!,λ_=>rfl,am⟩;rw[ad.o,HC.o];simp
  exact M!
 have ai:k=l? L:=o!;have a6:=Y ai
 have HE:J?<|runs d L=Ps:=by show _=_;rw[ad.o,a6,ai,List.drop_length];simp[runs]
 clear Y;go_wp2;go_ret;refine⟨_,q?,?_,HB⟩;rw[HE.o];exact⟨vs,eH HO<|ZP _,HZ.mono<|λu l hu=>hu.below HB⟩
def WrN(f:Nat):Prop:=∀(base:Nat)(v:v?)(l:Wd)(label:b?)(p:Wd)(B:v?)(L:E?)(w:w?),j8 w base v l->ye w B L->base<=w.1.size->(∀e∈L,Es e/\p <+: dF e)->km L->l? L<=255->l? p<=24->25<=f+l? p->
  l.length+(dM label.1.1++jJ f p.length L).length<=549755813888->label.size<=1099511627776->
  nr prog 132 #[v,s? label,n? i? p.length,B] w (UG base w v l<|dM label.1.1++jJ f p.length L)
def ye.tail{a}(h:ye f (.slice a g C) l)(k)(J:k<=l? l):ye f (.slice (a.map λx=>x.add<|k*5) (l? l-k)<|C-k)<|l.drop k:=by obtain⟨O,U,e,V,W,B⟩:=h;simp only[ti]at e;refine⟨_,C-k,by rw[u?],by rw[u?];omega,o!,λi Y=>?_⟩;obtain⟨b,off,e,hL⟩:=B ..;refine⟨b,off+k*5,by simp only[N!,Addr.add];split<;>simp_all,?_⟩;rwa[lw,(o!:off+k*5+i*5=off+(k+i)*5)]
def ye.ZaI{a c}(h:ye f (.slice a g c) l)(B:c=C)(J:C<=l? l):ye f (.slice a (l? l-C) 0)<|l.drop C:=by obtain⟨O,U,e,V,W,Y⟩:=h;simp only[ti]at e;rw[kv o!];exact⟨a,0,j!,Zu _,ZP _,nofun⟩
def kid{C:E?}(hL:km l)(hp:∀e∈l,P <+: dF e)(hS:∀e∈l.drop g,dF e≠P)(hC:C∈runs P.length (l.drop g)) :
  C≠[]/\km C/\(∀e∈C,e∈l/\kZ C <+: dF e)/\P <+: kZ C/\l? P<(kZ C).length/\l? C<=l? l:=by
 obtain⟨Y,r1,r2,r3,r4,r5,r6⟩:=Cl P _ (uL (ly g l) hL)<|λe U=>⟨hp e<|V! U,hS e U⟩;rw[r1]at hC;obtain⟨x,V,rfl⟩:=Zv.1 hC;have B:=(r3 x V).1;have W:=U0 _ B<|r5 x V
 have J:P++[x.1] <+: kZ x.2:=by rw[<-W];refine(oZ B).2 _<|λs Y=>?_;obtain⟨e,U,rfl⟩:=Zv.1 Y;exact(r3 x V).2 e U
 have O:x.2.Sublist<|l.drop g:=by rw[<-r4];exact List.sublist_flatten_of_mem<|Zv.2 ⟨x,V,q?⟩
 refine⟨B,r5 x V,λe U=>⟨V!<|O.subset U,?_⟩,(List.prefix_append ..).trans J,?_,?_⟩;rw[<-W];exact(oZ B).1 _<|Zv.2 ⟨e,U,q?⟩;have:=J.length_le;simp at this;omega;have h1:=O.length_le;rw[u?]at h1;omega
def UR{s:Wd}(h:P <+: s)(B:s≠P):l? P<l? s:=by have J:=h.length_le;by_cases e:l? P=l? s;exact absurd (h.eq_of_length e).symm B;omega
def Ui(d):∀L:E?,(runs d L).length<=l? L:=by
 intro L;induction L with
 |nil=>simp[runs]|cons e l B=>
  unfold runs;split;simp
  next h=>rw[h]at B;simp at B⊢;omega
  next h=>
  rw[h]at B;split;simp at B⊢;omega;simp at B⊢;omega
def K8(f d)(L:E?):jJ (f+1) d L=gK (gJ L)++(u8 (lF L d)::((L.take<|lF L d).flatMap lH++(u8 (runs d<|L.drop<|lF L d).length::(runs d<|L.drop<|lF L d).flatMap λC=>dM ((kZ C).drop d)++jJ f (kZ C).length C))):=rfl
def Yt:∀f,WrN f:=by
 intro f;induction f with
 |zero=>intro base v l label p vL L w _ _ _ _ _ _ cj ck;omega|succ f ih=>
  intro base v l label p vL L w hO hL aN aO b4 cH cj ck b5 b6;obtain⟨i0,hi,b8,b9,b'⟩:=Zz F0;obtain⟨a,c,rfl⟩:=hO.form;obtain⟨aL,cL,rfl,cU,hmL,cn⟩:=id hL;have cq:=h! ih;have ac:=h! aO;have bA:=h! b4;have bB:=h! hL;have bD:=h! hO;obtain⟨N,hN⟩:∃N,N=l++(dM label.1.1++jJ (f+1) p.length L):=⟨_,q?⟩;have HN:=h! hN;have cV:l? N<=549755813888:=by rwa[hN,Zh]
  have cr:=mZ L;have ct:=OE<|λe Y=>(aO e Y).1.2.2.2.2.2.1;have aP:=Ws L p.length;have bE:=lB base _ l label w hO (by have:=congrArg kj hN;simp at this;omega) b6 aN;unfold nl at hmL;clear ih aO b4 hL hO b5 hN cn;go_enter func132,ntmps132;go_wp2_with fail;apply bE.mono;rintro e1 w1 ⟨v1,rfl,ar,au⟩;obtain⟨L1,aQ⟩:∃L1,L1=l++dM label.1.1:=⟨_,q?⟩;have bF:=h! aQ;rw[<-aQ]at ar;have ag:=h!<|bB.wrote bD au;have bG:=h! au;obtain⟨a1,c1,rfl⟩:=ar.form;have bH:=h! ar;have cI:=au.1.4;have hG:=G4 _ L w1 ag;clear bE ar au aQ bB bD;go_wp2_with fail;apply hG.mono;rintro e2 w2 ⟨rfl,ah⟩;have aR:=h!<|bH.below ah;have aE:=h!<|ag.below ah;have bI:=h!<|bG.trans<|iK.below ah _;have cJ:=ah.4;have cW:l? L1<=l? N:=by rw[HN.o,bF.o];simp
  have bJ:=rI base _ L1 _ w2 aR o! cr ct o!;clear hG ah bH ag bG;go_wp2_with fail;apply bJ.mono;rintro e3 w3 ⟨v3,rfl,av,aw⟩;obtain⟨L3,aS⟩:∃L3,L3=L1++gK (gJ L):=⟨_,q?⟩;have cu:=h! aS;rw[<-aS]at av;have ai:=h!<|aE.wrote aR aw;have bK:=h!<|bI.trans aw;obtain⟨a3,c3,rfl⟩:=av.form;have bL:=h! av;have cK:=aw.1.4;have hC:=Aq _ L p.length w3 ai;clear bJ av aw aS aR aE bI;go_wp2_with fail;apply hC.mono;rintro e4 w4 ⟨rfl,aj⟩;have aU:=h!<|bL.below aj;have aF:=h!<|ai.below aj;have bM:=h!<|bK.trans<|iK.below aj _;have cM:=aj.4;obtain⟨hn,ax⟩:∃hn,lF L p.length=hn:=⟨_,q?⟩;have HH:=h! ax;rw[ax]at aP⊢;obtain⟨B,aV⟩:∃B,B=runs p.length (L.drop hn):=⟨_,q?⟩;have aW:=h! aV
  have bN:J?<|N=L3++[u8 hn]++((L.take hn).flatMap lH++(u8 B.length::B.flatMap λC=>dM ((kZ C).drop p.length)++jJ f (kZ C).length C)):=by show _=_;rw[HN.o,cu.o,bF.o,K8,aV,ax];simp
  clear aV;have cX:l? L3+1<=l? N:=by rw[bN.o];simp
  clear hC aj bL ai bK ax
  go_wp2_with (first
   |(at_builtin;refine dU _ q? _ _ 60 q? base 5 i0 _ 1 oS hi b8 b9 b' q? _ _ _ q? (aU.alloc _) _ _ q? (Rd.one fF) (by simp[tm]) ?c1 ?c2 ?c3 ?_))
  case c1=>simp;omega
  case c2=>unfold nl;simp;omega
  case c3=>simp;omega
  intro v5 w5 aX aY aZ;obtain⟨L5,ay⟩:∃L5,L5=L3++[u8 hn]:=⟨_,q?⟩;have cY:=h! ay
  have ba:J?<|N=L5++((L.take hn).flatMap lH++(u8 B.length::B.flatMap λC=>dM ((kZ C).drop p.length)++jJ f (kZ C).length C)):=by show _=_;rw[bN.o,<-ay]
  have bc:J?<|j8 w5 base v5 L5:=by show j8 _ _ _ _;unfold j8;rwa[ay,jp,l5,Zh,(o!:(hn:Int) % 256=hn)]
  have bd:=h!<|bM.trans<|iK.of aY aZ;have aG:=h!<|aF.wrote aU<|iK.of aY aZ;obtain⟨a5,c5,rfl⟩:=bc.form;have cN:=bd.1.4;clear aX aY aZ ay aU aF bM;go_wp2_with fail;go_loopw [0,35] (λu i wr=>∃k:Nat,k<=hn/\i=n? i? k/\j8 wr base u (L5++(L.take k).flatMap lH)/\iK w wr (.slice a l.length c) u/\ye wr (.slice aL L.length cL) L) (λ_ i _=>hn-(intOf i).toNat);exact⟨0,ZP _,q?,u! bc.o,bd,aG⟩;obtain⟨k,hk,rfl,az,be,aH⟩:=hrel;obtain⟨L6,bf⟩:∃L6,L6=L5++(L.take k).flatMap lH:=⟨_,q?⟩;have a0:=h! bf;rw[<-bf]at az;obtain⟨a6,c6,rfl⟩:=az.form;have bg:=h! az;have bh:=h! be;have aa:=h! aH;have cO:=be.1.4;clear az be aH bf bc bd aG;by_cases bi:k<hn
  .let ⟨_,_,e',_,_,hr⟩:=aa.o;simp only[ti,true_and]at e';obtain⟨rfl,rfl⟩:=e';obtain⟨b,off,rfl,V⟩:=hr k o!;have q0:=V.1;have q1:=V.2;have q2:=V.3;have q3:=V.4;have q4:=V.5;clear V hr;obtain⟨wa,bj⟩:∃wa,wr.alloc (c? #[s? ⟨(dF L[k]).toArray⟩,s? ⟨L[k].1.toArray⟩,s? ⟨L[k].3.toArray⟩,n? i? L[k].4,n? i? L[k].5] 237)=wa:=⟨_,q?⟩;have ak:B? wr wa:=by rw[<-bj];exact(oA _ _).alloc (Zu _) _
   have cv:=h! bj;have bO:=h!<|bg.below ak;have cw:=h!<|bh.trans<|iK.below ak _;have bP:=h!<|aa.below ak;have cZ:=ak.4;have HT:J?<|L.take _=L.take k++[L[k]]:=IS _
   have cy:l? L6<=l? N:=by
    have e:L.take hn=L.take k++(L.take hn).drop k:=by
     conv=>lhs;rw[<-S! k<|L.take hn]
     rw[mb,ov hk]
    rw[ba.o,a0.o,e];simp
   have hA:=Am base _ L6 L[k] wa bO o! (ac _<|Zw _).1 o!;unfold CE at hA;clear ak bj;go_wp2_with fail;rw[cv.o];apply hA.mono;rintro e7 w7 ⟨v7,rfl,bQ,bk⟩;have al:=h! bQ;have a2:=h!<|cw.trans bk;have bR:=h!<|bP.wrote bO bk;clear hA bQ bk q0 q1 q2 q3 q4;go_wp2;go_roundw
   .refine⟨k+1,o!,by go_num,?_,a2,bR⟩;have e:L5++(L.take<|k+1).flatMap lH=L6++lH L[k]:=by rw[HT.o,a0.o,Z!,Zq];simp only[c!,hQ,Z6]
    rw[e];exact al
   exact M!
  have cz:k=hn:=o!;subst cz
  have HS:J? (∀e∈L.drop k,dF e≠p):=by have:=(Dl bA<|λe Y=>(ac e Y).2).2;rwa[HH.o]at this
  have am:J? _:=λe Y=>(sO (ac e Y).1).1;have bS:J? (∀(aT:Option Addr)(cT:Nat),ye wr (.slice aT (l? L-k) cT) _->nr _ 182 _ wr _):=λaT cT h=>RR _ _ _ wr h (λe Y=>UR (ac e<|V! Y).2<|HS e Y) (λe Y=>am.o e<|V! Y) (by rw[u?];omega);go_wp2_with fail
  all_goals(
   apply (bS _ _ (by first|exact aa.tail k aP|exact aa.ZaI o! aP)).mono;rintro e7 w7 ⟨v7,rfl,a4,a'⟩;rw[<-aW.o]at a4;obtain⟨vs,an,ab⟩:=id a4;obtain⟨a7,c7,rfl,da⟩:=dC an;have bT:=h! a4;have al:=h!<|bg.below a';have a2:=h!<|bh.trans<|iK.below a' _;have cP:=a'.4
   have db:l? B<=255:=by rw[aW.o];have:=Ui p.length<|L.drop k;rw[u?]at this;omega
   have cy:l? L6+1<=l? N:=by rw[ba.o,a0.o];simp;omega
   clear bS a4 an ab a' bg bh aa
   go_wp2_with (first
    |(at_builtin;refine dU _ q? _ _ 60 q? base 5 i0 _ 1 oS hi b8 b9 b' q? _ _ _ q? (al.alloc _) _ _ q? (Rd.one fF) (by simp[tm]) ?c1 ?c2 ?c3 ?_))
   case c1=>simp;omega
   case c2=>unfold nl;simp;omega
   case c3=>simp;omega
   intro v8 w8 bl bm bn;obtain⟨L8,aA⟩:∃L8,L8=L6++[u8 B.length]:=⟨_,q?⟩;have dc:=h! aA
   have bU:J?<|N=L8++B.flatMap λC=>dM ((kZ C).drop p.length)++jJ f (kZ C).length C:=by show _=_;rw[ba.o,aA,a0.o];simp
   have bo:J?<|j8 w8 base v8 L8:=by show j8 _ _ _ _;unfold j8;rwa[aA,jp,l5,Zh,(o!:(l? B:Int) % 256=l? B)]
   have bp:=h!<|a2.trans<|iK.of bm bn;have bV:=h!<|bT.wrote al<|iK.of bm bn;obtain⟨a8,c8,rfl⟩:=bo.form;have cQ:=bp.1.4;clear bl bm bn aA al bT a2;go_wp2_with fail;go_loopw [0,57] (λu i wx=>∃k:Nat,k<=l? B/\i=n? i? k/\j8 wx base u (L8++(B.take k).flatMap λC=>dM ((kZ C).drop p.length)++jJ f (kZ C).length C)/\iK w wx (.slice a l.length c) u/\ui wx (.slice a7 B.length c7) B) (λ_ i _=>l? B-(intOf i).toNat);exact⟨0,ZP _,q?,u! bo.o,bp,bV⟩;obtain⟨j,hj,rfl,aB,bq,bW⟩:=hrel;obtain⟨L9,br⟩:∃L9,L9=L8++(B.take j).flatMap λC=>dM ((kZ C).drop p.length)++jJ f (kZ C).length C:=⟨_,q?⟩;have bs:=h! br;rw[<-br]at aB;obtain⟨a9,c9,rfl⟩:=aB.form;have bt:=h! aB;have bu:=h! bq;have bv:=h! bW;have cR:=bq.1.4;clear aB bq bW br bo bp bV;by_cases bi:j<l? B
   .let ⟨vs,an,ab⟩:=bv.o;have bw:j<l? vs:=by rwa[ab.1]
    obtain⟨b7,o7,rfl,ao⟩:=eM an j _<|BY bw
    have b0:J?<|ye wr vs[j] B[j]:=by obtain⟨u,bX,c'⟩:=ab.2 j bi;rw[BY bw]at bX;cases bX;exact c'
    have HT:=h!<|IS bi;let ⟨b1,aI,O,aJ,cS,de⟩:=kid (C:=B[j]) bA (λe Y=>(ac e Y).2) HS (by rw[<-aW.o];exact Zw _)
    have df:l? L9+(dM ((kZ B[j]).drop p.length)++jJ f (kZ B[j]).length B[j]).length<=l? N:=by
     have e:B=B.take (j+1)++B.drop _:=(S! _ _).symm;rw[HT.o]at e;rw[bU.o,bs.o];conv=>rhs;rw[e]
     simp only[Z!,c!,hQ,Zh,Z6];omega
    let ⟨aC,cC,eC,dg,dh,bY⟩:=b0.o;have ap:J?<|ye wr (.slice aC B[j].length cC) B[j]:=by have h:=b0.o;rwa[eC]at h
    rw[eC]at ao;have J:=AM b1;obtain⟨bC,oC,rfl,V⟩:=bY 0 J;have q0:=V.1;rw[o1]at q0;clear V bY b0 ab an eC bw;have aD:=ZE (O _<|Zw J).2.length_le (sO (ac _ (O _<|Zw J).1).1).1;have ad:=h! O;have di:=(O _<|Zw J).2.length_le;have cA:=am.o _ (O _<|Zw J).1;have cD:=h! aI;have dj:=h! aJ;have bZ:=L' _ _ wr ap b1<|λe Y=>am.o e (O e Y).1;have dk:(⟨(dF B[j][0]).toArray⟩:b?).size=(dF B[j][0]).length:=by show(dF B[j][0]).toArray.size=_;simp
    clear O aI aJ b1;go_wp2_with fail;apply bZ.mono;rintro dn cE ⟨rfl,U⟩;have cF:=Z0 U q0;have aK:=h!<|bt.below U;have b2:=h!<|ap.below U;have cb:=h!<|bv.below U;have cd:=h!<|bu.trans<|iK.below U _;have cG:=U.4;clear bZ U bt ap bv bu q0 ao;obtain⟨ae,af⟩:∃ae,(⟨(dF B[j][0]).toArray⟩:b?).extract p.length (kZ B[j]).length=ae:=⟨_,q?⟩
    have W:ae.1.1=(kZ B[j]).drop p.length:=by have h:=(ad _<|Zw J).2;rw[<-af,(o!:(kZ _).length=l? p+((kZ B[j]).length-l? p)),FI];show(((dF B[j][0]).drop p.length).take _)=_;rw[<-List.drop_take,<-List.prefix_iff_eq_take.1 h]
    have ce:=h! af
    have b3:ae.size<=1099511627776:=by have:ae.size=l? ae.1.1:=i!;rw[this,W];simp;omega
    have hR:=cq.o base _ L9 ae _ _ _ cE aK b2 o! (λe Y=>⟨(ac e (ad e Y).1).1,(ad e Y).2⟩) cD o! aD o! (by rw[W];omega) b3;rw[W]at hR;clear af W;go_wp2_with fail;rw[ce.o];apply hR.mono;rintro dp dq ⟨v11,rfl,aM,aq⟩;have cf:=h! aM;have cg:=h!<|cd.trans aq;have ci:=h!<|cb.wrote aK aq;clear hR aM aq cF;go_wp2;go_roundw
    .refine⟨j+1,o!,by go_num,?_,cg,ci⟩
     have e:(L8++(B.take<|j+1).flatMap λC=>dM ((kZ C).drop p.length)++jJ f (kZ C).length C)=L9++(dM ((kZ B[j]).drop p.length)++jJ f (kZ B[j]).length B[j]):=by rw[HT.o,bs.o,Z!,Zq];simp only[c!,hQ,Z6]
     rw[e];exact cf
    exact M!
   have HE:J?<|L9=l++(dM label.1.1++jJ (f+1) p.length L):=by show _=_;rw[<-HN.o,bU.o,bs.o,If o!]
   go_wp2;go_ret;refine⟨_,q?,?_,bu⟩;rw[<-HE.o]
   exact bt)
def gT(es:E?):List Wd:=(es.filter λe=>e.2).map eE.name
def Mr(l:E?)(e:eE):gT (l++[e])=gT l++(if e.2 then [e.1]else []):=by unfold gT;cases h:e.2<;>simp[h]
def T'(l:E?):(gT l).length<=l? l:=by unfold gT;rw[Z5];exact No ..
def sU(h:l.Perm x0):(gT l).Perm<|gT x0:=(h.filter _).map _
def FH(B:(x0.map eE.name).Nodup)(h:l.Perm x0):(gT l).mergeSort (λx y=>decide<|x<=y)=gT (eY x0):=by
 refine un (le:=λa b=>a<=b) (λa b _ _ J O=>List.le_antisymm J O) ?_ ?_<|(List.mergeSort_perm ..).trans<|sU<|h.trans (ii x0).symm
 have:=List.pairwise_mergeSort (le:=λx y=>decide<|x<=y) (by
  intro a b c J O;simp only[decide_eq_true_eq]at *
  exact List.le_trans J O) (by
  intro a b;simp only[Z7,decide_eq_true_eq]
  exact List.le_total a b)<|gT l
 exact this.imp (λh=>by simpa using h);unfold gT;rw[ZY];refine vc ?_<|uL ZN<|po x0 B;intro a b hab;unfold ya at hab;rw[bytesLess_eq,decide_eq_true_eq]at hab;exact List.le_of_lt hab
def PO(base)(a)(c)(G:W?)(w)(J:R? w base 9 1 (.slice a G.length c) G.length<|du G)(hl:l? G<=1099511627776) :
  nr prog 162 #[.slice a G.length c] w λe w'=>e=e? (.tuple #[])/\R? w' base 9 1 (.slice a G.length c) G.length (du<|G.mergeSort λx y=>decide<|x<=y)/\Below base w w':=by
 obtain⟨U,V⟩|⟨g,cap,cur,U,O,hb,W,Y,h3,h4⟩:=J.2
 have hG:=ej.1<|u! V;subst hG;apply (Any.slices_Sort_string_none AB a c w).mono;rintro e w' ⟨rfl,rfl⟩;exact⟨q?,u! J,oA ..⟩;obtain⟨rfl,_,rfl⟩:=U;apply (Any.slices_Sort_string AB g 0 c G w (holds_of_block hb<|by simpa[du]using h4) (AI.1 hb).1 o!).mono;rintro e w' ⟨rfl,n,os,rfl⟩;refine⟨q?,?_,?_⟩;exact ownsRow_sorted i! O hb W Y h3;have B:=grownBy_sorted (w:=w) (g:=g) (n:=n) (os:=os) (G.mergeSort λx y=>decide<|x<=y).toArray;exact⟨B.1,B.2,B.3,B.4,λk hk=>B.5 k (AT hk<|v!<|(AI.1 hb).1) (by intro e;cases e;omega)⟩
def Ab{t}(B:g=f.1.size):C? (f.alloc<|c? #[i] t) ⟨g,0,x?⟩=y? i:=by subst B;exact fF
def Qj:∀S:W?,(∀x∈S,l? x<=255)->(S.flatMap dM).length<=l? S*256:=by
 intro S;induction S with
 |nil=>simp|cons x S B=>
  intro h;have O:=B<|λy J=>h y<|ZG _ J;have U:=h x<|ZT ..;rw[c!,Zh,w!];have:(dM x).length=l? x+1:=by simp[dM]
  omega
def iK.low{w'}(h:iK I w' i p)(hb:B? f I)(B:j8 I g i P)(O:f.1.size<=g):B? f w':=by refine hb.trans ⟨h.1.1,h.1.2,h.1.3,h.1.4,λk J=>h.1.5 k (AT J hb.4)<|λe=>?_⟩;have:=(B.lt k e).1;omega
def E7(es:E?):Wd:=u8 (gT<|eY es).length::(gT<|eY es).flatMap dM
def BP(B)(es:E?)(w)(hs:fN w B es)(hl:es.length<1099511627776)(hg:kU es<=255)(a1:∀e∈es,e.2=t?->e.1.length<=255) :
  nr prog 131 #[.slice x? 0 0,.map<|y? B] w λen w'=>∃v,en=.returned v/\j8 w' w.1.size v (E7 es)/\Below w.1.size w w':=by
 obtain⟨i0,hi,aN,aO,aP⟩:=Zz F0;obtain⟨i9,aQ,aR,aS,aT⟩:=Zz rH;have a2:=hs.nodup;have HS:=h! hs;have aU:=h! a2;have aV:=h! a1;have bl:=ed.lt hs;clear hs a2 a1;go_enter func131,ntmps131;go_wp2_with (first|(at_range;apply lW _ rfl _ rfl rfl HS.o;intro w1 a5 aW bm));go_frame;go_loopw [5] (λg wr=>∃(J ad:E?),(J++ad).Perm es/\vn wr B w.1.size es ad/\R? wr (w.1.size+1) 9 1 g (gT J).length (du (gT J))/\Below w.1.size w wr/\w.1.size+1<=wr.1.size) (λ_ wr=>wr.rangeLeft B w.1.size);exact⟨[],es,ua _,a5,Z9 _ _ _ _,(oA _ _).grown aW (Zu _)<|λk Y=>(by cases Y),o!⟩;obtain⟨J,ad,fL,hr,aa,hb,hz⟩:=hrel;have HP:=h! fL;have HR:=h! hr;obtain⟨ag,cg,rfl,aX⟩:=dC aa;have HO:=h! aa;have HB:=h! hb
 have aY:(gT J).length<=es.length:=by have h1:=T' J;have h2:=fL.length_eq;rw[Zh]at h2;omega
 clear fL hr hb aa;go_wp2_with (first|(at_next;refine mN _ q? _ q? _ ad q? HR.o ?_ ?_))
 .intro h0
  have hE:J.Perm es:=by have:=HP.o;rwa[h0,Z6]at this
  obtain⟨S,hS⟩:∃S,S=gT (eY es):=⟨_,q?⟩;have ao:=PO _ ag cg _ wr HO.o o!;rw[FH aU.o hE,<-hS]at ao;have ap:J?<|S.length=(gT J).length:=h!<|by rw[hS];exact(sU<|hE.trans (ii es).symm).length_eq.symm
  have bn:S.length<=255:=by
   rw[hS];have h1:=(sU<|ii es).length_eq;have h2:(gT es).length=kU es:=by simp[gT,kU]
   omega
  have a6:J? (∀x∈S,x.length<=255):=by intro x hx;rw[hS]at hx;have hx2:=(sU<|ii es).mem_iff.1 hx;unfold gT at hx2;obtain⟨e,he,rfl⟩:=Zv.1 hx2;rw[Zb]at he;exact aV.o e he.1 (by simpa using he.2)
  have aZ:=h! hS;clear h0 hE hS;go_wp2_with fail;apply ao.mono;rintro e2 w2 ⟨rfl,aq,ar⟩;have a7:=ar.4;have ae:=h!<|HB.o.trans<|ar.mono o!;have ba:(gT J).length<=255:=by have:=ap.o;omega
  rw[<-ap.o]at aq⊢;have ab:=h! aq;have a8:J?<|R? w2 w.1.size 5 1 _ 0 []:=Z9 _ _ _ _;clear ao aq ar HO HR ba aY;clear aX ap
  go_wp2_with (first
   |(at_builtin;refine dU _ q? _ _ 60 q? _ 5 i0 _ 1 oS hi aN aO aP q? _ _ _ q? (a8.o.alloc _) _ _ q? (Rd.one fF) (by simp[tm]) ?c1 ?c2 ?c3 ?_))
  case c1=>simp
  case c2=>unfold nl;simp
  case c3=>simp;omega
  intro v3 w3 O U a9
  have au:J?<|j8 w3 w.1.size v3 [u8 S.length]:=by show j8 _ _ _ _;unfold j8;rw[l5,(o!:(S.length:Int) % 256=S.length)];simpa using O
  have W:=iK.of U a9;have af:Below _ w2 w3:=⟨W.1.1,W.1.2,W.1.3,W.1.4,λk Y=>W.1.5 k Y<|by simp[tl]⟩;have a':=h!<|ae.o.trans<|af.mono o!;have aA:=h!<|dH ab.o<|λk Y=>af.5 k (ab.o.lt k Y).2;obtain⟨a3,c3,rfl⟩:=au.o.form;have bo:=af.4;clear O U a9 W af a8 ab ae
  have bc:J? (∀k,k<=S.length->(u8 S.length::(S.take k).flatMap dM).length<=65536):=by intro k Y;have h1:=Qj (S.take k)<|λx hx=>a6.o x<|Za hx;rw[dd,ov Y]at h1;rw[w!];omega
  go_wp2_with fail;go_loopw [0,33] (λu i wx=>∃k:Nat,k<=S.length/\i=.int i? k/\j8 wx w.1.size u (u8 S.length::(S.take k).flatMap dM)/\R? wx (w.1.size+1) 9 1 (.slice ag S.length cg) S.length (du S)/\Below w.1.size w wx) (λ_ i _=>S.length-(intOf i).toNat);exact⟨0,ZP _,q?,by simpa using au.o,aA.o,a'.o⟩;obtain⟨k,Y,rfl,ah,aB,av⟩:=hrel;obtain⟨L4,ai⟩:∃L4,L4=u8 S.length::(S.take k).flatMap dM:=⟨_,q?⟩;have aC:=h! ai;have bp:L4.length<=65536:=by rw[ai];exact bc.o k Y
  rw[<-ai]at ah;obtain⟨a4,c4,rfl⟩:=ah.form;have aj:=h! ah;have ak:=h! aB;have aD:=h! av;have bd:=av.4;clear ah aB av ai au aA a';by_cases aw:k<S.length
  .obtain⟨bg,og,rfl,ax⟩:=eM ak.o k _<|fI S k aw;have hx:=a6.o _<|Zw aw;have HT:=h!<|IS aw;have hA:=lB _ _ L4 ⟨S[k].toArray⟩ wr aj.o o! (by show S[k].toArray.size<=_;simp;omega) bd;go_wp2_with fail;apply hA.mono;rintro e5 w5 ⟨v5,rfl,aE,ay⟩;have be:J?<|j8 w5 _ v5<|L4++dM _:=aE;have bf:=h!<|ay.low aD.o aj.o<|Zu _;have bh:=h!<|dH ak.o<|λj hj=>ay.1.5 j (ak.o.lt j hj).2<|λe=>fX ak.o aj.o d! j hj e;clear hA aE ay ax;go_wp2;go_roundw
   .refine⟨_,_,_,_,_,_,_,_,_,_,⟨k+1,o!,by go_num,?_,bh.o,bf.o⟩,q?⟩
    have e:(u8 S.length::(S.take<|k+1).flatMap dM)=L4++dM S[k]:=by rw[HT.o,aC.o,Z!,B!];simp only[c!,hQ,Z6]
    rw[e];exact be.o
   exact M!
  have HE:J?<|L4=E7 es:=by show _=_;unfold E7;rw[aC.o,If o!,aZ.o]
  go_wp2;go_ret;refine⟨_,q?,?_,aD.o⟩;rw[<-HE.o];exact aj.o
 intro e ac w2 aF al an az bi bq;have aG:=fg.lt al;have aH:=ed.lt<|fg.owns al;have aI:=h!<|nF HB.o az<|Zu _;have aJ:=h! al;have aK:=h! an;have aL:=h! aF;have V:=h!<|dH HO.o<|λk Y=>az.5 k (HO.o.lt k Y).2 (by have:=(HO.o.lt k Y).1;intro e;cases e;omega);have am:=Mr J e;have a7:w.1.size+1<=w2.1.size:=o!;clear aF al an az bi;obtain⟨nm,gn,tx,wt,tg⟩:=e
 cases gn with
 |false=>
  have a0:J?<|gT (J++[⟨nm,f?,tx,wt,tg⟩])=gT J:=h!<|by rw[am];simp
  clear am;go_wp2;go_roundw;exact⟨J++[⟨nm,f?,tx,wt,tg⟩],ac,kI HP.o aL.o,aJ.o.alloc _,by rw[a0.o];exact V.o.alloc _,aI.o.alloc o! _,j!⟩;rw[ku aH aG];exact aK.o
 |true=>
  have a0:J?<|gT (J++[⟨nm,t?,tx,wt,tg⟩])=gT J++[nm]:=h!<|by rw[am];simp
  clear am
  go_wp2_with (first
    |(at_builtin;refine eu _ q? _ _ 31 q? _ 9 i9 _ 16 oT aQ aR aS aT q? _ _ _ q? ((V.o.alloc _).alloc _) _ _ q? (Ab i!) q? ?c1 ?c2 ?c3 ?_))
  case c1=>omega
  case c2=>unfold nl;omega
  case c3=>first|omega|(simp;omega)
  intro v3 w3 O U _;have aM:=((aI.o.alloc o! _).alloc j! _).grown U j! (λb hb=>by have:=(V.o.lt b hb).1;omega);have ae:=h! aM;have br:w2.1.size<=w3.1.size:=by have:=U.4;simp at this;omega
  have bj:J?<|vn w3 B _ es ac:=fg.kept ((aJ.o.alloc _).alloc _) U (λe=>by have:=(V.o.lt B e.symm).1;omega) (λe=>by have:=(V.o.lt _ e.symm).1;omega)
  have ab:J?<|R? w3 (w.1.size+1) 9 1 v3 (gT<|J++[⟨nm,t?,tx,wt,tg⟩]).length<|du<|gT<|J++[⟨nm,t?,tx,wt,tg⟩]:=by show R? w3 _ _ _ _ _ _;rw[a0.o,iN];rwa[Zh]
  have bk:J?<|w3.rangeLeft B w.1.size<wr.rangeLeft B w.1.size:=by show _<_;rw[fg.l7 (U.5 B j! (λe=>by have:=(V.o.lt B e.symm).1;omega))<|U.5 _ j! (λe=>by have:=(V.o.lt _ e.symm).1;omega),ku j! j!,ku aH aG];exact aK.o
  clear O U aM;go_wp2;go_roundw;exact⟨J++[⟨nm,t?,tx,wt,tg⟩],ac,kI HP.o aL.o,bj.o,ab.o,ae.o,o!⟩;exact bk.o
open Go.Sort
def vd(x y:Wd):Int:=if sr x y=t? then -1 else if sr y x=t? then 1 else 0
def E6(x:b?)(w):nr prog 175 #[s? x] w λe w'=>e=e? (.bool f?)/\w=w':=by go_wp2;go_ret;exact⟨q?,q?⟩
def s4(x y:Wd)(w):nr prog 128 #[s? ⟨a? x⟩,s? ⟨a? y⟩] w λe w'=>e=e? (n? i?<|vd x y)/\w=w':=by
 have U:=E6 ⟨a? x⟩ w;have V:=E6 ⟨a? y⟩ w;unfold vd;by_cases O:sr x y=t?
 .rw[if_pos O];go_enter qt,pu;go_wp2_with fail;apply g! U;go_wp2_with fail;apply g! V;go_wp2;go_ret;exact⟨q?,q?⟩
 rw[if_neg O];have B:sr x y=f?:=by simpa using O
 clear O;by_cases J:sr y x=t?
 .rw[if_pos J];have W:(x==y)=f?:=beq_eq_false_iff_ne.2 (λe=>by subst e;rw[B]at J;cases J);clear J;go_enter qt,pu;go_wp2_with fail;apply g! U;go_wp2_with fail;apply g! V;go_wp2;go_ret;exact⟨q?,q?⟩
 obtain rfl:x=y:=by
  obtain h|h|h:=jz x y
  rw[B]at h;cases h;exact h;exact absurd h J
 go_enter qt,pu;go_wp2_with fail;apply g! U;go_wp2_with fail;apply g! V;go_wp2;go_ret;exact⟨q?,q?⟩
def my(e:eE):List v?:=[s? ⟨(dF e).toArray⟩,s? ⟨a? e.1⟩,s? ⟨a? e.3⟩,n? i? e.4,n? i? e.5]
def XY(x y:eE):Int:=if vd (dF x) (dF y)≠0 then vd (dF x) (dF y)else vd x.1 y.1
def Uu(x y)(w):nr prog 185 #[.agg #[s? ⟨(dF x).toArray⟩,s? ⟨a? x.1⟩,s? ⟨a? x.3⟩,n? i? x.4,n? i? x.5],.agg #[s? ⟨(dF y).toArray⟩,s? ⟨a? y.1⟩,s? ⟨a? y.3⟩,n? i? y.4,n? i? y.5]] w λe w'=>e=e? (n? i?<|XY x y)/\∃k os,w'=grow (w.drewN k) os:=by
 have h1:=λW=>s4 (dF x) (dF y) W;have h2:=λW=>s4 x.1 y.1 W;unfold XY;obtain⟨z,hz⟩:∃z,z=vd (dF x) (dF y):=⟨_,q?⟩;obtain⟨t,ht⟩:∃t,t=vd x.1 y.1:=⟨_,q?⟩;rw[<-hz]at h1⊢;rw[<-ht]at h2⊢;obtain⟨Ot,V⟩:∃Ot,Ot=if z≠0 then z else t:=⟨_,q?⟩
 rw[<-V]
 have ab:∀(g:Nat)(W:w?),C? W _=y? _->C? W _=y? _->nr _ 126 _ W λe w'=>e=e? (n? _ Ot)/\W=w':=λg W k1 k2=>by rw[V];exact Gl z t g W k1 k2
 clear hz ht V;generalize dF x=kx at *;generalize dF y=ky at *;obtain⟨nx,_,tx,wx,gx⟩:=x;obtain⟨ny,_,ty,wy,gy⟩:=y;simp only at h2⊢;obtain⟨U,Y⟩:∃U,U=(w.alloc<|c? #[s? ⟨a? kx⟩,s? ⟨a? nx⟩,s? ⟨a? tx⟩,n? i? wx,n? i? gx] 237).alloc (c? #[s? ⟨a? ky⟩,s? ⟨a? ny⟩,s? ⟨a? ty⟩,n? i? wy,n? i? gy] 237):=⟨_,q?⟩
 have hA:∀j,C? U ⟨w.1.size,j,x?⟩=(#[Value.string ⟨a? kx⟩,s? ⟨a? nx⟩,s? ⟨a? tx⟩,n? i? wx,n? i? gx])[j]?:=λj=>by rw[Y,World.cell?_alloc_past _ _ _ i!,Zl _ _ _ _ rfl]
 have aa:∀j,C? U ⟨w.1.size+1,j,x?⟩=(#[Value.string ⟨a? ky⟩,s? ⟨a? ny⟩,s? ⟨a? ty⟩,n? i? wy,n? i? gy])[j]?:=λj=>by rw[Y,Zl _ _ _ _ i!]
 have ac:∃os,U=grow w os:=⟨_,by rw[Y,v6,v6,grow_grow]⟩;have a0:C? U _=y? (s? _):=hA 0;have a1:C? U _=y? (s? _):=hA 1;have b0:C? U _=y? (s? _):=aa 0;have b1:C? U _=y? (s? _):=aa 1;clear hA aa;go_enter func185,ntmps185;go_wp2_with fail;rw[<-Y];clear Y;have J:(λw':w?=>C? w' _=y? _/\C? w' _=y? _/\C? w' _=y? _/\C? w' _=y? _) U.drew:=⟨a0,a1,b0,b1⟩;clear a0 a1 b0 b1;refine nv (S:=λw'=>C? w' ⟨w.1.size,0,x?⟩=y? (s? ⟨a? kx⟩)/\C? w' ⟨w.1.size,1,x?⟩=y? (s? ⟨a? nx⟩)/\C? w' ⟨w.1.size+1,0,x?⟩=y? (s? ⟨a? ky⟩)/\C? w' ⟨w.1.size+1,1,x?⟩=y? (s? ⟨a? ny⟩)) k! ?_;refine gf 0 ?_ J ?_<|gf 1 ?_ J ?_<|gf 2 ?_ J ?_<|gf 3 ?_ J ?_<|gf 5 ?_ J ?_<|gf 6 ?_ J ?_<|gf 7 ?_ J ?_<|gf 8 ?_ J ?_<|gf 9 ?_ J ?_<|gf 10 ?_ J ?_ ?_
 any_goals(rintro w' ⟨s0,s1,s2,s3⟩;exact n!)
 refine kY 4 λK' O=>?_;unfold te;go_simp;apply g!<|h1 _;refine O _ _ ⟨J,?_⟩;clear O;refine kY 11 λK' O=>?_;unfold te;go_simp;apply g!<|h2 _;refine O _ _ ⟨J,?_⟩;clear O;refine kY 12 λK' O=>?_;unfold te;go_simp
 have B:B? U (U.alloc<|c? #[n? i? z,n? i? t] 3).drew:=by have h:Below _ U<|U.alloc<|c? #[n? i? z,n? i? t] 3:=(oA _ _).alloc (Zu _) _;exact⟨h.1,h.2,h.3,h.4,h.5⟩
 refine O _ _ ⟨⟨Z0 B J.1,Z0 B J.2.1,Z0 B J.2.2.1,Z0 B J.2.2.2⟩,?_⟩;clear O;refine kY 13 λK' O=>?_;unfold te;go_simp;apply g!<|ab U.1.size (U.alloc<|c? #[n? i? z,n? i? t] 3).drew (Et (w:=U) l!).1 (Et (w:=U) l!).2;refine O _ _ ⟨⟨Z0 B J.1,Z0 B J.2.1,Z0 B J.2.2.1,Z0 B J.2.2.2⟩,?_⟩;clear O;have ad:(λw':w?=>C? w' _=y? _/\C? w' _=y? _/\C? w' _=y? _/\C? w' _=y? _) _:=⟨Z0 B J.1,Z0 B J.2.1,Z0 B J.2.2.1,Z0 B J.2.2.2⟩;refine gf 14 ?_ ad ?_ ?_;rotate_left
 .rintro w' ⟨s0,s1,s2,s3⟩;exact n!
 refine n3 k! ?_ _;go_wp2;go_ret;obtain⟨os,rfl⟩:=ac;exact⟨q?,1,_,by rw[v6,grow_grow];rfl⟩
def AG(x y):vd x y<0↔sr x y=t?:=by unfold vd;by_cases B:sr x y=t?;simp[B];by_cases J:sr y x=t?;simp[B,J];simp[B,J]
def uA(x y):vd x y=0↔x=y:=by
 unfold vd;constructor;intro h;obtain B|B|B:=jz x y
 rw[if_pos B]at h;cases h;exact B;rw[if_neg (by rw[sE B];simp),if_pos B]at h;cases h;intro rfl;simp[jl]
def yG(x y):ltOf XY x y=t?↔Hz x y:=by unfold ltOf XY Hz;rw[decide_eq_true_eq];by_cases h:dF x=dF y;rw[if_neg (by rw[Classical.not_not];exact(uA ..).2 h),AG,h,jl];simp;rw[if_pos<|λe=>h<|(uA ..).1 e,AG];simp[h]
def ET{a b c}(J:Hz a b)(B:Hz b c):Hz a c:=by
 obtain J|⟨J,O⟩:=J
 obtain B|⟨B,_⟩:=B
 exact .inl (lQ _ _ _ J B);exact .inl (by rwa[<-B]);obtain B|⟨B,U⟩:=B
 exact .inl (by rwa[J]);exact .inr ⟨J.trans B,lQ _ _ _ O U⟩
def Fs(a b):Hz a b\/(dF a=dF b/\a.1=b.1)\/Hz b a:=by
 obtain h|h|h:=jz ..
 exact .inl (.inl h);obtain B|B|B:=jz ..
 exact .inl (.inr ⟨h,B⟩);exact .inr (.inl ⟨h,B⟩);exact .inr (.inr<|.inr ⟨h.symm,B⟩);exact .inr (.inr<|.inl h)
def MH(a):¬Hz a a:=by unfold Hz;simp[jl]
def Tb{a b c}(h:dF a=dF b/\a.1=b.1)(B:Hz a c):Hz b c:=by unfold Hz at *;rwa[<-h.1,<-h.2]
def WL:SWO (ltOf XY) where
 irrefl x:=by have:=MH x;rw[<-yG]at this;simpa using this
 trans x y z h1 h2:=by rw[yG]at *;exact ET h1 h2
 ntrans x y z h1 h2:=by
  cases B:ltOf XY x z with
  |false=>rfl|true=>
   rw[yG]at B;have n2:¬Hz y z:=by rw[<-yG,h2];simp
   obtain h|h|h:=Fs x y
   exact absurd h (by rw[<-yG,h1];simp);exact absurd (Tb h B) n2;exact absurd (ET h B) n2
def kz(es:E?):List v?:=es.flatMap my
def DI(es:E?)(x:eE):kz (es++[x])=kz es++my x:=by simp[kz]
def Gj:∀(ws:E?)(i c)(h),c<5->(kz ws)[i*5+c]?=(my ws[i])[c]?:=by
 intro ws;induction ws with
 |nil=>intro i c h;simp at h|cons a l B=>
  intro i c h J;have e:kz (a::l)=my a++kz l:=by simp[kz]
  rw[e]
  cases i with
  |zero=>rw[Zt (by simp[my];omega)];simp|succ i=>rw[K? (by simp[my];omega)];have O:(my a).length=5:=rfl;rw[O,(o!:(i+1)*5+c-5=i*5+c),B i c (u! h) J];simp
def Ek(x):∀v∈my x,v.oneCell'=t?:=by intro v B;simp[my]at B;obtain rfl|rfl|rfl|rfl|rfl:=B<;>rfl
instance:Inhabited eE:=⟨⟨[],f?,[],0,0⟩⟩
def Dz{base g}(h:R? f base C 5 (.slice (y? ⟨g,0,x?⟩) x1 x2) U<|kz l)(hn:U=l? l):HoldsK my 5 f g 0 l.toArray:=by
 intro j hj;have J:=by simpa using hj
 have V:j / 5<l? l:=o!
 have B:(kz l)[j]?=y? ((flatK my 5 l.toArray)[j]!):=by
  rw[get_flatK _ _ _ _<|u! J];have:=Gj l _ (j % 5) V o!;rw[(o!:j / 5*5+j % 5=j)]at this;rw[this];have e1:l.toArray[j / 5]! = l[j / 5]:=by rw[getElem!_pos _ _<|u! V];simp
  rw[e1];have W:j % 5<(my l[j / 5]).length:=by simp[my];omega
  rw[BY W,getElem!_pos (my _) _ W]
 obtain⟨h0,_⟩|⟨g',Y,cur,he,_,hg,_,_,aa,O⟩:=h.2
 simp at h0;obtain⟨⟨rfl,_⟩,_,rfl⟩:=he;constructor;rw[dx hg];rw[<-O,Zi,if_pos o!]at B;simpa using B;simp[World.frozen?,hg]
def zY{enc:eE->L?}{d os}(hb:g<=U)(B:U<f.1.size):Below g f<|yb enc C f U x1 x2 d os:=by refine⟨q?,q?,q?,?_,λj J=>?_⟩;unfold yb vA wh grow v9;simp[v0];unfold yb vA wh grow v9;simp[v0];rw[Array.getElem?_append_left j!,Ze,if_neg o!]
def JD{k m}{enc:eE->L?}{d os}{cur:V?}{e fr}(hb:f.1[g]?=y? (c? cur e fr)):∃cs,(yb enc k f g 0 m d os).1[g]?=y? (c? cs e fr):=by unfold yb vA;rw[heap_grow_old _ _<|by simpa using((AI.1 hb).1)];simp[wh,v9,v0,Ze,hb,onCells]
def QQ(blk off size)(w):CmpLays prog 185 #[] my 5 XY blk off size w:=by intro m os B _ x y;exact Uu x y _
def PH(base)(au)(cu)(es:E?)(w)(U:R? w base 237 5 (.slice au es.length cu) es.length<|kz es)(ac:(es.map eE.name).Nodup)(hl:l? es<=1048576) :
  nr prog 184 #[.slice au es.length cu,.func (.func 185) #[] #[]] w λe w2=>e=e? (.tuple #[])/\Below base w w2/\
   ∃L:E?,L.Perm es/\km L/\ye w2 (.slice au es.length cu) L:=by
 obtain⟨he,hn⟩|⟨g,cap,cur,he,W,hb,h1,h2,h3,h4⟩:=U.2
 have hG:=ej.1<|u! hn;subst hG;have J:=AnyF.slices_SortFunc_none K7 au cu (.func (.func 185) #[] #[]) w;change nr prog 184 _ _ _ at J;simp only[ti]at he;apply J.mono;rintro e w2 ⟨rfl,rfl⟩;exact⟨q?,oA _ _,[],ua _,List.Pairwise.nil,au,cu,q?,ZP _,by rw[he.2.2];exact ZP _,λi h=>by simp at h⟩;simp only[ti]at he;obtain⟨rfl,_,rfl⟩:=he;have Y:=(AI.1 hb).1
 have J:=AnyQ.slices_SortFunc K7 5 isAgg237 sizeOf237 my (λ_=>rfl) Ek XY WL 185 #[] g 0 cu es.toArray w
  (enters_of func185 k! q?) (QQ g 0 _ w) (Dz U q?) Y j!
 change nr prog 184 _ _ _ at J;apply J.mono;rintro e w2 ⟨rfl,B,nq,os,hp,hs,rfl⟩;have aa:B.size=l? es:=by rw[hp.1];simp
 have hH:HoldsK my 5 (yb my 5 w g 0 nq B os) g 0 B:=by unfold yb;refine holdsK_grow _ _ _ _ _ _ _ ?_<|holdsK_putRowK _ _ _ _ _ _ _ (holdsK_ahead _ _ _ _ _ _ _<|Dz U q?) hp.1;unfold vA wh v9;simp[v0];exact Y
 let ⟨cs,ad⟩:=JD (enc:=my) (k:=5) (m:=nq) (d:=B) (os:=os) hb
 have fL:=by
  have e1:B.extract 0 es.toArray.size=B:=by rw[<-hp.1];simp
  have e2:es.toArray.extract 0 es.toArray.size=es.toArray:=i!;have p3:=hp.2.2;rwa[e1,e2]at p3
 have ae:km B.1:=by
  have V:=(fL.map _).nodup_iff.2 ac;unfold km;rw[Zr];intro i j hi hj ab;have af:l? B.1=es.toArray.size:=by simpa using aa
  have h:=hs i j (ZP _) ab o!;have gi:B[i]! = B.1[i]:=by rw[getElem!_pos B i _];rfl
  have gj:B[j]! = B.1[j]:=by rw[getElem!_pos B j _];rfl
  rw[gi,gj]at h;obtain h'|h'|h':=Fs _ _
  exact h';rw[lo,ZY,Zr]at V;exact absurd h'.2<|V i j hi hj ab;rw[<-yG,h]at h';cases h'
 refine⟨q?,zY W Y,B.1,fL,ae,y? _,cu,by rw[show B.1.length=es.length by simpa using aa],by rwa[show B.1.length=es.length by simpa using aa],h2,λi hi=>?_⟩;have O:=by simpa using hi
 have g0:=(yd hH O (c:=0) d!).1;have g1:=(yd hH O (c:=1) d!).1;have g2:=(yd hH O (c:=2) d!).1;have g3:=(yd hH O (c:=3) d!).1;have g4:=(yd hH O (c:=4) d!).1;have e2:B[i]! = B.1[i]:=by rw[getElem!_pos B i O];rfl
 rw[e2]at g0 g1 g2 g3 g4;refine⟨g,0,q?,g0,?_,?_,?_,?_,cs,(0,0),ad⟩;exact g1;exact g2;exact g3;exact g4
def DU{P}(w){o:Oper}{a:Act}{K:Act->w?->Prop}{Q}(s x)(t)
  (ho:o.2=.call {callee:=.builtin .append,args:=#[s,x],argTypes:=#[t,t]})
  (base) (e) (i) (z) (size bytes) (ht:P.underlying t=y? (.slice e)) (hi:P.info? e=y? i) (hz:i.8=y? z)
  (J:i.3=size) (W:i.4=bytes) (Y:z.cells.size=size) (aa:0<size)
  (v) (n) (xs:L?) (hs:a.eval s=v) (V:R? w base e size v n xs)
  (y) (m) (news:L?) (hx:a.eval x=y) (hy:jB w size y m news) (h1:∀u∈news,u.oneCell'=t?)
  (B:(n+m)*bytes<=140737488355328) (ab:n+m<=nl) (O:base<=w.1.size)
  (h:∀U w',R? w' base e size U (n+m) (xs++news)->w.grownBy w' (O? v)->(O? U=O? v\/(O? U=y? w.1.size/\Below w.1.size w w'))->K (a.put o.1 U) w'):te P o a w K Q:=by
 obtain⟨U,w',hr,h2,h3,h4⟩:=sL w base t o.3 e i z size bytes ht hi hz J W Y aa v n xs V y m news hy h1 B ab O;unfold te oa;simp only[ho,nU,invoke,builtin,wS,wu,x9,i4,ZK,ZU,hs,hx,hr];exact h U w' h2 h3 h4
def Tf:(prog.info? 237).map (λi=>(i.8,i.3,i.4))=y? (y?<|.agg #[s? ⟨#[]⟩,s? ⟨#[]⟩,s? ⟨#[]⟩,n? i? 0,n? i? 0],5,64):=by kernel_rfl
def Uj{u v t}(O:g=f.1.size):jB (f.alloc<|c? #[i,p,J,u,v] t) 5 (.slice (y? ⟨g,0,x?⟩) 1 1) 1 [i,p,J,u,v]:=by
 subst O;refine⟨y? _,1,q?,Zu _,by unfold nl;omega,q?,λj u B=>⟨f.1.size,0,q?,?_⟩⟩;match j,B with
 |0,B=>simpa using B|1,B=>simpa using B|2,B=>simpa using B|3,B=>simpa using B|4,B=>simpa using B|j+5,B=>simp at B
def cell_grown{row}(J:f.grownBy I row)(h:C? f ⟨g,C,x?⟩=y? i)(B:y? g≠row):C? I ⟨g,C,x?⟩=y? i:=by have hb:=J.5 g (xX h) B;simp only[sb]at h⊢;rwa[hb]
def vn.YT(h:vn f g C l x0)(hb:B? f I):vn I g C l x0:=fg.kept (row:=x?) h ⟨hb.1,hb.2,hb.3,hb.4,λk B _=>hb.5 k B⟩ i! i!
def ND(B)(es:E?)(w)(hs:fN w B es)(hl:es.length<=1048576)(ax:∀e∈es,e.3.length<=1099511627776) :
  nr prog 133 #[.map<|y? B] w λen w'=>∃v L,en=.returned v/\L.Perm (dE es)/\km L/\ye w' v L/\B? w w':=by
 obtain⟨i0,hi,aD,aE,aF⟩:=Zz Tf;have ay:=hs.nodup;have HS:=h! hs;have aG:=h! ay;have aH:=h! ax;have aW:=ed.lt hs;clear hs ay ax;go_enter func133,ntmps133;go_wp2_with (first|(at_range;apply lW _ rfl _ rfl rfl HS.o;intro w1 az aI aX));go_frame;go_loopw [3] (λg wr=>∃(J ah:E?),(J++ah).Perm es/\vn wr B w.1.size es ah/\R? wr (w.1.size+1) 237 5 g (dE J).length (kz (dE J))/\B? w wr/\w.1.size+1<=wr.1.size) (λ_ wr=>wr.rangeLeft B w.1.size);exact⟨[],es,ua _,az,Z9 _ _ _ _,(oA _ _).grown aI (Zu _)<|λk hk=>(by cases hk),o!⟩;obtain⟨J,ah,fL,hr,ad,hb,hz⟩:=hrel;have HP:=h! fL;have HR:=h! hr;obtain⟨ag,cg,rfl,aY⟩:=dK ad;have HO:=h! ad;have HB:=h! hb
 have aZ:(dE J).length<=es.length:=by have h1:=r9 J;have h2:=fL.length_eq;rw[Zh]at h2;omega
 clear fL hr hb ad;go_wp2_with (first|(at_next;refine mN _ q? _ q? _ ah q? HR.o ?_ ?_))
 .intro h0
  have hE:J.Perm es:=by have:=HP.o;rwa[h0,Z6]at this
  have a0:=PH _ ag cg _ wr HO.o (by
   have h1:=(hE.map _).nodup_iff.2 aG.o
   exact h1.sublist<|ZN.map _) o!
  have HE:=h!<|Ae hE;clear h0 hE;go_wp2_with fail;apply a0.mono;rintro e2 w2 ⟨rfl,a1,L,a2,a3,a4⟩;have aJ:=h!<|HB.o.trans<|a1.mono o!;have HL:=h!<|a2.trans HE.o;have aK:=h! a3;have aL:=h! a4;clear a0 a1 a2 a3 a4;go_wp2;go_ret;exact⟨_,L,q?,HL.o,aK.o,aL.o,aJ.o⟩
 intro e ae w2 ap ai an aq aM ba;have a5:=fg.lt ai;have a6:=ed.lt<|fg.owns ai;have a7:=h!<|nF HB.o aq<|Zu _;have a8:=h! ai;have a9:=h! an;have a':=h! ap;have W:=h!<|dJ HO.o<|λk hk=>aq.5 k (HO.o.lt k hk).2 (by have:=(HO.o.lt k hk).1;intro e;cases e;omega);have aj:=zT J e;have aN:=aH.o e<|HP.o.mem_iff.1<|Z' _<|ap.mem_iff.2<|ZT ..;have aV:w.1.size+1<=w2.1.size:=o!;clear ap ai an aq aM;obtain⟨nm,gn,tx,wt,tg⟩:=e
 cases gn with
 |true=>
  have ar:J?<|dE (J++[⟨nm,t?,tx,wt,tg⟩])=dE J:=h!<|by rw[aj];simp
  clear aj;go_wp2;go_roundw;exact⟨J++[⟨nm,t?,tx,wt,tg⟩],ae,kI HP.o a'.o,a8.o.alloc _,by rw[ar.o];exact W.o.alloc _,a7.o.alloc o! _,j!⟩;rw[ku a6 a5];exact a9.o
 |false=>
  have ar:J?<|dE (J++[⟨nm,f?,tx,wt,tg⟩])=dE J++[⟨nm,f?,tx,wt,tg⟩]:=h!<|by rw[aj];simp
  clear aj;go_wp2_with fail;rw[show Gy _=nm from rfl];obtain⟨wa,ak⟩:∃wa,wa=w2.alloc (.cells #[.bool f?,.string ⟨a? nm⟩,.string ⟨a? tx⟩,.int i? wt,.int i? tg] 111):=⟨_,q?⟩;rw[<-ak];obtain⟨k,hk⟩:∃k,k=w2.1.size:=⟨_,q?⟩;rw[<-hk];have au:B? w2 wa:=by rw[ak];exact(oA _ _).alloc (Zu _) _
  have af:wa.1[k]?=y? (.cells #[.bool f?,.string ⟨a? nm⟩,.string ⟨a? tx⟩,.int i? wt,.int i? tg] 111 (0,0)):=by rw[ak,hk];exact U! w2 _
  have hS:(λw':w?=>C? w' ⟨k,1,x?⟩=y? (.string _)/\C? w' ⟨k,2,x?⟩=y? (.string _)/\C? w' ⟨k,3,x?⟩=y? (.int _ wt)/\C? w' ⟨k,4,x?⟩=y? (.int _ tg)) wa.drew:=⟨by show C? wa _=_;rw[dx af];rfl,by show C? wa _=_;rw[dx af];rfl,by show C? wa _=_;rw[dx af];rfl,by show C? wa _=_;rw[dx af];rfl⟩;have av:=rJ ⟨a? tx⟩ wa.drew (by show tx.toArray.size<=_;simpa using aN);change nr _ _ _ _ (λe w'=>e=.returned (.string ⟨(dP tx).toArray⟩)/\Below wa.1.size wa.drew w')at av;have aO:=h! hk;clear ak af hk;refine nv (S:=λw'=>C? w' ⟨k,1,x?⟩=y? (.string ⟨a? nm⟩)/\C? w' ⟨k,2,x?⟩=y? (.string ⟨a? tx⟩)/\C? w' ⟨k,3,x?⟩=y? (.int i? wt)/\C? w' ⟨k,4,x?⟩=y? (.int i? tg)) k! ?_;refine gf 0 ?_ hS ?_<|gf 1 ?_ hS ?_<|gf 2 ?_ hS ?_<|gf 3 ?_ hS ?_<|gf 5 ?_ hS ?_<|gf 6 ?_ hS ?_ ?_
  any_goals(rintro w' ⟨s0,s1,s2,s3⟩;exact n!)
  refine kY 4 λK' Y=>?_;unfold te;go_simp;apply av.mono;rintro e w3 ⟨rfl,O⟩;have aa:(λw':w?=>C? w' _=y? _/\C? w' _=y? _/\C? w' _=y? _/\C? w' _=y? _) w3:=⟨Z0 O hS.1,Z0 O hS.2.1,Z0 O hS.2.2.1,Z0 O hS.2.2.2⟩;refine Y _ _ ⟨aa,?_⟩;clear Y;refine gf 7 ?_ aa ?_ ?_;rotate_left
  .rintro w' ⟨s0,s1,s2,s3⟩;exact n!
  refine kY 8 λK' Y=>?_;unfold te;go_simp;obtain⟨w4,al⟩:∃w4,w4=w3.alloc (.cells #[.string ⟨(dP tx).toArray⟩,.string ⟨a? nm⟩,.string ⟨a? tx⟩,.int i? wt,.int i? tg] 237):=⟨_,q?⟩;rw[<-al];have ab:B? w3 w4:=by rw[al];exact(oA _ _).alloc (Zu _) _
  have aA:jB w4 5 (.slice (y? ⟨w3.1.size,0,x?⟩) 1 1) 1<|my ⟨nm,f?,tx,wt,tg⟩:=by rw[al];exact Uj rfl
  have ac:(λw':w?=>C? w' _=y? _/\C? w' _=y? _/\C? w' _=y? _/\C? w' _=y? _) w4:=⟨Z0 ab aa.1,Z0 ab aa.2.1,Z0 ab aa.2.2.1,Z0 ab aa.2.2.2⟩;refine Y _ _ ⟨ac,?_⟩;clear Y;have bc:wa.1.size<=w3.1.size:=O.4;have bd:=ab.4;have aP:=au.4
  have V:B? w2 w4:=by have h1:Below _ wa w3:=⟨O.1,O.2,O.3,O.4,O.5⟩;exact(au.trans<|h1.mono aP).trans<|ab.mono o!
  have aB:=dJ W.o<|λj hj=>V.5 j (W.o.lt j hj).2;have ao:=a7.o.trans<|V.mono o!;clear al ab O;refine kY 9 λK' Y=>?_;apply DU _ _ _ 190 q? (w.1.size+1) 237 i0 _ 5 64 underlying190 hi aD aE aF q? d! _ _ _ q? aB _ 1 _ q? aA (Ek _) o! (by unfold nl;omega) o!;intro v5 w5 aQ U _;have am:y? k≠O? (Value.slice ag _ cg):=λe=>by have:=(W.o.lt k e.symm).2;have:=aO.o;omega
  have aw:(λw':w?=>C? w' _=y? _/\C? w' _=y? _/\C? w' _=y? _/\C? w' _=y? _) w5:=⟨cell_grown U ac.1 am,cell_grown U ac.2.1 am,cell_grown U ac.2.2.1 am,cell_grown U ac.2.2.2 am⟩;refine Y _ _ ⟨aw,?_⟩;clear Y;refine gf 10 ?_ aw ?_ ?_;rotate_left
  .rintro w' ⟨s0,s1,s2,s3⟩;exact n!
  refine n3 k! ?_ _;have be:=U.4;have aR:=h!<|ao.grown U o! (λb hb=>by have:=(W.o.lt b hb).1;omega);have aC:=a8.o.YT V;have aS:J?<|vn w5 B _ es ae:=fg.kept aC U (λe=>by have:=(W.o.lt B e.symm).1;omega) (λe=>by have:=(W.o.lt _ e.symm).1;omega)
  have aT:J?<|R? w5 (w.1.size+1) 237 5 v5 (dE<|J++[⟨nm,f?,tx,wt,tg⟩]).length<|kz<|dE<|J++[⟨nm,f?,tx,wt,tg⟩]:=by show R? w5 _ _ _ _ _ _;rwa[ar.o,DI,Zh]
  have aU:J?<|w5.rangeLeft B w.1.size<wr.rangeLeft B w.1.size:=by show _<_;rw[fg.l7 (U.5 B o! (λe=>by have:=(W.o.lt B e.symm).1;omega))<|U.5 _ o! (λe=>by have:=(W.o.lt _ e.symm).1;omega),fg.l7 (V.5 B a6)<|V.5 _ a5];exact a9.o
  clear aQ U ao aB aC aA hS aa ac aw av au V;go_wp2;go_roundw;exact⟨_,_,_,_,_,_,_,_,_,_,_,_,_,_,_,_,_,_,_,⟨J++[⟨nm,f?,tx,wt,tg⟩],ae,kI HP.o a'.o,aS.o,aT.o,aR.o,o!⟩,q?⟩;exact aU.o
end
section
open RowKit Maps
variable {f C:w?}{g I U:Nat}{i l x0 x4:v?}{o x3:E?}{p x1:List (E?)}{J x2 x5:F?}{P:P?}
def LM(B:(o.map eE.name).Nodup)(J:x3.Perm<|dE o)(U:km x3):fc o=E7 o++(dM []++jJ 26 0 x3):=by
 have O:=X2 26 [] x3 U<|λe _=>ie
 have V:eY x3=(eY o).filter λe=>!e.2:=by rw[mI,Kj (by have:((dE o).map _).Nodup:=B.sublist<|ZN.map _;exact(J.map _).nodup_iff.2 this) J];rfl
 rw[F!]at O;rw[O,V];unfold fc E7 gT;rw[lE];simp
def TG(B)(es:E?)(w)(hs:fN w B es)(J:nz es) :
  nr prog 91 #[.map<|y? B] w λen w'=>en=e? (s? ⟨(fc es).toArray⟩)/\B? w w':=by
 have am:=r7 J
 have an:l? es<=130:=by have h1:=J.4;have h3:=lz es;have h4:(dE es).length<=30:=J.5;omega
 have ae:=J.2;have HS:=h! hs;have Y:=h! J
 have hG:=BP B es w hs o! (by have:=J.4;unfold kU;omega) (λe he hg=>by
  obtain h|h:=J.1 e he
  rw[h.1]at hg;cases hg
  have:=(iq h.2).2;omega)
 clear hs J;go_enter func91,ntmps91;go_wp2_with fail;apply hG.mono;rintro e1 w1 ⟨v1,rfl,U,O⟩;obtain⟨a1,c1,rfl⟩:=U.form;have af:=h! U;have ag:=h! O;have ah:=O.4
 have hL:=ND B es w1 (ed.below HS O) o! (λe he=>by
  obtain h|h:=Y.1 e he
  have:=l9 h.2.2.1;omega
  rw[h.1];simp)
 clear hG U O;go_wp2_with fail;apply hL.mono;rintro e2 w2 ⟨v2,L,rfl,V,aa,ai,W⟩;have aj:=h!<|ag.trans<|W.mono ah;have ab:=h!<|af.below W;have ao:=W.4;have ac:=h!<|LM ae V aa
 have hN:=Yt 26 _ _ _ ⟨#[]⟩ [] _ L w2 ab ai o! (λe he=>⟨by
   have hm:=V.mem_iff.1 he;unfold dE at hm;rw[Zb]at hm;obtain h|h:=Y.1 e hm.1
   exact h
   .have:=hm.2;rw[h.1]at this
    simp at this,ie⟩) aa (by
   have h1:=V.length_eq;have h2:=r9 es
   omega) i! i! (by
   have h1:=congrArg kj ac;rw[Zh]at h1;change (E7 es).length+(dM []++jJ 26 0 L).length<=_
   omega)<|ZP _
 change nr _ _ _ _ (UG _ w2 _ _<|dM []++jJ 26 0 L)at hN;go_wp2_with fail;apply hN.mono;rintro e3 w3 ⟨v3,rfl,ad,ak⟩;rw[<-ac.o]at ad;have al:=vW ad oS qz oQ;go_wp2;go_ret;exact⟨q?,(h!<|ak.low aj ab<|Zu _).o⟩
def rW(w){o:Oper}{a:Act}{K:Act->w?->Prop}{Q}(s x)(t)
  (ho:o.2=.call {callee:=.builtin .append,args:=#[s,x],argTypes:=#[t,t]})
  (base) (e) (i) (z) (bytes) (ht:P.underlying t=y? (.slice e)) (hi:P.info? e=y? i) (hz:i.8=y? z)
  (J:i.3=1) (W:i.4=bytes) (Y:z.cells.size=1)
  (v) (n) (xs:L?) (hs:a.eval s=v) (V:R? w base e 1 v n xs)
  (y) (news:L?) (hx:a.eval x=y) (hy:Rd w y news) (h1:∀u∈news,u.oneCell'=t?)
  (B:(n+l? news)*bytes<=140737488355328) (aa:n+l? news<=nl) (O:base<=w.1.size)
  (h:∀U w',R? w' base e 1 U (n+l? news) (xs++news)->w.grownBy w' (O? v)->(O? U=O? v\/O? U=y? w.1.size)->K (a.put o.1 U) w'):te P o a w K Q:=by
 obtain⟨U,w',hr,h2,h3,h4⟩:=mc w base t o.3 e i z bytes ht hi hz J W Y v n xs V y news hy h1 B aa O;unfold te oa;simp only[ho,nU,invoke,builtin,wS,wu,x9,i4,ZK,ZU,hs,hx,hr];exact h U w' h2 h3 h4
def kh(es:E?):List Wd:=if 0<es.length then [fc es]else []
def GX(B)(es:E?)(w)(W:fN w B es)(O:0<l? es->nz es) :
  nr prog 63 #[.map<|y? B] w λY w'=>∃v,Y=e? v/\Rd w' v (du<|kh es)/\B? w w':=by
 have J:=λty=>ed.len W oN ty;rw[Z5]at J;by_cases U:0<l? es
 .have V:J?<|kh es=[fc es]:=by show kh es=_;unfold kh;rw[if_pos U]
  go_enter func63,ntmps63;go_wp2_with fail;apply (TG B es w W<|O U).mono;rintro e w1 ⟨rfl,hb⟩;go_wp2;go_ret;refine⟨_,q?,?_,(h! hb).o.alloc hb.4 _⟩;rw[V.o];exact Rd.one fF
 have V:J?<|kh es=[]:=by show kh es=_;unfold kh;rw[if_neg U]
 go_wp2;go_ret;refine⟨_,q?,?_,oA ..⟩;rw[V.o];exact Rd.Dr q? o!
def S9(w:w?)(X:Option<|E?)(e:Ending)(w':w?):Prop:=match X with
 |some l=>∃B,e=e? (.tuple #[.map<|y? B,.bool t?])/\w.1.size<=B/\fN w' B l|none=>e=e? (.tuple #[.map x?,.bool f?])
def JS(S:b?)(w)(hS:S.size<=nl) :
  nr prog 57 #[s? S] w λe w'=>B? w w'/\S9 w (gG S.1.1) e w':=by
 unfold nl at hS;have V:l? S.1.1=S.size:=i!;by_cases h4:4000<S.size
 .have O:J?<|gG S.1.1=x?:=h!<|by rw[yx,if_pos o!]
  have W:(4000:Int)<(S.size:Int):=o!;clear h4 V;go_enter func57,ntmps57;go_wp2;go_ret2;refine⟨oA _ _,?_⟩;rw[O.o];rfl
 have hU:gG S.1.1=(pE S.1.1).map λx=>x.1++x.2:=by rw[yx,if_neg o!]
 have W:=o!;have O:=h! hU;go_enter func57,ntmps57;go_wp2_with fail;apply (Dt S w o!).mono;rintro e w1 ⟨hb,ho⟩;have Y:=h! hb
 cases U:pE _ with
 |none=>
  rw[U]at ho;unfold ZaN at ho;have J:J?<|gG S.1.1=x?:=by rw[O.o,U];rfl
  go_wp2;go_ret2;refine⟨Y,?_⟩;rw[J.o];rfl
 |some x=>
  rw[U]at ho;obtain⟨B,rfl,hB,hm⟩:=ho;have J:J?<|gG S.1.1=y? (x.1++x.2):=by rw[O.o,U];rfl
  have HM:J? _:=hm;go_wp2;go_ret2;refine⟨Y,?_⟩;rw[J.o];exact⟨B,q?,hB,HM⟩
def OL.CP{w3 b W}(Y:OL f J b o p g l x0 x4)(hF:∀k,J k->k<f.1.size)(hb:B? f C)
  (hg:dy (λk=>O? l=y? k) C w3) (B:R? w3 0 9 1 W x1.length<|du<|x1.map fc) (hv:∀k,O? W=y? k->O? l=y? k\/C.1.size<=k) :
  (w3.setCell ⟨b,1,x?⟩ W).1[b]?=y? (c? #[.map<|y? g,W,x0,x4] 90 (0,0))/\fN (w3.setCell ⟨b,1,x?⟩ W) g o/\R? (w3.setCell ⟨b,1,x?⟩ W) 0 9 1 W x1.length (du<|x1.map fc)/\
   dy J f (w3.setCell ⟨b,1,x?⟩ W)/\(∀k,O? W=y? k->(J k\/f.1.size<=k)/\k<w3.1.size):=by
 have ab:C.1[b]?=y? (c? #[.map<|y? g,l,x0,x4] 90 (0,0)):=by rw[hb.5 b<|hF b Y.2];exact Y.1
 have O:=dH Y.5<|λk hk=>hb.5 k<|hF k<|Y.6 k hk;have U:=ed.stay Y.4<|hb.5 g<|hF g Y.3;have aa:w3.1[b]?=y? (c? #[.map<|y? g,l,x0,x4] 90 (0,0)):=by rwa[hg.5 b (eN ab)<|fD ab O d!]
 have V:=ed.stay U<|hg.5 g (AT (hF g Y.3) hb.4)<|λe=>sx O U e.symm;have ac:∀k,k≠b->(w3.setCell ⟨b,1,x?⟩ W).1[k]?=w3.1[k]?:=λk hk=>ZH _ _ _ _<|hk;refine⟨by rw[heap_set aa];rfl,ed.stay V<|ac g<|λe=>ed.qc V aa e,dH B<|λk hk=>ac k<|λe=>fD aa B d!<|by rw[hk,e],?_,λk hk=>⟨?_,(B.lt k hk).2⟩⟩;exact((dy.eF hb).trans hg<|λi _ hi=>Y.6 i hi).then<|jq Y.2;obtain h|h:=hv k hk
 exact .inl (Y.6 k h);exact .inr (ZE hb.4 h)
def tU(ss:List<|E?)(l:E?):List<|E?:=if 0<l.length then ss++[l]else ss
def Ls(ss:List<|E?)(l:E?):(tU ss l).length=l? ss+(du<|kh l).length:=by unfold tU kh;split<;>simp[du]
def Ju(ss:List<|E?)(l:E?):du ((tU ss l).map fc)=du (ss.map fc)++du (kh l):=by unfold tU kh;split<;>simp[du]
def yZ(es:E?):(kh es).length<=1:=by unfold kh;split<;>simp
def dy.Ff{o}(h:f.grownBy C o):dy (λk=>o=y? k) f C:=⟨h.1,h.2,h.3,h.4,λk B J=>h.5 k B<|λe=>J e.symm⟩
def MT{b}(fb:J b)(p1:C.1[b]?=y? (c? #[.map<|y? g,x0,i,l] 90 (0,0)))
  (p3:R? C 0 9 1 x0 p.length<|du<|p.map fc) (p4:dy J f C) (W:∀k,O? x0=y? k->(J k\/f.1.size<=k)/\k<C.1.size) (hi:Inv [] p) :
  ∃F',wO i l ((C.alloc<|.map #[] 0).setCell ⟨b,0,x?⟩<|.map<|y? C.1.size) F' b [] p/\(∀k,F' k->J k\/f.1.size<=k)/\dy J f ((C.alloc<|.map #[] 0).setCell ⟨b,0,x?⟩<|.map<|y? C.1.size):=by
 have O:Below _ C<|C.alloc<|.map #[] 0:=(oA ..).alloc (Zu _) _;have Y:fN _ _ []:=ed.made C;have aa:(C.alloc<|.map #[] 0).1.size=C.1.size+1:=i!;generalize (C.alloc _)=U at *;have ab:=eN p1;have ac:U.1[b]?=y? (c? #[.map<|y? g,x0,i,l] 90 (0,0)):=by rwa[O.5 b ab]
 have V:∀k,k≠b->(U.setCell ⟨b,0,x?⟩<|.map<|y? C.1.size).1[k]?=U.1[k]?:=λk B=>ZH _ _ _ _<|B;have ad:(U.setCell ⟨b,0,x?⟩<|.map<|y? C.1.size).1.size=U.1.size:=by simp[rx]
 refine⟨λk=>(J k\/f.1.size<=k)/\k<C.1.size+1,⟨λk B=>by rw[ad,aa];exact B.2,C.1.size,x0,?_⟩,λk B=>B.1,?_⟩
 exact {
  blk:=by rw[heap_set ac];rfl
  fb:=⟨.inl fb,o!⟩,fB:=⟨.inr p4.4,o!⟩,say:=ed.stay Y<|V _ o!,row:=dH p3<|λk B=>by rw[V k<|λe=>fD p1 p3 d!<|by rw[B,e],O.5 k (W k B).2],Iz:=λk B=>⟨(W k B).1,by have:=(W k B).2;omega⟩
  inv:=hi}
 exact(p4.then<|dy.eF O).then<|jq fb
def Zac(w)(F:F?)(b)(B:E?)(ss:List<|E?)(hP:wO l x0 w F b B ss) :
  nr prog 29 #[p?<|y? ⟨b,0,x?⟩] w λe w'=>e=e? (n? i? (fZ B ss).1)/\
   ∃F',wO l x0 w' F' b (fZ B ss).2.1 (fZ B ss).2.2/\(∀k,F' k->F k\/w.1.size<=k)/\dy F w w':=by
 have HP:=h! hP;let ⟨i9,a0,a1,a2,a4⟩:=Zz rH;have aB:=@yo prog;obtain⟨hF,Bb,vS,hE⟩:=hP;obtain⟨aS,cS,rfl,aC⟩:=dC hE.5;have HE:=h! hE;have HF:=h! hF;have a5:=dx hE.1;have aD:=dO hE.1 1;have U:=λty=>ed.len hE.4 oN ty;rw[Z5]at U;have h6:=hE.7.5;have HI:=h!<|Ej hE.7;have aE:=pf hE.7;have a6:=hF b hE.2;clear hF hE;by_cases h0:l? B=0
 .have HU:J?<|fZ B ss=(5,B,ss):=h!<|by unfold fZ;rw[if_pos h0]
  rw[h0]at U;clear h0;go_enter px,pp;go_wp2;go_ret;refine⟨dQ (by rw[HU.o];rfl),F,?_,λk hk=>Or.inl hk,dy.refl _ _⟩;rw[HU.o];exact HP
 have a7:((l? B:Int)==0)=f?:=beq_eq_false_iff_ne.2 o!;by_cases V:6<=l? ss
 .have HU:J?<|fZ B ss=(4,B,ss):=h!<|by unfold fZ;rw[if_neg h0,if_pos V]
  have aq:(6:Int)<=(l? ss:Int):=o!;clear h0 V;go_enter px,pp;go_wp2;go_ret;refine⟨dQ (by rw[HU.o];rfl),F,?_,λk hk=>Or.inl hk,dy.refl _ _⟩;rw[HU.o];exact HP
 have HU:J?<|fZ B ss=(0,[],if 0<(iE B ss).length then ss++[iE B ss]else ss):=h!<|by unfold fZ;rw[if_neg h0,if_neg V]
 have aq:¬(6:Int)<=(l? ss:Int):=o!
 have af:J?<|0<(iE B ss).length->nz (iE B ss):=by intro hp;have hi:=HI.o;rw[HU.o]at hi;simp only[if_pos hp]at hi;exact hi.4 _ i!
 clear h0;have ag:J?<|fZ B ss=(0,[],tU ss _):=HU.o;have ar:J?<|Inv []<|tU ss<|iE B ss:=by have:=HI.o;rwa[ag.o]at this
 by_cases ah:l? ss=0
 case' pos=>
  have aa:J?<|iE B ss=dE B:=h!<|by unfold iE;rw[if_pos ah]
  have ac:((l? ss:Int)==0)=t?:=beq_iff_eq.2 o!;have au:=qM Bb B w HE.4 o!<|λe he=>yO HE.7 B i! e he;clear V ah;go_enter px,pp;go_wp2_with fail;apply au.mono;rintro e w1 ⟨C,rfl,hC,a8,O⟩;have ai:J?<|Below _ w w1.drew:=⟨O.1,O.2,O.3,O.4,O.5⟩;have aF:C? w1 _=y? (.slice aS _ cS):=Z0 O<|a5 1;have aj:=GX C _ w1.drew (by rwa[aa.o]) af;clear au a8 O
 case' neg=>
  have aa:J?<|iE B ss=B:=h!<|by unfold iE;rw[if_neg ah]
  have ac:((l? ss:Int)==0)=f?:=beq_eq_false_iff_ne.2 o!;have aj:=GX Bb _ w.drew (by rw[aa.o];exact HE.4) af;have ai:J?<|B? w w.drew:=⟨q?,q?,q?,Zu _,λ_ _=>rfl⟩;clear V;go_enter px,pp
 all_goals
  go_wp2_with fail;clear U a7 aq ac aa HU af;generalize iE B ss=X at *;refine nv (S:=λw'=>True) k! ?_;refine gf 0 ?_ trivial ?_<|gf 1 ?_ trivial ?_<|gf 2 ?_ trivial ?_<|gf 3 ?_ trivial ?_<|gf 5 ?_ trivial ?_ ?_
  any_goals(rintro w' _;exact n!)
  refine n8 (rs:=[4,6]) k! i! ?_;intro i hi;simp only[Zm,gd,or_false]at hi;obtain rfl|rfl:=hi
  case' inl=>refine n4 l! λK' J=>?_;rw[if_pos l!];unfold te;go_simp;refine J _ _ ⟨t!,?_⟩;clear J;refine kY 6 λK' J=>?_
  case' inr=>refine n4 l! λK' J=>?_;rw[if_pos l!]
  all_goals
   unfold te;go_simp;apply aj.mono;rintro e w2 ⟨v2,rfl,av,aw⟩;have W:=ai.trans<|aw.mono ai.4;have aG:=W.4;have ab:w2.1[b]?=y? (c? #[.map<|y? Bb,.slice aS ss.length cS,l,x0] 90 (0,0)):=by rw[W.5 b a6];exact HE.1
   have ak:=dH HE.5<|λk hk=>W.5 k<|HF k<|HE.6 k hk;have aH:=dx ab 1;refine J _ _ ⟨t!,?_⟩;clear J aj aw
  case' inr=>refine kY 4 λK' J=>?_;unfold te;go_simp;refine J _ _ ⟨t!,?_⟩;clear J
  all_goals
   refine kY 7 λK' J=>?_;refine rW _ _ _ 31 q? 0 9 i9 _ 16 oT a0 a1 a2 a4 q? _ _ _ q? ak _ _ q? av iu ?c1 ?c2 (ZP _) ?_
   case c1=>rw[dz];have:=yZ X;omega
   case c2=>rw[dz];have:=yZ X;unfold nl;omega
   intro v3 w3 ax al ay;obtain⟨a3,c3,rfl,aI⟩:=dC ax;have am:w3.1[b]?=y? (c? #[.map<|y? Bb,.slice aS ss.length cS,l,x0] 90 (0,0)):=by rwa[al.5 b (eN ab)<|λe=>fD ab ak d! e.symm]
   refine J _ _ ⟨t!,?_⟩;clear J
   have Y:R? w3 0 9 1 (.slice a3 (l? ss+(du<|kh X).length) c3) (tU ss X).length<|du<|(tU ss X).map fc:=by rwa[Ju,Ls]
   have ad:=HE.CP HF W (dy.Ff al) Y (λk hk=>by
    obtain h|h:=ay
    exact .inl (h.symm.trans hk)
    have a9:=h.symm.trans hk;cases a9;exact .inr (Zu _))
   refine gf 8 ?_ trivial ?_<|gf 9 ?_ trivial ?_ ?_
   any_goals(rintro w' _;exact n!)
   have a':=dx am 1;have aA:=dO am 1;clear ax al ay Y am ak av ab W;refine kY 10 λK' J=>?_;unfold te;go_simp;refine J _ _ ⟨t!,n3 k! ?_ _⟩;clear J a' aA;obtain⟨w4,an⟩:∃w4,w4=w3.setCell ⟨b,1,x?⟩ (.slice a3 (l? ss+(du<|kh X).length) c3):=⟨_,q?⟩;have az:w4.1.size=w3.1.size:=by rw[an];simp[rx]
   rw[<-an]at ad⊢;obtain⟨p1,p2,p3,p4,p5⟩:=ad;rw[<-az]at p5;have ae:=MT HE.2 p1 p3 p4 p5 ar;have ao:(w4.alloc<|.map #[] 0).1[b]?=y? (c? #[.map<|y? Bb,.slice a3 (l? ss+(du<|kh X).length) c3,l,x0] 90 (0,0)):=by rwa[e! _ _ _<|eN p1]
   have aJ:=dx ao 0;have aK:=dO ao 0;have ap:=h! ae;clear an az p1 p2 p3 p4 p5 ae ao;go_wp2;go_ret;refine⟨dQ (by rw[ag.o];rfl),?_⟩;rw[ag.o];exact ap
def XU{t}(J:U=f.1.size)(O:fN f g o)(V:fN f I x3):Ty (f.alloc<|c? #[.map<|y? g,.map<|y? I] t) (.slice (y? ⟨U,0,x?⟩) 2 2) [g,I] [o,x3] where
 rd:=by
  subst J;refine⟨y? _,2,q?,Zu _,by unfold nl;omega,λj u B=>⟨f.1.size,0,q?,?_⟩⟩;rw[Zl _ _ _ _ rfl];match j,B with
  |0,B=>simpa[Js]using B|1,B=>simpa[Js]using B|j+2,B=>simp at B
 len:=rfl
 each:=λi h W=>by
  have hb:Below _ f<|f.alloc<|c? #[.map<|y? g,.map<|y? I] t:=(oA _ _).alloc (Zu _) _;match i,h,W with
  |0,_,_=>exact ed.below O hb|1,_,_=>exact ed.below V hb|i+2,h,_=>exact absurd h i!
def EZ{b}(O:OL f J b o p g i l x0)(hF:∀k,J k->k<f.1.size)
  (h:C.1[b]?=y? (c? #[.map<|y? g,x4,l,x0] 90 (0,0))/\fN C g o/\R? C 0 9 1 x4 x1.length (du<|x1.map fc)/\dy J f C/\(∀k,O? x4=y? k->(J k\/f.1.size<=k)/\k<C.1.size)) (W:Inv o x1) :
  ∃U,wO l x0 C U b o x1/\(∀k,U k->J k\/f.1.size<=k)/\dy J f C:=by
 obtain⟨V,p2,p3,p4,Y⟩:=h;refine⟨λk=>(J k\/f.1.size<=k)/\k<C.1.size,⟨λk B=>B.2,g,x4,?_⟩,λk B=>B.1,p4⟩
 exact {
  blk:=V,fb:=⟨.inl O.2,eN V⟩,fB:=⟨.inl O.3,AT (hF g O.3) p4.4⟩,say:=p2,row:=p3,Iz:=λk B=>Y k B
  inv:=W}
def zJ(h:Inv o p):∀e∈dV p o,l? e.1<=nl:=by intro e he;rw[iL]at he;unfold dE at he;exact qA (yO h) e (Zb.1 he).1
def LA(ss:List<|E?)(l:E?):dE (gP [dV ss [],l])=dV (ss++[l]) []:=by
 have e:gP [dV ss [],l]=dT (dV ss []) l:=by unfold gP;simp only[G?,mi];rw[ub]
 rw[e,iL,iL,pI,fE,pC,fE,fE,pC]
def Zbm{vK}(w)(F:F?)(b)(J:E?)(ss:List<|E?)(B:b?)(hP:wO x0 vK w F b J ss)(hs:B.size<=nl) :
  nr prog 25 #[p?<|y? ⟨b,0,x?⟩,s? B] w λe w'=>e=e? (n? i? (iT J ss B.1.1).1)/\
   ∃F',wO x0 vK w' F' b J (iT J ss B.1.1).2/\(∀k,F' k->F k\/w.1.size<=k)/\dy F w w':=by
 have HP:=h! hP;let ⟨i9,aO,aP,aQ,aR⟩:=Zz rH;obtain⟨hF,Bb,vS,hE⟩:=hP;obtain⟨aS,cS,rfl,be⟩:=dC hE.5;have HE:=h! hE;have HF:=h! hF;have ah:=dx hE.1;have h6:=hE.7.5;have HI:J?<|Inv J (iT J ss B.1.1).2:=Hp hE.7 _;have bf:=pf hE.7;have az:=hF b hE.2;have Y:=JS B w hs;clear hF hE
 cases hu:gG B.1.1 with
 |none=>
  have HU:J?<|iT J ss B.1.1=(7,ss):=h!<|by unfold iT;rw[hu]
  rw[hu]at Y;clear hu;go_enter p0,pr;go_wp2_with fail;apply Y.mono;rintro e w1 ⟨U,ho1⟩;unfold S9 at ho1;subst ho1;have aa:=h! U;clear U Y;go_wp2;go_ret;refine⟨dQ (by rw[HU.o];rfl),F,?_,λk hk=>Or.inl hk,dy.eF aa⟩;rw[HU.o];exact wO.below HP aa
 |some l=>
  have a9:=h!<|(uO hu).2;have ak:=h!<|(uO hu).1;have HU:J? (iT J ss B.1.1=if 0<J.length then(3,ss)else if 6<l? ss+1\/30<(dV (ss++[l]) []).length then(4,ss)else(0,ss++[l])):=h!<|by unfold iT;rw[hu]
  have aT:B.size<=281474976710656:=by have h1:=r7 ak;rw[a9.o]at h1;have:l? B.1.1=B.size:=i!;omega
  rw[hu]at Y;clear hu;by_cases ai:0<l? J
  .have V:J?<|iT J ss B.1.1=(3,ss):=h!<|by rw[HU.o,if_pos ai]
   have ac:(0:Int)<(l? J:Int):=o!;clear ai;go_enter p0,pr;go_wp2_with fail;apply Y.mono;rintro e w1 ⟨U,ho1⟩;unfold S9 at ho1;obtain⟨D,rfl,hD,aj⟩:=ho1;have aa:=h! U;have au:=Z0 U<|ah 0;have ad:=λty=>ed.len (ed.below HE.4 U) oN ty;rw[Z5]at ad;clear U Y aj;go_wp2;go_ret;refine⟨dQ (by rw[V.o];rfl),F,?_,λk hk=>Or.inl hk,dy.eF aa⟩;rw[V.o];exact wO.below HP aa
  have a0:J=[]:=ej.1 o!;by_cases aU:6<=l? ss
  .have V:J?<|iT J ss B.1.1=(4,ss):=h!<|by rw[HU.o,if_neg ai,if_pos<|.inl o!]
   have a':(6:Int)<=(l? ss:Int):=o!;have ac:l? J=0:=o!;clear ai aU a0;go_enter p0,pr;go_wp2_with fail;apply Y.mono;rintro e w1 ⟨U,ho1⟩;unfold S9 at ho1;obtain⟨D,rfl,hD,aj⟩:=ho1;have aa:=h! U;have au:=Z0 U<|ah 0;have aA:=Z0 U<|ah 1;have ad:=λty=>ed.len (ed.below HE.4 U) oN ty;rw[Z5,ac]at ad;clear U Y aj ac;go_wp2;go_ret;refine⟨dQ (by rw[V.o];rfl),F,?_,λk hk=>Or.inl hk,dy.eF aa⟩;rw[V.o];exact wO.below HP aa
  have aV:J?<|dE (gP [dV ss J,l])=dV (ss++[l]) []:=h!<|by rw[a0];exact LA ss l
  have a':¬(6:Int)<=(l? ss:Int):=o!;have ac:l? J=0:=o!
  have a1:J? (iT J ss B.1.1=if 30<(dE<|gP [dV ss J,l]).length then(4,ss)else(0,ss++[l])):=by show iT _ _ _=_;rw[HU.o,if_neg ai,aV.o];by_cases h:30<(dV (ss++[l]) []).length;rw[if_pos<|.inr h,if_pos h];rw[if_neg (by rintro(h'|h');omega;exact h h'),if_neg h]
  clear ai a0;go_enter p0,pr;go_wp2_with fail;apply Y.mono;rintro e w1 ⟨U,ho1⟩;unfold S9 at ho1;obtain⟨D,rfl,hD,aj⟩:=ho1;have aW:=U.4;have aa:=h! U;have au:=Z0 U<|ah 0;have aA:=Z0 U<|ah 1;have ad:=λty=>ed.len (ed.below HE.4 U) oN ty;rw[Z5,ac]at ad;have aX:=h! aj;have aB:=wD F b J ss Bb _ x0 vK w1<|HE.stay<|λk hk=>U.5 k<|HF k hk;have bg:=HE.7.7;clear U Y aj;go_wp2_with fail;apply aB.mono;rintro e w2 ⟨C,rfl,hC,aC,ab⟩;have bh:=ab.4;have aY:=h!<|aa.trans<|ab.mono aW
  have aD:=wz _ _ _ _ (XU (t:=85) q? aC<|ed.below aX ab) (by
    have:=kF ak;simp[gO]
    omega) (by
    intro x hx e he;simp only[Zm,gd,or_false]at hx;obtain rfl|rfl:=hx
    exact zJ HE.7 e he
    exact ox ak e he)
  clear aB ab aC ad ac;go_wp2_with fail;apply aD.mono;rintro e w3 ⟨M,rfl,hM,aE,a2⟩;have bi:w2.1.size<=w3.1.size:=by have:=a2.4;simp at this;omega
  have aZ:=h!<|(aY.alloc o! _).trans<|a2.mono j!
  have aF:=qM M _ w3 aE (by
    have h1:=uw [dV ss J,l] 2 i!;have:=kF ak;simp only[ms]at h1;have h2:gO [dV ss J,l]<=1000:=by simp[gO];omega
    omega) (qA (by
    intro x hx e he;simp only[Zm,gd,or_false]at hx;obtain rfl|rfl:=hx
    exact zJ HE.7 e he
    exact ox ak e he))
  clear aD a2 aE;go_wp2_with fail;apply aF.mono;rintro e w4 ⟨N,rfl,hN,aG,a3⟩;have bj:=a3.4;have ae:=h!<|aZ.trans<|a3.mono o!;have al:=λty=>ed.len aG oN ty;rw[Z5]at al;clear aF a3 aG;by_cases an:30<(dE<|gP [dV ss J,l]).length
  .have V:J?<|iT J ss B.1.1=(4,ss):=h!<|by rw[a1.o,if_pos an]
   have av:(30:Int)<((dE<|gP [dV ss J,l]).length:Int):=o!;clear an;go_wp2;go_ret;refine⟨dQ (by rw[V.o];rfl),F,?_,λk hk=>Or.inl hk,dy.eF ae⟩;rw[V.o];exact wO.below HP ae
  have V:J?<|iT J ss B.1.1=(0,ss++[l]):=h!<|by rw[a1.o,if_neg an]
  have av:¬(30:Int)<((dE<|gP [dV ss J,l]).length:Int):=o!;have aH:J?<|Inv J<|ss++[l]:=by have:=HI.o;rwa[V.o]at this
  have ao:J?<|Below _ w w4.drew:=⟨ae.1,ae.2,ae.3,ae.4,ae.5⟩;have kO:=uW B w4.drew aT;have bk:C? w4 _=y? (.slice aS _ cS):=Z0 ae<|ah 1;clear an a1 HU;go_wp2_with fail;clear av al a';refine nv (S:=λw'=>True) k! ?_;refine gf 0 ?_ trivial ?_<|gf 1 ?_ trivial ?_<|gf 2 ?_ trivial ?_<|gf 3 ?_ trivial ?_<|gf 5 ?_ trivial ?_ ?_
  any_goals(rintro w' _;exact n!)
  refine n8 (rs:=[4,6]) k! i! ?_;intro i hi;simp only[Zm,gd,or_false]at hi;obtain rfl|rfl:=hi
  case' inl=>
   refine n4 l! λK' O=>?_;rw[if_pos l!];unfold te;go_simp;refine O _ _ ⟨t!,?_⟩;clear O;refine kY 6 λK' O=>?_;unfold te;go_simp;apply kO.mono;rintro e x2 ⟨rfl,ab⟩;have W:=ao.trans<|ab.mono ao.4;have aw:=W.4;have ap:x2.1[b]?=y? (c? #[.map<|y? Bb,.slice aS ss.length cS,x0,vK] 90 (0,0)):=by rw[W.5 b az];exact HE.1
   have aI:=dx ap 1;refine O _ _ ⟨t!,?_⟩;clear O kO ab;refine kY 7 λK' O=>?_;unfold te;go_simp
  case' inr=>
   refine n4 l! λK' O=>?_;rw[if_pos l!];unfold te;go_simp;apply kO.mono;rintro e x2 ⟨rfl,ab⟩;have W:=ao.trans<|ab.mono ao.4;have aw:=W.4;have ap:x2.1[b]?=y? (c? #[.map<|y? Bb,.slice aS ss.length cS,x0,vK] 90 (0,0)):=by rw[W.5 b az];exact HE.1
   have aI:=dx ap 1;refine O _ _ ⟨t!,?_⟩;clear O kO ab;refine n8 (rs:=[4,7]) k! i! ?_;intro i hi;simp only[Zm,gd,or_false]at hi;obtain rfl|rfl:=hi
   case' inl=>refine n4 l! λK' O=>?_;rw[if_pos l!];unfold te;go_simp;refine O _ _ ⟨t!,?_⟩;clear O;refine kY 7 λK' O=>?_;unfold te;go_simp
   case' inr=>refine n4 l! λK' O=>?_;rw[if_pos l!];unfold te;go_simp
  all_goals
   obtain⟨x3,aq⟩:∃x3,x3=x2.alloc (c? #[s? B] 9):=⟨_,q?⟩;rw[<-aq];have ax:B? x2 x3:=by rw[aq];exact(oA _ _).alloc (Zu _) _
   have aJ:Rd x3 (.slice (y? ⟨x2.1.size,0,x?⟩) 1 1)<|du [B.1.1]:=by rw[aq,show du _=[s? B]from rfl];exact Rd.one fF
   have af:=W.trans<|ax.mono aw;have ar:x3.1[b]?=y? (c? #[.map<|y? Bb,.slice aS ss.length cS,x0,vK] 90 (0,0)):=by rw[af.5 b az];exact HE.1
   have a5:=dH HE.5<|λk hk=>af.5 k<|HF k<|HE.6 k hk;have aK:=dx ar 1;refine O _ _ ⟨t!,?_⟩;clear O aq ax
  refine kY 4 λK' O=>?_;unfold te;go_simp;refine O _ _ ⟨t!,?_⟩;clear O
  all_goals
   refine kY 8 λK' O=>?_;apply rW _ _ _ 31 q? 0 9 i9 (s? ⟨#[]⟩) 16 oT aO aP aQ aR q? _ _ _ q? a5 _ _ q? aJ iu (by rw[dz];simp;omega) (by rw[dz];unfold nl;simp;omega)<|ZP _;intro v4 x4 aL a6 aM;obtain⟨a4,c4,rfl,bl⟩:=dC aL;have a7:x4.1[b]?=y? (c? #[.map<|y? Bb,.slice aS ss.length cS,x0,vK] 90 (0,0)):=by rwa[a6.5 b (eN ar)<|λe=>fD ar a5 d! e.symm]
   refine O _ _ ⟨t!,?_⟩;clear O
   have am:R? x4 0 9 1 (.slice a4 (l? ss+(du [B.1.1]).length) c4) (ss++[l]).length<|du<|(ss++[l]).map fc:=by rwa[Z4,Zh,show du (ss.map fc++[l].map fc)=du (ss.map fc)++du [B.1.1] by simp[du,a9.o]]
   have ag:=HE.CP HF af (dy.Ff a6) am (λk hk=>by
    obtain h|h:=aM
    exact .inl (h.symm.trans hk)
    have ba:=h.symm.trans hk;cases ba;exact .inr (Zu _))
   refine gf 9 ?_ trivial ?_<|gf 10 ?_ trivial ?_ ?_
   any_goals(rintro w' _;exact n!)
   have bc:=dx a7 1;have bd:=dO a7 1;clear aL a6 aM am a7 a5 aJ ar aK af W ap aI;refine kY 11 λK' O=>?_;unfold te;go_simp;refine O _ _ ⟨t!,n3 k! ?_ _⟩;clear O bc bd;obtain⟨x5,a8⟩:∃x5,x5=x4.setCell ⟨b,1,x?⟩ (.slice a4 (l? ss+(du [B.1.1]).length) c4):=⟨_,q?⟩;have ay:x5.1.size=x4.1.size:=by rw[a8];simp[rx]
   rw[<-a8]at ag⊢;rw[<-ay]at ag;have aN:=h!<|EZ HE HF ag aH;clear a8 ay ag;go_wp2;go_ret;refine⟨dQ (by rw[V.o];rfl),?_⟩;rw[V.o];exact aN
def vC(w)(t ty elem)(g off k c)(z)(cur:V?)(T)(hu:P.underlying t=y? (.slice elem))(hz:(zeroValue elem).run P w=.ok z w)(B:z.cells=#[z])(h1:z.oneCell'=t?)
  (hg:w.1[g]?=y? (c? cur T (0,0))) (hk:0<k) (W:off+k<=cur.size) :
  ∃J:L?,l? J=cur.size/\(∀j,j<off->J[j]?=cur[j]?)/\(vt #[t] ty #[.slice (y? ⟨g,off,x?⟩) k c]).run P w=.ok (.tuple #[]) (w.setRow g J.toArray):=by
 obtain⟨k',rfl⟩:∃k',k=k'+1:=⟨k-1,o!⟩;have O:(vm #[z]<|k'+1).1.length=k'+1:=by simp[size_zeroCells]
 have U:∀v∈(vm #[z]<|k'+1).1,v.oneCell'=t?:=by intro v Y;simp[vm,Nat.mod_one]at Y;rwa[<-Y.2]
 have V:=run_storeCells_at P g off T _ 0 cur w hg o! U;refine⟨cur.1.take (off+0)++(vm #[z]<|k'+1).1++cur.1.drop (off+0+(vm #[z]<|k'+1).1.length),?_,?_,?_⟩;rw[Zh,Zh,O];simp;omega;intro j hj;rw[Zq,Zt j!,Zi,if_pos o!];simp;unfold vt;simp[run_underlying hu,hz,B,V]
def rT{cs:V?}:dy (· = g) f<|f.setRow g cs:=⟨q?,q?,q?,by simp[World.setRow],λk _ B=>setRow_other f g k cs<|λe=>B o!⟩
def vv{cap}{O:L?}{J:V?}(hm:I<=cap)(B:cap<=nl)(Y:l? O=I)(V:f.1[U]?=y? (c? J g (0,0)))(hl:J.size=cap)(W:∀j,j<I->J[j]?=O[j]?):R? f 0 g 1 (.slice (y? ⟨U,0,x?⟩) I cap) I O:=by refine⟨o!,.inr ⟨U,cap,J,q?,ZP _,V,hm,B,o!,?_⟩⟩;apply List.ext_getElem?;intro j;rw[Zi];split;rw[ZL];exact W j o!;rw[List.getElem?_eq_none o!]
def Av(w)(t ty e)(i)(ht:P.underlying t=y? (.slice e))(hi:P.info? e=y? i)(B:i.3=1)(g n c)(cur:V?)(hg:w.1[g]?=y? (c? cur e (0,0)))(O:cur.size=c)
  (x) (news:L?) (hx:Rd w x news) (h1:∀u∈news,u.oneCell'=t?) (J:n+l? news<=c) :
  ∃Y:L?,l? Y=c/\(∀j,j<n->Y[j]?=cur[j]?)/\(∀j,j<l? news->Y[n+j]?=news[j]?)/\(vo #[t,t] ty #[.slice (y? ⟨g,0,x?⟩) n c,x]).run P w=.ok (.slice (y? ⟨g,0,x?⟩) (n+l? news) c) (w.setRow g Y.toArray):=by
 obtain⟨a,cap,rfl,hc,hm,U⟩:=hx
 cases a with
 |none=>
  have hn:news=[]:=by
   cases news with
   |nil=>rfl|cons u us=>obtain⟨b,off,he,_⟩:=U 0 u rfl;simp at he
  subst hn;refine⟨cur.1,u! O,λj _=>i!,nofun,?_⟩;have:=kB w t ty e i ht hi (y? ⟨g,0,x?⟩) n c cap o!;simp only[F!,o1];rw[this,oi w g cur e _ hg]
 |some ad=>
  have V:=run_append_room w t ty e i ht hi g n c cur hg ad _ cap news (by rw[B];omega) (by intro j u W;obtain⟨b,off,he,aa⟩:=U j u W;simp only[m?]at he;subst he;rwa[Addr.add_lit]) h1 J (by rw[B];omega);rw[B,Nat.mul_one]at V;have kO:l? cur.1=c:=by simpa using O
  refine⟨_,?_,?_,?_,V⟩;simp only[Zh,dd,u?,kO];omega;intro j W;rw[Zq,Zt (by rw[dd];omega),Zi,if_pos W];simp;intro j W;rw[Zq,K? (by rw[dd];omega),dd,ov o!,ow,Zt W]
def vP(w){ops rest}{o:Oper}{a:Act}{Q}(U:o.6=x?)(s x)(t)
  (W:o.2=.call {callee:=.builtin .append,args:=#[s,x],argTypes:=#[t,t]}) (e) (i) (Y:P.underlying t=y? (.slice e)) (hi:P.info? e=y? i) (B:i.3=1) (g n c) (cur:V?) (hg:w.1[g]?=y? (c? cur e (0,0))) (V:cur.size=c)
  (hs:a.eval s=.slice (y? ⟨g,0,x?⟩) n c) (y) (news:L?) (hx:a.eval x=y) (hy:Rd w y news) (h1:∀u∈news,u.oneCell'=t?) (J:n+l? news<=c)
  (h:∀O:L?,l? O=c->(∀j,j<n->O[j]?=cur[j]?)->(∀j,j<l? news->O[n+j]?=news[j]?)->n7 P ops Q rest (a.put o.1<|.slice (y? ⟨g,0,x?⟩) (n+l? news) c) (w.setRow g O.toArray)):n7 P ops Q (o::rest) a w:=by
 refine ZW U λ_ hK=>?_;obtain⟨O,h2,h3,h4,hr⟩:=Av w t o.3 e i Y hi B g n c cur hg V y news hy h1 J;unfold te oa;simp only[W,nU,invoke,builtin,wS,wu,x9,i4,ZK,ZU,hs,hx,hr];exact hK _ _<|h O h2 h3 h4
def JI(w)(g n cap)(xs:W?)(v)(ps:W?)(U:R? w 0 9 1 (.slice (y? ⟨g,0,x?⟩) xs.length cap) xs.length<|du xs)(hv:Rd w v<|du ps)(a9:l? ps<=1)(hn:n+2=l? xs)(an:l? xs<=6) :
  nr prog 74 #[.slice (y? ⟨g,0,x?⟩) xs.length cap,n? i? n,n? i?<|(n:Int)+2,v] w λe w'=>∃v',e=e? v'/\R? w' 0 9 1 v' (xs.take n++ps).length (du<|xs.take n++ps)/\dy (· = g) w w'/\∀k,O? v'=y? k->k=g\/w.1.size<=k:=by
 obtain⟨i9,ao,_,ap,_⟩:=Zz rH;obtain⟨av,cv,rfl,aq,hmv,ar⟩:=id hv;rw[dz]at aq⊢;obtain⟨he,_⟩|⟨g',a6,cur,he,_,hg,au,hcm,aw,ab⟩:=U.2
 .cases he
 simp only[ti,m?,O!,and_true,true_and]at he;obtain⟨rfl,rfl⟩:=he
 have ac:∀j,j<n->cur[j]?=(du<|xs.take n)[j]?:=by intro j hj;have h1:=congrArg (λl:List v?=>l[j]?) ab;simp only[Zi]at h1;rw[if_pos o!,ZL]at h1;rw[h1];unfold du;rw[ZZ,ZZ,Zi,if_pos hj]
 obtain⟨L,hL⟩:∃L,L=l? xs:=⟨_,q?⟩;rw[<-hL]at an hn au⊢;have HV:J?<|Rd w (.slice av ps.length cv)<|du ps:=by have:=hv;rw[dz]at this;exact this
 have HG:=h! hg;have V:cur.size=cap:=o!;have HC:=h! V;have hj:IntKind.i64.wrap ((n:Int)+2)=(n:Int)+2:=by simp only[X?];omega
 have a':(n==(n:Int)+2)=f?:=beq_eq_false_iff_ne.2 o!;have aA:((n+2)==(L:Int))=t?:=beq_iff_eq.2 o!;have a7:(n:Int)+2<=(cap:Int):=o!;have aB:¬cap=n:=o!;have B:=h! hn;have ad:=h! hL;have ax:=h! ac;unfold nl at hcm hmv;clear hv U ar hg aw ab ac hL V hn;go_enter func74,ntmps74
 go_wp2_with (first
  |(at_builtin;refine vP _ q? _ _ 31 q? 9 i9 oT ao ap g n cap cur HG HC q? _ _ q? HV iu (by rw[dz];omega) ?_))
 intro l1 ae af aa;rw[dz]at aa⊢;obtain⟨w1,J⟩:∃w1,w1=w.setRow g l1.toArray:=⟨_,q?⟩;rw[<-J];have ag:J?<|w1.1[g]?=y? (c? l1.toArray 9 (0,0)):=h!<|by rw[J];exact n5 w g _ _ _ _ HG
 have ay:J? (dy (· = g) w w1):=h!<|by rw[J];exact rT
 have az:=h! af;have a0:J? _:=aa;have ah:=h! ae;have aC:((n+l? ps:Nat):Int)<(L:Int):=by have:=B.o;omega
 have a8:¬cap=n+l? ps:=by have:=B.o;omega
 clear ae af aa J;have ai:0<L-(n+l? ps):=by have:=B.o;omega
 have W:n+l? ps+(L-(n+l? ps))<=l1.toArray.size:=by have:=B.o;have:=ah.o;simp;omega
 let ⟨l2,aj,ak,a1⟩:=vC w1 31 0 9 g _ _ (cap-(n+l? ps)) _ _ 9 oT (q6 w1) q? q? ag ai W;obtain⟨w2,O⟩:∃w2,w2=w1.setRow g l2.toArray:=⟨_,q?⟩;rw[<-O]at a1;have a2:J?<|w2.1[g]?=y? (c? l2.toArray 9 (0,0)):=h!<|by rw[O];exact n5 w1 g _ _ _ _ ag
 have a3:J? (dy (· = g) w w2):=h!<|by rw[O];exact ay.then rT
 have a4:J? _:=λj hj=>by have:=ak j hj;simpa using this
 have a5:J?<|l? l2=cap:=h!<|by rw[aj];simpa using ah.o
 clear aj ak O ai W;go_wp2;go_ret;refine⟨_,q?,?_,a3,λk hk=>Or.inl (by simp[tl]at hk;exact hk.symm)⟩
 have Y:(xs.take n++ps).length=n+l? ps:=by have:=ad.o;have:=B.o;rw[Zh,dd];omega
 rw[Y];refine vv (v! B.o) (by unfold nl;omega) (by rw[dz,Y]) a2 (u! a5.o)<|λj hj=>?_;have e1:(du<|xs.take n++ps)[j]?=(du (xs.take n)++du ps)[j]?:=by rw[show du _=du (xs.take n)++du ps by simp[du]]
 have al:(du<|xs.take n).length=n:=by have:=ad.o;have:=B.o;rw[dz,dd];omega
 rw[e1,T!,a4.o j hj];by_cases am:j<n;rw[az.o j am,Zt o!,ax.o j am];rw[K? o!,al,<-a0.o _ o!,(o!:n+(j-n)=j)]
def vz(w)(t ty e)(ht:P.underlying t=y? (.slice e))(hi:(P.info? e).map (·.3)=y? 1)(g off dl dc c)(cur:V?)(hg:w.1[g]?=y? (c? cur e (0,0)))(V:cur.size=c)
  (x) (news:L?) (hx:Rd w x news) (h1:∀u∈news,u.oneCell'=t?) (hd:l? news<=dl) (W:off+l? news<=c) :
  ∃O:L?,l? O=c/\(∀j,j<off\/off+l? news<=j->O[j]?=cur[j]?)/\(∀j,j<l? news->O[off+j]?=news[j]?)/\(vx #[t,t] ty #[.slice (y? ⟨g,off,x?⟩) dl dc,x]).run P w=.ok (n? i?<|l? news) (w.setRow g O.toArray):=by
 obtain⟨a,cap,rfl,hc,hm,J⟩:=hx;have kO:l? cur.1=c:=by simpa using V
 cases a with
 |none=>
  have hn:news=[]:=by
   cases news with
   |nil=>rfl|cons u us=>obtain⟨b,off,U,_⟩:=J 0 u rfl;simp at U
  subst hn;refine⟨cur.1,kO,λj _=>i!,nofun,?_⟩;have:=run_copy_none w t t ty e (y? ⟨g,off,x?⟩) x? dl dc 0 cap ht hi i!;simp only[F!];rw[this,oi w g cur e _ hg];rfl
 |some ad=>
  refine⟨_,?_,?_,?_,run_copy_row _ w t t ty e g off dl dc ad _ cap cur e news ht hi hg (ov hd).symm (by intro j u B;obtain⟨b,off,U,Y⟩:=J j u B;simp only[m?]at U;subst U;rwa[Addr.add_lit]) o! h1⟩;simp only[Zh,dd,u?,kO];omega;intro j B;obtain B|B:=B
  rw[Zq,Zt (by rw[dd];omega),Zi,if_pos B];simp;rw[K? (by simp only[Zh,dd,kO];omega),kd];simp only[Zh,dd,kO];rw[ov o!,(o!:off+l? news+(j-(off+l? news))=j)];simp;intro j B;rw[Zq,K? (by rw[dd];omega),dd,ov o!,ow,Zt B]
def sz9:(prog.info? 9).map (·.3)=y? 1:=by kernel_rfl
def KP(w)(g n q cap)(xs:W?)(v)(ps:W?)(W:R? w 0 9 1 (.slice (y? ⟨g,0,x?⟩) xs.length cap) xs.length<|du xs)(hv:Rd w v<|du ps)(aU:l? ps<=1)(hn:l? xs=n+2+q)(hq:0<q)(a1:l? xs<=6) :
  nr prog 74 #[.slice (y? ⟨g,0,x?⟩) xs.length cap,n? i? n,n? i?<|(n:Int)+2,v] w λe w'=>∃v',e=e? v'/\R? w' 0 9 1 v' (xs.take n++(ps++xs.drop (n+2))).length (du<|xs.take n++(ps++xs.drop (n+2)))/\dy (· = g) w w'/\∀k,O? v'=y? k->k=g\/w.1.size<=k:=by
 obtain⟨av,cv,rfl,a2,hmv,a3⟩:=id hv;rw[dz]at a2⊢;obtain⟨he,_⟩|⟨g',aO,cur,he,_,hg,a4,hcm,a5,ai⟩:=W.2
 .cases he
 simp only[ti,m?,O!,and_true,true_and]at he;obtain⟨rfl,rfl⟩:=he
 have aj:∀j,j<l? xs->cur[j]?=(du xs)[j]?:=by intro j B;have h1:=congrArg (λl:List v?=>l[j]?) ai;simp only[Zi]at h1;rwa[if_pos o!,ZL]at h1
 have ab:=h! hn;have HV:J?<|Rd w (.slice av ps.length cv)<|du ps:=by have:=hv;rwa[dz]at this
 have HG:=h! hg;have Y:cur.size=cap:=o!;have HC:=h! Y;have ak:=h! aj;rw[hn]at a1 a4⊢;have aV:(n==(n:Int)+2)=f?:=beq_eq_false_iff_ne.2 o!;have aW:(((n:Int)+2)==((n+2+q:Nat)))=f?:=beq_eq_false_iff_ne.2 o!;have aP:((n+2)==n+2+(q:Int))=f?:=beq_eq_false_iff_ne.2 o!;have aQ:(n:Int)+2<=(cap:Int):=o!;have aX:¬cap=n:=o!;have aR:¬cap=n+2:=o!;unfold nl at hcm hmv;clear hv W a3 hg a5 ai aj Y hn;go_enter func74,ntmps74;go_wp2_with fail;go_quiet (fail);have al:J?<|(w.drewN nq).1[g]?=y? _:=HG.o;have a6:J?<|Rd (w.drewN nq) _ _:=HV.o;have a7:J? (dy (· = g) w<|w.drewN nq):=⟨q?,q?,q?,Zu _,λ_ _ _=>rfl⟩;generalize w.drewN nq=wd at *;let ⟨l1,am,ac,ad,ae⟩:=vz wd 31 3 9 oT sz9 g n (n+l? ps+q-n) (cap-n) cap cur al HC _ _ a6 iu (by rw[dz];omega) (by rw[dz];omega);rw[dz]at ac ad ae;obtain⟨w1,J⟩:∃w1,w1=wd.setRow g l1.toArray:=⟨_,q?⟩;rw[<-J]at ae;have af:J?<|w1.1[g]?=y? (c? l1.toArray 9 (0,0)):=h!<|by rw[J];exact n5 wd g _ _ _ _ al
 have a8:J? (dy (· = g) w w1):=h!<|by rw[J];exact a7.then rT
 have an:J? _:=ac;have a9:J? _:=ad;have a':=h! am;have aS:¬cap=n+l? ps:=o!;have aY:(n:Int)+(l? ps:Int)<=(n:Int)+2:=o!;clear am ac ad J;go_wp2_with fail;clear ae;have aA:IntKind.i64.wrap ((n:Int)+(l? ps:Int))=(n:Int)+(l? ps:Int):=by simp only[X?];omega
 have hA:(0:Int)<=(n:Int)+(l? ps:Int):=o!;have hB:(n:Int)+(l? ps:Int)<=(n:Int)+(l? ps:Int)+(q:Int):=o!;have hT:((n:Int)+(l? ps:Int)).toNat=n+l? ps:=o!;have aB:(0:Int)<=(n:Int)+2:=o!;have aC:(n:Int)+2<=(n:Int)+2+(q:Int):=o!;have aD:((n:Int)+2).toNat=n+2:=o!;refine nv (S:=λw'=>True) k! ?_;refine gf 0 ?_ trivial ?_<|gf 1 ?_ trivial ?_<|gf 2 ?_ trivial ?_<|gf 3 ?_ trivial ?_<|gf 4 ?_ trivial ?_<|gf 5 ?_ trivial ?_<|gf 6 ?_ trivial ?_<|gf 7 ?_ trivial ?_<|gf 8 ?_ trivial ?_ ?_
 any_goals(rintro w' _;exact n!)
 refine kY 9 λK' ao=>?_;unfold te;go_simp;have O:(du<|xs.drop<|n+2).length=q:=by rw[dz,u?,ab.o];omega
 have ap:Rd w1.drew (.slice (y? ⟨g,n+2,x?⟩) q<|cap-(n+2))<|du<|xs.drop<|n+2:=by
  refine⟨y? _,cap-(n+2),by rw[O],by rw[O];omega,by unfold nl;omega,λj u B=>⟨g,n+2,q?,?_⟩⟩
  have aZ:j<q:=by have:=(List.getElem?_eq_some_iff.1 B).1;omega
  show C? w1 _=_;rw[dx af.o];show l1.toArray[n+2+j]?=_;rw[T!,an.o _<|.inr o!,ak.o _ (by rw[ab.o];omega),<-B];unfold du;rw[ZZ,ZZ,kd]
 let ⟨l2,aq,ag,ah,ar⟩:=vz w1.drew 31 3 9 oT sz9 g (n+l? ps) q (cap-(n+l? ps)) cap _ af (u! a'.o) _ _ ap iu o! o!;rw[ar];rw[O]at ag ah;obtain⟨w2,U⟩:∃w2,w2=w1.drew.setRow g l2.toArray:=⟨_,q?⟩;rw[<-U];have au:J?<|w2.1[g]?=y? (c? l2.toArray 9 (0,0)):=h!<|by rw[U];exact n5 _ g _ _ _ _ af
 have aE:J? (dy (· = g) w w2):=by show dy _ _ _;rw[U];have h1:dy (· = g) w1 w1.drew:=⟨q?,q?,q?,Zu _,λ_ _ _=>rfl⟩;exact(a8.then h1).then rT
 have aw:J? _:=λj B=>by have:=ag j B;simpa using this
 have aF:=h! ah;have ax:=h! aq;clear aq ag ah ar U ap O;refine ao _ _ ⟨t!,n3 k! ?_ _⟩;clear ao aA hA hB hT aB aC aD;have aT:¬cap=n+l? ps+q:=o!;let ⟨l3,ay,az,aG⟩:=vC w2 31 0 9 g (n+l? ps+q) (n+2+q-(n+l? ps+q)) (cap-(n+l? ps+q)) _ _ 9 oT (q6 w2) q? q? au o! (by have:=ax.o;simp;omega);obtain⟨w3,V⟩:∃w3,w3=w2.setRow g l3.toArray:=⟨_,q?⟩;rw[<-V]at aG;have aH:J?<|w3.1[g]?=y? (c? l3.toArray 9 (0,0)):=h!<|by rw[V];exact n5 w2 g _ _ _ _ au
 have aI:J? (dy (· = g) w w3):=h!<|by rw[V];exact aE.then rT
 have aJ:J? _:=λj B=>by have:=az j B;simpa using this
 have aK:J?<|l? l3=cap:=h!<|by rw[ay];simpa using ax.o
 clear ay az V;go_wp2;go_ret;refine⟨_,q?,?_,aI,λk hk=>Or.inl (by simp[tl]at hk;exact hk.symm)⟩;have ba:=ab.o
 have aa:(xs.take n++(ps++xs.drop (n+2))).length=n+l? ps+q:=by rw[Zh,Zh,dd,u?];omega
 have aL:(du<|xs.take n).length=n:=by rw[dz,dd];omega
 have aM:(du ps).length=l? ps:=dz ps;rw[aa];refine vv o! (by unfold nl;omega) (by rw[dz,aa]) aH (u! aK.o)<|λj B=>?_;rw[show du _=du (xs.take n)++(du ps++du (xs.drop<|n+2)) by simp[du],T!,aJ.o j B];by_cases a0:j<n;rw[aw.o j<|.inl o!,an.o j<|.inl a0,ak.o j o!,Zt o!];unfold du;rw[ZZ,ZZ,Zi,if_pos a0];rw[K? o!,aL];by_cases aN:j<n+l? ps;rw[aw.o j<|.inl aN,Zt o!,<-a9.o _ o!,(o!:n+(j-n)=j)];rw[K? o!,aM,<-aF.o _ o!,(o!:n+l? ps+(j-n-l? ps)=j)]
def Jc(w)(g n cap)(xs:W?)(v)(ps:W?)(B:R? w 0 9 1 (.slice (y? ⟨g,0,x?⟩) xs.length cap) xs.length<|du xs)(V:Rd w v<|du ps)(J:l? ps<=1)(W:n+2<=l? xs)(O:l? xs<=6) :
  nr prog 74 #[.slice (y? ⟨g,0,x?⟩) xs.length cap,n? i? n,n? i?<|(n:Int)+2,v] w λe w'=>∃U,e=e? U/\R? w' 0 9 1 U (xs.take n++(ps++xs.drop (n+2))).length (du<|xs.take n++(ps++xs.drop (n+2)))/\dy (· = g) w w'/\∀k,O? U=y? k->k=g\/w.1.size<=k:=by
 by_cases h:n+2=l? xs;rw[kv o!,Z6];exact JI w g n cap xs v ps B V J h O;exact KP w g n (l? xs-(n+2)) cap xs v ps B V J o! o! O
def sN(ss:List<|E?)(m:Nat)(l:E?):List<|E?:=ss.take m++((if 0<l.length then [l]else [])++ss.drop (m+2))
def Hh(ss:List<|E?)(m)(l:E?):(sN ss m l).map fc=(ss.map fc).take m++(kh l++(ss.map fc).drop (m+2)):=by unfold sN kh;split<;>simp
def mgS(b g m B:Nat)(x y:Wd)(n:Nat)(w':w?):Prop:=C? w' ⟨b,1,x?⟩=y? (.slice (y? ⟨g,0,x?⟩) n B)/\C? w' ⟨g,m,x?⟩=y? (s? ⟨a? x⟩)/\C? w' ⟨g,m+1,x?⟩=y? (s? ⟨a? y⟩)
def YN(w)(F:F?)(b)(az:E?)(ss:List<|E?)(n)(hP:wO x0 x4 w F b az ss) :
  nr prog 39 #[p?<|y? ⟨b,0,x?⟩,n? i? n] w λe w'=>e=e? (n? i? (gI ss n).1)/\
   ∃F',wO x0 x4 w' F' b az (gI ss n).2/\(∀k,F' k->F k\/w.1.size<=k)/\dy F w w':=by
 have HP:=h! hP;obtain⟨hF,Bb,vS,hE⟩:=hP;obtain⟨aS,cS,rfl,bk⟩:=dC hE.5;have HF:=h! hF;have aG:=dx hE.1 1;have h6:=hE.7.5;have aX:=hF b hE.2;have U:=h! hE;clear hF hE;by_cases h0:n<0
 .have HU:J?<|gI ss n=(6,ss):=h!<|by unfold gI;rw[if_pos<|.inl h0]
  go_enter q',qb;go_wp2;go_ret;refine⟨dQ (by rw[HU.o];rfl),F,?_,λk hk=>Or.inl hk,dy.refl _ _⟩;rw[HU.o];exact HP
 have bl:IntKind.i64.wrap ((l? ss:Int)-1)=(l? ss:Int)-1:=by simp only[X?];omega
 by_cases h1:(l? ss:Int)-1<=n
 .have HU:J?<|gI ss n=(6,ss):=h!<|by unfold gI;rw[if_pos<|.inr h1]
  go_enter q',qb;go_wp2;go_ret;refine⟨dQ (by rw[HU.o];rfl),F,?_,λk hk=>Or.inl hk,dy.refl _ _⟩;rw[HU.o];exact HP
 obtain⟨m,rfl⟩:∃m:Nat,n=m:=⟨n.toNat,o!⟩;have hm:m+1<l? ss:=o!;have ak:m<l? ss:=o!
 obtain⟨g,rfl⟩:∃g,aS=y? _:=by
  obtain⟨he,_⟩|⟨g,cap,cur,he,_⟩:=U.5.2
  simp only[ti]at he;omega;simp only[ti]at he;exact⟨g,he.1⟩
 have al:J? (kL ss m=if m=0 then dE (dT ss[m] ss[m+1])else dT ss[m] ss[m+1]):=by show kL _ _=_;unfold kL;rw[AS,AS,BY ak,BY hm];rfl
 have HU:J? (gI ss (m:Int)=if 100<kU (kL ss m)then(4,ss)else(0,ss.take m++((if 0<(kL ss m).length then [kL ss m]else [])++ss.drop (m+2)))):=by show gI _ _=_;unfold gI;rw[if_neg o!,xb,lz];rfl
 have aY:C? w ⟨g,m,x?⟩=y? (s? ⟨(fc ss[m]).toArray⟩):=by obtain⟨b',off,e,hc⟩:=eM U.5 m (s? ⟨(fc ss[m]).toArray⟩) (by simp[du,ak]);cases e;rwa[ZD]at hc
 have aZ:C? w ⟨g,m+1,x?⟩=y? (s? ⟨(fc ss[m+1]).toArray⟩):=by obtain⟨b',off,e,hc⟩:=eM U.5 (m+1) (s? ⟨(fc ss[m+1]).toArray⟩) (by simp[du,hm]);cases e;rwa[ZD]at hc
 have a0:J? (∀l∈[ss[m],ss[m+1]],∀e∈l,l? e.1<=nl):=by
  intro l hl e he;simp only[Zm,gd,or_false]at hl;obtain rfl|rfl:=hl
  exact ox (U.7.4 _<|Zw ak) e he;exact ox (U.7.4 _<|Zw hm) e he
 have am:J?<|gP [ss[m],ss[m+1]]=dT ss[m] ss[m+1]:=by show _=_;unfold gP;simp only[G?,mi];rw[ub]
 have a1:J? (∀e∈dT ss[m] ss[m+1],l? e.1<=nl):=by rw[<-am.o];exact qA a0
 have ae:J?<|(dT ss[m] ss[m+1]).length<=1000:=by
  have h1:=kF<|U.7.4 _<|Zw ak;have h2:=kF<|U.7.4 _<|Zw hm;have h3:=uw [ss[m],ss[m+1]] 2 i!;simp only[ms]at h3;rw[am.o]at h3;have h4:gO [ss[m],ss[m+1]]<=1000:=by simp[gO];omega
  show _<=_;omega
 have bm:(0:Int)<=(m:Int):=o!;have bn:(m:Int)<(l? ss:Int):=o!;have bo:(m:Int)+1<(l? ss:Int):=o!;have bp:IntKind.i64.wrap ((m:Int)+1)=(m:Int)+1:=by simp only[X?];omega
 have bq:IntKind.i64.wrap ((m:Int)+2)=(m:Int)+2:=by simp only[X?];omega
 have br:((m:Int)+1).toNat=m+1:=o!;have bs:(0:Int)<=(m:Int)+1:=o!;clear h0;go_enter q',qb;go_wp2_with fail;have J:(mgS b g m cS _ _ _) w.drew:=⟨aG,aY,aZ⟩;refine nv (S:=mgS b g m cS (fc ss[m]) (fc ss[m+1]) ss.length) k! ?_;refine gf 0 ?_ J ?_<|gf 1 ?_ J ?_<|gf 2 ?_ J ?_<|gf 3 ?_ J ?_<|gf 4 ?_ J ?_<|gf 5 ?_ J ?_<|gf 6 ?_ J ?_<|gf 8 ?_ J ?_<|gf 9 ?_ J ?_<|gf 10 ?_ J ?_<|gf 11 ?_ J ?_<|gf 12 ?_ J ?_<|gf 13 ?_ J ?_<|gf 14 ?_ J ?_<|gf 15 ?_ J ?_ ?_
 any_goals(rintro w' ⟨s0,s1,s2⟩;exact n!)
 refine kY 7 λK' B=>?_;unfold te;go_simp;apply (qS ss[m] w.drew<|U.inv.CP _<|Zw _).mono;rintro e w1 ⟨C,rfl,hC,aH,O⟩;have a3:B? w w1:=⟨O.1,O.2,O.3,O.4,O.5⟩;have aI:=a3.4;have af:(mgS b g m cS _ _ _) w1:=⟨Z0 O J.1,Z0 O J.2.1,Z0 O J.2.2⟩;refine B _ _ ⟨af,?_⟩;clear B O;refine kY 16 λK' B=>?_;unfold te;go_simp;apply (qS ss[m+1] w1<|U.inv.CP _<|Zw _).mono;rintro e w2 ⟨D,rfl,hD,aJ,W⟩;have ba:=W.4;have aK:=a3.trans<|W.mono aI;have ag:(mgS b g m cS _ _ _) w2:=⟨Z0 W af.1,Z0 W af.2.1,Z0 W af.2.2⟩;have aw:fN w2 C _:=ed.below aH W;refine B _ _ ⟨ag,?_⟩;clear B W aH;refine kY 17 λK' B=>?_;unfold te;go_simp;have a4:=XU (t:=85) q? aw aJ;obtain⟨w3,a5⟩:∃w3,w3=w2.alloc (c? #[.map<|y? C,.map<|y? D] 85):=⟨_,q?⟩;rw[<-a5]at a4⊢;have ab:B? w2 w3:=by rw[a5];exact(oA _ _).alloc (Zu _) _
 have an:=ab.4;have aL:=aK.trans<|ab.mono o!;have ah:(mgS b g m cS _ _ _) w3:=⟨Z0 ab ag.1,Z0 ab ag.2.1,Z0 ab ag.2.2⟩;refine B _ _ ⟨ah,?_⟩;clear B ab a5;refine kY 18 λK' B=>?_;unfold te;go_simp
 apply (wz _ [C,D] [ss[m],ss[m+1]] w3 a4 (by
   have h1:=kF<|U.inv.CP _<|Zw (o!:m<l? ss);have h2:=kF<|U.inv.CP _<|Zw (o!:m+1<l? ss);simp[gO]
   omega) a0).mono
 rintro e w4 ⟨M,rfl,hM,a6,ac⟩;have bc:=ac.4;have a7:=aL.trans<|ac.mono o!;have a8:(mgS b g m cS _ _ _) w4:=⟨Z0 ac ah.1,Z0 ac ah.2.1,Z0 ac ah.2.2⟩;refine B _ _ ⟨a8,?_⟩;clear B ac;refine gf 19 ?_ a8 ?_ ?_;rotate_left
 .rintro w' ⟨s0,s1,s2⟩;exact n!
 refine n3 k! ?_ _;rw[am.o]at a6;have bd:=a7.4;have ao:=h! a6;have ap:=h! a7;clear J af ag ah a8 a4 a6 aw aJ a3 aK aL a7 hC hD aI ba an bc am a0;generalize dT ss[m] ss[m+1]=X at *;by_cases aq:m=0
 case' pos=>
  have ax:((m:Int)==0)=t?:=beq_iff_eq.2 o!;have a9:J?<|kL ss m=dE X:=h!<|by rw[al.o,if_pos aq]
  have aM:=qM M _ w4 ao (v! ae.o) a1;clear aq al;go_wp2_with fail;apply aM.mono;rintro e w4 ⟨M,rfl,hN,aN,aO⟩;have ao:=h! aN;have ae:=h!<|ZE (r9 _) ae;have ap:=h!<|ap.trans<|aO.mono bd;clear aM aN aO ax a1;generalize dE X=X at *
 case' neg=>
  have a9:J?<|kL ss m=X:=h!<|by rw[al.o,if_neg aq]
  have ax:((m:Int)==0)=f?:=beq_eq_false_iff_ne.2 o!;clear aq al a1
 all_goals
  have aP:=Eo M X w4 ao<|v! ae.o;go_wp2_with fail;apply aP.mono;rintro e w6 ⟨rfl,ar⟩;have bt:=ar.4;have V:=h!<|ap.trans<|ar.mono ap.4;have be:J?<|fN w6 M X:=ed.below ao ar;have bf:=ZE (It _) ae;clear aP ar;by_cases Y:100<kU X
  .have ad:J?<|gI ss (m:Int)=(4,ss):=h!<|by rw[HU.o,a9.o,if_pos Y]
   have ai:(100:Int)<(kU X:Int):=o!;clear Y;go_wp2;go_ret;refine⟨dQ (by rw[ad.o];rfl),F,?_,λk hk=>Or.inl hk,dy.eF V⟩;rw[ad.o];exact wO.below HP V
  have ad:J?<|gI ss (m:Int)=(0,sN ss m X):=h!<|by rw[HU.o,a9.o,if_neg Y];rfl
  have ai:¬(100:Int)<(kU X:Int):=o!;have ay:J?<|Inv az<|sN ss m X:=by have:=EG U.7 m;rwa[ad.o]at this
  have aQ:J?<|Below _ w w6.drew:=⟨V.1,V.2,V.3,V.4,V.5⟩;have bu:C? w6 _=y? (.slice _ _ cS):=Z0 V aG
  have aR:=GX M X w6.drew be (λhp=>ay.4 _ (by
   unfold sN;rw[if_pos hp]
   simp))
  clear Y;go_wp2_with fail;clear ai bf;refine nv (S:=λw'=>True) k! ?_;refine gf 0 ?_ trivial ?_<|gf 1 ?_ trivial ?_<|gf 2 ?_ trivial ?_<|gf 3 ?_ trivial ?_<|gf 5 ?_ trivial ?_<|gf 6 ?_ trivial ?_<|gf 7 ?_ trivial ?_<|gf 8 ?_ trivial ?_ ?_
  any_goals(rintro w' _;exact n!)
  refine n8 (rs:=[4,9]) k! i! ?_;intro i hi;simp only[Zm,gd,or_false]at hi;obtain rfl|rfl:=hi
  case' inl=>refine n4 l! λK' B=>?_;rw[if_pos l!];unfold te;go_simp;refine B _ _ ⟨t!,?_⟩;clear B;refine kY 9 λK' B=>?_
  case' inr=>refine n4 l! λK' B=>?_;rw[if_pos l!]
  all_goals
   unfold te;go_simp;apply aR.mono;rintro e x1 ⟨v1,rfl,aT,aU⟩;have au:=aQ.trans<|aU.mono aQ.4;have av:x1.1[b]?=y? (c? #[.map<|y? Bb,.slice (y? ⟨g,0,x?⟩) ss.length cS,x0,x4] 90 (0,0)):=by rw[au.5 b aX];exact U.1
   have bg:=dx av 1;refine B _ _ ⟨t!,?_⟩;clear B aR aU
  case' inr=>refine kY 4 λK' B=>?_;unfold te;go_simp;refine B _ _ ⟨t!,?_⟩;clear B
  all_goals
   have a':R? x1 0 9 1 (.slice (y? ⟨g,0,x?⟩) (ss.map fc).length cS) (ss.map fc).length<|du<|ss.map fc:=by rw[Z5];exact dH U.5<|λk hk=>au.5 k<|HF k<|U.6 k hk
   have aA:=Jc x1 g m cS _ v1 _ a' aT (yZ _) (by rw[Z5];omega) (by rw[Z5];omega);rw[Z5]at aA;refine kY 10 λK' B=>?_;unfold te;go_simp;apply aA.mono;rintro e x2 ⟨v2,rfl,aB,aC,aV⟩;obtain⟨ln,aD⟩:∃ln,ln=((ss.map fc).take m++(kh X++(ss.map fc).drop (m+2))).length:=⟨_,q?⟩;rw[<-aD]at aB;have bh:=h! aD;clear aD;obtain⟨a2,c2,rfl,bv⟩:=dC aB;have aE:x2.1[b]?=y? (c? #[.map<|y? Bb,.slice (y? ⟨g,0,x?⟩) ss.length cS,x0,x4] 90 (0,0)):=by rwa[aC.5 b (eN av)<|λe=>fD av a' d! (by rw[e];rfl)]
   refine B _ _ ⟨t!,?_⟩;clear B aA
   have aj:R? x2 0 9 1 (.slice a2 ln c2) (sN ss m X).length<|du<|(sN ss m X).map fc:=by rwa[<-Z5,Hh,<-bh.o]
   have aa:=U.CP HF au (aC.mono (λk hk=>by subst hk;rfl)) aj (λk hk=>by
    obtain h|h:=aV k hk
    subst h;exact .inl rfl
    exact .inr h)
   refine gf 11 ?_ trivial ?_<|gf 12 ?_ trivial ?_ ?_
   any_goals(rintro w' _;exact n!)
   have bi:=dx aE 1;have bj:=dO aE 1;clear aB aC aV aj aE a' aT av au bg;refine kY 13 λK' B=>?_;unfold te;go_simp;refine B _ _ ⟨t!,n3 k! ?_ _⟩;clear B bi bj;obtain⟨x3,aF⟩:∃x3,x3=x2.setCell ⟨b,1,x?⟩ (.slice a2 ln c2):=⟨_,q?⟩;have an:x3.1.size=x2.1.size:=by rw[aF];simp[rx]
   rw[<-aF]at aa⊢;rw[<-an]at aa;have aW:=h!<|EZ U HF aa ay;clear aF an aa;go_wp2;go_ret;refine⟨dQ (by rw[ad.o];rfl),?_⟩;rw[ad.o];exact aW
def YY(O:w?->(F?)->Nat->E?->List (E?)->Prop)(w:w?)(F:F?)(b:Nat)(code:Nat)(B:E?)(ss:List<|E?)(e:Ending)(w':w?):Prop:=
 e=e? (n? i? code)/\∃J:Nat->Prop,O w' J b B ss/\(∀k,J k->F k\/w.1.size<=k)/\dy F w w'
def PE1(J O:v?)(w:w?)(F:F?)(b:Nat)(U:List<|W?):Prop:=(∀k,F k->k<w.1.size)/\∃B n V kn,PW w F b J O U B n V kn
def GJ(w)(F:F?)(b)(Y:List<|W?)(s:b?)(hP:PE1 i l w F b Y)(hB:eK Y<=16777216)(hs:s.size<=nl) :
  nr prog 34 #[p?<|y? ⟨b,0,x?⟩,s? s] w λe w'=>e=e? (n? i? (ml Y s.1.1).1)/\
   ∃F',PE1 i l w' F' b (ml Y s.1.1).2/\(∀k,F' k->F k\/w.1.size<=k)/\dy F w w':=by
 obtain⟨hF,B,n,vK,kn,hW⟩:=hP;by_cases h:eh s.1.1=t?/\s.1.1≠[]
 .have HO:J? (ml Y s.1.1=if 60<(eP<|Y++[eR<|dP s.1.1]).length then(4,Y)else(0,Y++[eR<|dP s.1.1])):=by
   show ml Y s.1.1=_;unfold ml;rw[if_pos h]
  have hT:=sY s w hs;rw[decide_eq_true h]at hT;let ⟨ah,ai⟩:=zR s h.1;have aj:=zV s w.drew h.1;clear h hs;generalize eR (dP s.1.1)=t at *;go_enter func34,ntmps34;go_wp2_with fail;apply g! hT;clear hT;by_cases aa:60<(eP<|Y++[t]).length
  .have ab:J?<|ml Y s.1.1=(4,Y):=h!<|by rw[HO.o,if_pos aa]
   have ac:nr prog 67 #[s? s] w.drew λe w1=>∃a c,e=e? (.slice a t.length c)/\B? w w1/\
     nr prog 66 #[p?<|y? ⟨b,2,x?⟩,.slice a t.length c] w1 λe w2=>e=e? (.bool f?)/\B? w w2:=by
    apply aj.mono;rintro e w1 ⟨v,rfl,V,J⟩;have W:R? w1 w.1.size 9 1 v _ _:=V;have U:B? w w1:=⟨J.1,J.2,J.3,J.4,J.5⟩;clear V J;obtain⟨a,c,rfl,_⟩:=dC W;refine⟨a,c,q?,U,?_⟩;apply (OQ F b i l Y B n vK kn t w.1.size _ w1 (λk O=>AT (hF k O) U.size) (hW.stay<|λk O=>U.block k<|hF k O) W (λk O al=>by have:=(W.lt k O).1;have:=hF k al;omega) ah ai hB).mono;rintro e w2 (⟨_,rfl,ad⟩|⟨hn,_⟩);exact⟨q?,U.trans<|ad.mono U.4⟩;exact absurd aa hn
   clear aj aa ah ai;go_wp2_with fail
   go_region_law (first
    |(go_simp
      go_at_call 67;apply ac.mono
      rintro e w1 ⟨a,c,rfl,U,ae⟩)
    |(go_simp
      go_at_call 66;apply ae.mono
      rintro e w2 ⟨rfl,ad⟩))
   all_goals
    go_wp2;go_ret;refine⟨dQ (by rw[ab.o];rfl),F,?_,λk O=>Or.inl O,dy.eF ad⟩;rw[ab.o];exact⟨λk O=>AT (hF k O) ad.4,B,n,vK,kn,hW.stay<|λk O=>ad.5 k<|hF k O⟩
  have ab:J?<|ml Y s.1.1=(0,Y++[t]):=h!<|by rw[HO.o,if_neg aa]
  have ac:nr prog 67 #[s? s] w.drew λe w1=>∃a c,e=e? (.slice a t.length c)/\B? w w1/\
    nr prog 66 #[p?<|y? ⟨b,2,x?⟩,.slice a t.length c] w1 λe w2=>e=e? (.bool t?)/\(∃F' n' af ag,(∀k,F' k->k<w2.1.size)/\(∀k,F' k->F k\/w.1.size<=k)/\PW w2 F' b i l (Y++[t]) B n' af ag)/\dy F w w2:=by
   apply aj.mono;rintro e w1 ⟨v,rfl,V,J⟩;have W:R? w1 w.1.size 9 1 v _ _:=V;have U:B? w w1:=⟨J.1,J.2,J.3,J.4,J.5⟩;clear V J;obtain⟨a,c,rfl,_⟩:=dC W;refine⟨a,c,q?,U,?_⟩;have an:=U.4;apply (OQ F b i l Y B n vK kn t w.1.size _ w1 (λk O=>AT (hF k O) an) (hW.stay<|λk O=>U.block k<|hF k O) W (λk O al=>by have:=(W.lt k O).1;have:=hF k al;omega) ah ai hB).mono;rintro e w2 (⟨hy,_⟩|⟨_,rfl,⟨n',af,ag,am⟩,ak⟩);exact absurd hy aa;have aq:=ak.4;refine⟨q?,⟨iJ F w1 w2,n',af,ag,?_,?_,am⟩,?_⟩;rintro k (O|O);have:=hF k O;omega;exact O.2;rintro k (O|O);exact .inl O;exact .inr o!;exact(dy.eF U).trans ak<|λ_ _ h=>h
  clear aj aa ah ai;go_wp2_with fail
  go_region_law (first
   |(go_simp
     go_at_call 67;apply ac.mono
     rintro e w1 ⟨a,c,rfl,U,ae⟩)
   |(go_simp
     go_at_call 66;apply ae.mono
     rintro e w2 ⟨rfl,⟨F',n',af,ag,ao,ap,am⟩,ak⟩))
  all_goals
   go_wp2;go_ret;refine⟨dQ (by rw[ab.o];rfl),F',?_,ap,ak⟩;rw[ab.o];exact⟨ao,B,n',af,ag,am⟩
 have HO:J?<|ml Y s.1.1=(2,Y):=by show ml Y s.1.1=_;unfold ml;rw[if_neg h]
 have hT:=sY s w hs;rw[decide_eq_false h]at hT;go_enter func34,ntmps34;go_wp2_with fail;apply g! hT;go_wp2;go_ret;refine⟨dQ (by rw[HO.o];rfl),F,?_,λk O=>Or.inl O,dy.refl _ _⟩;rw[HO.o];exact⟨hF,B,n,vK,kn,hW⟩
structure PJ(w:w?)(F1 F2:F?)(b:Nat)(buf:E?)(ss:List (E?))(ts:List (W?)):Prop where
 lt1:∀k,F1 k->k<w.1.size
 lt2:∀k,F2 k->k<w.1.size
 apart:∀k,F1 k->F2 k->k=b
 both:∃Bb vS B n vK kn,OL w F1 b buf ss Bb vS (.map (some B)) vK/\PW w F2 b (.map (some Bb)) vS ts B n vK kn
def PJ.below{w b}{U:List<|W?}(h:PJ w J x2 b o p U)(V:w.1.size<=f.1.size)(hb:∀k,k<w.1.size->f.1[k]?=w.1[k]?):PJ f J x2 b o p U:=by obtain⟨W,Y,h3,Bb,vS,B,n,vK,kn,h4,h5⟩:=h;exact⟨λk O=>AT (W k O) V,λk O=>AT (Y k O) V,h3,Bb,vS,B,n,vK,kn,h4.stay λk O=>hb k<|W k O,h5.stay λk O=>hb k<|Y k O⟩
def YM{b}{f:W?->Nat}{c:V?}{e fr}(h:fl C g I f)(hb:C.1[b]?=y? (c? c e fr)):g≠b:=by intro rfl;obtain⟨D,⟨es,clock,B,_⟩,_⟩:=h;rw[B]at hb;cases hb
def YX{b}{c:V?}{e fr}(h:fN f g o)(hb:f.1[b]?=y? (c? c e fr)):g≠b:=by intro rfl;obtain⟨D,⟨o,clock,B,_⟩,_⟩:=h;rw[B]at hb;cases hb
def Ua{b}{xs:L?}{c:V?}{fr}(h:R? f I 9 1 i U xs)(hb:f.1[b]?=y? (c? c 90 fr)):∀k,O? i=y? k->k≠b:=by
 intro k B rfl;obtain⟨rfl,_⟩|⟨g,cap,cur,rfl,_,J,_⟩:=h.2
 cases B;simp only[tl,m?]at B;subst B;rw[J]at hb;simp only[m?,Obj.cells.injEq]at hb;exact absurd hb.2.1 d!
def PJ.entries{b}{ts:List<|W?}{kn:W?}(h1:∀k,J k->k<f.1.size)(h2:∀k,x2 k->k<f.1.size)(h3:∀k,J k->x2 k->k=b)(h4:OL f J b o p g i (.map<|y? I) l)(B:PW f x2 b (.map<|y? g) i ts I U l kn)
  (hp:wO (.map<|y? I) l C x5 b x3 x1) (hF:∀k,x5 k->J k\/f.1.size<=k) (V:dy J f C):PJ C x5 x2 b x3 x1 ts:=by
 obtain⟨g1,aa,ab,g2⟩:=hp;have qQ:∀k,x2 k->k≠b->C.1[k]?=f.1[k]?:=λk O ac=>V.5 k (h2 k O) λY=>ac<|h3 k Y O;refine⟨g1,λk O=>AT (h2 k O) V.4,λk O W=>?_,aa,ab,I,U,l,kn,g2,⟨g2.1,B.2,B.3,B.4.stay<|qQ I B.3<|YM B.4 B.1,B.5,dH B.6 λk O=>qQ k (B.7 k O)<|Ua B.6 B.1 k O,B.7,B.8,B.9,B.10⟩⟩;obtain Y|Y:=hF k O
 exact h3 k Y W;exact absurd (h2 k W) o!
def PJ.words{b}{ts V:List<|W?}{kn:W?}(h1:∀k,J k->k<f.1.size)(h2:∀k,x2 k->k<f.1.size)(h3:∀k,J k->x2 k->k=b)(B:OL f J b o p g i (.map<|y? I) l)(h5:PW f x2 b (.map<|y? g) i ts I U l kn)
  (hp:PE1 (.map<|y? g) i C x5 b V) (hF:∀k,x5 k->x2 k\/f.1.size<=k) (W:dy x2 f C):PJ C J x5 b o p V:=by
 obtain⟨g1,B',n',aa,ab,g2⟩:=hp;have qQ:∀k,J k->k≠b->C.1[k]?=f.1[k]?:=λk O ac=>W.5 k (h1 k O) λY=>ac<|h3 k O Y;refine⟨λk O=>AT (h1 k O) W.4,g1,λk O ad=>?_,g,i,B',n',aa,ab,⟨g2.1,B.2,B.3,ed.stay B.4<|qQ g B.3<|YX B.4 B.1,dH B.5 λk O=>qQ k (B.6 k O)<|Ua B.5 B.1 k O,B.6,B.7⟩,g2⟩;obtain Y|Y:=hF k ad
 exact h3 k O Y;exact absurd (h1 k O) o!
end
section
variable {C x4 x5:V?}{J x8:Addr}{U x0:v?}{x1 x2:w?}{x3 x7:Fn}
inductive eA{α β:Type}(R:α->β->Prop):List α->List β->Prop
 |nil:eA R [] []|cons {a b l l'}:R a b->eA R l l'->eA R (a::l) (b::l')
def eA.mono{α β}{R S:α->β->Prop}(h:∀a b,R a b->S a b):∀{l l'},eA R l l'->eA S l l'
 |_,_,.nil=>.nil|_,_,.cons a b=>.cons (h _ _ a)<|eA.mono h b
def eA.length{α β R}:∀{l:List α}{B:List β},eA R l B->l? l=l? B
 |_,_,.nil=>rfl|_,_,.cons _ b=>by simp[eA.length b]
def eA.append{α β R}:∀{l J:List α}{O B:List β},eA R l O->eA R J B->eA R (l++J) (O++B)
 |_,_,_,_,.nil,h=>h|_,_,_,_,.cons a b,h=>.cons a<|eA.append b h
def eA.get{α β R}:∀{l}{B:List β},eA R l B->∀{i:Nat}{a:α},l[i]?=y? a->∃b,B[i]?=y? b/\R a b
 |_,_,.nil,i,a,h=>by simp at h
 |_,_,.cons (b:=b) x y,0,a,h=>⟨b,i!,by simp at h;exact h▸x⟩
 |_,_,.cons x y,i+1,a,h=>by simpa using eA.get y (u! h)
def eA.get_none{α β R}{l:List α}{B:List β}(h:eA R l B){i:Nat}(J:l[i]?=x?):B[i]?=x?:=by rw[List.getElem?_eq_none_iff]at J⊢;rwa[<-h.length]
def eA.Na{α β R}:∀{l:List α}{B:List β},l? l=l? B->(∀(i:Nat)a b,l[i]?=y? a->B[i]?=y? b->R a b)->eA R l B
 |[],[],_,_=>.nil|a::l,b::B,h,g=>.cons (g 0 a b i! i!)<|eA.Na (u! h) λi x y J O=>g (i+1) x y (u! J)<|u! O|[],b::B,h,_=>by simp at h
 |a::l,[],h,_=>by simp at h
def eA.take{α β R}:∀(n){l:List α}{B:List β},eA R l B->eA R (l.take n) (B.take n)
 |0,_,_,_=>by simpa using .nil
 |n+1,_,_,.nil=>by simpa using .nil
 |n+1,_,_,.cons a b=>by simpa using .cons a (eA.take n b)
def eA.drop{α β R}:∀(n){l:List α}{B:List β},eA R l B->eA R (l.drop n) (B.drop n)
 |0,_,_,h=>by simpa using h
 |n+1,_,_,.nil=>by simpa using .nil
 |n+1,_,_,.cons a b=>by simpa using eA.drop n b
def eA.set{α β R}:∀{l B},eA R l B->∀(i){a:α}{b:β},R a b->eA R (l.set i a) (B.set i b)
 |_,_,.nil,_,_,_,_=>by simpa using .nil
 |_,_,.cons x y,0,_,_,h=>by simpa using .cons h y
 |_,_,.cons x y,i+1,_,_,h=>by simpa using .cons x (eA.set y i h)
def eA.map{α β γ δ}{R:α->β->Prop}{S:γ->δ->Prop}{f:α->γ}{g:β->δ}(h:∀a b,R a b->S (f a) (g b)):∀{l l'},eA R l l'->eA S (l.map f) (l'.map g)
 |_,_,.nil=>.nil|_,_,.cons a b=>.cons (h _ _ a)<|eA.map h b
def eA.refl{α R}:∀{l:List α},(∀a∈l,R a a)->eA R l l
 |[],_=>.nil|a::l,h=>.cons (h a i!) (eA.refl λx B=>h x<|by simp[B])
structure Ren where
 blk:Nat->Option Nat
 ch:Nat->Option Nat
 loose:Nat->Prop
 ok:Oper->Prop
 nu:FuncId->Prop
 SN:Prop
 dead:Nat->Prop
 dm:Nat->Nat
 Yd:Nat->Nat->Option v?
 Li:Nat->Option Obj
 G:Nat
 Lp:∀r r',blk r=some r'->(r<G↔r'<G)
 inj:∀r s t,blk r=some t->blk s=some t->r=s
 TZ:∀r s t,ch r=some t->ch s=some t->r=s
structure Ren.Le(m m':Ren):Prop where
 blk:∀r r',m.1 r=some r'->m'.1 r=some r'
 ch:∀r r',m.2 r=some r'->m'.2 r=some r'
 loose:∀r r',m.1 r=some r'->(m'.3 r↔m.3 r)
 less:∀r,m'.3 r->m.3 r
 ok:m'.4=m.4
 nu:m'.5=m.5
 SN:m'.6=m.6
 G:m'.G=m.G
 dead:m'.7=m.7
 dm:m'.8=m.8
 Yd:m'.9=m.9
def Ren.Le.refl(m:Ren):m.Le m:=⟨λ_ _ h=>h,λ_ _ h=>h,λ_ _ _=>Iff.rfl,λ_ h=>h,q?,q?,q?,q?,q?,q?,q?⟩
variable {g I x6:Ren}
def Ren.Le.trans(h:g.Le I)(B:I.Le x6):g.Le x6:=
 ⟨λr r' x=>B.1 r r'<|h.1 r r' x,λr r' x=>B.2 r r'<|h.2 r r' x,λr r' x=>(B.3 r r'<|h.1 r r' x).trans<|h.3 r r' x,λr x=>h.4 r<|B.4 r x,B.5.trans h.5,B.6.trans h.6,B.7.trans h.7,B.G.trans h.G,B.9.trans h.9,B.dm.trans h.dm,B.11.trans h.11⟩
inductive AR(m:Ren):Addr->Addr->Prop
 |mk {b b' o s}:m.1 b=some b'->AR m ⟨b,o,s⟩ ⟨b',o,s⟩
def AR.blk{a}(h:AR g a J):g.1 a.1=y? J.1:=by cases h;assumption
def AR.off{a}(h:AR g a J):J.2=a.2:=by cases h;rfl
def AR.spot{a}(h:AR g a J):J.3=a.3:=by cases h;rfl
def AR.mono(h:g.Le I){a:Addr}(x:AR g a J):AR I a J:=by cases x with|mk hb=>exact .mk<|h.1 _ _ hb
def AR.add{a:Addr}(h:AR g a J)(n:Nat):AR g (a.add n)<|J.add n:=by
 cases h with
 |mk hb=>unfold Addr.add;split<;>exact .mk hb
def AR.eq_iff{a b}(h:AR g a J)(O:AR g b x8):(a=b↔J=x8):=by
 cases h with
 |mk hb=>cases O with
  |mk B=>constructor;intro e;cases e;rw[hb]at B;cases B;rfl;intro e;cases e;have:=g.13 _ _ _ hb B;subst this;rfl
def AR.uD{a b}(h:AR g a J)(O:AR g b x8):(a.1=b.1↔J.1=x8.1):=by
 cases h with
 |mk hb=>cases O with
  |mk B=>constructor;intro e;subst e;rw[hb]at B;cases B;rfl;intro e;subst e;exact g.13 _ _ _ hb B
inductive Sb(m:Ren):Fn->Fn->Prop
 |func (f):m.5 f->Sb m (.func f) (.func f)|yield {l l'}:m.1 l=some l'->Sb m (.yield l) (.yield l')
def Sb.mono(h:g.Le I){a:Fn}(x:Sb g a x3):Sb I a x3:=by
 cases x with
 |func f B=>exact .func f<|h.6▸B|yield hb=>exact .yield<|h.1 _ _ hb
def Vt:v?->Prop
 |p? (y? _)|.slice (y? _) _ _|.map (y? _)|.chan (y? _)|.iface ..|.float ..|.complex ..|.tuple _|.func (.func _) _ _|.func (.yield _) _ _|.func (.methodOf _ _) _ _|.func (.via ..) _ _=>True|_=>False
inductive VR(m:Ren):v?->v?->Prop
 |gV (v):Vt v->VR m (.tuple #[]) v|bool (b):VR m (.bool b) (.bool b)|int (k n):VR m (.int k n) (.int k n)|string (s):VR m (.string s) (.string s)|iQ:VR m (.pointer none) (.pointer none)|ptr {a a'}:AR m a a'->VR m (.pointer (some a)) (.pointer (some a'))|gC (l c):VR m (.slice none l c) (.slice none l c)|zero (a):m.7 a.1->VR m (.slice (some a) 0 0) (.slice (some a) 0 0)|slice {a a'} (l c):AR m a a'->VR m (.slice (some a) l c) (.slice (some a') l c)|oH:VR m (.map none) (.map none)|map {r r'}:m.1 r=some r'->VR m (.map (some r)) (.map (some r'))|gone {r}:m.7 r->VR m (.map (some r)) (.map (some (m.8 r)))|kg:VR m (.chan none) (.chan none)|chan {r r'}:m.2 r=some r'->VR m (.chan (some r)) (.chan (some r'))|func {fn fn' f f' c c'}:Sb m fn fn'->f.size=f'.size->(∀i(h:i<f.size)(h':i<f'.size),VR m f[i] f'[i])->c.size=c'.size->(∀i(h:i<c.size)(h':i<c'.size),VR m c[i] c'[i])->VR m (.func fn f c) (.func fn' f' c')|nilFunc:VR m .nilFunc .nilFunc|iface (t) {v v'}:VR m v v'->VR m (.iface t v) (.iface t v')|nilIface:VR m .nilIface .nilIface|agg {c c'}:c.size=c'.size->(∀i(h:i<c.size)(h':i<c'.size),VR m c[i] c'[i])->VR m (.agg c) (.agg c')|tuple {c c'}:c.size=c'.size->(∀i(h:i<c.size)(h':i<c'.size),VR m c[i] c'[i])->VR m (.tuple c) (.tuple c')|tC {lf n f c}:lf.size=f.size->(∀i(h:i<lf.size)(h':i<f.size),VR m lf[i] f[i])->(∀t w,f[0]?=some (.iface t w)->∃x,lf[0]?=some (.iface t x))->VR m (.func (.method "") lf #[.func (.method n) f c]) (.func (.method n) f c)
def VR.mono(h:g.Le I)(x:VR g U x0):VR I U x0:=by
 induction x with
 |gV U Y=>exact .gV U Y|tC B _ O J=>exact .tC B J O|bool|int|string|iQ|gC|oH|kg|nilFunc|nilIface=>constructor|zero a V=>exact .zero a<|h.9▸V|ptr W=>exact .ptr<|W.mono h|slice l c W=>exact .slice l c<|W.mono h|map hb=>exact .map<|h.1 _ _ hb|gone V=>rw[<-h.dm];exact .gone (h.9▸V)|chan hb=>exact .chan<|h.2 _ _ hb|func hf B _ O _ i1 i2=>exact .func (hf.mono h) B i1 O i2|iface t _ J=>exact .iface t J|agg B _ J=>exact .agg B J|tuple B _ J=>exact .tuple B J
def fh(m:Ren)(c B:V?):Prop:=eA (VR m) c.1 B.1
def fh.mono(h:g.Le I){c:V?}(x:fh g c C):fh I c C:=eA.mono (λ_ _=>VR.mono h) x
def fh.size{c:V?}(h:fh g c C):c.size=C.size:=by simpa using eA.length h
def fh.jb{c:V?}(J:c.size=C.size)(h:∀i(h:i<c.size)(V:i<C.size),VR g c[i] C[i]):fh g c C:=by refine eA.Na (u! J) λi a b B hb=>?_;simp only[ZL]at B hb;obtain⟨O,rfl⟩:=AI.1 B;obtain⟨U,rfl⟩:=AI.1 hb;exact h i O U
def fh.idx{c:V?}(x:fh g c C):∀i(h:i<c.size)(B:i<C.size),VR g c[i] C[i]:=by intro i h B;obtain⟨b,hb,J⟩:=eA.get x (i:=i) (a:=c[i]) (by simp[h]);simp only[ZL,Array.getElem?_eq_getElem B,m?]at hb;exact hb▸J
def VR.PK{c:V?}(h:fh g c C):VR g (.agg c)<|.agg C:=.agg h.size h.idx
def VR.mM{c:V?}(h:fh g c C):VR g (.tuple c)<|.tuple C:=.tuple h.size h.idx
def VR.O5{c:V?}(J:Sb g x3 x7)(h:fh g C x4)(B:fh g c x5):VR g (.func x3 C c)<|.func x7 x4 x5:=.func J h.size h.idx B.size B.idx
def VR.undef(m:Ren):VR m ys ys:=.gV _ trivial
def fh.get{c:V?}(h:fh g c C){i:Nat}(J:c[i]?=y? U):∃B,C[i]?=y? B/\VR g U B:=by simpa using eA.get h (u! J)
def fh.get_none{c:V?}(h:fh g c C){i:Nat}(B:c[i]?=x?):C[i]?=x?:=by simpa using eA.get_none h (u! B)
def fh.getD{c:V?}(h:fh g c C)(i:Nat):VR g (c.getD i om)<|C.getD i om:=by
 simp only[By]
 cases J:c[i]? with
 |none=>rw[h.get_none J];exact .undef g|some v=>obtain⟨U,B,O⟩:=h.get J;simp only[B,I!];exact O
def fh.push{c:V?}(h:fh g c C)(B:VR g U x0):fh g (c.push U)<|C.push x0:=by unfold fh;simp only[Array.toList_push];exact eA.append h<|.cons B .nil
def fh.append{c:V?}(h:fh g c C)(B:fh g x4 x5):fh g (c++x4)<|C++x5:=by unfold fh;simp only[Array.toList_append];exact eA.append h B
def fh.extract{c:V?}(h:fh g c C)(i j:Nat):fh g (c.extract i j)<|C.extract i j:=by unfold fh;simp only[Array.toList_extract,List.extract_eq_take_drop];exact eA.take _<|eA.drop _ h
def fh.set{c:V?}(h:fh g c C)(i:Nat)(B:VR g U x0):fh g (S? c i U)<|S? C i x0:=by unfold fh;simp only[Array.toList_setIfInBounds];exact eA.set h i B
def fh.nil(m):fh m #[] #[]:=eA.nil
def fh.one(h:VR g U x0):fh g #[U] #[x0]:=eA.cons h eA.nil
def Plain:v?->Prop
 |.bool _|n? _ _|s? _|p? x?|.slice x? _ _|.map x?|.chan x?|.nilFunc|.nilIface=>True|_=>False
def VR.plain:∀{v},Plain v->VR g v v:=by
 intro v h;match v,h with
 |.bool _,_=>constructor|.int ..,_=>constructor|s? _,_=>constructor|p? x?,_=>constructor|.slice x? ..,_=>constructor|.map x?,_=>constructor|.chan x?,_=>constructor|.nilFunc,_=>constructor|.nilIface,_=>constructor
def VR.cells(h:VR g U x0):fh g U.cells x0.cells:=by
 cases h with
 |gV U B=>
  have:x0.cells=#[x0]:=by cases x0<;>first|rfl|exact B.elim
  rw[this];exact fh.one<|.gV _ B
 |tC a b c=>exact fh.one<|.tC a b c|agg J O=>exact fh.jb J O|bool|int|string|iQ|gC|oH|kg|nilFunc|nilIface=>exact fh.one (by constructor)|zero a V=>exact fh.one<|.zero a V|ptr h=>exact fh.one<|.ptr h|slice l c h=>exact fh.one<|.slice l c h|map h=>exact fh.one<|.map h|gone h=>exact fh.one<|.gone h|chan h=>exact fh.one<|.chan h|func a b c d e=>exact fh.one<|.func a b c d e|iface t h=>exact fh.one<|.iface t h|tuple a b=>exact fh.one<|.tuple a b
def fh.replicate(n)(h:VR g U x0):fh g (sp n U)<|sp n x0:=by refine fh.jb i! λi B J=>?_;simpa using h
def fh.refl{c:V?}(h:∀v∈c.1,VR g v v):fh g c c:=eA.refl h
def yN:Operand->Prop
 |.tmp _=>True|.const v=>Plain v|_=>False
def gU(ok:Oper->Prop):Code->Prop
 |.skip|.exit _|.label _|.goto _|.ret=>True|.region _ ops _=>∀o∈ops.1,ok o|.seq a b=>gU ok a/\gU ok b|.cond c a b=>yN c/\gU ok a/\gU ok b|.block _ c|.loop c|.scope c=>gU ok c|.rangeFunc f _ a b=>yN f/\gU ok a/\gU ok b|.refuse _=>False
structure Ag(m:Ren)(l l':Loop):Prop where
 state:l.1=l'.1
 pending:l.2=l'.2
 okp:∀c,l.2=some c->gU m.4 c
 fn:l.3=l'.3
 tmps:fh m l.4 l'.4
 params:l.5=l'.5
 assign:l.6=l'.6
 body:l.7=l'.7
 oka:gU m.4 l.6
 Ey:gU m.4 l.7
 defers:m.1 l.8=some l'.8
def FnC(m:Ren)(f f':Fn)(c B:V?):Prop:=(Sb m f f'/\fh m c B)\/(f=.method ""/\∃n,f'=.method n)
def FnC.mono(h:g.Le I){c:V?}(x:FnC g x3 x7 c C):FnC I x3 x7 c C:=x.imp (λy=>⟨y.1.mono h,y.2.mono h⟩) id
inductive TR(m:Ren):Target->Target->Prop
 |fn {f f' c c'}:FnC m f f' c c'->TR m (.fn f c) (.fn f' c')|nil:TR m .nil .nil|builtin (a t c):m.6->TR m (.builtin .close a t c) (.builtin .close a t c)|mark {r} (a t c):m.7 r->TR m (.collected r) (.builtin .close a t c)|collected {r r'}:m.1 r=some r'->TR m (.collected r) (.collected r')
structure DR(m:Ren)(d d':Deferred):Prop where
 target:TR m d.1 d'.1
 args:fh m d.2 d'.2
structure wq(m:Ren)(e e':MapEntry):Prop where
 key:VR m e.1 e'.1
 val:VR m e.2 e'.2
 born:e'.3=e.3
inductive OR(m:Ren):Obj->Obj->Prop
 |cells {c c'} (e f f'):fh m c c'->OR m (.cells c e f) (.cells c' e f')|map {es es'} (clock):eA (wq m) es.1 es'.1->OR m (.map es clock) (.map es' clock)|number {a a'} (l):AR m a a'->OR m (.number a l) (.number a' l)|stringIter (s p):OR m (.stringIter s p) (.stringIter s p)|ik (a b c):OR m (.mapIter none a b c) (.mapIter none a b c)|mapIter {r r'} (a b c):m.1 r=some r'->OR m (.mapIter (some r) a b c) (.mapIter (some r') a b c)|loop {l l'}:Ag m l l'->OR m (.loop l) (.loop l')|fM:OR m (.deferred none) (.deferred none)|deferred {ds ds'}:eA (DR m) ds ds'->OR m (.deferred (some ds)) (.deferred (some ds'))
def TR.mono(h:g.Le I){a B:Target}(x:TR g a B):TR I a B:=by
 cases x with
 |fn J=>exact .fn<|J.mono h|nil=>exact .nil|builtin a t c hm=>exact .builtin a t c<|h.7▸hm|mark a t c O=>exact .mark a t c<|h.9▸O|collected hb=>exact .collected<|h.1 _ _ hb
def DR.mono(h:g.Le I){a B:Deferred}(x:DR g a B):DR I a B:=⟨x.1.mono h,x.2.mono h⟩
def wq.mono(h:g.Le I){a B:MapEntry}(x:wq g a B):wq I a B:=⟨x.1.mono h,x.2.mono h,x.3⟩
def Ag.mono(h:g.Le I){a B:Loop}(x:Ag g a B):Ag I a B:=
 ⟨x.1,x.2,λc J=>h.5▸x.3 c J,x.4,x.5.mono h,x.6,x.7,x.8,h.5▸x.9,h.5▸x.10,h.1 _ _ x.11⟩
def OR.mono(h:g.Le I){a B:Obj}(x:OR g a B):OR I a B:=by
 cases x with
 |cells e f f' J=>exact .cells e f f'<|J.mono h|map clock O=>exact .map clock<|eA.mono (λ_ _ y=>y.mono h) O|number l U=>exact .number l<|U.mono h|stringIter s p=>exact .stringIter s p|ik a b c=>exact .ik a b c|mapIter a b c hb=>exact .mapIter a b c<|h.1 _ _ hb|loop V=>exact .loop<|V.mono h|fM=>exact .fM|deferred W=>exact .deferred<|eA.mono (λ_ _ y=>y.mono h) W
def eW(P:P?){α}:Sem α->Prop
 |.pure _=>False|.load _ _ _=>False|.store _ _ (.agg _) _=>True|.store _ _ (.tuple _) _=>True|.store _ _ _ _=>False|.new _ k=>∀r,eW P<|k r|.shape _ k=>∀r,eW P<|k r|.freeze _ _ k=>eW P k|.frozen _ k=>∀r,eW P<|k r|.getObj _ k=>∀r,eW P<|k r|.setObj _ _ k=>eW P k|.choose _ k=>∀r,eW P<|k r|.sys _ k=>∀r,eW P<|k r|.program k=>eW P<|k P|.mark _ k=>eW P k|.halt (.unsupported<|.initOrder _)=>False|.halt (.unsupported _)=>True|.halt (.stuck _)=>True|.halt (.throw _)=>True|.halt _=>False
def ig{α}:Sem α->Prop
 |.pure _=>True|.load _ _ k=>∀v,ig<|k v|.store _ _ _ k=>ig k|.new _ k=>∀r,ig<|k r|.shape _ k=>∀r,ig<|k r|.freeze _ _ k=>ig k|.frozen _ k=>∀r,ig<|k r|.getObj _ k=>∀r,ig<|k r|.setObj _ _ k=>ig k|.choose _ _=>False|.sys _ k=>∀r,ig<|k r|.program k=>∀P,ig<|k P|.mark _ k=>ig k|.halt _=>True
def SB:Mark->Prop
 |.noRoom|.extern _=>True|_=>False
inductive dD(P:P?){α β:Type}(RA:Ren->α->β->Prop):Ren->Sem α->Sem β->Prop
 |wj {m s s'}:eW P s->dD P RA m s s'|pure {m a b}:RA m a b->dD P RA m (.pure a) (.pure b)|load {m a a' k k'}:AR m a a'->(∀v v',VR m v v'->dD P RA m (k v) (k' v'))->dD P RA m (.load .plain a k) (.load .plain a' k')|store {m a a' v v' k k'}:AR m a a'->VR m v v'->dD P RA m k k'->dD P RA m (.store .plain a v k) (.store .plain a' v' k')|new {m o o' k k'}:OR m o o'->(∀e c f,o=.cells e c f->∃e',o'=.cells e' c f)->(∀m' r r',m.Le m'->m'.1 r=some r'->¬m'.3 r->dD P RA m' (k r) (k' r'))->dD P RA m (.new o k) (.new o' k')|tj {m c b x s r t c' b' x' s' r' t' k k'}:m.6->(∀m' i i',m.Le m'->m'.2 i=some i'->dD P RA m' (k i) (k' i'))->dD P RA m (.new (.chan c b x s r t) k) (.new (.chan c' b' x' s' r' t') k')|shape {m r r' k k'}:m.1 r=some r'->(∀x,dD P RA m (k x) (k' x))->dD P RA m (.shape r k) (.shape r' k')|freeze {m a a' n k k'}:AR m a a'->¬m.3 a.1->dD P RA m k k'->dD P RA m (.freeze a n k) (.freeze a' n k')|frozen {m a a' k k'}:AR m a a'->¬m.3 a.1->(∀x,dD P RA m (k x) (k' x))->dD P RA m (.frozen a k) (.frozen a' k')|getObj {m r r' k k'}:m.1 r=some r'->(∀o o',OR m o o'->dD P RA m (k o) (k' o'))->dD P RA m (.getObj r k) (.getObj r' k')|setObj {m r r' o o' k k'}:m.1 r=some r'->OR m o o'->(∀c e f,o≠.cells c e f)->dD P RA m k k'->dD P RA m (.setObj r o k) (.setObj r' o' k')|choose {m q k k'}:(∀n,dD P RA m (k n) (k' n))->dD P RA m (.choose q k) (.choose q k')|env {m k k'}:(∀r,dD P RA m (k r) (k' r))->dD P RA m (.sys .env k) (.sys .env k')|program {m k k'}:dD P RA m (k P) (k' P)->dD P RA m (.program k) (.program k')|mark {m x k k'}:SB x->dD P RA m k k'->dD P RA m (.mark x k) (.mark x k')|gone {m r k s'}:m.7 r->dD P RA m (.getObj r k) s'|panic {m v v'}:VR m v v'->dD P RA m (.halt (.panic v)) (.halt (.panic v'))
def dD.dm{P α β RA}{s:Sem α}{s':Sem β}(h:eW P s:=by exact trivial):dD P RA g s s':=.wj h
def eW.bind{P:P?}{J O:Type}{s:Sem J}{f:J->Sem O}(h:eW P s):eW P<|s.bind f:=by
 induction s with
 |pure a=>exact h.elim|load m a k B=>exact h.elim|store m a v k B=>cases v<;>exact h
 |new o k B=>exact λv=>B v<|h v|shape r k B=>exact λv=>B v<|h v|freeze a n k B=>exact B h|frozen a k B=>exact λv=>B v<|h v|getObj r k B=>exact λv=>B v<|h v|setObj r o k B=>exact B h|choose q k B=>exact λv=>B v<|h v|sys c k B=>exact λv=>B v<|h v|program k B=>exact B P h|mark m k B=>exact B h|halt x=>cases x<;>first|exact h|(rename_i u;cases u<;>exact h)
def dD.bind{P:P?}{α β γ δ:Type}{RA:Ren->α->β->Prop}{RB:Ren->γ->δ->Prop}{s:Sem α}{s':Sem β}{f:α->Sem γ}{f':β->Sem δ}
  (h:dD P RA g s s') (J:∀O a b,g.Le O->RA O a b->dD P RB O (f a) (f' b)):dD P RB g (s.bind f)<|s'.bind f':=by
 induction h with
 |wj hd=>exact .wj hd.bind|pure Y=>exact J _ _ _ (.refl _) Y|load U _ B=>exact .load U λv v' hv=>B v v' hv J|store U hv _ B=>exact .store U hv<|B J|new ho hc _ B=>exact .new ho hc λO r r' hl hb hn=>B O r r' hl hb hn λV a b W Y=>J V a b (hl.trans W) Y|tj hm _ B=>exact .tj hm λO i i' hl hb=>B O i i' hl hb λV a b W Y=>J V a b (hl.trans W) Y|shape hb _ B=>exact .shape hb λx=>B x J|freeze U hn _ B=>exact .freeze U hn<|B J|frozen U hn _ B=>exact .frozen U hn λx=>B x J|getObj hb _ B=>exact .getObj hb λo o' ho=>B o o' ho J|setObj hb ho hc _ B=>exact .setObj hb ho hc<|B J|choose _ B=>exact .choose λn=>B n J|env _ B=>exact .env λn=>B n J|program _ B=>exact .program<|B J|mark hm _ B=>exact .mark hm<|B J|gone hd=>exact .gone hd|panic hv=>exact .panic hv
def dD.mono{P:P?}{α β:Type}{RA RB:Ren->α->β->Prop}{s:Sem α}{s':Sem β}(h:dD P RA g s s')(J:∀O a b,g.Le O->RA O a b->RB O a b):dD P RB g s s':=by
 induction h with
 |wj hd=>exact .wj hd|pure x=>exact .pure<|J _ _ _ (.refl _) x|load U _ B=>exact .load U λv v' Y=>B v v' Y J|store U Y _ B=>exact .store U Y<|B J|new ho hc _ B=>exact .new ho hc λO r r' hl hb hn=>B O r r' hl hb hn λV a b W x=>J V a b (hl.trans W) x|tj hm _ B=>exact .tj hm λO i i' hl hb=>B O i i' hl hb λV a b W x=>J V a b (hl.trans W) x|shape hb _ B=>exact .shape hb λx=>B x J|freeze U hn _ B=>exact .freeze U hn<|B J|frozen U hn _ B=>exact .frozen U hn λx=>B x J|getObj hb _ B=>exact .getObj hb λo o' ho=>B o o' ho J|setObj hb ho hc _ B=>exact .setObj hb ho hc<|B J|choose _ B=>exact .choose λn=>B n J|env _ B=>exact .env λn=>B n J|program _ B=>exact .program<|B J|mark hm _ B=>exact .mark hm<|B J|gone hd=>exact .gone hd|panic Y=>exact .panic Y
def inside(f:Nat×Nat)(o:Nat):Prop:=f.1<=o/\o<f.2
def qL:v?->Prop
 |.agg _|.tuple _=>True|_=>False
def Pin(m:Ren)(w w':w?):Prop:=∀r o v,m.9 r o=y? v->∃r',m.1 r=y? r'/\∀c e f B J f' x,w.1[r]?=y? (c? c e f)->w'.1[r']?=y? (c? B J f')->c[o]?=y? x->qL x->B[o]?=y? v
structure WR(m:Ren)(w w':w?):Prop where
 obj:∀r r',m.1 r=some r'->∃o o',w.1[r]?=some o/\w'.1[r']?=some o'/\OR m o o'
 fz:∀r r' c e f c' e' f',m.1 r=some r'->w.1[r]?=some (.cells c e f)->w'.1[r']?=some (.cells c' e' f')->¬m.3 r->f'=f
 all:∀r r' c e f c' e' f',m.1 r=some r'->w.1[r]?=some (.cells c e f)->w'.1[r']?=some (.cells c' e' f')->m.3 r->∀o,o<c.size->inside f o
 chl:∀r r',m.2 r=some r'->r<w.1.size/\r'<w'.1.size
 szl:m.G<=w.1.size
 szr:m.G<=w'.1.size
 os:w'.4=w.4
 Li:∀r o,m.10 r=some o->w.1[r]?=some o/\∃c b x s y t,o=.chan c b x s y t
 lk:∀r r',m.1 r=some r'->m.3 r->∃c e f,w.1[r]?=some (.cells c e f)
 dead:∀r,m.7 r->m.1 r=none/\∃c f,w.1[r]?=some (.cells c 0 f)
 Yd:Pin m w w'
def Al(w w':w?):Prop:=∀i q,w'.2 (w'.3+i) q=w.2 (w.3+i) q
def ri(m:Ren)(e:Event):Prop:=
 match e.1 with
 |.cell B=>e.3=f?/\∃a,AR m a B/\(e.2=t?->¬m.3 a.1)
 |.obj r'=>e.3=f?/\∃r,m.1 r=y? r'/\¬m.3 r|.mark k=>SB k|.output=>True|_=>False
structure gH(m jU:Ren)(w w₁:w?):Prop where
 old:∀r',r'<w.1.size->(∀r,m.1 r≠some r')->w₁.1[r']?=w.1[r']?
 size:w.1.size<=w₁.1.size
 fresh:∀r',w.1.size<=r'->r'<w₁.1.size->(∃r,jU.1 r=some r')\/(∃r,jU.2 r=some r')
 news:∀r r',jU.1 r=some r'->m.1 r=some r'\/w.1.size<=r'
 Zdx:∀r r',jU.2 r=some r'->m.2 r=some r'\/w.1.size<=r'
 tape:w₁.2=w.2
 output:w₁.5=w.5
 os:w₁.4=w.4
 yk:¬m.6->jU.2=m.2
 Li:jU.10=m.10
 still:∀r r',m.1 r=some r'->m.3 r->w₁.1[r']?=w.1[r']?
def gH.refl(m)(w):gH m m w w:=⟨λ_ _ _=>rfl,Zu _,λr' h B=>absurd B o!,λ_ _ h=>.inl h,λ_ _ h=>.inl h,q?,q?,q?,λ_=>rfl,q?,λ_ _ _ _=>rfl⟩
def ri.mono(h:g.Le I){e:Event}(x:ri g e):ri I e:=by unfold ri at x⊢;split<;>simp_all only;obtain⟨_,a,B,J⟩:=x;exact⟨t!,a,B.mono h,λO=>by rw[h.3 _ _ B.blk];exact J O⟩;obtain⟨_,a,B,U⟩:=x;exact⟨t!,a,h.1 _ _ B,λy=>U<|(h.3 _ _ B).1 y⟩
def gH.trans{J:w?}(V:g.Le I)(O:I.Le x6)(h:gH g I x1 x2)(B:gH I x6 x2 J):gH g x6 x1 J:=by
 refine⟨λr' U Y=>?_,ZE h.2 B.2,λr' U W=>?_,λr r' hb=>?_,λr r' hb=>?_,B.6.trans h.6,B.7.trans h.7,B.8.trans h.8,λhm=>(B.9<|by rwa[V.7]).trans<|h.9 hm,B.10.trans h.10,λr r' hb hx=>(B.11 r r' (V.1 _ _ hb)<|(V.3 _ _ hb).2 hx).trans<|h.11 r r' hb hx⟩;rw[B.1 r' (AT U h.2) λr hb=>?_,h.1 r' U Y];obtain x|x:=h.4 r r' hb
 exact Y r x;omega;by_cases hc:r'<x2.1.size;obtain⟨r,x⟩|⟨r,x⟩:=h.3 r' U hc
 exact .inl ⟨r,O.1 _ _ x⟩;exact .inr ⟨r,O.2 _ _ x⟩;exact B.3 r' o! W;obtain x|x:=B.4 r r' hb
 exact h.4 r r' x;exact .inr (ZE h.2 x);obtain x|x:=B.5 r r' hb
 exact h.5 r r' x;exact .inr (ZE h.2 x)
def WR.lt(h:WR g x1 x2){r r':Nat}(hb:g.1 r=y? r'):r<x1.1.size/\r'<x2.1.size:=by obtain⟨o,O,B,J,_⟩:=h.1 r r' hb;exact⟨(AI.1 B).1,(AI.1 J).1⟩
def WR.cell(h:WR g x1 x2){a:Addr}(O:AR g a J)(hv:C? x1 a=y? U):∃B,C? x2 J=y? B/\VR g U B:=by
 cases O with
 |@mk b V o s hb=>
 obtain⟨x,x',W,Y,ho⟩:=h.1 b V hb;unfold sb at hv⊢;simp only[W,Y]at hv⊢
 cases ho with
 |cells e f f' hc=>
  simp only at hv⊢;split at hv
  cases hv;rename_i hs;rw[if_neg hs];exact hc.get hv
 |_=>cases hv
def WR.Vz(h:WR g x1 x2){a:Addr}(B:AR g a J)(W:C? x1 a=x?)(P:P?)(b:Bool):∃y,x1.farLoad P a b=.error (.stuck y):=by
 cases B with
 |@mk b O o s hb=>
 obtain⟨x,Y,U,h2,V⟩:=h.1 b O hb;unfold World.farLoad sc;simp only[U];cases V<;>exact⟨_,q?⟩
def WR.O4(h:WR g x1 x2){a:Addr}(B:AR g a J)(W:C? x1 a=x?)(P:P?)(v:v?)(b:Bool):∃y,x1.farStore P a v b=.error (.stuck y):=by
 cases B with
 |@mk b O o s hb=>
 obtain⟨x,Y,U,h2,V⟩:=h.1 b O hb;unfold World.farStore sc;simp only[U];cases V<;>exact⟨_,q?⟩
end
