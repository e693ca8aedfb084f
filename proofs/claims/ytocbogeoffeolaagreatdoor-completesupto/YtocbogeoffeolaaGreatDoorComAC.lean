import Derived.Test.YtocbogeoffeolaaGreatDoorComAB
set_option linter.all false
set_option maxHeartbeats 8000000
set_option maxRecDepth 1000000
open List renaming length_append->bx,mem_cons->bz,mem_map->ca,length_cons->cc,mem_append->ch,filter_append->cj,mem_filter->ck,pairwise_cons->cl,filter_filter->cm,filter_eq_self->cn,getD_eq_getElem?_getD->cp,length_filter_le->cq,filter_congr->ct,getElem?_eq_getElem->cu,length_eq_zero_iff->cv,take_of_length_le->cw,mem_singleton->cx,mem_cons_self->cy,filter_eq_nil_iff->cz,length_map->c5,append_assoc->c6,map_cons->c8,nil_append->c9,map_append->cB,append_nil->cC,take_length->cD,getElem_mem->cE,sum_cons->cF,take_append_of_le_length->cG,mem_iff_getElem->cH,pairwise_iff_getElem->cI,getElem_append_right->cJ,flatMap_cons->cK,getElem_append_left->cL,pairwise_singleton->cM,length_take->cN,getElem_map->cO,length_nil->cP,cons_prefix_cons->cQ,mem_cons_of_mem->cR,length_pos_iff->cT,take_succ_eq_append_getElem->cU,nodup_append->cV,takeWhile_append_dropWhile->cW,length_drop->cX,filter_cons->cY,findIdx?_eq_none_iff->cZ,drop_eq_getElem_cons->da,takeWhile_sublist->db,dropWhile_sublist->dc,take_append_drop->dd,mem_append_right->de,mem_of_mem_drop->df,filter_sublist->dg,foldl_append->dh,perm_middle->di,not_mem_nil->dj,cons_append->dl,nil_prefix->dm,foldl_cons->dr,Nodup->dt
open Option renaming bind_eq_some_iff->dw,bind_some->d',bind_none->dB,isNone_some->dN,isNone_none->dS
open Nat renaming le_refl->ee,le_trans->ef,zero_le->eg,pow_le_pow_right->ei,mul_le_mul_right->ej,mul_left_comm->eq,mul_add->er,add_mul->et
open Bool renaming and_eq_true->ev,or_eq_false_iff->ex,eq_iff_iff->e5,and_comm->e6,and_eq_false_imp->e7,eq_false_iff->e8,or_eq_true->e'
open Go renaming maxLen->eC,Calls->fa,wpList->fd,cell_later->ff,wp_loop_rounds->fi,rounds_succ->fk,info_parts->fm
open Go.World renaming grownBy_alloc->fr,setCell->ft,drewN->fv
open Go.Op renaming bytesLess->fz
open Option.some renaming injEq->ga
open Go.RowKit renaming Hid->gc,run_makeMap->gd
open Go.RowKit.Below renaming refl->ge,heap_alloc->gg,heap_setCell->gi,setCell->gj
open Go.Proofs.Tryz renaming underlying9->gl,underlying85->gm,ntmps205->go,underlying136->gt,func205->gv
open List.Perm renaming refl->gx,append->g0
open List.Pairwise renaming sublist->g4,imp_of_mem->g5
open Prod.mk renaming injEq->g6
open Go.IntKind renaming wrap_i64->g7
open UInt8 renaming lt_iff_toNat_lt->g8,toNat_inj->g9
open Bool renaming false->f?,true->t?
open Go renaming Program->P?,Value->v?,World->w?
open Go.Ending renaming returned->e?
open Go.IntKind renaming i64->i?
open Go.Obj renaming cells->c?
open Go.Value renaming int->n?,pointer->p?,string->s?
open List renaming length->l?,toArray->a?
open Option renaming none->x?,some->y?
namespace Go.Proofs.YtocbogeoffeolaaGreatDoor
open Go.Proofs.Tryz
section
open Go.RowKit
def oJ:Nat->Wd->Option (List dD×Wd)
 |0,O=>y? ([],O)|n+1,O=>(gC O).bind λx=>(gC x.2).bind λy=>(fe y.2).bind λz=>(rdNum z.2).bind λu=>(oJ n u.2).bind λv=>y? (⟨x.1,f?,y.1,z.1,u.1⟩::v.1,v.2)
def po:Nat->Wd->Option (List dD×Wd)
 |0,O=>y? ([],O)|n+1,O=>(gC O).bind λx=>(po n x.2).bind λv=>y? (⟨x.1,t?,[],0,0⟩::v.1,v.2)
def pf(node:Wd->Option (List dD×Wd)):Nat->Wd->Option (List dD×Wd)
 |0,O=>y? ([],O)|n+1,O=>(node O).bind λx=>(pf node n x.2).bind λy=>y? (x.1++y.1,y.2)
def mV:Nat->Nat->Wd->Option (List dD×Wd)
 |0,_,_=>x?|f+1,O,U=>(gC U).bind λa=>(fe a.2).bind λb=>(rdNum b.2).bind λc=>(oJ c.1 c.2).bind λd=>(rdNum d.2).bind λe=>if 0<e.1/\30<O then x? else(pf (mV f (O+1)) e.1 e.2).bind λg=>y? (d.1++g.1,g.2)
def xw(O:Wd):Option (Nat×List dD×Wd):=(rdNum O).bind λa=>(po a.1 a.2).bind λb=>(mV 32 0 b.2).bind λc=>y? (a.1,b.1++c.1,c.2)
def ns(l:List dD):Nat:=(l.map λe=>l? e.text).sum+26
def mL(l:List dD):Wd:=u8 ((eK l).filter λe=>e.gone).length::(((eK l).filter λe=>e.gone).flatMap (λe=>dI e.name)++jO (ns l) ((eK l).filter λe=>!e.gone) [] [])
def nI(l:List dD)(i:Nat)(x:dD):Bool:=fU x.name&&eR x.text&&(x.gone || x.text != [])&&decide (x.dn<=1000000)&&(iY (l.take i) x.name).isNone
def DU(l:List dD)(k:Nat):Prop:=∀i(h:i<l? l),i<k->nI l i l[i]=t?
def DQ(O:Wd):Option (List dD):=
 if 4000<O.length then x?
 else match xw O with
  |none=>x?|some (n,l,r)=>if r≠[]\/l? l=0\/100<n\/30<(l? l:Int)-n then x?
   else if ∀i,(h:i<l? l)->nI l i l[i]=t? then(if mL l=O then y? l else x?)else x?
def L':∀(n)(path)(Y)(last W)(es)(r),oO n path Y last W=y? (es,r)->oJ n W=y? (es,r):=by
 intro n;induction n with
 |zero=>intro path Y last W es r h;exact h|succ n ih=>intro path Y last W es r h;obtain⟨x,U,h⟩:=dw.1 h;obtain⟨y,O,h⟩:=dw.1 h;split at h;obtain⟨z,hz,h9⟩:=dw.1 h;obtain⟨x',aa,U⟩:=dw.1 U;split at U;simp only[ga]at U;subst U;obtain⟨t,ht,O⟩:=dw.1 O;split at O;obtain⟨w,hw,O⟩:=dw.1 O;split at O;obtain⟨u,hu,O⟩:=dw.1 O;simp only[ga]at O;subst O;unfold oJ;rw[aa,d',ht,d',hw,d',hu,d',ih _ _ _ _ _ _ hz];exact h9;simp at O;simp at O;simp at U;simp at h
def Ls:∀(n)(W)(last U)(es)(r),pa n W last U=y? (es,r)->po n U=y? (es,r):=by
 intro n;induction n with
 |zero=>intro W last U es r h;exact h|succ n ih=>intro W last U es r h;obtain⟨x,O,h⟩:=dw.1 h;obtain⟨z,hz,h⟩:=dw.1 h;obtain⟨x',Y,O⟩:=dw.1 O;split at O;simp only[ga]at O;subst O;unfold po;rw[Y,d',ih _ _ _ _ _ hz];exact h;simp at O
def UW(f:Nat):Prop:=∀(path:Wd)(W:List Wd)(label U:Wd)(g:Nat)(es:List dD)(r:Wd),l? label<256->kG f path W U=y? (g,es,r)->∀f' O,O<=l? path->32<=f'+O->mV f' O (dI label++U)=y? (es,r)
def Mc{f}(hN:UW f)(f' O)(hf:31<=f'+O):∀(n)(path:Wd)(U)(last)(W)(g)(es)(r),O<=l? path->oI (kG f) n path U last W=y? (g,es,r)->pf (mV f' (O+1)) n W=y? (es,r):=by
 intro n;induction n with
 |zero=>intro path U last W g es r _ h;obtain⟨rfl,rfl,rfl⟩:=h;rfl
 |succ n ih=>intro path U last W g es r hd h;obtain⟨⟨t,rt⟩,hx,h⟩:=dw.1 h;split at h;rename_i hc;obtain⟨⟨gy,ey,ry⟩,hy,h⟩:=dw.1 h;obtain⟨⟨gz,ez,rz⟩,hz,h⟩:=dw.1 h;obtain⟨rfl,rfl,rfl⟩:=h;have Y:=fZ hx;have hl:=cT.2 hc.1;have h1:=hN _ U t rt gy ey ry Y.2 hy f' (O+1) (by rw[bx];omega) o!;unfold pf;rw[Y.1,h1,d',ih path _ _ _ _ _ _ hd hz];rfl;simp at h
def LO:∀f,UW f:=by
 intro f;induction f with
 |zero=>intro path Y label W g es r _ h;simp[kG]at h|succ f ih=>
  intro path Y label W g es r hl h f' O hd hf;unfold kG at h;split at h;obtain⟨⟨a,ra⟩,ha,h⟩:=dw.1 h;obtain⟨⟨b,rb⟩,hb,h⟩:=dw.1 h;obtain⟨⟨own,rc⟩,hc,h⟩:=dw.1 h;obtain⟨⟨d,rd⟩,U,h⟩:=dw.1 h;obtain⟨⟨gk,ek,re⟩,he,h⟩:=dw.1 h;split at h;obtain⟨rfl,rfl,rfl⟩:=h
  cases f' with
  |zero=>omega|succ f'=>have hk:=Mc ih f' O o! d path _ _ _ _ _ _ hd he;have ho:=L' _ _ _ _ _ _ _ hc;unfold mV;rw[mf label W hl,d',ha,d',hb,d',ho,d',U,d',if_neg o!,hk];rfl
  simp at h;simp at h
def S6(e:dD):Prop:=e.gone=f?/\0<=e.dn/\0<=e.dE/\e.dE<=255
def Jo:∀(n)(U)(es)(r),oJ n U=y? (es,r)->∀e∈es,S6 e:=by
 intro n;induction n with
 |zero=>intro U es r h;simp only[oJ,ga,g6]at h;obtain⟨rfl,rfl⟩:=h;simp
 |succ n W=>
  intro U es r h;obtain⟨x,hx,h⟩:=dw.1 h;obtain⟨y,hy,h⟩:=dw.1 h;obtain⟨z,hz,h⟩:=dw.1 h;obtain⟨u,Y,h⟩:=dw.1 h;obtain⟨v,hv,h⟩:=dw.1 h;obtain⟨rfl,rfl⟩:=h;intro e O;simp only[bz]at O;obtain rfl|O:=O
  have:=(fK Y).2;exact⟨q?,i!,i!,j!⟩;exact W _ _ _ hv e O
def Jk:∀(n)(U)(es)(r),po n U=y? (es,r)->l? es=n/\∀e∈es,e=⟨e.name,t?,[],0,0⟩:=by
 intro n;induction n with
 |zero=>intro U es r h;simp only[po,ga,g6]at h;obtain⟨rfl,rfl⟩:=h;simp
 |succ n W=>
  intro U es r h;obtain⟨x,hx,h⟩:=dw.1 h;obtain⟨v,Y,h⟩:=dw.1 h;obtain⟨rfl,rfl⟩:=h;obtain⟨h1,h2⟩:=W _ _ _ Y;refine⟨by simp[h1],λe O=>?_⟩;simp only[bz]at O;obtain rfl|O:=O
  rfl;exact h2 e O
def JP{node}(W:∀U es r,node U=y? (es,r)->∀e∈es,S6 e):∀(n)(U)(es)(r),pf node n U=y? (es,r)->∀e∈es,S6 e:=by
 intro n;induction n with
 |zero=>intro U es r h;simp only[pf,ga,g6]at h;obtain⟨rfl,rfl⟩:=h;simp
 |succ n Y=>
  intro U es r h;obtain⟨x,hx,h⟩:=dw.1 h;obtain⟨v,hv,h⟩:=dw.1 h;obtain⟨rfl,rfl⟩:=h;intro e O;rw[ch]at O;obtain O|O:=O
  exact W _ _ _ hx e O;exact Y _ _ _ hv e O
def J7:∀(f O)(W)(es)(r),mV f O W=y? (es,r)->∀e∈es,S6 e:=by
 intro f;induction f with
 |zero=>intro O W es r h;simp[mV]at h|succ f Y=>
  intro O W es r h;obtain⟨a,ha,h⟩:=dw.1 h;obtain⟨b,hb,h⟩:=dw.1 h;obtain⟨c,hc,h⟩:=dw.1 h;obtain⟨d,hd,h⟩:=dw.1 h;obtain⟨e,he,h⟩:=dw.1 h;split at h;simp at h;obtain⟨g,hg,h⟩:=dw.1 h;obtain⟨rfl,rfl⟩:=h;intro x U;rw[ch]at U;obtain U|U:=U
  exact Jo _ _ _ _ hd x U;exact JP (Y _) _ _ _ _ hg x U
def Ke:∀(f)(p:Wd)(G),(∀e∈G,(dC e).length<=f+l? p)->j8 (f+1) p G=j8 (f+2) p G:=by
 intro f;induction f with
 |zero=>
  intro p G h
  have hh:jw G p=[]:=by rw[List.eq_nil_iff_forall_not_mem];intro c U;obtain⟨e,W,hp⟩:=tz.1 U;have h1:=h e W;have h2:=hp.length_le;simp at h2;omega
  unfold j8;rw[hh];rfl
 |succ f ih=>intro p G h;rw[j8];congr 4;refine mo λc U=>?_;have Y:=qm U;have O:=sk (l:=G) (p:=p++[c]) (Y);rw[<-mU]at O;have:=O.length_le;rw[ih _ _ (λe W=>?_)];have h1:=h e (j5.1 W).1;simp at this;omega
def MJ(f k)(p:Wd)(G)(h:∀e∈G,(dC e).length<=f+l? p):j8 (f+1+k) p G=j8 (f+1) p G:=by
 induction k with
 |zero=>rfl|succ k O=>rw[<-O,(o!:f+1+(k+1)=(f+k)+2),(o!:f+1+k=(f+k)+1)];exact(Ke _ p G (λe U=>by have:=h e U;omega)).symm
def RS(l):lr l []=l:=by unfold lr;rw[cn];intro e _;exact(fh ..).2 dm
def DY{l}(h:∀e∈l,e.gone=f?->(dC e).length<=24):mL l=eh l:=by unfold mL eh;rw[BS,RS,show ns l=25+1+(l.map λe=>l? e.text).sum by unfold ns;omega,MJ 25 _ [] _ (λe O=>?_)];rfl;have hm:=ck.1 O;have:=h e (j9.1 hm.1) (u! hm.2);omega
def xg{l x}(h:iY l x=x?):x ∉ l.map dD.name:=by unfold iY at h;rw[cZ]at h;intro hm;obtain⟨e,O,U⟩:=ca.1 hm;have:=h e O;rw[U]at this;simp at this
def rj{l x}(h:x ∉ l.map dD.name):iY l x=x?:=by unfold iY;rw[cZ];intro e O;rw[beq_eq_false_iff_ne];intro U;exact h (ca.2 ⟨e,O,U⟩)
def B4{l}(h:∀i(h:i<l? l),l[i].name ∉ (l.take i).map dD.name):(l.map dD.name).Nodup:=by rw[dt,cI];intro i j U O W e;simp only[c5]at U O;rw[cO,cO]at e;refine h j O (ca.2 ⟨l[i],?_,e⟩);rw[cH];exact⟨i,j!,i!⟩
def Bz{l}(h:(l.map dD.name).Nodup)(i)(U:i<l? l):l[i].name ∉ (l.take i).map dD.name:=by intro hm;rw[dt,cI]at h;obtain⟨e,W,O⟩:=ca.1 hm;obtain⟨j,Y,rfl⟩:=cH.1 W;simp only[cN]at Y;rw[List.getElem_take]at O;have:=h j i j! (u! U) o!;rw[cO,cO]at this;exact this O
def RE{e}(h:NI e)(O:e.gone=f?):(dC e).length<=24:=by
 obtain h|h:=h
 exact(rE h).1;rw[h.1]at O;simp at O
def wE{l}(h:lm l):∀e∈l,e.gone=f?->(dC e).length<=24:=λe O U=>RE (h.each e O) U
def Ju(Y):DQ Y=gf Y:=by
 unfold DQ gf;by_cases h4:4000<l? Y;rw[if_pos h4,if_pos h4];rw[if_neg h4,if_neg h4]
 have ab:∀U es,nR Y=y? (U,es)->∃n,xw Y=y? (n,U++es,[])/\n=l? U:=by intro U es h;unfold nR at h;obtain⟨⟨n,ra⟩,ha,h⟩:=dw.1 h;obtain⟨⟨gs',rb⟩,hb,h⟩:=dw.1 h;obtain⟨⟨t,rc⟩,hc,h⟩:=dw.1 h;split at h;rename_i ht;obtain⟨⟨g,ag,rd⟩,hd,h⟩:=dw.1 h;split at h;rename_i ac;simp only[ga,g6]at h ac ht hb hc hd;obtain⟨rfl,rfl⟩:=h;subst ht;have h1:=Ls _ _ _ _ _ _ hb;have h2:=LO 26 [] _ [] rc g ag rd i! hd 32 0 i! o!;rw[<-(fZ hc).1]at h2;refine⟨n,?_,((se _ _ _ _ _ _ hb).1).symm⟩;unfold xw;rw[ha,d',h1,d',h2,d',ac.1];simp at h;simp at h
 cases hr:nR Y with
 |some x=>
  obtain⟨U,es⟩:=x;obtain⟨n,h1,h2⟩:=ab U es hr;obtain⟨O,ah,hg,W⟩:=AF hr;have hp:mL (U++es)=Y:=by rw[DY (wE O),<-ah]
  have ad:=cT.2 O.some;have f1:U.filter (λe=>e.gone)=U:=cn.2 hg;have f2:es.filter (λe=>e.gone)=[]:=cz.2 (λe h=>by rw[W e h];simp);have f3:U.filter (λe=>!e.gone)=[]:=cz.2 (λe h=>by rw[hg e h];simp);have f4:es.filter (λe=>!e.gone)=es:=cn.2 (λe h=>by rw[W e h];rfl);have ai:=O.gone;have aj:=O.there;rw[cj,f1,f2,cC]at ai;rw[cj,f3,f4,c9]at aj;rw[h1];simp only[Option.map_some];rw[if_neg,if_pos,if_pos hp];intro i hi;have hm:=cE hi;have hf:=rj (Bz O.nodup i hi);unfold nI;rw[hf];obtain hk|hk:=O.each _ hm
  simp[hk.2.1,hk.2.2.1,hk.2.2.2.1,hk.2.2.2.2.2.1];have aa:=hk.1;have e1:(U++es)[i].gone=t?:=by rw[aa]
  have e2:(U++es)[i].text=[]:=by rw[aa]
  have e3:(U++es)[i].dn=0:=by rw[aa]
  rw[e1,e2,e3,hk.2];rfl;rw[bx]at ad⊢;intro hh;obtain hh|hh|hh|hh:=hh
  exact hh rfl;omega;omega;omega
 |none=>
  simp only[Option.map_none]
  cases ht:xw Y with
  |none=>rfl|some y=>
   obtain⟨n,l,r⟩:=y;simp only;split;rfl;rename_i hc;split;rename_i hs;split;rename_i hp;exfalso;unfold xw at ht;obtain⟨a,ha,ht⟩:=dw.1 ht;obtain⟨b,hb,ht⟩:=dw.1 ht;obtain⟨c,ak,ht⟩:=dw.1 ht;simp only[ga,g6]at ht;obtain⟨h1,h2,h3⟩:=ht;obtain⟨g1,g2⟩:=Jk _ _ _ _ hb;have e1:=J7 _ _ _ _ _ ak
   have O:lm l:=by
    have hg:∀e∈b.1,e.gone=t?:=λe W=>by rw[g2 e W]
    have W:∀e∈c.1,e.gone=f?:=λe W=>(e1 e W).1;have f1:b.1.filter (λe=>e.gone)=b.1:=cn.2 hg;have f2:c.1.filter (λe=>e.gone)=[]:=cz.2 (λe h=>by rw[W e h];simp);have f3:b.1.filter (λe=>!e.gone)=[]:=cz.2 (λe h=>by rw[hg e h];simp);have f4:c.1.filter (λe=>!e.gone)=c.1:=cn.2 (λe h=>by rw[W e h];rfl);have al:=congrArg List.length h2;rw[bx]at al;refine⟨λe hm=>?_,B4 (λi hi=>?_),λe=>?_,?_,?_⟩;obtain⟨i,hi,rfl⟩:=cH.1 hm;have hq:=hs i hi;unfold nI at hq;simp only[ev,decide_eq_true_eq,e',bne_iff_ne]at hq;obtain⟨⟨⟨⟨q1,q2⟩,q3⟩,q4⟩,q5⟩:=hq;have ae:l[i]∈b.1++c.1:=by rw[h2];exact hm
    rw[ch]at ae;obtain hm|hm:=ae
    exact Or.inr ⟨g2 _ hm,q1⟩;have hx:=e1 _ hm;refine Or.inl ⟨hx.1,q1,q2,?_,hx.2.1,q4,hx.2.2.1,hx.2.2.2⟩;obtain q3|q3:=q3
    rw[hx.1]at q3;simp at q3;exact q3;have hq:=hs i hi;unfold nI at hq;simp only[ev]at hq;exact xg (by have:=hq.2;simpa using this);exact hc (Or.inr (Or.inl (by rw[e];rfl)));rw[<-h2,cj,f1,f2,cC];omega;rw[<-h2,cj,f3,f4,c9];omega
   obtain⟨U,es,af,_⟩:=uy O;rw[<-DY (wE O),hp,hr]at af;simp at af;rfl;rfl
def Ex(a b:dD):Prop:=fz (dC a) (dC b)=t?\/(dC a=dC b/\fz a.name b.name=t?)
def iq(l:List dD):Prop:=l.Pairwise Ex
def fH(d:Nat)(e:dD):UInt8:=(dC e).getD d 0
def jP(L:List dD)(d:Nat):Nat:=(L.takeWhile λe=>(dC e).length==d).length
def runs(d:Nat):List dD->List (List dD)
 |[]=>[]
 |e::l=>match runs d l with
  |[]=>[[e]]
  |[]::O=>[e]::O|(x::g)::O=>if fH d e=fH d x then(e::x::g)::O else [e]::(x::g)::O
def iX(C:List dD):Wd:=match C with
 |[]=>[]
 |e::C=>ui (dC e) (dC ((e::C).getLast i!))
def iH:Nat->Nat->List dD->Wd
 |0,_,_=>[]
 |f+1,d,L=>gh (fI L)++(u8 (jP L d)::((L.take (jP L d)).flatMap kC++(u8 (runs d (L.drop (jP L d))).length::(runs d (L.drop (jP L d))).flatMap λC=>dI ((iX C).drop d)++iH f (iX C).length C)))
def En{a b}(h:Ex a b):fz (dC b) (dC a)=f?:=by
 obtain h|h:=h
 exact ta h;rw[h.1];exact jH _
def Kq:∀(r a b c:Wd),r <+: a->r <+: c->fz b a=f?->fz c b=f?->r <+: b
 |[],_,_,_,_,_,_,_=>dm
 |x::r,[],_,_,h,_,_,_=>by simp at h
 |x::r,_::_,_,[],_,h,_,_=>by simp at h
 |x::r,y::a,[],z::c,_,_,O,_=>by simp[fz]at O
 |x::r,y::a,w::b,z::c,h1,h2,O,U=>by
  have g1:=cQ.1 h1
  have g2:=cQ.1 h2;simp only[fz,ex,e7,decide_eq_false_iff_not,beq_iff_eq]at O U;obtain⟨W,Y⟩:=g1;obtain⟨aa,ab⟩:=g2;subst W;subst aa
  have e:w=x:=by have a1:=O.1;have a2:=U.1;apply g9.1;simp only[g8]at a1 a2;omega
  subst e;exact cQ.2 ⟨q?,Kq r a b c Y ab (O.2 q?) (U.2 q?)⟩
def P9:∀(C),C≠[]->iq C->kK C=iX C:=by
 intro C W Y
 cases C with
 |nil=>exact absurd q? W|cons e C=>
  refine Ks i! ⟨λs h=>?_,λr U=>?_⟩;obtain⟨x,O,rfl⟩:=ca.1 h;have hl:=sY (dC e) (dC ((e::C).getLast i!));have U:=rk (dC e) (dC ((e::C).getLast i!))
  have ha:x=e\/Ex e x:=by
   simp only[bz]at O;obtain rfl|O:=O
   exact Or.inl rfl;exact Or.inr ((cl.1 Y).1 x O)
  have hb:x=(e::C).getLast i!\/Ex x ((e::C).getLast i!):=by obtain⟨i,hi,rfl⟩:=cH.1 O;rw[List.getLast_eq_getElem];by_cases h:i=(e::C).length-1;simp[h];right;exact cI.1 Y i _ hi _ o!
  have h1:fz (dC x) (dC e)=f?:=by
   obtain rfl|h:=ha
   exact jH _;exact En h
  have h2:fz (dC ((e::C).getLast i!)) (dC x)=f?:=by
   obtain h|h:=hb
   rw[<-h];exact jH _;exact En h
  exact Kq _ _ _ _ hl U h1 h2;exact tq _ _ _ (U _ (ca.2 ⟨e,i!,q?⟩)) (U _ (ca.2 ⟨_,List.getLast_mem _,q?⟩))
def Qx{p s:Wd}(h:p <+: s)(U:s≠p):fz p s=t?:=by
 obtain O|O|O:=jZ p s
 exact O;exact absurd O.symm U;exfalso;obtain⟨t,rfl⟩:=h;clear U;induction p with
 |nil=>cases t<;>simp[fz]at O
 |cons a p W=>
  simp only[dl,fz,e',decide_eq_true_eq,ev,beq_self_eq_true,true_and]at O;obtain O|O:=O
  simp at O;exact W O
def S9{p a b:Wd}(W:p <+: a)(hb:p <+: b)(O:l? p<l? a)(U:l? p<l? b)(h:fz b a=f?):(a.getD p.length 0).toNat<=(b.getD p.length 0).toNat:=by
 obtain⟨s,rfl⟩:=W;obtain⟨t,rfl⟩:=hb;induction p with
 |nil=>
  cases s with
  |nil=>simp at O|cons x s=>
   cases t with
   |nil=>simp at U|cons y t=>simp only[c9,fz,ex,decide_eq_false_iff_not,g8]at h;simp;omega
 |cons x p Y=>simp only[dl,fz,ex,e7,decide_eq_false_iff_not,beq_self_eq_true,true_implies]at h;have:=Y (u! O) (u! U) h.2;simpa using this
def Az{p:Wd}{L}(hL:iq L)(W:∀e∈L,p <+: dC e):(∀e∈L.take (jP L p.length),dC e=p)/\∀e∈L.drop (jP L p.length),dC e≠p:=by
 have e1:L.take (jP L p.length)=L.takeWhile λe=>(dC e).length==l? p:=by
  unfold jP;conv=>lhs;arg 2;rw[<-cW (p:=λe=>(dC e).length==l? p) (l:=L)]
  rw[List.take_left]
 have e2:L.drop (jP L p.length)=L.dropWhile λe=>(dC e).length==l? p:=by
  unfold jP;conv=>lhs;arg 2;rw[<-cW (p:=λe=>(dC e).length==l? p) (l:=L)]
  rw[List.drop_left]
 rw[e1,e2];refine⟨λe O=>?_,λe O Y=>?_⟩;have h1:=OA L e O;have h2:=W e ((db _).mem O);exact(h2.eq_of_length (by simpa using(beq_iff_eq.1 h1).symm)).symm;have hs:iq (L.dropWhile λe=>(dC e).length==l? p):=g4 (dc _) hL;have hm:∀e∈L.dropWhile (λe=>(dC e).length==l? p),p <+: dC e:=λe O=>W e ((dc _).mem O);have hd:=KZ (p:=λe=>(dC e).length==l? p) L;generalize L.dropWhile _=B at *
 cases B with
 |nil=>simp at O|cons b B=>
  have hb:=hd b B rfl;have U:dC b≠p:=λh=>by rw[h]at hb;simp at hb
  simp only[bz]at O;obtain rfl|O:=O
  exact U Y;have:=En ((cl.1 hs).1 e O);rw[Y,Qx (hm b i!) U]at this;cases this
def Bg(p:Wd):∀(L:List dD),iq L->(∀e∈L,p <+: dC e/\dC e≠p)->∃W:List (UInt8×List dD),runs p.length L=W.map (·.2)/\Ld W/\Bf p W/\lW W=L/\(∀x∈W,iq x.2)/\∀x∈W,∃e g,x.2=e::g/\x.1=fH p.length e:=by
 intro L;induction L with
 |nil=>intro _ _;exact⟨[],q?,List.Pairwise.nil,λ_ h=>by simp at h,q?,λ_ h=>by simp at h,λ_ h=>by simp at h⟩|cons e L ih=>
  intro hL hp;have aa:=cl.1 hL;obtain⟨W,h1,h2,h3,h4,h5,h6⟩:=ih aa.2 (λx U=>hp x (by simp[U]));have ab:p++[fH p.length e] <+: dC e:=(ig _ _ _).2 ⟨(hp e i!).1,nJ (hp e i!).1 (hp e i!).2,q?⟩
  cases W with
  |nil=>refine⟨[(fH p.length e,[e])],?_,cM _ _,?_,?_,?_,?_⟩;rw[runs,h1];rfl;intro x U;simp at U;subst U;exact⟨i!,λy Y=>by simp at Y;subst Y;exact ab⟩;simp only[lW,List.flatMap_nil]at h4;rw[<-h4];rfl;intro x U;simp at U;subst U;exact cM _ _;intro x U;simp at U;subst U;exact⟨e,[],q?,q?⟩
  |cons y W=>
   obtain⟨x,g,Y,ac⟩:=h6 y i!;obtain⟨yc,yg⟩:=y;simp only at Y ac;subst Y;subst ac;have ad:runs p.length L=(x::g)::W.map (·.2):=h1;by_cases hb:fH p.length e=fH p.length x;refine⟨(fH p.length e,e::x::g)::W,?_,?_,?_,?_,?_,?_⟩;rw[runs,ad];simp[hb];have:=cl.1 h2;exact cl.2 ⟨λz O=>by have:=this.1 z O;rw[hb];exact this,this.2⟩;intro z O;simp only[bz]at O;obtain rfl|O:=O
   refine⟨i!,λw hw=>?_⟩;obtain rfl|hw:=bz.1 hw
   exact ab;show p++[fH p.length e] <+: dC w;rw[hb];exact(h3 (fH _ x,x::g) i!).2 w hw;exact h3 z (by simp[O]);rw[<-h4];rfl;intro z O;simp only[bz]at O;obtain rfl|O:=O
   refine cl.2 ⟨λw hw=>aa.1 w ?_,h5 (fH p.length x,x::g) i!⟩;rw[<-h4];exact List.mem_append_left _ hw;exact h5 z (by simp[O]);intro z O;simp only[bz]at O;obtain rfl|O:=O
   exact⟨e,x::g,q?,q?⟩;exact h6 z (by simp[O]);refine⟨(fH p.length e,[e])::(fH p.length x,x::g)::W,?_,?_,?_,?_,?_,?_⟩;rw[runs,ad];simp[hb];have U:x∈L:=by rw[<-h4];simp[lW]
   have ae:(fH p.length e).toNat<(fH p.length x).toNat:=by have a1:=hp e i!;have a2:=hp x (by simp[U]);have:=S9 a1.1 a2.1 (nJ a1.1 a1.2) (nJ a2.1 a2.2) (En (aa.1 x U));have af:(fH _ e).toNat≠(fH _ x).toNat:=λh=>hb (g9.1 h);unfold fH at *;omega
   refine cl.2 ⟨λz O=>?_,h2⟩;simp only[bz]at O;obtain rfl|O:=O
   exact ae;have:=(cl.1 h2).1 z O;exact Nat.lt_trans ae this;intro z O;rw[bz]at O;obtain rfl|O:=O
   exact⟨i!,λy Y=>by simp at Y;subst Y;exact ab⟩;exact h3 z O;rw[<-h4];rfl;intro z O;rw[bz]at O;obtain rfl|O:=O
   exact cM ..;exact h5 z O;intro z O;rw[bz]at O;obtain rfl|O:=O
   exact⟨e,[],q?,q?⟩;exact h6 z O
def F5{p l}(h:iq l)(O:∀e∈l,dC e=p):jU l:=by
 refine g5 (fun {a b} ha hb h=>?_) h;obtain h|h:=h
 rw[O a ha,O b hb,jH]at h;cases h;exact h.2
def Sq:∀(f)(p:Wd)(L),iq L->(∀e∈L,p <+: dC e)->iH f p.length L=j8 f p (eK L):=by
 intro f;induction f with
 |zero=>intro p L _ _;rfl|succ f ih=>
  intro p L hL hp;obtain⟨h1,h2⟩:=Az hL hp;have aa:iq (L.drop (jP L p.length)):=g4 (List.drop_sublist ..) hL;have ab:iq (L.take (jP L p.length)):=g4 (List.take_sublist ..) hL;obtain⟨hs,r1,r2,r3,r4,r5,r6⟩:=Bg p _ aa (λe he=>⟨hp e (df he),h2 e he⟩);have O:L.take (jP L p.length)++lW hs=L:=by rw[r4,dd]
  have hb:=zY f p _ hs (F5 ab h1) h1 r2 r3;rw[O]at hb
  have U:(L.take (jP L p.length)).length=jP L p.length:=by have:jP L p.length<=l? L:=(db _).length_le;simp;omega
  rw[hb,iH,r1,c5,U,List.flatMap_map];congr 4;refine mo λx hx=>?_;have W:=(r3 x hx).1;have Y:=P9 _ W (r5 x hx);unfold Part;rw[Y,ih _ _ (r5 x hx) (λe he=>?_)];rw[<-Y];exact(nZ W).1 _ (ca.2 ⟨e,he,q?⟩)
variable {e:dD} {a b l:List dD} {x:Wd}
def names(l:List dD):List Wd:=l.map dD.name
def j7:ic l e=t?↔e.name ∉ names l:=by
 unfold ic names;constructor;intro h;refine xg ?_
 cases O:iY l _ with
 |none=>rfl|some i=>rw[O]at h;simp at h
 intro h;rw[rj h];rfl
def n9:e∈dM a b↔(e∈a/\e.name ∉ names b)\/e∈b:=by unfold dM;rw[ch,ck,j7]
def qP:x∈names l↔∃e∈l,e.name=x:=by unfold names;rw[ca]
def Ja:x∈names (dM a b)↔x∈names a\/x∈names b:=by
 rw[qP,qP,qP];constructor;rintro⟨e,O,rfl⟩;obtain h|h:=n9.1 O
 exact Or.inl ⟨e,h.1,q?⟩;exact Or.inr ⟨e,h,q?⟩;rintro(⟨e,O,rfl⟩|⟨e,O,rfl⟩);by_cases h:e.name∈names b;obtain⟨f,U,W⟩:=qP.1 h;exact⟨f,n9.2 (Or.inr U),W⟩;exact⟨e,n9.2 (Or.inl ⟨O,h⟩),q?⟩;exact⟨e,n9.2 (Or.inr O),q?⟩
def uM(O:(a.map dD.name).Nodup)(hb:(b.map dD.name).Nodup):((dM a b).map dD.name).Nodup:=by unfold dM;rw[cB,cV];refine⟨O.sublist (dg.map _),hb,?_⟩;intro x U y W e;subst e;obtain⟨f,Y,rfl⟩:=ca.1 U;exact(j7.1 (ck.1 Y).2) W
def ri(O:(a.map dD.name).Nodup):((du a).map dD.name).Nodup:=O.sublist (dg.map _)
def E9{c}(h:∀x,x∈names b↔x∈names c)(e):ic b e=ic c e:=by rw[e5,j7,j7,h]
def Mj{a' b'}(U:a.Perm a')(O:b.Perm b'):(dM a b).Perm (dM a' b'):=by refine g0 ?_ O;have:a.filter _=a.filter _:=ct λe _=>E9 (λx=>(O.map _).mem_iff) e;rw[this];exact U.filter _
def ye(h:a.Perm b):(du a).Perm (du b):=h.filter _
def rK(a b c):dM (dM a b) c=dM a (dM b c):=by
 have h:∀e,ic (dM b c) e=(ic b e&&ic c e):=by intro e;rw[e5,ev,j7,j7,j7,Ja];exact not_or
 unfold dM at h⊢;rw[cj,cm,c6];congr 1;refine ct λe _=>?_;rw[h e,e6]
def sI(a):dM [] a=a:=by simp[dM]
def oD(a):dM a []=a:=by unfold dM;rw[cC,cn];intro e _;exact j7.2 (by simp[names])
def oV(a b):du (dM (du a) b)=du (dM a b):=by unfold du dM;rw[cj,cj,cm,cm];congr 1;rw[cm];refine ct λe _=>?_;cases e.gone<;>simp
def nf(a):du (du a)=du a:=by unfold du;rw[cm];refine ct λe _=>?_;cases e.gone<;>simp
def EK(L:List (List dD)):∀a,du (L.foldl dM (du a))=du (L.foldl dM a):=by
 induction L with
 |nil=>intro a;exact nf a|cons b L O=>intro a;rw[dr,dr,<-O _,oV,O]
def fY(L:List (List dD)):List dD:=L.foldl dM []
def mA(L M):fY (L++M)=M.foldl dM (fY L):=by unfold fY;rw[dh]
def fo(L)(b):fY (L++[b])=dM (fY L) b:=by rw[mA];rfl
def Aq(ss)(k):jo ss k=fY (ss.take k):=rfl
def iy(ss)(buf):dO ss buf=du (fY (ss++[buf])):=by unfold dO;rw[fo,Aq,cD]
def mw(a b):(du b).length<=(du (dM a b)).length:=by unfold dM du;rw[cj,bx];omega
def qo(a):(du a).length<=l? a:=cq ..
def kV(l):l? l-(du l).length=(l.filter λe=>e.gone).length:=by
 have h:∀l,(l.filter λe=>e.gone).length+(du l).length=l? l:=by
  intro l;unfold du;induction l with
  |nil=>rfl|cons e l O=>cases h:e.gone<;>simp[h]<;>omega
 have:=h l;omega
structure Inv(buf:List dD)(ss:List (List dD)):Prop where
 each:∀e∈buf,NI e
 nodup:(buf.map dD.name).Nodup
 gone:(buf.filter λe=>e.gone).length<=100
 kM:∀s∈ss,lm s
 yW:l? ss<=6
 there:∀k,k<=l? ss->(du (fY (ss.take k))).length<=30
 all:(dO ss buf).length<=30
def K7:Inv [] []:=⟨nofun,List.Pairwise.nil,i!,nofun,i!,λk _=>by simp[fY,du],by simp[dO,jo,dM,du]⟩
def uh(buf)(e):((dM buf [e]).filter λe=>e.gone).length<=(buf.filter λe=>e.gone).length+(if e.gone then 1 else 0):=by
 unfold dM
 have O:(buf.filter λx=>x.gone&&ic [e] x).length<=(buf.filter λx=>x.gone).length:=by rw[show(buf.filter _)=(buf.filter λx=>x.gone).filter _ by rw[cm];exact ct λx _=>e6 ..];exact cq ..
 cases h:e.gone<;>simp[h]<;>omega
def Inv.Ts{buf ss}(h:Inv buf ss)(U:NI e)(W:((dM buf [e]).filter λe=>e.gone).length<=100)(Y:(dO ss (dM buf [e])).length<=30):Inv (dM buf [e]) ss where
 each:=λx hx=>by
  obtain O|O:=n9.1 hx
  exact h.each x O.1;simp only[cx]at O;subst O;exact U
 nodup:=uM h.nodup i!;gone:=W;kM:=h.kM;yW:=h.yW;there:=h.there;all:=Y
def xY(ss)(buf)(e):dO ss (dM buf [e])=du (dM (fY (ss++[buf])) [e]):=by rw[iy,fo,fo,rK]
def wj(T)(e):du (dM T [e])=(du T).filter (ic [e])++du [e]:=by unfold du dM;rw[cj,cm,cm];congr 1;exact ct λx _=>e6 ..
def K3{buf ss}(h:Inv buf ss)(name text)(dn dE):Inv (iG buf ss name text dn dE).2 ss:=by
 unfold iG;split;rename_i hn;split;rename_i ht;split;exact h;split;exact h;rename_i hm;refine h.Ts (Or.inl ⟨q?,hn,ht.1,ht.2,j!,j!,j!,j!⟩) ?_ ?_;have:=uh buf ⟨name,f?,text,dn,dE⟩;have:=h.gone;simp only[Bool.false_eq_true,if_false]at *;omega;rw[xY,wj,bx];have e1:(du [(⟨name,f?,text,dn,dE⟩)]).length=1:=rfl;have ha:=h.all;rw[iy]at ha hm;generalize du _=T at *;by_cases O:30<=l? T;have U:=λU=>hm ⟨O,U⟩
 have W:name∈names T:=by by_cases hc:name∈names T;exact hc;exact absurd (rj hc) U
 obtain⟨x,hx,Y⟩:=qP.1 W
 have:(T.filter (ic [⟨name,f?,text,dn,dE⟩])).length<l? T:=by rw[List.length_filter_lt_length_iff_exists];refine⟨x,hx,?_⟩;rw[j7];simp[names,Y]
 omega;have:=cq (ic [⟨name,f?,text,dn,dE⟩]) T;omega;exact h;exact h
def Kl{buf ss}(h:Inv buf ss)(name):Inv (jG buf ss name).2 ss:=by unfold jG;split;rename_i O;split;exact h;split;exact h;rename_i U;rw[kV]at U;refine h.Ts (Or.inr ⟨q?,O⟩) ?_ ?_;have:=uh buf ⟨name,t?,[],0,0⟩;simp only[if_true]at this;omega;rw[xY,wj,bx];have Y:(du [(⟨name,t?,[],0,0⟩)]).length=0:=rfl;have W:=h.all;rw[iy]at W;have:=cq (ic [⟨name,t?,[],0,0⟩]) (du (fY (ss++[buf])));omega;exact h
def uw(l):((du l).filter λe=>e.gone)=[]:=by rw[cz];intro e O;have:=(ck.1 O).2;simpa using this
def AM(U:∀e∈l,NI e)(W:(l.map dD.name).Nodup)(O:0<l? l)(Y:(l.filter λe=>e.gone).length<=100)(h5:(du l).length<=30):lm l:=
 ⟨U,W,λe=>by rw[e]at O;simp at O,Y,h5⟩
def CK{buf ss}(h:Inv buf ss):Inv (eQ buf ss).2.1 (eQ buf ss).2.2:=by
 unfold eQ;split;exact h;split;exact h
 have U:∀O,(∀s∈O,lm s)->l? O<=6->(∀k,k<=l? O->(du _).length<=30)->Inv [] O:=λO g1 g2 g3=>
  ⟨nofun,List.Pairwise.nil,i!,g1,g2,g3,by
    rw[iy,fo,oD];have:=g3 _ (ee _);rw[cD]at this
    exact this⟩
 have fl:=h.all;rw[iy,fo]at fl;have W:=ef (mw ..) fl;split;rename_i hpos;refine U _ ?_ j! ?_;intro s hs;obtain h1|h1:=ch.1 hs
 exact h.kM s h1;simp only[cx]at h1;subst h1;unfold fQ at hpos⊢;split
 rename_i Y;rw[if_pos Y]at hpos;refine AM (λe he=>h.each e (ck.1 he).1) (ri h.nodup) hpos ?_ ?_;rw[uw];simp;rw[nf];exact W;rename_i Y;rw[if_neg Y]at hpos;exact AM h.each h.nodup hpos h.gone W;intro k hk;by_cases aa:k<=l? ss;rw[cG aa];exact h.there k aa;rw[cw j!,fo];unfold fQ;split;rename_i Y;have:=cv.1 Y;subst this;show(du (dM [] _)).length<=30;rw[sI,nf];exact W;exact fl;exact U ss h.kM h.yW h.there
def xO(L M)(a b):fY (L++[dM a b]++M)=fY (L++[a,b]++M):=by rw[mA _ M,mA _ M,fo];rw[show L++[a,b]=(L++[a])++[b] by simp,fo,fo,rK]
def JU(n:Nat)(a b:List dD):List dD:=if n=0 then du (dM a b)else dM a b
def rQ(n:Nat)(a b:List dD):List (List dD):=if 0<(JU n a b).length then [JU n a b]else []
def QN{n s}(h:s∈rQ n a b):s=JU n a b/\0<l? s:=by unfold rQ at h;split at h;rename_i O;simp only[cx]at h;subst h;exact⟨q?,O⟩;simp at h
def vd(L X)(a b):du (fY (L++(rQ L.length a b++X)))=du (fY (L++([a,b]++X))):=by
 unfold rQ JU;by_cases O:l? L=0;have:=cv.1 O;subst this;simp only[cP,if_true,c9]
 have U:fY ([a,b]++X)=X.foldl dM (dM a b):=by show X.foldl dM _=_;rw[sI]
 rw[U,<-EK X _];split;show du (X.foldl dM _)=_;rw[sI];have:du (dM a b)=[]:=cv.1 o!;rw[this];rfl;rw[if_neg O];split;rw[<-c6,<-c6,xO];have W:dM a b=[]:=cv.1 o!;have e:=xO L X a b;rw[W]at e
 have Y:fY (L++[[]]++X)=fY (L++([]++X)):=by rw[mA,fo,oD,c9,mA]
 rw[<-Y,e,c6]
def BU(ss:List (List dD))(n)(h:n+1<l? ss):ss=ss.take n++([ss.getD n [],ss.getD (n+1) []]++ss.drop (n+2)):=by
 have O:ss.getD n []=ss[n]:=by rw[cp,cu _];rfl
 have U:ss.getD (n+1) []=ss[n+1]:=by rw[cp,cu _];rfl
 rw[O,U]
 have W:ss.drop n=ss[n]::ss[n+1]::ss.drop (n+2):=by rw[da _,da _]
 have:=dd n ss;rw[W]at this;exact this.symm
def Jv(ss)(n):(if 0<(ja ss n).length then [ja ss n]else [])=rQ n (ss.getD n []) (ss.getD (n+1) []):=rfl
def Fh(ss)(n)(h:n+1<l? ss)(Y):du (fY ((ss.take n++(rQ n (ss.getD n []) (ss.getD (n+1) [])++ss.drop (n+2)))++Y))=du (fY (ss++Y)):=by
 have O:(ss.take n).length=n:=j!;have e:=vd (ss.take n) (ss.drop (n+2)++Y) (ss.getD n []) (ss.getD (n+1) []);rw[O]at e;conv=>rhs;rw[BU ss n h]
 simp only[c6]at e⊢;exact e
def SO(n)(a b):(rQ n a b).length<=1:=by unfold rQ;split<;>simp
def qv{O:Type}(A B:List O)(k)(h:l? A<=k):(A++B).take k=A++B.take (k-l? A):=by rw[List.take_append,cw h]
def C4{buf ss}(h:Inv buf ss)(n):Inv buf (fD ss n).2:=by
 unfold fD;split;exact h;split;exact h;rename_i hn hg;obtain⟨m,rfl⟩:∃m:Nat,n=(m:Int):=⟨n.toNat,o!⟩;have hm:m+1<l? ss:=o!;rw[Int.toNat_natCast]at *;rw[Jv]at *;show Inv buf (ss.take m++(rQ m (ss.getD m []) (ss.getD (m+1) [])++ss.drop (m+2)));have Y:=BU ss m hm;have ae:=Fh ss m hm [buf]
 have O:ss.getD m []∈ss/\ss.getD (m+1) []∈ss:=by rw[cp,cp,cu o!,cu hm];exact⟨cE _,cE _⟩
 have hA:lm (ss.getD m []):=h.kM _ O.1;have hB:lm (ss.getD (m+1) []):=h.kM _ O.2;change ¬100<(JU m (ss.getD m []) (ss.getD (m+1) [])).length-(du (JU m (ss.getD m []) (ss.getD (m+1) []))).length at hg;clear O;generalize ss.getD m []=A at *;generalize ss.getD (m+1) []=B at *;have ag:=SO m A B
 have aa:(du (dM A B)).length<=30:=by
  have U:=h.there (m+2) o!
  have e:ss.take (m+2)=ss.take m++[A,B]:=by
   conv=>lhs;rw[Y]
   rw[qv _ _ _ j!];have:(ss.take m).length=m:=j!;rw[this,(o!:m+2-m=2)];simp
  rw[e,show ss.take m++[A,B]=(ss.take m++[A])++[B] by simp,fo,fo,rK]at U;exact ef (mw _ _) U
 refine⟨h.each,h.nodup,h.gone,?_,?_,?_,?_⟩;intro s hs;obtain h1|h1:=ch.1 hs
 exact h.kM s (List.mem_of_mem_take h1);obtain h1|h1:=ch.1 h1
 obtain⟨h1,ab⟩:=QN h1;rw[<-h1,kV]at hg;unfold JU at h1
 have ac:∀e∈s,e∈dM (A) (B):=by intro e W;rw[h1]at W;split at W;exact(ck.1 W).1;exact W
 have ad:=uM hA.nodup hB.nodup;refine AM (λe W=>?_) ?_ ab o! ?_;obtain U|U:=n9.1 (ac e W)
 exact hA.each e U.1;exact hB.each e U;rw[h1];split;exact ri ad;exact ad;rw[h1];split;rw[nf];exact aa;exact aa;exact h.kM s (df h1);have:=h.yW;simp only[bx,cN,cX];omega;intro k hk;by_cases af:k<=m;rw[cG j!,List.take_take,Nat.min_eq_left af];exact h.there k o!;have e0:(ss.take m).length=m:=j!;rw[qv _ _ _ o!,e0,qv _ _ _ o!];have e:=vd (ss.take m) ((ss.drop (m+2)).take (k-m-(rQ m A B).length)) (A) (B);rw[e0]at e;rw[e]
 have e4:ss.take m++([A,B]++(ss.drop (m+2)).take (k-m-(rQ m A B).length))=ss.take (m+2+(k-m-(rQ m A B).length)):=by
  conv=>rhs;rw[Y]
  rw[qv _ _ _ o!,qv _ _ _ j!];simp;omega
 rw[e4];refine h.there _ ?_;simp only[bx,cN,cX]at hk;omega;rw[iy,ae,<-iy];exact h.all
def gr(buf:List dD)(ss:List (List dD))(O:Wd):Nat×List (List dD):=
 match gf O with
 |none=>(7,ss)
 |some l=>if 0<buf.length then(3,ss)else if 6<l? ss+1\/30<(dO (ss++[l]) []).length then(4,ss)else(0,ss++[l])
def sU{bs}(h:gf bs=y? l):lm l/\eh l=bs:=by rw[wM]at h;split at h;simp at h;obtain⟨x,O,rfl⟩:=Option.map_eq_some_iff.1 h;have:=AF O;exact⟨this.1,this.2.1.symm⟩
def G8{buf ss}(h:Inv buf ss)(bs):Inv buf (gr buf ss bs).2:=by
 unfold gr;split;exact h;rename_i l Y;split;exact h;split;exact h;have W:buf=[]:=cv.1 o!;subst W
 have ht:=by have:(dO (ss++[l]) []).length<=30:=o!;rw[iy,fo,oD]at this;exact this
 refine⟨h.each,h.nodup,h.gone,?_,j!,?_,by show(dO (ss++[l]) []).length<=30;omega⟩;intro s hs;obtain U|U:=ch.1 hs
 exact h.kM s U;simp only[cx]at U;subst U;exact(sU Y).1;intro k hk;by_cases O:k<=l? ss;rw[cG O];exact h.there k O;rw[cw j!];exact ht
open Go.Maps
variable {fs rst:List dD} {r:Nat}
def wm(es)(e)(v)(O:v=sw e):sD (es.map kB) e.name v=(dM es [e]).map kB:=by
 subst O;unfold sD dM;rw[cB,List.filter_map]
 have:(es.filter ((λp=>p.1 != e.name) ∘ kB))=es.filter (ic [e]):=by refine ct λx _=>?_;rw[e5,j7];simp[names,kB]
 rw[this];rfl
def eT.perm{w B es}(h:eT w B es)(O:es.Perm fs):eT w B fs:=dU.perm h (O.map kB)
def eT.nodup{w B es}(h:eT w B es):(es.map dD.name).Nodup:=by have:=dU.nodup h;rw[List.map_map]at this;exact this
def SB(B)(es:List dD)(e:dD)(w)(hs:eT w B es)(hg:e.gone=f?)(hl:l? es<1099511627776)(aa:l? e.name<=eC) :
  fa prog 72 #[.map (y? B),AV e] w λen w'=>en=e? (.tuple #[])/\eT w' B (dM es [e])/\dp (· = B) w w':=by
 obtain⟨nm,gn,tx,wt,tg⟩:=e;simp only at hg;subst hg;have O:=wm es ⟨nm,f?,tx,wt,tg⟩ (.agg #[.bool f?,s? ⟨a? nm⟩,s? ⟨a? tx⟩,n? i? wt,n? i? tg]) rfl;obtain⟨w0,W⟩:∃w0,w.alloc (c? #[s? ⟨a? nm⟩,s? ⟨a? tx⟩,n? i? wt,n? i? tg] 96)=w0:=⟨_,q?⟩;have U:B? w w0:=by rw[<-W];exact(ge _ _).alloc (ee _) _
 have Y:w0.1[w.1.size]?=y? (c? #[s? ⟨a? nm⟩,s? ⟨a? tx⟩,n? i? wt,n? i? tg] 96 (0,0)):=by rw[<-W];exact heap_alloc_new w _
 have d0:=dq Y;have ab:gc _:=U;have ac:gc (eT w0 B es):=dU.below hs U;have HP:gc _:=O;clear hs Y U O;unfold AV;go_enter func72,ntmps72;go_wp2_with (first|(at_mapUpdate;refine kS _ q? _ _ _ 85 q? 111 gl gm q? ac (by rw[c5];unfold eC;omega) nm aa q? (.agg #[.bool f?,s? ⟨a? nm⟩,s? ⟨a? tx⟩,n? i? wt,n? i? tg]) q? ?_;intro w1 ad ae af));go_end0;refine⟨q?,?_,(dp.eB ab).then (dp.qM ae)⟩;unfold eT;rw[<-HP.out];exact ad
def Ed(B)(es:List dD)(nm:Wd)(w)(hs:eT w B es)(hl:l? es<1099511627776)(U:l? nm<=eC) :
  fa prog 71 #[.map (y? B),s? ⟨a? nm⟩] w λen w'=>en=e? (.tuple #[])/\eT w' B (dM es [⟨nm,t?,[],0,0⟩])/\dp (· = B) w w':=by
 have O:=wm es ⟨nm,t?,[],0,0⟩ (.agg #[.bool t?,s? ⟨#[]⟩,s? ⟨#[]⟩,n? i? 0,n? _ 0]) rfl;have W:gc _:=hs;have HP:gc _:=O;go_enter func71,ntmps71;go_wp2_with (first|(refine kS _ q? _ _ _ 85 q? _ gl gm q? W (by rw[c5];unfold eC;omega) nm U q? _ q? ?_;intro w1 Y aa ab));go_end0;refine⟨q?,?_,dp.qM aa⟩;unfold eT;rw[<-HP.out];exact Y
def mS(w:w?)(B r:Nat)(es rst:List dD):Prop:=eS prog 9 w B r (es.map kB) (rst.map kB)
def eS.perm{P k w B l a b}(h:eS P k w B r l a)(O:a.Perm b):eS P k w B r l b:=by obtain⟨U,W,D,left,cnt,Y,h4,h5⟩:=h;exact⟨(O.map _).nodup_iff.1 U,λp hm=>W p (O.mem_iff.2 hm),D,left,cnt,Y,h4,λx=>by rw[h5 x,GW O]⟩
def RQ{p left}(h:(rst.map kB).Perm (p::left)):∃e O,p=kB e/\left.Perm (O.map kB)/\rst.Perm (e::O):=by
 have hm:=h.mem_iff.2 (cy ..);obtain⟨e,U,rfl⟩:=ca.1 hm;obtain⟨a,b,rfl⟩:=List.append_of_mem U;refine⟨e,a++b,q?,?_,di⟩
 have W:((a++e::b).map kB).Perm (kB e::(a++b).map kB):=by exact di.map _
 exact(h.symm.trans W).cons_inv
section
variable {B:Nat} {es:List dD} (w:w?) {ops:Array Oper} {rest:List Oper} {o:Oper} {a:Act} {Q:Exit->Act->w?->Prop}
def l8(U:o.guard=x?)(m)(O:o.op=Op.range 85 m)(hm:a.eval m=.map (y? B))(h:eT w B es)
  (W:∀w',mS w' B w.1.size es es->w.grownBy w' x?->w'.1.size=w.1.size+1->fd prog ops Q rest (a.put o.dst (p? (y? ⟨w.1.size,0,x?⟩))) w') :
  fd prog ops Q (o::rest) a w:=
 BG w U m 85 O _ gl gm hm h W
def lY(hg:o.guard=x?)(it:Operand)(W:o.op=Op.next it f?)(r:Nat)(rst:List dD)
  (Y:a.eval it=p? (y? ⟨r,0,x?⟩)) (h:mS w B r es rst)
  (U:rst=[]->fd prog ops Q rest (a.put o.dst (.tuple #[.bool f?])) w)
  (hMore:∀(e:dD)(O:List dD)(w':w?),rst.Perm (e::O)->mS w' B r es O->w'.rangeLeft B r<w.rangeLeft B r->w.grownBy w' (y? r)->w'.1.size=w.1.size->
    (Instr.entry (p? (y? ⟨r,0,x?⟩))).run prog w'=.ok (.tuple #[s? ⟨a? e.name⟩,.agg #[.bool e.gone,s? ⟨(yy e).toArray⟩,s? ⟨a? e.text⟩,n? i? e.dn,n? i? e.dE]]) w'->
    fd prog ops Q rest (a.put o.dst (.tuple #[.bool t?,s? ⟨a? e.name⟩,.agg #[.bool e.gone,s? ⟨(yy e).toArray⟩,s? ⟨a? e.text⟩,n? i? e.dn,n? i? e.dE]])) w') :
  fd prog ops Q (o::rest) a w:=by
 refine Ek w hg it W gl r _ Y h (λh0=>U (u! h0)) ?_;intro p aa w' hp hr ab ac ad ae;obtain⟨e,O,rfl,h1,h2⟩:=RQ hp;exact hMore e O w' h2 (hr.perm h1) ab ac ad ae
end
def mS.alloc{w B es}(h:mS w B r es rst)(o):mS (w.alloc o) B r es rst:=eS.kept h (fr w o x?) i! i!
def jW{w:w?}{B o}(O:B<w.1.size)(U:r<w.1.size):(w.alloc o).rangeLeft B r=w.rangeLeft B r:=
 eS.lj (gg _ _ _ O) (gg _ _ _ U)
def mT{w0 w w'}(h:B? w0 w)(O:w.grownBy w' (y? r))(U:w0.1.size<=r):B? w0 w':=h.grown O h.size (λk W=>by cases W;exact U)
def kg(es:List dD):Nat:=(es.filter λe=>e.gone).length
def Aw(es)(e:dD):kg (es++[e])=kg es+(if e.gone then 1 else 0):=by unfold kg;cases h:e.gone<;>simp[h]
def EB(es):kg es<=l? es:=cq ..
def Kf{es}(h:es.Perm fs):kg es=kg fs:=(h.filter _).length_eq
def kw{vis rst' es e}(h:(vis++rst).Perm es)(O:rst.Perm (e::rst')):((vis++[e])++rst').Perm es:=by refine List.Perm.trans ?_ h;rw[c6];exact(gx vis).append O.symm
def BI(B)(es)(w)(hs:eT w B es)(hl:es.length<1099511627776) :
  fa prog 70 #[.map (y? B)] w λen w'=>en=.returned (.int i? (kg es))/\B? w w':=by
 have HS:gc (eT w B es):=hs;have aj:=dU.lt hs;clear hs;go_enter func70,ntmps70;go_wp2_with (first|(at_range;refine l8 _ rfl _ rfl rfl HS.out ?_;intro w0 hrg0 hg0 ak));go_frame;go_loopw [3] (λg wr=>∃(O rst:List dD),(O++rst).Perm es/\g=.int i? (kg O)/\mS wr B w.1.size es rst/\B? w wr) (λ_ wr=>wr.rangeLeft B w.1.size)
 case atStart=>exact⟨[],es,gx _,q?,hrg0,(ge _ w).grown hg0 (ee _) (λk hk=>by cases hk)⟩
 case round=>
  obtain⟨O,rst,fA,rfl,hr,hb⟩:=hrel;have HP:gc ((O++rst).Perm es):=fA;have HR:gc (mS wr B w.1.size es rst):=hr;have HB:gc (B? w wr):=hb
  have al:kg O<=es.length:=by have h1:=EB O;have h2:=fA.length_eq;rw[bx]at h2;omega
  clear fA hr hb;go_wp2_with (first|(at_next;refine lY _ q? _ q? w.1.size rst q? HR.out ?_ ?_))
  .intro h0
   have HE:gc (kg O=kg es):=by show _=_;refine Kf ?_;have:=HP.out;rw[h0,cC]at this;exact this
   clear h0;go_wp2;go_ret;exact⟨dQ (by rw[HE.out]),HB.out⟩
  intro e U w1 aa W Y ab ac am;have ad:=eS.lt W;have ae:=dU.lt (eS.owns W);have af:gc (B? w w1):=mT HB.out ab (ee _);have ag:gc (mS w1 B w.1.size es U):=W;have ah:gc (w1.rangeLeft B w.1.size<wr.rangeLeft B w.1.size):=Y;have ai:gc (rst.Perm (e::U)):=aa;clear aa W Y ab;obtain⟨nm,gn,tx,wt,tg⟩:=e
  cases gn with
  |false=>
   go_wp2;go_roundw
   case rel=>refine⟨O++[⟨nm,f?,tx,wt,tg⟩],U,kw HP.out ai.out,?_,ag.out.alloc _,af.out.alloc (ef HB.out.size (by rw[ac];exact ee _)) _⟩;rw[Aw];simp
   case measure=>rw[jW ae ad];exact ah.out
  |true=>
   go_wp2;go_roundw
   case rel=>refine⟨O++[⟨nm,t?,tx,wt,tg⟩],U,kw HP.out ai.out,?_,ag.out.alloc _,af.out.alloc (ef HB.out.size (by rw[ac];exact ee _)) _⟩;rw[Aw];go_num
   case measure=>rw[jW ae ad];exact ah.out
def EJ(h:e.name ∉ l.map dD.name):dM l [e]=l++[e]:=by unfold dM;rw[cn.2];intro x O;rw[j7];simp only[names,c8,List.map_nil,cx];intro U;exact h (ca.2 ⟨x,O,U⟩)
def Hj{vis rst' es}(W:(es.map dD.name).Nodup)(h:(vis++rst).Perm es)(Y:rst.Perm (e::rst')):e.name ∉ vis.map dD.name:=by have h1:=kw h Y;have O:=(h1.map _).nodup_iff.2 W;rw[cB,cB,cV]at O;have U:=O.1;rw[cV]at U;intro hm;exact U.2.2 _ hm _ i! rfl
def yi(l)(e:dD):du (l++[e])=du l++(if e.gone then []else [e]):=by unfold du;cases h:e.gone<;>simp[h]
def Ea{x}(h:x ∉ l.map dD.name):x ∉ (du l).map dD.name:=by intro hm;obtain⟨e,O,rfl⟩:=ca.1 hm;exact h (ca.2 ⟨e,(ck.1 O).1,q?⟩)
def pN(B)(es)(w)(hs:eT w B es)(hl:es.length<1099511627776)(aj:∀e∈es,e.name.length<=eC) :
  fa prog 60 #[.map (y? B)] w λen w'=>∃C,en=.returned (.map (y? C))/\w.1.size<=C/\eT w' C (du es)/\B? w w':=by
 have a4:=@gd prog;have ak:=hs.nodup;obtain⟨w0,af⟩:∃w0,w.alloc (.map #[] 0)=w0:=⟨_,q?⟩;have av:w0.1.size=w.1.size+1:=by rw[<-af];simp
 have hb0:B? w w0:=by rw[<-af];exact(ge _ _).alloc (ee _) _
 have hM0:eT w0 w.1.size []:=by rw[<-af];exact dU.made w
 have HS:gc (eT w0 B es):=dU.below hs hb0;have aw:gc ((es.map dD.name).Nodup):=ak;have ax:gc (∀e∈es,e.name.length<=eC):=aj;have a5:=dU.lt hs;clear hs ak aj;go_enter func60,ntmps60;go_wp2_with (first|(at_range;refine l8 _ rfl _ rfl rfl HS.out ?_;intro w1 hrg0 hg0 ay));rw[av]at hrg0 ay⊢;go_frame;go_loopw [4] (λ_ wr=>∃(O rst:List dD),(O++rst).Perm es/\mS wr B (w.1.size+1) es rst/\eT wr w.1.size (du O)/\B? w wr) (λ_ wr=>wr.rangeLeft B (w.1.size+1))
 case atStart=>exact⟨[],es,gx _,hrg0,dU.kept hM0 hg0 i!,hb0.grown hg0 hb0.size (λk hk=>by cases hk)⟩
 case round=>
  obtain⟨O,rst,fA,hr,hm,hb⟩:=hrel;have HP:gc ((O++rst).Perm es):=fA;have HR:gc (mS wr B (w.1.size+1) es rst):=hr;have HM:gc (eT wr w.1.size (du O)):=hm;have HB:gc (B? w wr):=hb
  have a6:(du O).length<=es.length:=by have h1:=qo O;have h2:=fA.length_eq;rw[bx]at h2;omega
  clear fA hr hb hm;go_wp2_with (first|(at_next;refine lY _ q? _ q? (w.1.size+1) rst q? HR.out ?_ ?_))
  .intro h0
   have HE:gc (O.Perm es):=by show List.Perm _ _;have:=HP.out;rw[h0,cC]at this;exact this
   clear h0;go_wp2;go_ret;exact⟨_,q?,ee _,HM.out.perm (ye HE.out),HB.out⟩
  intro e U w2 Y aa ad ag az a7;have al:=eS.lt aa;have am:=dU.lt (eS.owns aa);have ah:gc (B? w w2):=mT HB.out ag o!;have an:gc (mS w2 B (w.1.size+1) es U):=aa;have ao:gc (w2.rangeLeft B (w.1.size+1)<wr.rangeLeft B (w.1.size+1)):=ad;have ap:gc (rst.Perm (e::U)):=Y;have aq:gc (eT w2 w.1.size (du O)):=dU.kept HM.out ag i!;have a0:e.name.length<=eC:=ax.out e (HP.out.mem_iff.1 (de _ (Y.mem_iff.2 (cy ..))));have ae:=Hj aw.out HP.out Y;have W:=wm (du O) e (.agg #[.bool e.gone,.string ⟨(yy e).toArray⟩,.string ⟨a? e.text⟩,.int i? e.dn,.int i? e.dE]) rfl;rw[EJ (Ea ae)]at W;have ab:=yi O e;clear Y aa ad ag ae;obtain⟨nm,gn,tx,wt,tg⟩:=e
  cases gn with
  |true=>
   have ai:gc (du (O++[⟨nm,t?,tx,wt,tg⟩])=du O):=by show _=_;rw[ab];simp
   clear ab W;go_wp2;go_roundw
   case rel=>exact⟨O++[⟨nm,t?,tx,wt,tg⟩],U,kw HP.out ap.out,an.out.alloc _,by rw[ai.out];exact dU.kept aq.out (fr _ _ x?) i!,ah.out.alloc (ef HB.out.size (by rw[az];exact ee _)) _⟩
   case measure=>rw[jW am al];exact ao.out
  |false=>
   have ai:gc (du (O++[⟨nm,f?,tx,wt,tg⟩])=du O++[⟨nm,f?,tx,wt,tg⟩]):=by show _=_;rw[ab];simp
   have ar:gc (sD ((du O).map kB) nm (.agg #[.bool f?,.string ⟨(yy (⟨nm,f?,tx,wt,tg⟩:dD)).toArray⟩,.string ⟨a? tx⟩,.int i? wt,.int i? tg])=(du O++[(⟨nm,f?,tx,wt,tg⟩:dD)]).map kB):=W;clear ab W;have au:=λo:Obj=>dU.kept aq.out (fr w2 o x?) i!;have a1:gc (∀o:Obj,dU prog 9 (w2.alloc o) w.1.size ((du O).map kB)):=au;clear au;go_wp2_with (first|(at_mapUpdate;refine kS _ rfl _ _ _ 85 rfl 111 gl gm rfl (a1.out _) (by rw[c5];unfold eC;omega) nm a0 rfl (.agg #[.bool f?,.string ⟨(yy (⟨nm,f?,tx,wt,tg⟩:dD)).toArray⟩,.string ⟨a? tx⟩,.int i? wt,.int i? tg]) rfl ?_;intro w3 a2 ac a8));have a3:w.1.size<=w2.1.size:=ah.out.size;refine⟨⟨O++[⟨nm,f?,tx,wt,tg⟩],U,kw HP.out ap.out,eS.kept (an.out.alloc _) ac j! i!,?_,(ah.out.alloc a3 _).grown ac j! (λk hk=>by cases hk;exact ee _)⟩,?_⟩;rw[ai.out];unfold eT;rw[<-ar.out];exact a2;rw[eS.lj (ac.block B j! j!) (ac.block (w.1.size+1) j! i!),jW am al];exact ao.out
def PT(B C)(ds es:List dD)(w)(hd:eT w B ds)(hs:eT w C es)(ay:B≠C)(hl:l? es<549755813888)(az:l? ds<549755813888)(ag:∀e∈es,l? e.name<=eC) :
  fa prog 89 #[.map (y? B),.map (y? C)] w λen w'=>en=e? (.tuple #[])/\eT w' B (dM ds es)/\dp (· = B) w w':=by
 have ah:=hs.nodup;have HS:gc (eT w C es):=hs;have HD:gc (eT w B ds):=hd;have ak:gc ((es.map dD.name).Nodup):=ah;have al:gc (∀e∈es,l? e.name<=eC):=ag;have a0:=dU.lt hd;have a1:=dU.lt hs;clear hs hd ah ag;go_enter func89,ntmps89;go_wp2_with (first|(at_range;refine l8 _ rfl _ rfl rfl HS ?_;intro w1 hrg0 U a2));go_frame;go_loopw [4] (λ_ wr=>∃(O rst:List dD),(O++rst).Perm es/\mS wr C w.1.size es rst/\eT wr B (dM ds O)/\dp (· = B) w wr) (λ_ wr=>wr.rangeLeft C w.1.size)
 case atStart=>exact⟨[],es,gx _,hrg0,by rw[oD];exact dU.kept HD U i!,⟨U.os,U.tape,U.output,U.size,λk hk _=>U.block k hk i!⟩⟩
 case round=>
  obtain⟨O,rst,fA,hr,hm,hb⟩:=hrel;have HP:gc ((O++rst).Perm es):=fA;have HR:gc (mS wr C w.1.size es rst):=hr;have HM:gc (eT wr B (dM ds O)):=hm;have HB:gc (dp (· = B) w wr):=hb
  have a3:(dM ds O).length<=1099511627775:=by have h1:=sV ds O;have h2:=fA.length_eq;rw[bx]at h2;omega
  clear fA hr hb hm;go_wp2_with (first|(at_next;refine lY _ q? _ q? w.1.size rst q? HR ?_ ?_))
  .intro h0
   have HE:gc (O.Perm es):=by show List.Perm _ _;have:=HP.out;rw[h0,cC]at this;exact this
   clear h0;go_wp2;go_end0;exact⟨q?,HM.perm (Mj (gx _) HE),HB⟩
  intro e W w2 aa ab ad af a4 a5;have am:=eS.lt ab;have an:=dU.lt (eS.owns ab);have a6:=HB.size;have ao:gc (dp (· = B) w w2):=HB.trans (dp.qM af) (λi hi hg=>o!);have ap:gc (mS w2 C w.1.size es W):=ab;have aq:gc (w2.rangeLeft C w.1.size<wr.rangeLeft C w.1.size):=ad;have ar:gc (rst.Perm (e::W)):=aa;have ai:gc (eT w2 B (dM ds O)):=dU.kept HM af j!;have au:l? e.name<=eC:=al.out e (HP.mem_iff.1 (de _ (aa.mem_iff.2 (cy ..))));have ae:=Hj ak HP aa;have Y:=wm (dM ds O) e (.agg #[.bool e.gone,s? ⟨(yy e).toArray⟩,s? ⟨a? e.text⟩,n? i? e.dn,n? i? e.dE]) rfl;rw[rK,EJ ae]at Y;have aj:gc (sD ((dM ds O).map kB) e.name (.agg #[.bool e.gone,s? ⟨(yy e).toArray⟩,s? ⟨a? e.text⟩,n? i? e.dn,n? i? e.dE])=(dM ds (O++[e])).map kB):=Y;have av:gc (∀o:Obj,dU prog 9 (w2.alloc o) B ((dM ds O).map kB)):=λo=>dU.kept ai (fr w2 o x?) i!;clear aa ab ad af ae Y;go_wp2_with (first|(at_mapUpdate;refine kS _ q? _ _ _ 85 q? 111 gl gm q? (av _) (by rw[c5];unfold eC;omega) e.name au q? (.agg #[.bool e.gone,s? ⟨(yy e).toArray⟩,s? ⟨a? e.text⟩,n? i? e.dn,n? i? e.dE]) q? ?_;intro w3 aw ac a7));have ax:=dU.lt ai;refine⟨⟨_,_,_,_,_,_,_,_,_,_,⟨O++[e],W,kw HP ar,eS.kept (ap.alloc _) ac j! j!,?_,(ao.then (dp.eB ((ge _ _).alloc (ee _) _))).then (dp.qM ac)⟩,q?⟩,?_⟩;unfold eT;rw[<-aj.out];exact aw;rw[eS.lj (ac.block C j! j!) (ac.block _ j! j!),jW an am];exact aq
end
section
open Go.RowKit
def mH(e:dD):Prop:=l? e.name<=1048576/\l? e.text<=1048576/\(-9223372036854775808<=e.dn/\e.dn<=9223372036854775807)/\-9223372036854775808<=e.dE/\e.dE<=9223372036854775807
def OJ{e}(h:mH e):(kC e).length<=2097160:=by have O:=h.1;have U:=h.2.1;simp[kC,dI,gh];omega
def Ga(m)(h:∀e∈m,mH e):(m.flatMap kC).length<=l? m*2097160:=by
 induction m with
 |nil=>simp|cons e m O=>have W:=OJ (h e i!);have Y:=O (λx U=>h x (by simp[U]));rw[cK,bx,cc];omega
def FX(p:Wd)(e:dD)(c:UInt8):Nat:=if iW (dC e) (p++[c])=t? then 1 else 0
def Gj(p)(e):∀(cs:List UInt8),(∀c∈cs,iW (dC e) (p++[c])=f?)->(cs.map (FX p e)).sum=0:=by
 intro cs;induction cs with
 |nil=>intro _;rfl|cons c cs O=>intro h;have U:=h c i!;rw[c8,cF,O (λd W=>h d (by simp[W]))];simp[FX,U]
def R3(p)(e):∀(cs:List UInt8),cs.Nodup->(cs.map (FX p e)).sum<=1:=by
 intro cs;induction cs with
 |nil=>simp|cons c cs W=>
  intro h;have U:=List.nodup_cons.1 h;rw[c8,cF]
  cases hb:iW (dC e) (p++[c])with
  |false=>have:=W U.2;simp only[FX,hb];simpa using this|true=>rw[Gj p e cs (λd Y=>?_)];simp[FX,hb];rw[e8];intro O;have:=sG ((fh ..).1 hb) ((fh ..).1 O);subst this;exact U.1 Y
def QU(p)(cs:List UInt8)(e)(G):(cs.map λc=>(jR (e::G) p c).length).sum=(cs.map (FX p e)).sum+(cs.map λc=>(jR G p c).length).sum:=by
 induction cs with
 |nil=>rfl|cons c cs O=>
  simp only[c8,cF,O]
  have:(jR (e::G) p c).length=FX p e c+(jR G p c).length:=by unfold jR FX;rw[cY];split;simp;omega;simp
  omega
def MW(p)(cs:List UInt8)(W:cs.Nodup):∀G,(fT G p).length+(cs.map λc=>(jR G p c).length).sum<=l? G:=by
 intro G;induction G with
 |nil=>
  have:∀cs:List UInt8,(cs.map λc=>(jR [] p c).length).sum=0:=by
   intro cs;induction cs with
   |nil=>rfl|cons c cs U=>rw[c8,cF,U];rfl
  rw[this];simp[fT]
 |cons e G U=>
  rw[QU];by_cases O:dC e=p
  have Y:=Gj p e cs (λc _=>by
   rw[e8];intro hb;have:=((ig ..).1 ((fh ..).1 hb)).2.1
   rw[O]at this;omega)
  have h1:(fT (e::G) p).length=(fT G p).length+1:=by unfold fT;rw[cY,if_pos (beq_iff_eq.2 O)];rfl
  rw[cc];omega;have Y:=R3 p e cs W
  have h1:(fT (e::G) p).length=(fT G p).length:=by unfold fT;rw[cY,if_neg (u! O)]
  rw[cc];omega
def EZ:∀(f)(p)(G),(∀e∈G,mH e)->(j8 f p G).length<=f*(l? G*3145743)+5:=by
 intro f;induction f with
 |zero=>simp[j8]|succ f ih=>
  intro p G W;have ab:=Ga (fT G p) (λe Y=>W e (ck.1 Y).1);have ac:=MW p _ (nW (rG G p)) G
  have hk:∀cs:List UInt8,(∀c∈cs,c∈jw G p)->(cs.flatMap λc=>dI ((kK (jR G p c)).drop p.length)++j8 f (kK (jR G p c)) (jR G p c)).length<=(cs.map λc=>(jR G p c).length).sum*(1048582+f*3145743):=by
   intro cs;induction cs with
   |nil=>simp|cons c cs aa=>
    intro hc;have h1:=aa (λd hd=>hc d (by simp[hd]));have O:=qm (hc c i!);rw[<-mU]at O;have ad:=cT.2 O;obtain⟨e0,U⟩:=List.exists_mem_of_ne_nil _ O
    have ae:(kK (jR G p c)).length<=1048576:=by have a:=((nZ O).1 _ (ca.2 ⟨e0,U,q?⟩)).length_le;have b:=(W e0 (j5.1 U).1).2.1;unfold dC at a;rw[fO]at a;omega
    have h2:=ih (kK (jR G p c)) (jR G p c) (λe Y=>W e (j5.1 Y).1);have h3:(dI ((kK (jR G p c)).drop p.length)).length<=1048577:=by simp[dI];omega
    rw[cK,bx,bx,c8,cF,et];generalize (jR G p c).length=n at *;have e1:n*(1048582+f*3145743)=n*1048582+f*(n*3145743):=by rw[er,eq]
    omega
  have af:=hk _ (λ_ h=>h);rw[j8];simp only[bx,cc];have h3:(gh (fI G)).length=3:=rfl;generalize ((jw G p).map λc=>(jR G p c).length).sum=m at *;have e1:m*(1048582+f*3145743)=m*1048582+m*(f*3145743):=er ..;have e2:(f+1)*(l? G*3145743)=l? G*3145743+l? G*(f*3145743):=by rw[et,eq];omega
  have e3:m*(f*3145743)<=l? G*(f*3145743):=ej _ o!;omega
def AP(f)(l)(p a)(O:∀e∈l,mH e):(jO f l p a).length<=f*(l? l*3145743)+l? p+6:=by rw[BS];have Y:=EZ f p (lr l p) (λe U=>O e (oh.1 U).1);have W:(lr l p).length<=l? l:=cq ..;have h3:f*((lr l p).length*3145743)<=f*(l? l*3145743):=Nat.mul_le_mul_left _ (ej _ W);rw[bx];simp only[dI,cc,cX];omega
open Go.Maps
variable {e:dD} {l:List dD}
def AK(c:Nat):v?:=.map (y? c)
structure Kx(w:w?)(v:v?)(Cs:List Nat)(ls:List (List dD)):Prop where
 rd:Rd w v (Cs.map AK)
 len:l? Cs=l? ls
 each:∀i(h:i<l? ls)(h':i<l? Cs),eT w Cs[i] ls[i]
def yq(ls)(k)(h:k<l? ls):fY (ls.take (k+1))=dM (fY (ls.take k)) ls[k]:=by rw[cU h,fo]
def PO(ls)(k)(h:k<l? ls):ls[k].length<=gF ls:=by have O:=oE ls k h;have U:=qF ls (k+1);omega
def tB(ls)(k)(O:k<=l? ls):(fY (ls.take k)).length<=gF ls:=by have U:=x9 ls k O;have W:=qF ls k;rw[Aq]at U;omega
def uA(v)(Cs)(O)(w)(h:Kx w v Cs O)(ak:gF O<=536870912)(ad:∀l∈O,∀e∈l,l? e.name<=eC) :
  fa prog 58 #[v] w λen w'=>∃B,en=e? (.map (y? B))/\w.1.size<=B/\eT w' B (fY O)/\B? w w':=by
 have al:=@gd prog;obtain⟨a,cap,rfl,ah,hcm,ae⟩:=id h.rd;have af:(Cs.map AK).length=l? O:=by rw[c5,h.len]
 rw[af]at ah⊢;have am:=wW O;unfold eC at hcm;obtain⟨w0,ab⟩:∃w0,w.alloc (.map #[] 0)=w0:=⟨_,q?⟩;have an:w0.1.size=w.1.size+1:=by rw[<-ab];simp
 have hb0:B? w w0:=by rw[<-ab];exact(ge _ _).alloc (ee _) _
 have hM0:eT w0 w.1.size []:=by rw[<-ab];exact dU.made w
 have HL:gc (Kx w (.slice a (Cs.map AK).length cap) Cs O):=h;have ai:gc (∀j u,(Cs.map AK)[j]?=y? u->∃b off,a=y? ⟨b,off,x?⟩/\w.cell? ⟨b,off+j,x?⟩=y? u):=ae;have aj:gc (∀l∈O,∀e∈l,l? e.name<=eC):=ad;clear h ae af ad;go_enter func58,ntmps58;go_wp2;go_loopw [9] (λi wr=>∃k:Nat,k<=l? O/\i=n? i? k/\eT wr w.1.size (fY (O.take k))/\B? w wr) (λi _=>l? O-(intOf i).toNat)
 case atStart=>exact⟨0,eg _,q?,hM0,hb0⟩
 case round=>
  obtain⟨k,hk,rfl,hm,hb⟩:=hrel;have HM:gc (eT wr w.1.size (fY (O.take k))):=hm;have Y:gc (B? w wr):=hb;clear hm hb;by_cases U:k<l? O
  .have ag:k<l? Cs:=by rw[HL.len];exact U
   obtain⟨bb,off,rfl,W⟩:=ai.out k (AK Cs[k]) (by simp[ag]);have hc:=ff Y W;unfold AK at hc;have ac:=HL.each k U ag;have ao:=dU.lt ac;have aa:=PT w.1.size Cs[k] (fY (O.take k)) O[k] wr HM (dU.below ac Y) o! (v! (PO O k U)) (v! (tB O k hk)) (aj _ (cE U));rw[<-yq O k U]at aa;clear W ac;go_wp2_with fail;refine aa.mono ?_;rintro e w1 ⟨rfl,q1,q2⟩;have HM1:gc (eT w1 w.1.size (fY (O.take (k+1)))):=q1
   have HB1:gc (B? w w1):=by refine⟨q2.os.trans Y.os,q2.tape.trans Y.tape,q2.output.trans Y.output,ef Y.size q2.size,λi hi=>?_⟩;rw[q2.block i (Nat.lt_of_lt_of_le hi Y.size) o!,Y.block i hi]
   go_wp2;go_roundw
   case rel=>exact⟨k+1,o!,by go_num,HM1,HB1⟩
   case measure=>simp[intOf];omega
  have HE:gc (O.take k=O):=cw o!;go_wp2;go_ret;refine⟨_,q?,ee _,?_,Y⟩;have:=HM.out;rw[HE.out]at this;exact this
def Sz(h:NI e):mH e:=by
 obtain h|h:=h
 have O:=il h.2.1;have W:=kZ h.2.2.1;have Y:=h.2.2.2.2;exact⟨o!,o!,⟨o!,o!⟩,o!,o!⟩;have O:=il h.2;have U:e.text=[]:=by rw[h.1]
 have e2:e.dn=0:=by rw[h.1]
 have e3:e.dE=0:=by rw[h.1]
 exact⟨o!,by rw[U];simp,⟨o!,o!⟩,o!,o!⟩
def s4(h:NI e):fU e.name=t?:=by
 obtain h|h:=h
 exact h.2.1;exact h.2
def Ij(l:List dD)(h:∀e∈l,l? e.name<=8):(l.flatMap λe=>dI e.name).length<=l? l*9:=by
 induction l with
 |nil=>simp|cons e l O=>rw[cK,bx];have U:=O (λx W=>h x (cR _ W));have Y:=h e (cy ..);simp only[dI,cc]at U⊢;omega
def qN(h:lm l):(eh l).length<=3000000000:=by
 unfold eh
 have W:((eK l).filter λe=>e.gone).length<=100:=by rw[((gX l).filter _).length_eq];exact h.gone
 have Y:((eK l).filter λe=>!e.gone).length<=30:=by rw[((gX l).filter _).length_eq];exact h.there
 have h1:=Ij ((eK l).filter λe=>e.gone) (λe O=>(il (s4 (h.each e (j9.1 (ck.1 O).1)))).2);have h2:=EZ 26 [] ((eK l).filter λe=>!e.gone) (λe O=>Sz (h.each e (j9.1 (ck.1 O).1)));have U:(dI []).length=1:=rfl;simp only[cc,bx,U];omega
def nt(h:lm l):∀e∈l,l? e.name<=eC:=λe O=>by have:=(il (s4 (h.each e O))).2;unfold eC;omega
def kq(h:lm l):l? l<=130:=by have O:=kV l;have U:=h.gone;have W:(du l).length<=30:=h.there;omega
def pU(s)(w)(h:lm s) :
  fa prog 73 #[s? ⟨(eh s).toArray⟩] w λen w'=>∃B,en=e? (.map (y? B))/\w.1.size<=B/\eT w' B s/\B? w w':=by
 have hl:=qN h;obtain⟨gs,es,U,W⟩:=uy h;have O:=Ap ⟨(eh s).toArray⟩ w (by show(eh s).toArray.size<=_;simp;omega);rw[show nR (⟨(eh s).toArray⟩:ByteArray).1.1=_ from U]at O;have HP:gc _:=W;clear W U hl h;go_enter func73,ntmps73;go_wp2_with fail;refine O.mono ?_;rintro e w1 ⟨hb,B,rfl,hB,Y⟩;have HS:gc (eT w1 B s):=eT.perm Y HP;have HB:gc _:=hb;clear O Y hb;go_wp2;go_ret;exact⟨B,q?,hB,HS,HB⟩
variable {ss:List (List dD)} {buf:List dD}
def RV:(prog.info? 85).map (λi=>(i.zero,i.size,i.bytes))=y? (y? (.map x?),1,8):=by kernel_rfl
structure Fb(w:w?)(F:Nat->Prop)(b:Nat)(buf:List dD)(ss:List (List dD))(Bb:Nat)(vS vM vK:v?):Prop where
 blk:w.1[b]?=some (.cells #[.map (some Bb),vS,vM,vK] 90 (0,0))
 fb:F b
 fB:F Bb
 say:eT w Bb buf
 row:w.ownsRow 0 9 1 vS ss.length (dy (ss.map eh))
 qc:∀k,vS.ownBlock=some k->F k
 inv:Inv buf ss
def rn{w}{base e n:Nat}{v xs}(U:w.ownsRow base e 1 v n xs){P k B l}(hm:dU P k w B l):y? B≠v.ownBlock:=by
 obtain⟨rfl,_⟩|⟨g,cap,cur,rfl,_,W,_⟩:=U.2
 simp[Value.ownBlock];intro O;simp only[Value.ownBlock,ga]at O;exact hm.oU W O
def nY(h:Inv buf ss):l? buf<=130:=by have U:=kV buf;have W:=h.gone;have O:=h.all;rw[iy,fo]at O;have Y:=mw (fY ss) buf;omega
def LG(ss)(h:∀s∈ss,lm s):gF ss<=l? ss*131:=by
 induction ss with
 |nil=>simp[gF]|cons s ss O=>have U:=O (λx W=>h x (cR _ W));have Y:=kq (h s (cy ..));simp only[gF,c8,cF,cc]at U⊢;omega
def Fu(a b):gF (a++b)=gF a+gF b:=by simp[gF]
def vU(h:Inv buf ss):gF (ss++[buf])<=1000:=by
 have O:=LG ss h.kM;have U:=h.yW;have W:=nY h;rw[Fu];have:gF [buf]=l? buf+1:=by simp[gF]
 omega
def xi(h:Inv buf ss):∀l∈ss++[buf],∀e∈l,l? e.name<=eC:=by
 intro l W e U;obtain O|O:=ch.1 W
 exact nt (h.kM l O) e U;simp only[cx]at O;subst O;have:=(il (s4 (h.each e U))).2;unfold eC;omega
def pI{O:List (List dD)}(h:∀l∈O,∀e∈l,l? e.name<=eC):∀e∈fY O,l? e.name<=eC:=by
 have:∀(O:List _)(a:List dD),(∀e∈a,l? e.name<=eC)->(∀l∈O,∀e∈l,l? e.name<=eC)->∀e∈O.foldl dM a,l? e.name<=eC:=by
  intro O;induction O with
  |nil=>intro a U _ e W;exact U e W|cons l O ih=>
   intro a U hl e W;refine ih _ (λx hx=>?_) (λm hm=>hl m (cR _ hm)) e W;obtain Y|Y:=n9.1 hx
   exact U x Y.1;exact hl l (cy ..) x Y
 exact this O [] (nofun) h
def uG(F)(b)(buf)(ss)(Bb)(vS vM vK)(w)(h:Fb w F b buf ss Bb vS vM vK) :
  fa prog 59 #[p? (y? ⟨b,0,x?⟩)] w λen w'=>∃C,en=e? (.map (y? C))/\w.1.size<=C/\eT w' C (dO ss buf)/\B? w w':=by
 obtain⟨i0,hi,ah,ai,aj⟩:=fm RV;obtain⟨aS,cS,rfl,aC⟩:=dH h.row;have ak:=Rd.eL h.row;have az:=dq h.blk;have h6:=h.inv.yW
 have HR:gc (∀j(hj:j<l? ss),∃bb off,aS=y? ⟨bb,off,x?⟩/\w.cell? ⟨bb,off+j,x?⟩=y? (s? ⟨(eh ss[j]).toArray⟩)):=by intro j hj;obtain⟨a',c',he,_,_,hr⟩:=ak;simp only[Value.slice.injEq]at he;obtain⟨rfl,_,rfl⟩:=he;exact hr j _ (by simp[dy,hj])
 have HP:gc _:=h;clear h ak;go_enter func59,ntmps59;go_wp2;go_loopw [3,11] (λv i wr=>∃(k:Nat)(Cs:List Nat),k<=l? ss/\i=n? i? k/\l? Cs=k/\wr.ownsRow w.1.size 85 1 v k (Cs.map AK)/\(∀i(h:i<k)(h':i<l? Cs)(h2:i<l? ss),eT wr Cs[i] ss[i]/\w.1.size<=Cs[i])/\B? w wr) (λ_ i _=>l? ss-(intOf i).toNat)
 case atStart=>exact⟨0,[],eg _,q?,q?,World.ownsRow_nil _ _ _ _,λi h=>o!,ge _ _⟩
 case round=>
  obtain⟨k,Cs,hk,rfl,hCl,U,aa,hb⟩:=hrel;have HB:gc _:=hb;have hz:=hb.size;have HE:gc _:=aa;clear aa hb;by_cases al:k<l? ss
  .obtain⟨bb,off,rfl,ab⟩:=HR.out k al;have hc:=ff HB ab;have am:=pU ss[k] wr (HP.inv.kM _ (cE al));clear ab;go_wp2_with fail;refine am.mono ?_;rintro e w1 ⟨C,rfl,hC,hs,ac⟩;have aA:=ac.size;have Y:w1.ownsRow w.1.size 85 1 _ k (Cs.map AK):=dK U (λj hj=>ac.block j (U.lt j hj).2);have an:gc (eT w1 C ss[k]/\wr.1.size<=C):=⟨hs,hC⟩;have a0:gc (B? w w1):=HB.trans (ac.mono hz);have a1:gc _:=ac;clear am hs ac
   go_wp2_with (first
    |(at_builtin;refine fE _ q? _ _ 136 q? w.1.size 85 i0 (.map x?) 8 gt hi ah ai aj q? _ _ _ q? (Y.alloc _) ⟨w1.1.size,0,x?⟩ _ q? iC q? ?c1 ?c2 ?c3 ?_))
   case c1=>omega
   case c2=>unfold eC;omega
   case c3=>first|omega|(simp;omega)
   intro v' w2 W O _
   have HW2:gc (w2.ownsRow w.1.size 85 1 v' (k+1) ((Cs++[C]).map AK)):=by show w2.ownsRow _ _ _ _ _ _;rw[cB];exact W
   have HB2:gc (B? w w2):=(a0.alloc o! _).grown O j! (λb hb=>(U.lt b hb).1)
   have HE2:gc (∀i(h:i<k+1)(h':i<(Cs++[C]).length)(h2:i<l? ss),eT w2 (Cs++[C])[i] ss[i]/\w.1.size<=(Cs++[C])[i]):=by
    intro i h h' h2
    have key:∀(D:Nat)(l:List dD),eT w1 D l->eT w2 D l:=λD l hm=>by have ad:eT (w1.alloc (c? #[.map (y? C)] 85)) D l:=dU.kept hm (fr _ _ x?) i!;exact dU.kept ad O (rn (Y.alloc _) ad)
    by_cases ae:i<k;rw[cL o!];have hh:=HE.out i ae o! h2;exact⟨key _ _ (dU.below hh.1 a1),hh.2⟩;have ao:i=k:=o!;subst ao;rw[cJ o!];simp only[hCl,Nat.sub_self,List.getElem_cons_zero];exact⟨key _ _ an.1,ef hz an.2⟩
   obtain⟨a',c',rfl,aD⟩:=dH HW2;clear W O U Y;go_wp2;go_roundw
   case rel=>exact⟨k+1,Cs++[C],o!,by go_num,by simp[hCl],HW2,HE2,HB2⟩
   case measure=>simp[intOf];omega
  have a2:k=l? ss:=o!;subst a2;have aB:=ff HB (az 0)
  go_wp2_with (first
   |(at_builtin;refine fE _ q? _ _ 136 q? w.1.size 85 i0 (.map x?) 8 gt hi ah ai aj q? _ _ _ q? (U.alloc _) ⟨wr.1.size,0,x?⟩ _ q? iC q? ?c1 ?c2 ?c3 ?_))
  case c1=>omega
  case c2=>unfold eC;omega
  case c3=>first|omega|(simp;omega)
  intro v' w2 W O _;have ap:B? w w2:=(HB.alloc hz _).grown O j! (λb hb=>(U.lt b hb).1)
  have aq:Kx w2 v' (Cs++[Bb]) (ss++[buf]):=by
   refine⟨?_,by simp[hCl],λi h h'=>?_⟩;rw[cB];exact Rd.eL W
   have key:∀(D:Nat)(l:List dD),eT wr D l->eT w2 D l:=λD l hm=>by have ad:eT (wr.alloc (c? #[.map (y? Bb)] 85)) D l:=dU.kept hm (fr _ _ x?) i!;exact dU.kept ad O (rn (U.alloc _) ad)
   by_cases ae:i<l? ss;have e1:(Cs++[Bb])[i]=Cs[i]'o!:=cL o!;have e2:(ss++[buf])[i]=ss[i]:=cL ae;rw[e1,e2];exact key _ _ (HE i ae o! ae).1;have a3:i=l? ss:=by simp at h;omega
   subst a3;have h9:=h';have e1:(Cs++[Bb])[l? ss]'h9=Bb:=by rw[cJ o!];simp[hCl]
   have e2:(ss++[buf])[l? ss]'h=buf:=by rw[cJ o!];simp
   rw[e1,e2];exact key _ _ (dU.below HP.say HB)
  have a4:=vU HP.inv;have af:=xi HP.inv;have ar:=uA v' (Cs++[Bb]) (ss++[buf]) w2 aq o! af;have HB2:gc _:=ap;have a5:gc _:=af
  have a6:gc ((fY (ss++[buf])).length<=1000):=by show _<=_;have:=tB (ss++[buf]) (ss++[buf]).length (ee _);rw[cD]at this;omega
  clear W O U aq ap af a4;go_wp2_with fail;refine ar.mono ?_;rintro e w3 ⟨B3,rfl,aE,au,av⟩;have aw:=pN B3 (fY (ss++[buf])) w3 au (v! a6.out) (pI a5);have ag:gc (B? w w3):=HB2.trans (av.mono HB2.size);clear ar au av;go_wp2_with fail;refine aw.mono ?_;rintro e w4 ⟨C,rfl,hC,ax,ay⟩;have a7:gc (eT w4 C (dO ss buf)):=by show eT _ _ _;rw[iy];exact ax
  have a8:gc (B? w w4):=ag.trans (ay.mono ag.size);have a9:w.1.size<=C:=ef ag.size hC;clear aw ax ay;go_wp2;go_ret;exact⟨C,q?,a9,a7,a8⟩
end
section
open Go.RowKit
def yU{e}(h:Ai e):l? e.name<=8/\l? e.text<=24:=by refine⟨(il h.2.1).2,?_⟩;have:=(rE h).1;unfold dC at this;rw[fO]at this;exact this
def zg(w:w?)(B:Nat)(S:ByteArray)(st:Option Wd)(O:v?):Prop:=
 ∃p:Nat,w.1[B]?=y? (c? #[s? S,n? i? p,.bool st.isNone,O] 259 (0,0))/\p<=S.size/\∀r,st=y? r->S.1.1.drop p=r
def gL(n:Nat):Option Wd->Wd×Option Wd
 |none=>([],x?)
 |some r=>if n<=r.length then(r.take n,y? (r.drop n))else([],x?)
def CI(B)(S)(st:Option Wd)(vA)(n:Nat)(w)(h:zg w B S st vA)(hS:S.size<=1048576)(hn:n<=16777216) :
  fa prog 205 #[p? (y? ⟨B,0,x?⟩),n? i? n] w λe w'=>e=e? (s? ⟨(gL n st).1.toArray⟩)/\zg w' B S (gL n st).2 vA/\dp (· = B) w w'/\w'.1.size=w.1.size:=by
 obtain⟨p,W,hp,hr⟩:=h;have c0:w.cell? ⟨B,0,x?⟩=y? (s? S):=by rw[dq W];rfl
 have c1:w.cell? ⟨B,1,x?⟩=y? (n? i? p):=by rw[dq W];rfl
 have c2:w.cell? ⟨B,2,x?⟩=y? (.bool st.isNone):=by rw[dq W];rfl
 have f1:w.frozen? ⟨B,1,x?⟩=f?:=dP W 1;have f2:w.frozen? ⟨B,2,x?⟩=f?:=dP W 2;have HH:gc _:=W;have HR:gc _:=hr;clear W hr
 cases st with
 |none=>
  have ah:w.cell? ⟨B,2,x?⟩=y? (.bool t?):=c2;clear c2;go_enter gv,go;go_wp2_with fail;go_quiet (fail);go_wp2;go_ret
  have Y:((w.drewN nq).setCell ⟨B,2,x?⟩ (.bool t?)).1[B]?=y? (c? #[s? S,n? i? p,.bool t?,vA] 259 (0,0)):=by rw[heap_set (w:=w.drewN nq) HH.out];simp
  have O:=jd (w:=w.drewN nq) (b:=B) (o:=2) (v:=.bool t?) (F:=(· = B)) rfl;exact⟨q?,⟨p,Y,hp,λr h=>by cases h⟩,⟨O.os,O.tape,O.output,O.size,O.block⟩,by simp[ft,fv]⟩
 |some r=>
  have e:S.1.1.drop p=r:=HR.out r rfl;have aa:l? r=S.size-p:=by rw[<-e];simp
  have HE:gc _:=e;have ai:w.cell? ⟨B,2,x?⟩=y? (.bool f?):=c2;have aj:IntKind.i64.wrap ((S.size:Int)-(p:Int))=(S.size:Int)-(p:Int):=by simp only[g7];omega
  clear c2 e HR;by_cases U:n<=l? r
  .have ac:¬(S.size:Int)-(p:Int)<(n:Int):=o!;have ad:IntKind.i64.wrap ((p:Int)+(n:Int))=((p+n:Nat):Int):=by simp only[g7];omega
   have ae:IntKind.i64.wrap ((p:Int)+(n:Int)-(n:Int))=(p:Int):=by simp only[g7];omega
   have af:(p:Int)<=((p+n:Nat):Int):=o!;have ag:((p+n:Nat):Int)<=(S.size:Int):=o!;have HT:gc (gL n (y? r)=(r.take n,y? (r.drop n))):=by show gL _ _=_;simp[gL,U]
   have ab:p+n<=S.size:=o!;clear U aa;go_enter gv,go;go_wp2_with fail;go_quiet (fail);revert nq;intro k0;go_wp2_with fail;go_quiet (fail);go_wp2;go_ret
   have Y:((w.drewN k0).setCell ⟨B,1,x?⟩ (n? i? ((p:Int)+(n:Int)))).1[B]?=y? (c? #[s? S,n? i? ((p+n:Nat):Int),.bool f?,vA] 259 (0,0)):=by rw[heap_set (w:=w.drewN k0) HH.out];simp
   have O:=jd (w:=w.drewN k0) (b:=B) (o:=1) (v:=n? i? ((p:Int)+(n:Int))) (F:=(· = B)) rfl;rw[HT.out];refine⟨?_,⟨p+n,Y,ab,λr' h=>?_⟩,⟨O.os,O.tape,O.output,O.size,O.block⟩,by simp[ft,fv]⟩;show Ending.returned (s? (S.extract p (p+n)))=_;rw[Ds,HE.out]
   cases h;rw[<-HE.out,List.drop_drop]
  have ac:(S.size:Int)-(p:Int)<(n:Int):=o!;have HT:gc (gL n (y? r)=([],x?)):=by show gL _ _=_;simp[gL,U]
  clear U aa;go_enter gv,go;go_wp2_with fail;go_quiet (fail);go_wp2;go_ret
  have Y:((w.drewN nq).setCell ⟨B,2,x?⟩ (.bool t?)).1[B]?=y? (c? #[s? S,n? i? p,.bool t?,vA] 259 (0,0)):=by rw[heap_set (w:=w.drewN nq) HH.out];simp
  have O:=jd (w:=w.drewN nq) (b:=B) (o:=2) (v:=.bool t?) (F:=(· = B)) rfl;rw[HT.out];exact⟨q?,⟨p,Y,hp,λr h=>by cases h⟩,⟨O.os,O.tape,O.output,O.size,O.block⟩,by simp[ft,fv]⟩
def q9(l:Wd):Nat:=l.foldl (λn c=>256*n+c.toNat) 0
def LX(l)(c):q9 (l++[c])=256*q9 l+c.toNat:=by unfold q9;rw[dh];rfl
def CB(l:Wd)(k)(h:k<l? l):q9 (l.take (k+1))=256*q9 (l.take k)+(l.getD k 0).toNat:=by rw[cU h,LX,cp,cu h];rfl
def DK(l:Wd):∀k,k<=l? l->q9 (l.take k)<256 ^ k:=by
 intro k;induction k with
 |zero=>intro _;simp[q9]|succ k O=>intro h;have U:=O o!;rw[CB l k o!,Nat.pow_succ];have:=(l.getD k 0).toNat_lt;omega
def sZ(n)(st):(gL n st).1.length<=n:=by
 cases st with
 |none=>simp[gL]|some r=>by_cases h:n<=l? r;simp[gL,h];simp[gL,h]
def E0(B)(S)(st:Option Wd)(vA)(n:Nat)(w)(h:zg w B S st vA)(hS:S.size<=1048576)(hn:n<=3) :
  fa prog 204 #[p? (y? ⟨B,0,x?⟩),n? i? n] w λe w'=>e=e? (n? i? (q9 (gL n st).1))/\zg w' B S (gL n st).2 vA/\dp (· = B) w w'/\w'.1.size=w.1.size:=by
 have W:=CI B S st vA n w h hS o!;have hl:=sZ n st;obtain⟨T,hT⟩:∃T,T=gL n st:=⟨_,q?⟩;rw[<-hT]at W hl⊢;obtain⟨O,ab⟩:=T;simp only at W hl⊢;have ac:(⟨a? O⟩:ByteArray).size=l? O:=by show O.toArray.size=_;simp
 have Y:gc (∀(k:Nat)(h:k<(⟨a? O⟩:ByteArray).size),(⟨a? O⟩:ByteArray)[k]=O.getD k 0):=λk h=>(jr ⟨a? O⟩ k h).symm;generalize (⟨a? O⟩:ByteArray)=bB at *;clear h hT;go_enter func204,ntmps204;go_wp2_with fail;refine W.mono ?_;rintro e w1 ⟨rfl,hR,hF,hz⟩;have HR:gc _:=hR;have HF:gc _:=hF;have HZ:gc _:=hz;clear W hR hF hz;go_wp2_with fail;go_loopw [6,7] (λu i wr=>∃k:Nat,k<=l? O/\i=n? i? k/\u=n? i? (q9 (O.take k))/\wr=w1) (λ_ i _=>l? O-(intOf i).toNat)
 case atStart=>exact⟨0,eg _,q?,q?,q?⟩
 case round=>
  obtain⟨k,hk,rfl,rfl,rfl⟩:=hrel;by_cases aa:k<l? O
  .have U:(k:Int)<(l? O:Int):=o!;have hg:=Y.out k o!;have HN:gc (q9 (O.take (k+1))=256*q9 (O.take k)+(O.getD k 0).toNat):=CB O k aa
   have ad:q9 (O.take k)<65536:=by have h1:=DK O k hk;have h2:256 ^ k<=256 ^ 2:=ei d! o!;omega
   have ae:=(O.getD k 0).toNat_lt;generalize q9 (O.take k)=N at *;generalize O.getD k 0=c at *;go_wp2;go_roundw
   case rel=>exact⟨k+1,o!,by go_num,by rw[HN.out];go_num,t!⟩
   case measure=>simp[intOf];omega
  have HE:gc (O.take k=O):=cw o!;have U:¬(k:Int)<(l? O:Int):=o!;go_wp2;go_ret;exact⟨dQ (by rw[HE.out]),HR,HF,HZ⟩
def eH(k:Nat)(st:Option Wd):Nat×Option Wd:=(q9 (gL k st).1,(gL k st).2)
def eV(st:Option Wd):Wd×Option Wd:=gL (eH 1 st).1 (eH 1 st).2
def pH(k):eH k x?=(0,x?):=rfl
def WN:eV x?=([],x?):=rfl
def tj(O):eH 1 (y? O)=match rdNum O with
  |some x=>(x.1,y? x.2)
  |none=>(0,x?):=by
 cases O with
 |nil=>rfl|cons b r=>simp[eH,gL,rdNum,q9]
def KL(O):eH 3 (y? O)=match fe O with
  |some x=>(x.1,y? x.2)
  |none=>(0,x?):=by
 match O with
 |[]=>rfl|[a]=>simp[eH,gL,fe,q9]|[a,b]=>simp[eH,gL,fe,q9]|a::b::c::r=>simp[eH,gL,fe,q9];omega
def yO(O):eV (y? O)=match gC O with
  |some x=>(x.1,y? x.2)
  |none=>([],x?):=by
 unfold eV gC;rw[tj]
 cases h:rdNum O with
 |none=>rfl|some x=>simp only[d'];unfold pT;by_cases U:x.1<=l? x.2;simp[gL,U];simp[gL,U]
def qg(k)(st)(U:k<=3):(eH k st).1<16777216:=by have O:=DK (gL k st).1 (gL k st).1.length (ee _);rw[cD]at O;have W:=sZ k st;have Y:256 ^ (gL k st).1.length<=256 ^ 3:=ei d! o!;show q9 _<_;omega
def jv(st):(eH 1 st).1<256:=by have O:=DK (gL 1 st).1 (gL 1 st).1.length (ee _);rw[cD]at O;have U:=sZ 1 st;have W:256 ^ (gL 1 st).1.length<=256 ^ 1:=ei d! U;show q9 _<_;omega
abbrev jg:=Option Wd×List dD
def zb(s:jg):jg:=
 ((eH 1 (eH 3 (eV (eV s.1).2).2).2).2,s.2++[⟨(eV s.1).1,f?,(eV (eV s.1).2).1,((eH 3 (eV (eV s.1).2).2).1:Int),((eH 1 (eH 3 (eV (eV s.1).2).2).2).1:Int)⟩])
def l6:Nat->jg->jg
 |0,s=>s|n+1,s=>if s.1=x? then s else l6 n (zb s)
def lR(node:jg->jg):Nat->jg->jg
 |0,s=>s|n+1,s=>if s.1=x? then s else lR node n (node s)
def iz:Nat->Nat->jg->jg
 |0,_,s=>(x?,s.2)
 |f+1,O,s=>
  let a:=(eH 3 (eV s.1).2).2
  let n:=eH 1 a
  let d:=l6 n.1 (n.2,s.2)
  let e:=eH 1 d.1
  if 0<e.1/\30<O then(x?,d.2)else lR (iz f (O+1)) e.1 (e.2,d.2)
def mD(n)(A):l6 n (x?,A)=(x?,A):=by cases n<;>simp[l6]
def nk(node)(n)(A):lR node n (x?,A)=(x?,A):=by cases n<;>simp[lR]
def Rk:∀(n)(O)(A:List dD),match oJ n O with
  |some x=>l6 n (y? O,A)=(y? x.2,A++x.1)
  |none=>(l6 n (y? O,A)).1=x?:=by
 intro n;induction n with
 |zero=>intro O A;simp[oJ,l6]|succ n Y=>
  intro O A;have h0:l6 (n+1) (y? O,A)=l6 n (zb (y? O,A)):=by simp[l6]
  rw[h0];unfold oJ zb;rw[yO]
  cases h1:gC O with
  |none=>simp[WN,pH,mD]|some x=>
   simp only[d'];rw[yO]
   cases h2:gC x.2 with
   |none=>simp[pH,mD]|some y=>
    simp only[d'];rw[KL]
    cases h3:fe y.2 with
    |none=>simp[pH,mD]|some z=>
     simp only[d'];rw[tj]
     cases h4:rdNum z.2 with
     |none=>simp[mD]|some u=>
      simp only[d'];have U:=Y u.2 (A++[⟨x.1,f?,y.1,z.1,u.1⟩])
      cases W:oJ n u.2 with
      |none=>rw[W]at U;simpa using U|some v=>rw[W]at U;simpa using U
def Pq(node:jg->jg)(W:Wd->Option (List dD×Wd))(hn:∀(O)(A:List dD),match W O with
  |some x=>node (y? O,A)=(y? x.2,A++x.1)
  |none=>(node (y? O,A)).1=x?):∀(n)(O)(A:List dD),match pf W n O with
  |some x=>lR node n (y? O,A)=(y? x.2,A++x.1)
  |none=>(lR node n (y? O,A)).1=x?:=by
 intro n;induction n with
 |zero=>intro O A;simp[pf,lR]|succ n ih=>
  intro O A;have h0:lR node (n+1) (y? O,A)=lR node n (node (y? O,A)):=by simp[lR]
  rw[h0];unfold pf;have U:=hn O A
  cases h2:W O with
  |none=>rw[h2]at U;simp only[dB];rw[show node (y? O,A)=(x?,(node (y? O,A)).2)from Prod.ext U q?,nk]
  |some x=>
   rw[h2]at U;simp only[d'];simp only at U;rw[U];have Y:=ih x.2 (A++x.1)
   cases h6:pf W n x.2 with
   |none=>rw[h6]at Y;simpa using Y|some v=>rw[h6]at Y;simpa using Y
def Se:∀(f O)(U)(A:List dD),match mV f O U with
  |some x=>iz f O (y? U,A)=(y? x.2,A++x.1)
  |none=>(iz f O (y? U,A)).1=x?:=by
 intro f;induction f with
 |zero=>intro O U A;simp[mV,iz]|succ f ih=>
  intro O U A;unfold mV iz;simp only;rw[yO]
  cases h1:gC U with
  |none=>simp[pH,mD,nk]|some a=>
   simp only[d'];rw[KL]
   cases h2:fe a.2 with
   |none=>simp[pH,mD,nk]|some b=>
    simp only[d'];rw[tj]
    cases h3:rdNum b.2 with
    |none=>simp[pH,mD,nk]|some c=>
     simp only[d'];have W:=Rk c.1 c.2 A
     cases h5:oJ c.1 c.2 with
     |none=>rw[h5]at W;simp only[dB];simp only at W;rw[W,pH];simp[nk]
     |some d=>
      rw[h5]at W;simp only at W;simp only[d'];rw[W];simp only;rw[tj]
      cases h6:rdNum d.2 with
      |none=>simp[nk]|some e=>
       simp only[d'];by_cases Y:0<e.1/\30<O;rw[if_pos Y,if_pos Y];rw[if_neg Y,if_neg Y];have h8:=Pq (iz f (O+1)) (mV f (O+1)) (ih (O+1)) e.1 e.2 (A++d.1)
       cases h9:pf (mV f (O+1)) e.1 e.2 with
       |none=>rw[h9]at h8;simpa using h8|some g=>rw[h9]at h8;simpa using h8
variable {st:Option Wd} {s:jg}
def jI(base:Nat)(w:w?)(B:Nat)(S:ByteArray)(s:jg):Prop:=base<=B/\base<=w.1.size/\∃O,zg w B S s.1 O/\w.ownsRow base 202 5 O s.2.length (dv s.2)
def lV:Option Wd->Nat
 |none=>0|some r=>l? r+1
def wO(n)(st):lV (gL n st).2<=lV st:=by
 cases st with
 |none=>exact ee _|some r=>by_cases h:n<=l? r;simp[gL,h,lV];simp[gL,h,lV]
def lA(k)(st):lV (eH k st).2<=lV st:=wO k st
def MH(h:st≠x?):lV (eH 1 st).2+1<=lV st:=by
 cases st with
 |none=>exact absurd q? h|some r=>
  rw[tj]
  cases r with
  |nil=>simp[rdNum,lV]|cons b r=>simp[rdNum,lV]
def xv(st):lV (eV st).2<=lV st:=ef (wO _ _) (lA 1 st)
def zX(h:st≠x?):lV (eV st).2+1<=lV st:=by have O:=MH h;have U:=wO (eH 1 st).1 (eH 1 st).2;unfold eV;omega
def gI(s:jg):Nat:=l? s.2+lV s.1
def Fs(h:s.1≠x?):gI (zb s)<=gI s:=by have O:=zX h;have U:=xv (eV s.1).2;have W:=lA 3 (eV (eV s.1).2).2;have Y:=lA 1 (eH 3 (eV (eV s.1).2).2).2;unfold gI zb;simp only[bx,cc,cP];omega
def jI.turn{base}{w w':w?}{B S}{U:Option Wd}{W}(hb:base<=B)(hz:base<=w.1.size)(h1:zg w B S s.1 W)(h2:w.ownsRow base 202 5 W s.2.length (dv s.2))(O:dp (· = B) w w')(h3:zg w' B S U W) :
  jI base w' B S (U,s.2)/\Below base w w':=by
 obtain⟨p,hh,_⟩:=h1;have aa:∀k,W.ownBlock=y? k->k≠B:=λk Y e=>fc hh h2 d! (by rw[Y,e]);exact⟨⟨hb,ef hz O.size,W,h3,dG h2 (λk Y=>O.block k (h2.lt k Y).2 (aa k Y))⟩,⟨O.os,O.tape,O.output,O.size,λk Y=>O.block k o! o!⟩⟩
def qZ(base B)(S)(s)(n:Nat)(w)(h:jI base w B S s)(U:S.size<=1048576)(W:n<=16777216) :
  fa prog 205 #[p? (y? ⟨B,0,x?⟩),n? i? n] w λe w'=>e=e? (s? ⟨(gL n s.1).1.toArray⟩)/\jI base w' B S ((gL n s.1).2,s.2)/\Below base w w':=by
 obtain⟨hb,Y,vA,O,h2⟩:=h;refine(CI B S s.1 vA n w O U W).mono ?_;rintro e w' ⟨rfl,h3,hf,_⟩;exact⟨q?,jI.turn hb Y O h2 hf h3⟩
def kp(base B)(S)(s)(n:Nat)(w)(h:jI base w B S s)(U:S.size<=1048576)(W:n<=3) :
  fa prog 204 #[p? (y? ⟨B,0,x?⟩),n? i? n] w λe w'=>e=e? (n? i? (eH n s.1).1)/\jI base w' B S ((eH n s.1).2,s.2)/\Below base w w':=by
 obtain⟨hb,Y,vA,O,h2⟩:=h;refine(E0 B S s.1 vA n w O U W).mono ?_;rintro e w' ⟨rfl,h3,hf,_⟩;exact⟨q?,jI.turn hb Y O h2 hf h3⟩
def ox{s}(h:lV st<=lV s.1):gI (st,s.2)<=gI s:=by unfold gI;simp only;omega
def Lr:∀(n)(s),gI (l6 n s)<=gI s:=by
 intro n;induction n with
 |zero=>intro s;exact ee _|succ n O=>
  intro s;unfold l6;split;exact ee _
  next h=>exact ef (O _) (Fs h)
def MK{node:jg->jg}(O:∀s,gI (node s)<=gI s):∀(n)(s),gI (lR node n s)<=gI s:=by
 intro n;induction n with
 |zero=>intro s;exact ee _|succ n U=>intro s;unfold lR;split;exact ee _;exact ef (U _) (O _)
def CV:∀(f O)(s),gI (iz f O s)<=gI s:=by
 intro f;induction f with
 |zero=>intro O s;exact ox (eg _)|succ f U=>intro O s;unfold iz;simp only;have W:=xv s.1;have Y:=lA 3 (eV s.1).2;have h3:=lA 1 (eH 3 (eV s.1).2).2;have h4:=Lr (eH 1 (eH 3 (eV s.1).2).2).1 ((eH 1 (eH 3 (eV s.1).2).2).2,s.2);have h5:gI ((eH 1 (eH 3 (eV s.1).2).2).2,s.2)<=gI s:=ox o!;generalize l6 (eH 1 (eH 3 (eV s.1).2).2).1 ((eH 1 (eH 3 (eV s.1).2).2).2,s.2)=d at *;split;have:gI (x?,d.2)<=gI d:=ox (eg _);omega;have h6:=MK (U (O+1)) (eH 1 d.1).1 ((eH 1 d.1).2,d.2);have h7:gI ((eH 1 d.1).2,d.2)<=gI d:=ox (lA 1 d.1);omega
def oneG(s:jg):jg:=((eV s.1).2,s.2++[⟨(eV s.1).1,t?,[],0,0⟩])
def mq:Nat->jg->jg
 |0,s=>s|n+1,s=>if s.1=x? then s else mq n (oneG s)
def lD(O:Wd):Nat×jg:=((eH 1 (y? O)).1,iz 32 0 (mq (eH 1 (y? O)).1 ((eH 1 (y? O)).2,[])))
def zz(n)(A):mq n (x?,A)=(x?,A):=by cases n<;>simp[mq]
def SC:∀(n)(O)(A:List dD),match po n O with
  |some x=>mq n (y? O,A)=(y? x.2,A++x.1)
  |none=>(mq n (y? O,A)).1=x?:=by
 intro n;induction n with
 |zero=>intro O A;simp[po,mq]|succ n Y=>
  intro O A;have h0:mq (n+1) (y? O,A)=mq n (oneG (y? O,A)):=by simp[mq]
  rw[h0];unfold po oneG;rw[yO]
  cases h1:gC O with
  |none=>simp[zz]|some x=>
   simp only[d'];have U:=Y x.2 (A++[⟨x.1,t?,[],0,0⟩])
   cases W:po n x.2 with
   |none=>rw[W]at U;simpa using U|some v=>rw[W]at U;simpa using U
def A1(f deep)(A):(iz f deep (x?,A)).1=x?:=by
 cases f with
 |zero=>rfl|succ f=>unfold iz;simp only[WN,pH,mD];split;rfl;rw[nk]
def T7(W):match xw W with
  |some x=>lD W=(x.1,y? x.2.2,x.2.1)
  |none=>(lD W).2.1=x?:=by
 unfold xw lD;rw[tj]
 cases h1:rdNum W with
 |none=>simp only[dB];rw[zz];exact A1 _ _ _
 |some a=>
  simp only[d'];have O:=SC a.1 a.2 []
  cases Y:po a.1 a.2 with
  |none=>rw[Y]at O;simp only[dB];simp only at O;rw[show mq a.1 (y? a.2,[])=(x?,(mq a.1 (y? a.2,[])).2)from Prod.ext O rfl];exact A1 _ _ _
  |some b=>
   rw[Y]at O;simp only[c9]at O;simp only[d'];rw[O];have U:=Se 32 0 b.2 b.1
   cases h5:mV 32 0 b.2 with
   |none=>rw[h5]at U;simpa using U|some c=>rw[h5]at U;simp only at U;simp only[d'];rw[U]
def ML(h:s.1≠x?):gI (oneG s)<=gI s:=by have O:=zX h;unfold gI oneG;simp only[bx,cc,cP];omega
def E8(O):gf O=if 4000<O.length then x?
  else match (lD O).2.1 with
   |none=>x?
   |some r=>if r≠[]\/(lD O).2.2.length=0\/100<(lD O).1\/30<((lD O).2.2.length:Int)-(lD O).1 then x?
    else if ∀i,(h:i<(lD O).2.2.length)->nI (lD O).2.2 i (lD O).2.2[i]=t? then(if mL (lD O).2.2=O then y? (lD O).2.2 else x?)else x?:=by
 rw[<-Ju];unfold DQ;split;rfl;have h:=T7 O
 cases U:xw O with
 |none=>rw[U]at h;simp only at h;rw[h]|some x=>rw[U]at h;simp only at h;obtain⟨n,l,r⟩:=x;simp only at h;rw[h]
def WA(e:dD):Prop:=l? e.name<=255/\l? e.text<=255/\(0<=e.dn/\e.dn<=16777215)/\0<=e.dE/\e.dE<=255
def tT(s:jg):Prop:=∀e∈s.2,WA e
def uF(st):(eV st).1.length<=255:=by have O:=jv st;have U:=sZ (eH 1 st).1 (eH 1 st).2;unfold eV;omega
def ok_one(h:tT s):tT (zb s):=by
 intro e he;unfold zb at he;obtain O|O:=ch.1 he
 exact h e O;simp only[bz,dj,or_false]at O;subst O;have U:=qg 3 (eV (eV s.1).2).2 o!;have W:=jv (eH 3 (eV (eV s.1).2).2).2;exact⟨uF _,uF _,⟨by simp only;omega,by simp only;omega⟩,by simp only;omega,by simp only;omega⟩
def Sm(h:tT s):tT (oneG s):=by
 intro e he;unfold oneG at he;obtain O|O:=ch.1 he
 exact h e O;simp only[bz,dj,or_false]at O;subst O;exact⟨uF _,i!,⟨i!,i!⟩,i!,i!⟩
def R':∀(n)(s),tT s->tT (l6 n s):=by
 intro n;induction n with
 |zero=>intro s h;exact h|succ n O=>intro s h;unfold l6;split;exact h;exact O _ (ok_one h)
def Rm:∀(n)(s),tT s->tT (mq n s):=by
 intro n;induction n with
 |zero=>intro s h;exact h|succ n O=>intro s h;unfold mq;split;exact h;exact O _ (Sm h)
def QZ{node:jg->jg}(O:∀s,tT s->tT (node s)):∀(n)(s),tT s->tT (lR node n s):=by
 intro n;induction n with
 |zero=>intro s h;exact h|succ n U=>intro s h;unfold lR;split;exact h;exact U _ (O _ h)
def QP:∀(f O)(s),tT s->tT (iz f O s):=by
 intro f;induction f with
 |zero=>intro O s h;exact h|succ f W=>intro O s h;unfold iz;have U:tT (l6 (eH 1 (eH 3 (eV s.1).2).2).1 ((eH 1 (eH 3 (eV s.1).2).2).2,s.2)):=R' _ _ h;simp only;split;exact U;exact QZ (W (O+1)) _ _ U
def Uh(bs):tT (lD bs).2:=QP _ _ _ (Rm _ _ (λe O=>by simp at O))
def iu.Vl{w a n cap A}(h:iu w 5 (.slice a n cap) n (dv A))(k)(hk:k<=A.length)(hn:n=A.length):iu w 5 (.slice a k cap) k (dv (A.take k)):=by
 obtain⟨a',U,W,h1,h2,Y,h4⟩:=h;simp only[Value.slice.injEq]at W;obtain⟨rfl,_,rfl⟩:=W
 have e1:dv (A.take k)=(dv A).take (k*5):=by
  clear Y h4 hn;induction A generalizing k with
  |nil=>simp[dv]|cons e A ih=>
   cases k with
   |zero=>simp[dv]|succ k=>have:=ih k (by simpa using hk);simp only[dv,List.take_succ_cons,cK]at this⊢;rw[this,show(k+1)*5=k*5+5 by omega];simp[eo]
 refine⟨a,cap,rfl,by omega,h2,?_,λj u O=>?_⟩;rw[e1,cN,Y];omega;rw[e1,List.getElem?_take]at O;split at O;exact h4 j u O
 cases O
def Tk(base B:Nat)(S:ByteArray)(f:Nat):Prop:=∀(O:Nat)(s:jg)(w:w?),jI base w B S s->O+f=32->0<f->gI s<=100000->
  fa prog 206 #[p? (y? ⟨B,0,x?⟩),n? i? O] w λe w'=>e=e? (.tuple #[])/\jI base w' B S (iz f O s)/\Below base w w'
def Vt{w:w?}{x y z u v t g}(U:g=w.1.size):iu (w.alloc (c? #[x,y,z,u,v] t)) 5 (.slice (y? ⟨g,0,x?⟩) 1 1) 1 [x,y,z,u,v]:=by
 subst U;refine⟨y? _,1,q?,ee _,by unfold eC;omega,q?,λj u O=>⟨w.1.size,0,q?,?_⟩⟩;match j,O with
 |0,O=>simpa using O|1,O=>simpa using O|2,O=>simpa using O|3,O=>simpa using O|4,O=>simpa using O|j+5,O=>simp at O
def jI.bad{base w B S s}(h:jI base w B S s):w.cell? ⟨B,2,x?⟩=y? (.bool s.1.isNone):=by obtain⟨_,_,U,⟨p,O,_⟩,_⟩:=h;rw[dq O];rfl
def EQ(base B)(S)(hS:S.size<=1048576):∀f,Tk base B S f:=by
 intro f;induction f with
 |zero=>intro O s w _ _ h;omega|succ f ih=>
  intro O s w hA bW _ b7;have b8:gc (Tk base B S f):=ih;obtain⟨i5,b9,b',bA,bB⟩:=fm uZ;have al:=kp base B S s 1 w hA hS o!;have aW:=jv s.1;rcases hx1:eH 1 s.1 with⟨n1,t1⟩;rw[hx1]at al aW;simp only at al aW;clear ih hA;go_enter func206,ntmps206;go_wp2_with fail;refine al.mono ?_;rintro e w1 ⟨rfl,h1,aX⟩;have am:=qZ base B S (t1,s.2) n1 w1 h1 hS o!;rcases hx2:gL n1 t1 with⟨b2,t2⟩;rw[hx2]at am;simp only at am;have bC:gc (Below base w w1):=aX;clear al h1 aX;go_wp2_with fail;refine am.mono ?_;rintro e w2 ⟨rfl,h2,aY⟩;have an:=kp base B S (t2,s.2) 3 w2 h2 hS o!;rcases hx3:eH 3 t2 with⟨n3,t3⟩;rw[hx3]at an;simp only at an;have bD:gc (Below base w w2):=bC.trans aY;clear am h2 aY;go_wp2_with fail;refine an.mono ?_;rintro e w3 ⟨rfl,h3,ac⟩;have ao:=kp base B S (t3,s.2) 1 w3 h3 hS o!;have aZ:=jv t3;rcases hx4:eH 1 t3 with⟨n,t4⟩;rw[hx4]at ao aZ;simp only at ao aZ;have bE:gc (Below base w w3):=bD.trans ac;clear an h3 ac;go_wp2_with fail;refine ao.mono ?_;rintro e w4 ⟨rfl,h4,ba⟩;have HA4:gc (jI base w4 B S (t4,s.2)):=h4;have HB4:gc (Below base w w4):=bE.trans ba
  have HX:gc (eH 1 (eH 3 (eV s.1).2).2=(n,t4)):=by show _=_;unfold eV;rw[hx1];simp only;rw[hx2];simp only;rw[hx3];exact hx4
  clear ao h4 ba hx1 hx2 hx3 hx4;obtain⟨D,hD⟩:∃D,D=l6 n (t4,s.2):=⟨_,q?⟩;have HD:gc (D=l6 n (t4,s.2)):=hD
  have hrm:gI (t4,s.2)<=100000:=by have h1:=xv s.1;have h2:=lA 3 (eV s.1).2;have h3:=lA 1 (eH 3 (eV s.1).2).2;rw[HX.out]at h3;have h4:gI (t4,s.2)<=gI s:=ox (by simp only at h3;omega);omega
  clear hD;go_wp2_with fail;go_loopw [5] (λi wr=>∃(k:Nat)(s':jg),k<=n/\i=n? i? k/\l6 (n-k) s'=D/\jI base wr B S s'/\Below base w wr/\gI s'<=100000) (λi _=>n-(intOf i).toNat)
  case atStart=>exact⟨0,_,eg _,q?,HD.symm,HA4,HB4,hrm⟩
  case round=>
   obtain⟨k,s',hk,rfl,a0,ad,bc,hrS⟩:=hrel;have a2:=ad.bad;have aK:gc (l6 (n-k) s'=D):=a0;have ae:gc (Below base w wr):=bc;clear a0 bc;by_cases bX:k<n
   case' neg=>have bd:¬(k:Int)<(n:Int):=o!;have ap:D=s':=by rw[<-aK.out,(o!:n-k=0)];rfl
   case' pos=>
    have bd:(k:Int)<(n:Int):=o!;obtain⟨u0,A⟩:=s';cases u0
    case some r=>
     simp only[dN]at a2;have aq:=kp base B S ((y? r),A) 1 wr ad hS o!;have be:=qg 1 (y? r) o!;have bf:=jv (y? r);rcases hy0:eH 1 (y? r)with⟨a1,u1⟩;rw[hy0]at aq be bf;simp only at aq be bf;clear ad;go_wp2_with fail;refine aq.mono ?_;rintro e v1 ⟨rfl,af,a4⟩;have a8:gc (Below base w v1):=ae.trans a4;clear aq a4 ae;have ar:=qZ base B S (u1,A) a1 v1 af hS o!;rcases hy1:gL a1 u1 with⟨c2,u2⟩;rw[hy1]at ar;simp only at ar;clear af;go_wp2_with fail;refine ar.mono ?_;rintro e v2 ⟨rfl,bg,a9⟩;have a':gc (Below base w v2):=a8.trans a9;clear ar a9 a8;have au:=kp base B S (u2,A) 1 v2 bg hS o!;have bh:=qg 1 u2 o!;have bi:=jv u2;rcases hy2:eH 1 u2 with⟨a3,u3⟩;rw[hy2]at au bh bi;simp only at au bh bi;clear bg;go_wp2_with fail;refine au.mono ?_;rintro e v3 ⟨rfl,ag,aB⟩;have aC:gc (Below base w v3):=a'.trans aB;clear au aB a';have av:=qZ base B S (u3,A) a3 v3 ag hS o!;rcases hy3:gL a3 u3 with⟨c4,u4⟩;rw[hy3]at av;simp only at av;clear ag;go_wp2_with fail;refine av.mono ?_;rintro e v4 ⟨rfl,bj,aD⟩;have aE:gc (Below base w v4):=aC.trans aD;clear av aD aC;have aw:=kp base B S (u4,A) 3 v4 bj hS o!;have bk:=qg 3 u4 o!;rcases hy4:eH 3 u4 with⟨a5,u5⟩;rw[hy4]at aw bk;simp only at aw bk;clear bj;go_wp2_with fail;refine aw.mono ?_;rintro e v5 ⟨rfl,bl,aF⟩;have aG:gc (Below base w v5):=aE.trans aF;clear aw aF aE;have ax:=kp base B S (u5,A) 1 v5 bl hS o!;have bm:=qg 1 u5 o!;have bn:=jv u5;rcases hy5:eH 1 u5 with⟨a6,u6⟩;rw[hy5]at ax bm bn;simp only at ax bm bn;clear bl;go_wp2_with fail;refine ax.mono ?_;rintro e v6 ⟨rfl,aL,aH⟩;have bo:gc (Below base w v6):=aG.trans aH;clear ax aH aG
     have HY:gc (zb (y? r,A)=(u6,A++[⟨c2,f?,c4,(a5:Int),(a6:Int)⟩])):=by show zb _=_;unfold zb eV;simp only[hy0,hy1,hy2,hy3,hy4,hy5]
     have bY:gc (jI base v6 B S (u6,A)):=aL;obtain⟨q1,q2,vA,⟨pp,hh,bF,bp⟩,ah⟩:=id aL;obtain⟨aA,cA,rfl,bZ⟩:=dL ah;have bG:v6.cell? ⟨B,3,x?⟩=y? (.slice aA A.length cA):=by rw[dq hh];rfl
     have cb:l? A<=100000:=by unfold gI at hrS;simp only at hrS;omega
     have aM:gc (v6.ownsRow base 202 5 (.slice aA A.length cA) A.length (dv A)):=ah;have aN:gc (v6.1[B]?=y? (c? #[s? S,n? i? pp,.bool u6.isNone,.slice aA A.length cA] 259 (0,0))):=hh;have bH:gc (∀r',u6=y? r'->S.1.1.drop pp=r'):=bp;clear aL hh ah hy0 hy1 hy2 hy3 hy4 hy5 bp;go_wp2_with (at_builtin;go_must (refine gQ _ q? _ _ 75 q? base 202 i5 _ 5 56 underlying75 b9 b' bA bB q? d! _ _ _ q? (aM.alloc _) _ 1 (eo ⟨c2,f?,c4,(a5:Int),(a6:Int)⟩) q? ?cr ?c0 ?c1 ?c2 ?c3 ?_))
     case cr=>exact Vt rfl
     case c0=>intro u hu;simp[eo]at hu;obtain rfl|rfl|rfl|rfl|rfl:=hu<;>rfl
     case c1=>omega
     case c2=>unfold eC;omega
     case c3=>simp;omega
     intro v7 w7 aO Y _;obtain⟨a7,c7,rfl,cd⟩:=dL aO;have bI:B<v6.1.size:=(Array.getElem?_eq_some_iff.1 aN).1
     have ay:w7.1[B]?=y? (c? #[s? S,n? i? pp,.bool u6.isNone,.slice aA A.length cA] 259 (0,0)):=by rw[Y.block B j! (λe=>fc aN.out aM.out d! e.symm),gg _ _ _ bI];exact aN
     have bQ:w7.cell? ⟨B,3,x?⟩=y? (.slice aA A.length cA):=by rw[dq ay];rfl
     have bR:w7.frozen? ⟨B,3,x?⟩=f?:=dP ay 3;have bJ:gc (Below base w w7):=((bo.trans ((ge base v6).alloc q2 _))).trans ⟨Y.os,Y.tape,Y.output,Y.size,λj hj=>Y.block j j! (λe=>by have:=(aM.lt j e.symm).1;omega)⟩;have bq:gc (w7.1[B]?=y? (c? #[s? S,n? i? pp,.bool u6.isNone,.slice aA A.length cA] 259 (0,0))):=ay;have br:gc (w7.ownsRow base 202 5 (.slice a7 (l? A+1) c7) (l? A+1) (dv A++eo ⟨c2,f?,c4,(a5:Int),(a6:Int)⟩)):=aO;have ce:base<=w7.1.size:=by have:=Y.size;simp at this;omega
     clear aO Y ay bG;go_wp2;go_roundw
     case rel=>
      refine⟨k+1,zb (y? r,A),o!,by go_num,?_,?_,?_,ef (Fs i!) hrS⟩;have:=aK.out;rw[(o!:n-k=(n-(k+1))+1)]at this;simpa[l6]using this;rw[HY.out];refine⟨q1,by simp[ft];omega,.slice a7 (l? A+1) c7,⟨pp,by rw[heap_set bq.out];rfl,bF,bH⟩,?_⟩;have e1:dv (A++[⟨c2,f?,c4,(a5:Int),(a6:Int)⟩])=dv A++eo ⟨c2,f?,c4,(a5:Int),(a6:Int)⟩:=by simp[dv]
      simp only[e1,bx,cc,cP];exact dG br (λj hj=>gi _ _ _ _ (λe=>fc bq br d! (by rw[hj,e])));exact gj bJ q1 _
     case measure=>simp[intOf];omega
    simp only[dS]at a2;have ap:D=(x?,A):=by rw[<-aK.out,mD]
   all_goals
    have bs:gI D<=100000:=by rw[ap];exact hrS
    have aP:jI base wr B S D:=by rw[ap];exact ad
    clear ap ad;have cf:gc (jI base wr B S D):=aP;have az:=kp base B S D 1 wr aP hS o!;have bt:=jv D.1;rcases hx5:eH 1 D.1 with⟨W,t5⟩;rw[hx5]at az bt;simp only at az bt;have bu:gc (eH 1 D.1=(W,t5)):=hx5;clear hx5 aP;go_wp2_with fail;refine az.mono ?_;rintro e x1 ⟨rfl,af,aI⟩;have HB1':gc (Below base w x1):=ae.trans aI;have HT1:gc (jI base x1 B S (t5,D.2)):=af
    have aQ:gc (iz (f+1) O s=if 0<W/\30<O then(x?,D.2)else lR (iz f (O+1)) W (t5,D.2)):=by show iz _ _ _=_;unfold iz;simp only[HX.out,<-HD.out,bu.out]
    have hrD:gI (t5,D.2)<=100000:=by have h1:=lA 1 D.1;rw[bu.out]at h1;have h2:gI (t5,D.2)<=gI D:=ox h1;have h3:=bs;omega
    clear az aI af;by_cases bv:0<W
    .have bS:(0:Int)<(W:Int):=o!;by_cases bw:30<O
     .have bK:(30:Int)<(O:Int):=o!;obtain⟨b0,cg,bL,⟨bM,ai,b1,b3⟩,aa⟩:=id HT1;have bT:x1.cell? ⟨B,2,x?⟩=y? (.bool t5.isNone):=by rw[dq ai];rfl
      have bU:x1.frozen? ⟨B,2,x?⟩=f?:=dP ai 2
      have HF:gc (jI base (x1.setCell ⟨B,2,x?⟩ (.bool t?)) B S (x?,D.2)):=by refine⟨b0,by simp[ft];omega,bL,⟨bM,by rw[heap_set ai];rfl,b1,λr h=>by cases h⟩,?_⟩;exact dG aa (λj hj=>gi _ _ _ _ (λe=>fc ai aa d! (by rw[hj,e])))
      have bN:gc (Below base w (x1.setCell ⟨B,2,x?⟩ (.bool t?))):=gj HB1' b0 _;have U:gc (iz (f+1) O s=(x?,D.2)):=by show iz _ _ _=_;rw[aQ.out,if_pos ⟨bv,bw⟩]
      clear ai b3 aa;go_wp2_with fail;refine fi 1 ?_;rw[fk];go_wp2;go_end0;refine⟨q?,?_,bN⟩;rw[U.out];exact HF
     have bK:¬(30:Int)<(O:Int):=o!;obtain⟨G,hG⟩:∃G,G=lR (iz f (O+1)) W (t5,D.2):=⟨_,q?⟩;have HG:gc (G=lR (iz f (O+1)) W (t5,D.2)):=hG;have U:gc (iz (f+1) O s=G):=by show iz _ _ _=_;rw[aQ.out,if_neg (λh=>bw h.2),hG]
     have bO:0<f:=o!;clear hG;go_wp2_with fail;go_loopw [10] (λi wr=>∃(k:Nat)(s':jg),k<=W/\i=n? i? k/\lR (iz f (O+1)) (W-k) s'=G/\jI base wr B S s'/\Below base w wr/\gI s'<=100000) (λi _=>W-(intOf i).toNat)
     case atStart=>exact⟨0,_,eg _,q?,HG.symm,HT1,HB1',hrD⟩
     case round=>
      obtain⟨k,s',hk,rfl,aJ,ab,b4,b5⟩:=hrel;have aj:=ab.bad;have aR:gc (lR (iz f (O+1)) (W-k) s'=G):=aJ;have aS:gc (Below base w wr):=b4;clear aJ b4;by_cases bV:k<W
      .have aT:(k:Int)<(W:Int):=o!;obtain⟨u0,A⟩:=s'
       cases u0 with
       |none=>
        simp only[dS]at aj;have aU:gc (G=(x?,A)):=by show G=_;rw[<-aR.out,nk]
        have aV:gc (jI base wr B S (x?,A)):=ab;clear ab;go_wp2;go_end0;refine⟨q?,?_,aS⟩;rw[U.out,aU.out];exact aV
       |some r=>
        simp only[dN]at aj;have ak:=b8.out (O+1) (y? r,A) wr ab o! bO b5;have ci:IntKind.i64.wrap ((O:Int)+1)=((O+1:Nat):Int):=by simp only[g7];omega
        clear ab;go_wp2_with fail;refine ak.mono ?_;rintro e x3 ⟨rfl,ag,ac⟩;have bP:gc (jI base x3 B S (iz f (O+1) (y? r,A))):=ag;have b6:gc (Below base w x3):=aS.trans ac;clear ak ag ac;go_wp2;go_roundw
        case rel=>refine⟨k+1,iz f (O+1) (y? r,A),o!,by go_num,?_,bP,b6,ef (CV _ _ _) b5⟩;have:=aR.out;rw[(o!:W-k=(W-(k+1))+1)]at this;simpa[lR]using this
        case measure=>simp[intOf];omega
      have aT:¬(k:Int)<(W:Int):=o!;have aU:gc (G=s'):=by show G=_;rw[<-aR.out,(o!:W-k=0)];rfl
      have aV:gc (jI base wr B S s'):=ab;clear ab;go_wp2;go_end0;refine⟨q?,?_,aS⟩;rw[U.out,aU.out];exact aV
    obtain rfl:W=0:=o!;have U:gc (iz (f+1) O s=(t5,D.2)):=by show iz _ _ _=_;rw[aQ.out,if_neg (λh=>bv h.1)];rfl
    go_wp2_with fail;refine fi 1 ?_;rw[fk];go_wp2;go_end0;refine⟨q?,?_,HB1'⟩;rw[U.out];exact HT1
end
