import Derived.Test.YtocbogeoffeolaaGreatDoorComAI
set_option linter.all false
set_option maxHeartbeats 8000000
set_option maxRecDepth 1000000
open List renaming mem_map->av,mem_singleton->aw,map_append->ax,mem_append->ay,append_of_mem->az,nodup_append->a0,map_cons->a1,perm_middle->a5,mem_cons_self->a',filter_cons->aA,nodup_cons->aB,mem_filter->aC,find?_cons->aD,length_filter_le->aE,mem_cons_of_mem->aF,map_congr_left->aG,filter_eq_self->aH,length_append->aI,find?_eq_none->aJ,filter_append->aK,find?_append->aL,length_map->aM,mem_cons->aN,map_id->aO
open Go renaming wpList->aP,keyOf->aQ,wpList_plain->aR,TypeId->aS,maxLen->aT,execOp->aU
open Prod renaming fst->aV,snd->aW
open List.Perm renaming append_left->aX,cons_inv->aY
open Option.some renaming injEq->aZ,inj->ba
open Go.Result renaming andThen->bc
open Go renaming undef->bd
open And renaming intro->A?
open Bool renaming false->f?,true->t?
open Go renaming Program->P?,Value->v?,World->w?
open Go.IntKind renaming i64->i?
open Go.Item renaming inRegion->r?
open Go.Obj renaming cells->c?
open Go.Value renaming int->n?,pointer->p?,string->s?
open List renaming length->l?,toArray->a?
open Option renaming none->x?,some->y?
namespace Go.Proofs.YtocbogeoffeolaaGreatDoor
open Go.Proofs.Tryz
section
open Go.RowKit Go.Maps
variable {kl:Lit} {r:Nat} {e t:aS} {key:v?} {w':w?}
structure Gi(P:P?)(k:aS)(D:DataW v?)(l:List (v?×v?)):Prop where
 nodup:(l.map aV).Nodup
 ok:∀p∈l,∃kl,aQ P k p.1=some kl
 size:Maps.size D=l? l
 has:∀key kl,aQ P k key=some kl->(Maps.has D kl=true↔∃p∈l,p.1=key)
 at_:∀p∈l,∀kl,aQ P k p.1=some kl->∀z,D.atKey kl z=.held p.2
def jT(P:P?)(k:aS)(w:w?)(B:Nat)(l:List (v?×v?)):Prop:=∃D:DataW v?,w.ownsMap P k my B l.length D/\Gi P k D l
def gZ(P:P?)(k:aS)(w:w?)(B r:Nat)(l rest:List (v?×v?)):Prop:=
 (rest.map aV).Nodup/\(∀p∈rest,p∈l)/\∃D left cnt,w.ranges P k my B r l.length D left cnt/\Gi P k D l/\∀key kl,aQ P k key=y? kl->(left kl=t?↔∃p∈rest,p.1=key)
section
variable {P:P?} {k:aS} {w:w?} {B:Nat} {l:List (v?×v?)}
def Gi.perm{D m}(h:Gi P k D l)(O:l.Perm m):Gi P k D m where
 nodup:=(O.map aV).nodup_iff.1 h.nodup
 ok:=λp hm=>h.ok p (O.mem_iff.2 hm);size:=by rw[h.size,O.length_eq]
 has:=λkey kl U=>(h.has key kl U).trans ⟨λ⟨p,a,b⟩=>⟨p,O.mem_iff.1 a,b⟩,λ⟨p,a,b⟩=>⟨p,O.mem_iff.2 a,b⟩⟩;at_:=λp hm=>h.at_ p (O.mem_iff.2 hm)
def jT.perm{m}(h:jT P k w B l)(O:l.Perm m):jT P k w B m:=by obtain⟨D,U,W⟩:=h;exact⟨D,by rw[<-O.length_eq];exact U,W.perm O⟩
def jT.lt(h:jT P k w B l):B<w.1.size:=by obtain⟨D,O,_⟩:=h;exact O.lt
def jT.stay(h:jT P k w B l)(hb:w'.1[B]?=w.1[B]?):jT P k w' B l:=by obtain⟨D,⟨es,clock,O,U⟩,W⟩:=h;exact⟨D,⟨es,clock,hb.trans O,U⟩,W⟩
def jT.below(h:jT P k w B l)(hb:B? w w'):jT P k w' B l:=h.stay (hb.block B h.lt)
def jT.made(w:w?):jT P k (w.alloc (.map #[] 0)) w.1.size []:=
 ⟨.map [],World.ownsMap_made ..,⟨List.Pairwise.nil,nofun,q?,λ_ _ _=>⟨λh=>(by simp[Maps.has]at h),nofun⟩,nofun⟩⟩
def jT.put(h:jT P k w B l)(K:Keyed P k)(ht:P.underlying t=y? (.map k e))(hn:l? l<aT)(jN:aQ P k key=y? kl)(O:∀p∈l,p.1≠key)(v) :
  ∃w',(Instr.mapUpdate t (.map (y? B)) key v).run P w=.ok () w'/\jT P k w' B (l++[(key,v)])/\w.grownBy w' (y? B)/\w'.1.size=w.1.size:=by
 obtain⟨D,h1,Y⟩:=h;obtain⟨w',hr,ho,aa⟩:=h1.store K ht hn jN (d:=.held v) (ps:=[]) (val:=v) rfl;have hT:=h1.tidy K
 have ad:Maps.has D kl=f?:=by
  cases hh:Maps.has D kl with
  |false=>rfl|true=>obtain⟨p,U,e⟩:=(Y.has key kl jN).1 hh;exact absurd e (O p U)
 have ab:Maps.size (D.put kl (.held v))=(l++[(key,v)]).length:=by rw[size_put hT,ad,Y.size];simp
 refine⟨w',hr,⟨_,by rw[<-ab];exact Ao ho,⟨?_,?_,ab,?_,?_⟩⟩,aa.grown,?_⟩;rw[ax,a1,List.map_nil,a0];refine⟨Y.nodup,i!,?_⟩;intro a ha b hb;simp only[aw]at hb;subst hb;obtain⟨p,U,rfl⟩:=av.1 ha;exact O p U;intro p U;obtain h|h:=ay.1 U
 exact Y.ok p h;simp only[aw]at h;subst h;exact⟨kl,jN⟩;intro y ly hy;by_cases e:ly=kl;subst e;rw[has_put_same h1.isMap (K.key jN)];exact⟨λ_=>⟨(key,v),i!,K.inj jN hy⟩,λ_=>rfl⟩;rw[has_put_other e,Y.has y ly hy];constructor;rintro⟨p,U,e⟩;exact⟨p,List.mem_append_left _ U,e⟩;rintro⟨p,U,e2⟩;obtain h|h:=ay.1 U
 exact⟨p,h,e2⟩;simp only[aw]at h;subst h;rw[<-e2,jN]at hy;exact absurd (u! hy.symm) e;intro p U lp W z;obtain h|h:=ay.1 U
 have ae:lp≠kl:=λe=>by subst e;exact O p h (K.inj W jN)
 rw[atKey_put_other ae];exact Y.at_ p h lp W z;simp only[aw]at h;subst h;rw[jN]at W;simp only[aZ]at W;subst W;rw[atKey_put_same h1.isMap (K.key jN)];obtain⟨es,clock,af,ac,_,rfl⟩:=aa;simp[ChangeMaps.setBlock]
def gZ.owns{rest}(h:gZ P k w B r l rest):jT P k w B l:=by obtain⟨_,_,D,left,cnt,O,U,_⟩:=h;exact⟨D,O.owns,U⟩
def gZ.lt{rest}(h:gZ P k w B r l rest):r<w.1.size:=by obtain⟨_,_,D,left,cnt,O,U,_⟩:=h;exact O.lt
def gZ.stay{rest}(h:gZ P k w B r l rest)(U:w'.1[B]?=w.1[B]?)(W:w'.1[r]?=w.1[r]?):gZ P k w' B r l rest:=by obtain⟨a,b,D,left,cnt,⟨es,clock,O,seen,c0,Y,g2,g3,g4,g5,g6⟩,h2,h3⟩:=h;exact⟨a,b,D,left,cnt,⟨es,clock,O,seen,c0,U.trans Y,g2,g3,g4,W.trans g5,g6⟩,h2,h3⟩
def jT.range(h:jT P k w B l)(K:Keyed P k)(U:P.underlying t=y? (.map k e)) :
  ∃w',(Instr.range t (.map (y? B))).run P w=.ok (p? (y? ⟨w.1.size,0,x?⟩)) w'/\gZ P k w' B w.1.size l l/\w.grownBy w' x?/\w'.1.size=w.1.size+1:=by
 obtain⟨D,W,O⟩:=h;obtain⟨w',Y,r1,r2,r3⟩:=W.range K U;exact⟨w',Y,⟨O.nodup,λ_ h=>h,D,_,_,r1,O,O.has⟩,r2,r3⟩
def gZ.next{rest}(h:gZ P k w B r l rest)(K:Keyed P k)(ty) :
  (rest=[]/\(Instr.next (p? (y? ⟨r,0,x?⟩)) f? ty).run P w=.ok (.tuple #[.bool f?]) w)\/
  ∃p O w',rest.Perm (p::O)/\(Instr.next (p? (y? ⟨r,0,x?⟩)) f? ty).run P w=.ok (.tuple #[.bool t?,p.1,p.2]) w'/\gZ P k w' B r l O/\w'.rangeLeft B r<w.rangeLeft B r/\
   w.grownBy w' (y? r)/\w'.1.size=w.1.size/\(Instr.entry (p? (y? ⟨r,0,x?⟩))).run P w'=.ok (.tuple #[p.1,p.2]) w':=by
 obtain⟨hn,U,D,left,cnt,h1,h2,h3⟩:=h;obtain⟨_,hl,hr⟩|⟨key,v,kl,y,w',ab,jN,ag,hv,ah,hr,ac,ai,hg,hs,aj⟩:=h1.next K ty
 left;refine⟨?_,hr⟩
 cases rest with
 |nil=>rfl|cons p rest=>obtain⟨kl,ak⟩:=h2.ok p (U p i!);have:=(h3 _ kl ak).2 ⟨p,i!,q?⟩;rw[hl kl]at this;cases this
 right;obtain⟨p,hp,al⟩:=(h3 key kl jN).1 ag;subst al
 have am:=by have e1:=h2.at_ p (U p hp) kl jN (.held v);rw[ah]at e1;simp only[my,aZ]at hv;rw[<-hv]at e1;simpa using e1
 subst am;obtain⟨x,z,rfl⟩:=az hp;have W:(x++p::z).Perm _:=a5;have aa:=(W.map _).nodup_iff.1 hn;rw[a1,aB]at aa;refine⟨p,x++z,w',W,hr,⟨aa.2,λq hq=>U q (W.mem_iff.2 (aF _ hq)),D,_,ab,ac,h2,λad ae Y=>?_⟩,?_,hg,hs,aj⟩;rw[Bool.and_eq_true,h3 ad ae Y];constructor;rintro⟨⟨q,hq,e⟩,af⟩;obtain rfl|hq:=aN.1 (W.mem_iff.1 hq)
 rw[e,Y]at jN;simp only[aZ]at jN;subst jN;rw[WideAt.sameKey_self (K.key Y)]at af;cases af;exact⟨q,hq,e⟩;rintro⟨q,hq,e⟩;refine⟨⟨q,W.mem_iff.2 (aF _ hq),e⟩,?_⟩
 have:ae≠kl:=λe2=>by subst e2;have:=K.inj Y jN;exact aa.1 (av.2 ⟨q,hq,e.trans this⟩)
 rw[sameKey_ne this];rfl;rw[ac.left_eq,h1.left_eq];exact ai
end
section
variable {P:P?} {k:aS} {B:Nat} {l:List (v?×v?)} (w:w?) {ops:Array Oper} {rest:List Oper} {o:Oper} {a:Act} {Q:Exit->Act->w?->Prop}
def Bm(Y:o.guard=x?)(m)(t)(U:o.op=Op.range t m)(e)(K:Keyed P k)(ht:P.underlying t=y? (.map k e))
  (hm:a.eval m=.map (y? B)) (h:jT P k w B l)
  (hK:∀w',gZ P k w' B w.1.size l l->w.grownBy w' x?->w'.1.size=w.1.size+1->aP P ops Q rest (a.put o.dst (p? (y? ⟨w.1.size,0,x?⟩))) w') :
  aP P ops Q (o::rest) a w:=by
 refine aR Y λK' W=>?_;obtain⟨w',O,r1,r2,r3⟩:=h.range K ht;unfold Oper.wp;simp[aU,U,hm,O,bc];exact W _ _ (hK w' r1 r2 r3)
def DG(hg:o.guard=x?)(it)(Y:o.op=Op.next it f?)(K:Keyed P k)(r)(left)
  (aa:a.eval it=p? (y? ⟨r,0,x?⟩)) (h:gZ P k w B r l left)
  (W:left=[]->aP P ops Q rest (a.put o.dst (.tuple #[.bool f?])) w)
  (hMore:∀p O w',left.Perm (p::O)->gZ P k w' B r l O->w'.rangeLeft B r<w.rangeLeft B r->w.grownBy w' (y? r)->w'.1.size=w.1.size->(Instr.entry (p? (y? ⟨r,0,x?⟩))).run P w'=.ok (.tuple #[p.1,p.2]) w'->
    aP P ops Q rest (a.put o.dst (.tuple #[.bool t?,p.1,p.2])) w') :
  aP P ops Q (o::rest) a w:=by
 refine aR hg λK' ab=>?_;unfold Oper.wp;obtain⟨h0,U⟩|⟨p,O,w',hp,U,ac,ad,ae,af,ag⟩:=h.next K o.type
 simp[aU,Y,aa,U,bc];exact ab _ _ (W h0);simp[aU,Y,aa,U,bc];exact ab _ _ (hMore p O w' hp ac ad ae af ag)
def FG(hg:o.guard=x?)(m x v)(t)(W:o.op=Op.mapUpdate t m x v)(e)(K:Keyed P k)(ht:P.underlying t=y? (.map k e))
  (hm:a.eval m=.map (y? B)) (h:jT P k w B l) (hn:l? l<aT) (jN:aQ P k key=y? kl) (O:∀p∈l,p.1≠key) (hx:a.eval x=key) (u) (hv:a.eval v=u)
  (hK:∀w',jT P k w' B (l++[(key,u)])->w.grownBy w' (y? B)->w'.1.size=w.1.size->aP P ops Q rest (a.put o.dst bd) w') :
  aP P ops Q (o::rest) a w:=by
 refine aR hg λK' Y=>?_;obtain⟨w',U,r1,r2,r3⟩:=h.put K ht hn jN O u;unfold Oper.wp;simp[aU,W,hm,hx,hv,U,bc];exact Y _ _ (hK w' r1 r2 r3)
end
def QK(a b:Nat):v?:=.agg #[n? i? (a:Int),n? i? (b:Int)]
def U3:(match prog.underlying 170 with|some (.array _ _)|some (.struct _)=>t?|_=>f?)=t?:=by rw[underlying170]
def V8:170<prog.types.size:=of_decide_eq_true k!
def Dm:Keyed prog 170:=Keyed.of_law (deep_law_laid Tryz.zG (m:=2) o! V8 k! U3)
def Lg:prog.cellsOf 170=2:=by kernel_rfl
def O1:prog.cellsOf 3=1:=by kernel_rfl
def M3:prog.keyType 170=t?:=by kernel_rfl
def FZ(d)(n:Nat)(O:n<4611686018427387904):prog.keyLits (d+1) 3 [.int i? n]=y? [.int i? n]:=by unfold Program.keyLits;simp[underlying3,Lit.wf,IntKind.min,IntKind.max,IntKind.bits,IntKind.signed];omega
def Uu(a b)(O:a<4611686018427387904)(hb:b<4611686018427387904):∃l,aQ prog 170 (QK a b)=y? l:=by
 obtain⟨d,U⟩:=SJ;unfold aQ QK;rw[M3,U];have W:(Value.agg #[.int i? a,.int i? b]).formed prog 170=t?:=by simp[Value.formed,underlying170,Lg]
 rw[W];unfold Program.keyLits;simp[underlying170,Lg,O1,Value.cells,FZ d a O,FZ d b hb]
open Go.Conc
variable {vs:List v?} {k':Nat} {a:Option (List v?)} {v:v?} {w2:w?}
abbrev Vs:=List (Nat×Option (List v?))
def tS(V:Vs):List v?:=V.flatMap λx=>x.2.getD []
def JH{X Y:Vs}(h:((X++(r,a)::Y).map aV).Nodup):tR (X++(r,a)::Y) r vs=X++(r,y? vs)::Y:=by
 rw[ax,a1,a0,aB]at h;obtain⟨h1,⟨U,h3⟩,W⟩:=h;unfold tR;rw[ax,a1,if_pos rfl];congr 1
 conv=>rhs;rw[<-aO X]
 refine aG λx O=>?_;rw[if_neg λe=>W _ (av.2 ⟨x,O,q?⟩) r i! e];rfl;congr 1;conv=>rhs;rw[<-aO Y]
 refine aG λx O=>?_;rw[if_neg λe=>U (av.2 ⟨x,O,e⟩)];rfl
def H8{X Y:Vs}(h:((X++(r,a)::Y).map aV).Nodup):vI (X++(r,a)::Y) r=X++Y:=by rw[ax,a1,a0,aB]at h;obtain⟨h1,⟨U,h3⟩,W⟩:=h;unfold vI;rw[aK,aA,if_neg i!];congr 1;rw[aH];intro x O;simpa using λe=>W _ (av.2 ⟨x,O,q?⟩) r i! e;rw[aH];intro x O;simpa using λe=>U (av.2 ⟨x,O,e⟩)
def tc{V}(U:(V.map aV).Nodup)(h:(r,y? (v::vs))∈V):(tS V).Perm (v::tS (tR V r vs))/\(tR V r vs).length=l? V/\(tR V r vs).map aV=V.map aV/\∀x∈tR V r vs,x∈V\/x=(r,y? vs):=by
 obtain⟨X,Y,rfl⟩:=az h;rw[JH U];refine⟨?_,i!,i!,?_⟩;unfold tS;simp only[List.flatMap_append,List.flatMap_cons,Option.getD_some,List.cons_append];exact a5;intro x O;simp only[ay,aN]at O⊢;obtain h|h|h:=O
 exact .inl (.inl h);exact .inr h;exact .inl (.inr (.inr h))
def Ab{V}(U:(V.map aV).Nodup)(h:(r,y? [])∈V):(tS V).Perm (tS (vI V r))/\(vI V r).length+1=l? V/\((vI V r).map aV).Nodup/\∀x∈vI V r,x∈V/\x.1≠r:=by obtain⟨X,Y,rfl⟩:=az h;have O:=H8 U;refine⟨?_,?_,?_,?_⟩;rw[O];unfold tS;simp;rw[O];simp;omega;rw[O];refine U.sublist (List.Sublist.map _ ?_);exact List.Sublist.append_left (List.sublist_cons_self ..) X;intro x W;have:=aC.1 W;exact⟨this.1,u! this.2⟩
def Met(v:v?):Prop:=∃(a b:Nat)(c:ByteArray)(d:Bool)(e f:ByteArray)(g h:Int),a<4611686018427387904/\b<4611686018427387904/\v=.agg #[n? i? (a:Int),n? i? (b:Int),s? c,.bool d,s? e,s? f,n? i? g,n? i? h]
def Met.VX(h:Met v):Qt v:=by obtain⟨a,b,c,d,e,f,g,h,_,_,rfl⟩:=h;exact⟨a,b,c,d,e,f,g,h,q?⟩
def NP:v?->v?
 |.agg a=>.agg #[a.getD 0 bd,a.getD 1 bd]|v=>v
def Met.kz(h:Met v):∃kl,aQ prog 170 (NP v)=y? kl:=by obtain⟨a,b,c,d,e,f,g,h,O,hb,rfl⟩:=h;exact Uu a b O hb
structure u9(M0:List v?)(H0:Array Obj)(P0:Os)(b mb:Nat)(cl:Nat->Option Nat)(l:List (v?×v?))(V:Vs)(wl:w?):Prop where
 hb:wl.1[b]?=some (.cells (nT cl) 125 (0,0))
 Bl:b<mb
 hm:jT prog 170 wl mb l
 lg:∀k r,k<7->cl k=some r->∃vs,(r,some vs)∈V
 fl:∀x∈V,∃k vs,k<7/\cl k=some x.1/\x.2=some vs
 tJ:∀k k' r,k<7->k'<7->cl k=some r->cl k'=some r->k=k'
 gH:(V.map aV).Nodup
 fA:(l.map aW++tS V).Perm M0
 jN:∀p∈l,p.1=NP p.2
 old:∀r,r<mb->r≠b->wl.1[r]?=H0[r]?
 os:wl.os=P0
structure O8(M0:List v?):Prop where
 met:∀v∈M0,Met v
 nodup:(M0.map NP).Nodup
 len:l? M0<aT
variable {M0:List v?} {H0:Array Obj} {P0:Os} {b mb:Nat} {cl:Nat->Option Nat} {l:List (v?×v?)} {V:Vs} {wl:w?}
def u9.h8(G:O8 M0)(I:u9 M0 H0 P0 b mb cl l V wl):∀r vs,(r,y? vs)∈V->∀v∈vs,Met v:=λr vs h v O=>G.met v (I.fA.mem_iff.1 (List.mem_append_right _ (List.mem_flatMap.2 ⟨_,h,O⟩)))
def u9.UM(I:u9 M0 H0 P0 b mb cl l V wl)(h:V≠[]):∃k r,k<7/\cl k=y? r:=by
 cases V with
 |nil=>exact absurd q? h|cons x V=>obtain⟨k,vs,O,U,_⟩:=I.fl x i!;exact⟨k,x.1,O,U⟩
def u9.fresh(G:O8 M0)(I:u9 M0 H0 P0 b mb cl l V wl)(h:(r,y? (v::vs))∈V):(∀p∈l,p.1≠NP v)/\l? l<aT:=by obtain⟨W,_⟩:=tc I.gH h;have U:=((I.fA.symm.trans (aX _ W)).map NP).nodup_iff.1 G.nodup;constructor;intro p O e;rw[ax,a0]at U;exact U.2.2 _ (av.2 ⟨p.2,av.2 ⟨p,O,q?⟩,q?⟩) _ i! ((I.jN p O).symm.trans e);have:=I.fA.length_eq;have Y:=G.len;simp only[aI,aM]at this;omega
def u9.take(I:u9 M0 H0 P0 b mb cl l V wl)(h:(r,y? (v::vs))∈V)(hm:jT prog 170 w2 mb (l++[(NP v,v)]))(hold:∀r,r<mb->w2.1[r]?=wl.1[r]?)(aa:w2.os=wl.os) :
  u9 M0 H0 P0 b mb cl (l++[(NP v,v)]) (tR V r vs) w2:=by
 obtain⟨hp,h1,h2,h3⟩:=tc I.gH h
 have O:∀r' vs',(r',y? vs')∈V->∃U,(r',y? U)∈tR V r vs:=λr' vs' W=>by by_cases e:r'=r;subst e;exact⟨vs,av.2 ⟨_,h,if_pos q?⟩⟩;exact⟨vs',av.2 ⟨_,W,if_neg e⟩⟩
 refine⟨(hold b I.Bl).trans I.hb,I.Bl,hm,λk r' hk hr=>?_,λx hx=>?_,I.tJ,by rw[h2];exact I.gH,?_,?_,λr' Y ab=>(hold r' Y).trans (I.old r' Y ab),aa.trans I.os⟩;obtain⟨vs',W⟩:=I.lg k r' hk hr;exact O r' vs' W;obtain W|rfl:=h3 x hx
 exact I.fl x W;obtain⟨k,vs',a,b,_⟩:=I.fl _ h;exact⟨k,vs,a,b,q?⟩;refine List.Perm.trans ?_ I.fA;rw[ax,List.append_assoc];exact aX _ hp.symm;intro p hp;obtain h|h:=ay.1 hp
 exact I.jN p h;simp only[aw]at h;subst h;rfl
def xS(cl:Nat->Option Nat)(k':Nat):Nat->Option Nat:=λk=>if k=k' then x? else cl k
def SX(h:k'<7):(nT cl).set! k' (.chan x?)=nT (xS cl k'):=by rcases(o!:k'=0\/k'=1\/k'=2\/k'=3\/k'=4\/k'=5\/k'=6)with rfl|rfl|rfl|rfl|rfl|rfl|rfl<;>rfl
def u9.ends(I:u9 M0 H0 P0 b mb cl l V wl)(aa:k'<7)(hr:cl k'=y? r)(h:(r,y? [])∈V)(hb:w2.1[b]?=y? (c? (nT (xS cl k')) 125 (0,0)))(hm:jT prog 170 w2 mb l)(hold:∀r,r<mb->r≠b->w2.1[r]?=wl.1[r]?)(ab:w2.os=wl.os) :
  u9 M0 H0 P0 b mb (xS cl k') l (vI V r) w2:=by
 obtain⟨hp,h1,h2,h3⟩:=Ab I.gH h
 have U:∀k r',xS cl k' k=y? r'->k≠k'/\cl k=y? r':=λk r' e=>by
  unfold xS at e;split at e
  cases e;exact⟨a!,e⟩
 refine⟨hb,I.Bl,hm,λk W hk e=>?_,λx hx=>?_,λk k2 W a b e1 e2=>I.tJ k k2 W a b (U _ _ e1).2 (U _ _ e2).2,h2,?_,I.jN,λr' Y O=>(hold r' Y O).trans (I.old r' Y O),ab.trans I.os⟩;obtain⟨O,e⟩:=U _ _ e;obtain⟨vs,h'⟩:=I.lg k W hk e;have:W≠r:=λe2=>O (I.tJ k k' W hk aa e (e2▸hr));exact⟨vs,aC.2 ⟨h',u! this⟩⟩;obtain⟨ac,O⟩:=h3 x hx;obtain⟨k,vs,a,b,c⟩:=I.fl x ac;refine⟨k,vs,a,?_,c⟩;have:k≠k':=λe=>O (by rw[e,hr]at b;exact(ba b).symm);unfold xS;rw[if_neg this];exact b;exact(aX _ hp.symm).trans I.fA
variable {ops:Array Oper} {d:Code} {n:Int} {kk:List Item} {rest:List Nat} {o:Oper} {a10 a11 a12 a15 a16 a17 a18 a19 a2 a20 a21 a22 a23 a24 a25 a26 a27 a28 a29 a3 a4 a6 a7 a8 a9:v?}
def Gz(c:Code):Code:=match c with
 |.seq _ (.seq _ (.seq (.block _ (.loop x)) _))=>x|_=>.skip
def Vv(c:Code):Code:=match c with
 |.seq _ (.seq _ (.seq _ y))=>y|_=>.skip
def MF:f123.name≠ "runtime.NumGoroutine":=by decide
section
variable {P:P?} {E:Env P} {fn:FuncId} {tm:Array v?} {os:List OF} {wl:w?} {V:List (Nat×Option (List v?))} {k:List Item}
def qk{x}(h:∀kk,Hid (kk=k)->dk E (⟨fn,tm,x::kk⟩::os) wl V):dk E (⟨fn,tm,x::k⟩::os) wl V:=h k rfl
def dk.sc{c}(h:∀kk,Hid (kk=.code d::k)->dk E (⟨fn,tm,.code c::kk⟩::os) wl V):dk E (⟨fn,tm,.code (.seq c d)::k⟩::os) wl V:=dk.seq (h _ q?)
def dk.sr{id}(h:∀kk,Hid (kk=.code d::k)->dk E (⟨fn,tm,r? ops (List.range ops.size)::kk⟩::os) wl V):dk E (⟨fn,tm,.code (.seq (.region id ops f?) d)::k⟩::os) wl V:=dk.seq (dk.region (h _ q?))
def dk.ie(O:Hid (kk=k))(h:dk E (⟨fn,tm,k⟩::os) wl V):dk E (⟨fn,tm,r? ops []::kk⟩::os) wl V:=by rw[O.out];exact dk.inRegion h
def dk.sS{i f iD c xs ts}(ys)(W:ops[i]?=y? o)(O:Region.wanted o (yielded ops tm)=t?)(Y:P.funcs[f]?=y? iD)(hb:iD.body=y? c)(hn:iD.name≠ "runtime.NumGoroutine") (ho:o.op=.call {callee:=.value (.func f),args:=xs,argTypes:=ts}) (U:∀x∈xs.toList,e9 E.gE E.gl x)
  (ha:xs.map (kE tm)++Array.replicate (iD.ntmps-xs.size) bd=ys) (h:dk E (⟨f,ys,[.code c]⟩::⟨fn,tm,r? ops (i::rest)::k⟩::os) wl V):dk E (⟨fn,tm,r? ops (i::rest)::k⟩::os) wl V:=
 dk.outer W O Y hb hn ho U (by rw[ha];exact h)
end
section
variable {Z:mE prog} {w:w?} {T:List Frame} {dd q K:Nat} {lent:Bool} {fn:FuncId} {tm:Array v?} {os:List OF} {k:List Item} {M0:List v?} {H0:Array Obj} {P0:Os} {b mb:Nat}
def T6(Z:mE prog)(w:w?)(T:List Frame)(dd q K:Nat)(lent:Bool)(M0:List v?)(H0:Array Obj)(P0:Os)(b mb:Nat)(f:v?->List OF):Prop:=∀(w2:w?)(l:List (v?×v?)),(l.map aW).Perm M0->(∀p∈l,p.1=NP p.2)->jT prog 170 w2 mb l->(∀r,r<mb->r≠b->w2.1[r]?=H0[r]?)->w2.os=P0->dk (oe prog Z w T dd q K lent) (f (.map (y? mb))) w2 []
def WG(c:Code):Array Oper:=match c with
 |.seq _ (.block _ (.seq (.region _ ops _) _))=>ops|_=>#[]
def zu{yz}{V:Vs}{wl:w?}{os' s k' v0 v1 v2 v3 v4 v5 v6 v7}(z:wl.1.size=s)
  (hn:∀w2:w?,w2.1.size=s+1->(∀r,r<s->w2.1[r]?=wl.1[r]?)->w2.1[s]?=y? (c? #[n? i? v0,n? i? v1,s? v2,.bool v3,s? v4,s? v5,n? i? v6,n? i? v7] 172 (0,0))->w2.os=wl.os->dk (oe prog Z w T dd q K lent) (⟨82,#[p? (y? ⟨b,0,x?⟩),n? i? n,a2,a3,a4,.map (y? mb),n? i? k',p? (y? ⟨s,0,x?⟩),.bool yz,a9,a10,a11,.tuple #[n? i? k',.agg #[n? i? v0,n? i? v1,s? v2,.bool v3,s? v4,s? v5,n? i? v6,n? i? v7],.bool yz],p? (y? ⟨b,0,x?⟩),.tuple #[n? i? k',.agg #[n? i? v0,n? i? v1,s? v2,.bool v3,s? v4,s? v5,n? i? v6,n? i? v7],.bool yz],n? i? k',.agg #[n? i? v0,n? i? v1,s? v2,.bool v3,s? v4,s? v5,n? i? v6,n? i? v7],.bool yz,a18,a19,a20,a21,a22,a23,a24,a25,a26,a27,a28,a29],kk⟩::os') w2 V) :
  dk (oe prog Z w T dd q K lent) (⟨82,#[p? (y? ⟨b,0,x?⟩),n? i? n,a2,a3,a4,.map (y? mb),a6,a7,a8,a9,a10,a11,a12,p? (y? ⟨b,0,x?⟩),.tuple #[n? i? k',.agg #[n? i? v0,n? i? v1,s? v2,.bool v3,s? v4,s? v5,n? i? v6,n? i? v7],.bool yz],a15,a16,a17,a18,a19,a20,a21,a22,a23,a24,a25,a26,a27,a28,a29],r? (WG (Gz (eD f82))) [2,3,4,5,6,7,8,9]::kk⟩::os') wl V:=by
 have HN:Hid _:=hn;clear hn;have HZ:Hid _:=z;clear z;show dk _ (⟨_,_,r? #[_,_,_,_,_,_,_,_,_,_] _::_⟩::_) _ _
 (iterate 4 (refine fG ?_;go_simp));refine pn q? l! k! λy0 W O=>?_;have HY:Hid (y0.1=wl.1/\y0.os=wl.os):=⟨W,O⟩;clear W O;unfold fL;go_simp;simp only[iJ];obtain⟨W,O⟩:=HY.out;obtain⟨w5,Y⟩:∃w5,w5=y0.alloc (c? #[n? i? 0,n? i? 0,s? ⟨#[]⟩,.bool f?,s? ⟨#[]⟩,s? ⟨#[]⟩,n? i? 0,n? i? 0] 172):=⟨_,q?⟩;have aa:y0.1.size=s:=by rw[W];exact HZ
 have z5:w5.1.size=s+1:=by rw[Y];simp[aa]
 have o5:∀r,r<s->w5.1[r]?=wl.1[r]?:=λr hr=>by rw[Y,jL _ _ (by rw[aa];exact hr),W]
 have g5:w5.1[s]?=y? (c? #[n? i? 0,n? i? 0,s? ⟨#[]⟩,.bool f?,s? ⟨#[]⟩,s? ⟨#[]⟩,n? i? 0,n? i? 0] 172 (0,0)):=by rw[Y,lB _ _ aa.symm]
 have p5:w5.os=wl.os:=by rw[Y];exact O
 rw[<-Y,aa];clear Y W O HY aa y0;have HW:Hid (w5.1.size=s+1/\(∀r,r<s->w5.1[r]?=wl.1[r]?)/\w5.1[s]?=y? (c? #[n? i? 0,n? i? 0,s? ⟨#[]⟩,.bool f?,s? ⟨#[]⟩,s? ⟨#[]⟩,n? i? 0,n? i? 0] 172 (0,0))/\w5.os=wl.os):=⟨z5,o5,g5,p5⟩;clear z5 o5 g5 p5
 (refine fG ?_;go_simp);refine pn q? l! k! λy0 W O=>?_;obtain⟨z5,o5,g5,p5⟩:=HW.out;rw[<-W]at z5 o5 g5;have p5:=O.trans p5;have U:=g5;clear W O HW g5;have e0:=dq U 0;have f0:=dP U 0;have e1:=dq U 1;have f1:=dP U 1;have e2:=dq U 2;have f2:=dP U 2;have e3:=dq U 3;have f3:=dP U 3;have e4:=dq U 4;have f4:=dP U 4;have e5:=dq U 5;have f5:=dP U 5;have e6:=dq U 6;have f6:=dP U 6;have e7:=dq U 7;have f7:=dP U 7;have HY:Hid (y0.1.size=s+1/\(∀r,r<s->y0.1[r]?=wl.1[r]?)/\y0.os=wl.os):=⟨z5,o5,p5⟩;have HG:Hid _:=U;clear z5 o5 p5 U;unfold fL;go_simp;simp only[iJ];clear e0 e1 e2 e3 e4 e5 e6 e7 f0 f1 f2 f3 f4 f5 f6 f7;obtain⟨z5,o5,p5⟩:=HY.out;obtain⟨w2,hw2⟩:∃w2,w2=vY y0 s (n? i? v0) (n? i? v1) (s? v2) (.bool v3) (s? v4) (s? v5) (n? i? v6) (n? i? v7):=⟨_,q?⟩;have z1:w2.1.size=s+1:=by rw[hw2,wJ];exact z5
 have o1:∀r,r<s->w2.1[r]?=wl.1[r]?:=λr hr=>by rw[hw2,AJ _ _ _ _ _ _ _ _ _ o!];exact o5 r hr
 have U:w2.1[s]?=y? (c? #[n? i? v0,n? i? v1,s? v2,.bool v3,s? v4,s? v5,n? i? v6,n? i? v7] 172 (0,0)):=by rw[hw2];exact zt HG
 have p1:w2.os=wl.os:=by rw[hw2,Dj];exact p5
 unfold vY at hw2;rw[<-hw2];clear hw2 HG HY z5 o5 p5;have HN:=HN.out w2 z1 o1 U p1;have HN:Hid _:=HN;clear z1 o1 U p1
 (refine fG ?_;go_simp);exact dk.inRegion HN
set_option linter.unusedVariables false in
def xM{i:Nat}{wl:w?}{V:Vs}{l:List (v?×v?)}{W Y:v?}(I:u9 M0 H0 P0 b mb cl l V wl)(hV:V=[])(hn:n=l? V)(hi:ops[i]?=y? o)(O:T6 Z w T dd q K lent M0 H0 P0 b mb λv=>⟨fn,fq o.dst tm v,r? ops rest::k⟩::os) :
  dk (oe prog Z w T dd q K lent) (⟨82,#[p? (y? ⟨b,0,x?⟩),n? i? n,a2,a3,a4,.map (y? mb),a6,a7,a8,a9,a10,a11,a12,W,Y,a15,a16,a17,a18,a19,a20,a21,a22,a23,a24,a25,a26,a27,a28,a29],[.code (Gz (eD f82)),.inLoop (Gz (eD f82)),.inBlock 0,.code (Vv (eD f82))]⟩::⟨fn,tm,r? ops (i::rest)::k⟩::os) wl V:=by
 subst hV;have hp:¬(0<n):=by rw[hn];simp
 have HN:Hid _:=hn;clear hn;have U:Hid _:=I;have HE:Hid _:=O;clear I O;show dk _ (⟨_,_,[.code (.seq (.seq _ _) _),.inLoop _,.inBlock 0,.code _]⟩::_) ..;refine dk.sc λkk HK=>?_;refine dk.seq (dk.region ?_)
 (iterate 2 (refine fG ?_;go_simp));refine dk.inRegion ?_;refine dk.nh trivial q? ?_;rw[HK.out];refine dk.exit (k':=[.code _]) q? ?_;refine dk.seq (dk.region ?_)
 (iterate 2 (refine fG ?_;go_simp));refine dk.inRegion ?_;refine dk.back (v:=.map (y? mb)) (.inr ⟨_,q?⟩) func82 hi (λτ=>by simp[results,results82,go_sem]) ?_;have hp:=U.fA;simp only[tS,List.flatMap_nil,List.append_nil]at hp;exact HE wl l hp U.jN U.hm U.old U.os
set_option linter.unusedVariables false in
def GB{i:Nat}(G:O8 M0)(hi:ops[i]?=y? o)(ab:T6 Z w T dd q K lent M0 H0 P0 b mb λv=>⟨fn,fq o.dst tm v,r? ops rest::k⟩::os) :
  ∀(N:Nat)(wl:w?)(V:Vs)(cl:Nat->Option Nat)(l:List (v?×v?))(a2 a3 a4 a6 a7 a8 a9 a10 a11 a12 ai aj a15 a16 a17 a18 a19 a20 a21 a22 a23 a24 a25 a26 a27 a28 a29:v?)(n:Int),(tS V).length+l? V<=N->n=l? V->l? V<=1000->u9 M0 H0 P0 b mb cl l V wl->
  dk (oe prog Z w T dd q K lent) (⟨82,#[p? (y? ⟨b,0,x?⟩),n? i? n,a2,a3,a4,.map (y? mb),a6,a7,a8,a9,a10,a11,a12,ai,aj,a15,a16,a17,a18,a19,a20,a21,a22,a23,a24,a25,a26,a27,a28,a29],[.code (Gz (eD f82)),.inLoop (Gz (eD f82)),.inBlock 0,.code (Vv (eD f82))]⟩::⟨fn,tm,r? ops (i::rest)::k⟩::os) wl V:=by
 intro N;induction N with
 |zero=>intro wl V cl l a2 a3 a4 a6 a7 a8 a9 a10 a11 a12 ai aj a15 a16 a17 a18 a19 a20 a21 a22 a23 a24 a25 a26 a27 a28 a29 n hN hn hB I;have hV:V=[]:=List.eq_nil_of_length_eq_zero o!;exact xM I hV hn hi ab
 |succ N ih=>
  intro wl V cl l a2 a3 a4 a6 a7 a8 a9 a10 a11 a12 ai aj a15 a16 a17 a18 a19 a20 a21 a22 a23 a24 a25 a26 a27 a28 a29 n hN hn hB I;by_cases hV:V=[]
  .exact xM I hV hn hi ab
  have hp:0<n:=by rw[hn];exact Int.natCast_pos.2 (List.length_pos_iff.2 hV)
  have HI:Hid ((tS V).length+l? V<=N+1/\n=l? V/\u9 M0 H0 P0 b mb cl l V wl/\V≠[]/\0<n/\l? V<=1000):=⟨hN,hn,I,hV,hp,hB⟩;have IH:Hid _:=ih;have HE:Hid _:=ab;clear hN hn I hV ih ab hB;show dk _ (⟨_,_,[.code (.seq (.seq (.region 2 _ f?) (.cond _ .skip (.exit 0))) (.block 1 (.seq (.region 3 _ f?) (.seq (.seq (.region 4 _ f?) (.cond _ (.seq (.region 5 _ f?) (.exit 1)) .skip)) (.seq (.region 6 _ f?) (.region 7 _ f?)))))),.inLoop _,.inBlock 0,_]⟩::_) _ _;refine dk.sc λkk O=>?_;refine dk.seq (dk.region ?_)
  (iterate 2 (refine fG ?_;go_simp));refine dk.inRegion ?_;refine dk.rN trivial q? (dk.skip ?_);clear hp;rw[O.out];clear O kk;refine dk.block (dk.sr λkk O=>?_)
  (refine fG ?_;go_simp);obtain⟨hN,hn,I,hV,hp,hB⟩:=HI.out;refine dk.sS #[p? (y? ⟨b,0,x?⟩),bd,bd,bd,bd,bd,bd,bd,bd,bd,bd,bd,bd,bd,bd,bd,bd,bd,bd,bd,bd,bd,bd,bd,bd,bd,bd,bd,bd,bd,bd,bd,bd,bd,bd,bd,bd,bd,bd,bd,bd,bd,bd,bd,bd,bd,bd,bd,bd,bd,bd,bd,bd,bd,bd,bd,bd,bd,bd,bd,bd,bd,bd,bd,bd,bd,bd,bd,bd,bd] (i:=1) (iD:=f123) (c:=eD f123) q? q? func123 k! MF q? (by simp[e9]) k! ?_;refine Nd b wl.1.size q? (Nat.lt_trans I.Bl I.hm.lt) q? I.hb I.lg I.tJ (I.UM hV) I.gH (λr vs h v hv=>(I.h8 G r vs h v hv).VX) ?_ ?_
  .intro k' r v vs w2 ak hr hm z2 o2 p2;obtain⟨v0,v1,v2,v3,v4,v5,v6,v7,ha,hb,hv⟩:=I.h8 G r _ hm v (a' ..);obtain⟨kl,ad⟩:=(I.h8 G r _ hm v (a' ..)).kz;obtain⟨ae,af⟩:=I.fresh G hm;have hT:=λ(w3:w?) a b c=>I.take hm (w2:=w3) a b c;have hL:=(tc I.gH hm).1.length_eq;have Y:=(tc I.gH hm).2.1;have ag:jT prog 170 w2 mb l:=I.hm.stay (o2 mb I.hm.lt);have aa:=I.hm.lt;have Bl:=I.Bl;subst hv;obtain⟨s,hs⟩:∃s,s=wl.1.size+1:=⟨_,q?⟩;rw[<-hs]at z2;have aa:mb<s:=o!;clear hs;have HA:Hid _:=(A? hT (A? hL (A? Y (A? ad (A? ae (A? af (A? o2 (A? p2 (A? aa Bl)))))))));have HM:Hid (jT prog 170 w2 mb l):=ag;clear hT hL Y ad ae af o2 p2 hm hr I ag Bl aa hn hp hV hN hB;rw[kh];go_simp;refine zu z2 λw3 z3 o3 g3 p3=>?_;have HW:Hid _:=A? z3 (A? o3 p3);have HG:Hid _:=g3;clear z3 o3 p3 g3 z2;rw[O.out];refine dk.seq (dk.seq ?_);clear O kk;refine qk λkk O=>?_;refine dk.region ?_
   (refine fG ?_;go_simp);refine dk.ie O ?_;clear O kk;refine dk.rN trivial q? (dk.sc λkk O=>?_);refine kR k! (by rw[O.out];rfl) (.inl i!) λy0 U W=>?_;have g1:=HG.out;rw[<-U]at g1;have e0:=dq g1 0;have f0:=dP g1 0;have e1:=dq g1 1;have f1:=dP g1 1;have e2:=dq g1 2;have f2:=dP g1 2;have e3:=dq g1 3;have f3:=dP g1 3;have e4:=dq g1 4;have f4:=dP g1 4;have e5:=dq g1 5;have f5:=dP g1 5;have e6:=dq g1 6;have f6:=dP g1 6;have e7:=dq g1 7;have f7:=dP g1 7;have al:jT prog 170 y0 mb l:=HM.stay (by rw[U];exact HW.2.1 mb HA.2.2.2.2.2.2.2.2.1);have ad:=HA.2.2.2.1;have ae:=HA.2.2.2.2.1;have af:=HA.2.2.2.2.2.1;have HY:Hid (y0.1=w3.1/\y0.os=w3.os):=⟨U,W⟩;have H1:Hid _:=al;have H2:Hid _:=ad;have H3:Hid _:=ae;have H4:Hid _:=af;clear U W g1 al ad ae af;go_wp2_with (first|(at_mapUpdate;refine FG _ rfl _ _ _ 129 rfl 172 Dm underlying129 rfl H1 H4 H2 H3 rfl _ rfl ?_;intro w4 aq am au));refine iN ?_;rw[O.out];clear O e0 e1 e2 e3 e4 e5 e6 e7 f0 f1 f2 f3 f4 f5 f6 f7;refine dk.exit (k':=[.inLoop _,.inBlock 0,.code _]) rfl (dk.inLoop ?_);obtain⟨hT,hL,Y,ad,ae,af,o2,p2,aa,Bl⟩:=HA.out;obtain⟨hN,hn,I,hV,hp,hB⟩:=HI.out;obtain⟨U,W⟩:=HY.out;obtain⟨z3,o3,p3⟩:=HW.out;refine IH.out w4 (tR V r vs) cl _ _ _ _ _ _ _ _ _ _ _ _ _ _ _ _ _ _ _ _ _ _ _ _ _ _ _ _ n ?_ ?_ (by rw[Y];exact hB) (hT w4 aq (λr' an=>?_) ?_);simp only[List.length_cons]at hL;rw[Y];omega;rw[Y];exact hn;rw[am.block r' (by rw[U,z3];omega) j!,U,o3 r' o!,o2 r' (Nat.lt_trans an I.hm.lt)];rw[am.os,W,p3,p2]
  intro k' r w2 ak hr hm z2 o2 p2;have hE:=λ(w3:w?) a b c d=>I.ends ak hr hm (w2:=w3) a b c d;have hL:=(Ab I.gH hm).1.length_eq;have Y:=(Ab I.gH hm).2.1;have ag:jT prog 170 w2 mb l:=I.hm.stay (o2 mb I.hm.lt);have aa:=I.hm.lt;have Bl:=I.Bl;have ao:w2.1[b]?=y? (c? (nT cl) 125 (0,0)):=(o2 b o!).trans I.hb;obtain⟨s,hs⟩:∃s,s=wl.1.size+1:=⟨_,q?⟩;rw[<-hs]at z2;have ac:mb<s:=o!;clear hs;have HA:Hid _:=A? hE (A? hL (A? Y (A? o2 (A? p2 (A? ac (A? Bl aa))))));have HM:Hid (jT prog 170 w2 mb l):=ag;have HB:Hid (w2.1[b]?=y? (c? (nT cl) 125 (0,0))):=ao;clear hE hL Y o2 p2 hm hr I ag Bl aa ac hn hp hV hN hB ao;rw[kh];simp only[Nh];go_simp;refine zu z2 λw3 z3 o3 g3 p3=>?_;have HW:Hid _:=A? z3 (A? o3 p3);clear z3 o3 p3 g3 z2;rw[O.out];refine dk.seq (dk.seq ?_);clear O kk;refine qk λkk O=>?_;refine dk.region ?_
  (refine fG ?_;go_simp);refine dk.ie O ?_;clear O kk;refine dk.nh trivial q? (dk.skip (dk.sc λkk O=>?_));refine kR k! (by rw[O.out];rfl) (.inl i!) λy0 U W=>?_;have gb:y0.1[b]?=y? (c? (nT cl) 125 (0,0)):=by rw[U,HW.2.1 b (v! HA.out)];exact HB
  have e0:y0.cell? ⟨b,k',x?⟩=y? (.chan (cl k')):=by rw[dq gb];rcases(o!:k'=0\/k'=1\/k'=2\/k'=3\/k'=4\/k'=5\/k'=6)with rfl|rfl|rfl|rfl|rfl|rfl|rfl<;>rfl
  have f0:y0.frozen? ⟨b,k',x?⟩=f?:=dP gb k';have HY:Hid (y0.1=w3.1/\y0.os=w3.os):=⟨U,W⟩;have HG:Hid _:=gb;clear U W gb;go_wp2;refine iN ?_;clear e0 f0;obtain⟨w4,ah⟩:∃w4,w4=y0.setCell ⟨b,k',x?⟩ (.chan x?):=⟨_,q?⟩;have g4:w4.1[b]?=y? (c? (nT (xS cl k')) 125 (0,0)):=by rw[ah,heap_set HG.out k' (.chan x?),<-SX ak];simp only[Array.set!_eq_setIfInBounds]
  have o4:∀r,r≠b->w4.1[r]?=w3.1[r]?:=λr hr=>by rw[ah,Below.heap_setCell _ _ _ _ hr,HY.1]
  have p4:w4.os=w3.os:=by rw[ah,ru];exact HY.2
  rw[<-ah];clear ah HG HY y0;have HG:Hid _:=A? g4 (A? o4 p4);clear g4 o4 p4;rw[O.out];clear O kk;refine qk λkk O=>?_;refine dk.region ?_;have h1 : -9223372036854775808<=n-1:=by have:=HI.2.2.2.2.1;omega
  have h2:n-1<=9223372036854775807:=by have:=HI.2.1;have:=HI.2.2.2.2.2;omega
  (iterate 3 (refine fG ?_;go_simp));refine dk.ie O ?_;have ap:IntKind.i64.wrap (n-1)=n-1:=by simp only[IntKind.wrap_i64];omega
  rw[ap];clear O h1 h2 ap;refine dk.inBlock (dk.inLoop ?_);obtain⟨hE,hL,Y,o2,p2,ac,Bl,aa⟩:=HA.out;obtain⟨hN,hn,I,hV,hp,hB⟩:=HI.out;obtain⟨g4,o4,p4⟩:=HG.out;obtain⟨z3,o3,p3⟩:=HW.out;refine IH.out w4 (vI V r) (xS cl k') l _ _ _ _ _ _ _ _ _ _ _ _ _ _ _ _ _ _ _ _ _ _ _ _ _ _ _ (n-1) ?_ ?_ o! (hE w4 g4 (HM.stay ?_) (λr' an ar=>?_) ?_);omega;rw[hn];omega;rw[o4 mb o!,o3 mb ac];rw[o4 r' ar,o3 r' o!,o2 r' o!];rw[p4,p3,p2]
def Ez{i wl}{V:Vs}(hi:ops[i]?=y? o)(G:O8 M0)(W:mb=wl.1.size)(Bl:b<mb)
  (hb:wl.1[b]?=y? (c? (nT cl) 125 (0,0))) (lg:∀k r,k<7->cl k=y? r->∃vs,(r,y? vs)∈V) (fl:∀x∈V,∃k vs,k<7/\cl k=y? x.1/\x.2=y? vs) (tJ:∀k k' r,k<7->k'<7->cl k=y? r->cl k'=y? r->k=k') (gH:(V.map aV).Nodup) (hB:l? V<=1000) (hM:tS V=M0)
  (aa:T6 Z w T dd q K lent M0 wl.1 wl.os b mb λv=>⟨fn,fq o.dst tm v,r? ops rest::k⟩::os) :
  dk (oe prog Z w T dd q K lent) (⟨82,#[p? (y? ⟨b,0,x?⟩),n? i? (l? V),bd,bd,bd,bd,bd,bd,bd,bd,bd,bd,bd,bd,bd,bd,bd,bd,bd,bd,bd,bd,bd,bd,bd,bd,bd,bd,bd,bd],[.code (eD f82)]⟩::⟨fn,tm,r? ops (i::rest)::k⟩::os) wl V:=by
 have HL:=GB G hi aa;obtain⟨n,hn⟩:∃n:Int,n=l? V:=⟨_,q?⟩;have HA:Hid _:=A? hb (A? lg (A? fl (A? tJ (A? gH (A? hB (A? hM (A? W (A? Bl hn))))))));have HL:Hid _:=HL;rw[<-hn];clear hb lg fl tJ gH hB hM W aa hn Bl;refine dk.sr λkk HK=>?_
 (refine fG ?_;go_simp);refine dk.ie HK ?_;refine dk.sc λkk HK=>?_;refine kR k! (by rw[HK.out];rfl) (.inl i!) λy0 U O=>?_;have HY:Hid (y0.1=wl.1/\y0.os=wl.os):=⟨U,O⟩;clear U O;have ac:=@run_makeMap prog;go_wp2;refine iN ?_;rw[HK.out];obtain⟨hb,lg,fl,tJ,gH,hB,hM,W,Bl,hn⟩:=HA.out;obtain⟨U,O⟩:=HY.out;have hz:y0.1.size=mb:=by rw[U,W]
 obtain⟨w2,Y⟩:∃w2,w2=y0.alloc (.map #[] 0):=⟨_,q?⟩;have ab:jT prog 170 w2 mb []:=by rw[Y,<-hz];exact jT.made y0
 have o2:∀r,r<mb->w2.1[r]?=wl.1[r]?:=λr hr=>by rw[Y,jL _ _ (by rw[hz];exact hr),U]
 have p2:w2.os=wl.os:=by rw[Y];exact O
 rw[<-Y,hz];refine dk.seq (dk.block (dk.loop ?_));exact HL _ w2 V cl [] _ _ _ _ _ _ _ _ _ _ _ _ _ _ _ _ _ _ _ _ _ _ _ _ _ _ _ n (Nat.le_refl _) hn hB ⟨(o2 b Bl).trans hb,Bl,ab,lg,fl,tJ,gH,by rw[hM];exact .refl _,nofun,λr hr _=>o2 r hr,p2⟩
end
end
section
open Go.RowKit Go.Maps
structure qe where
 yv:Nat
 at':Nat
 name:Wd
 wanted:Bool
 n2:Wd
 tx:Wd
 wt:Int
 tg:Int
def qe.val(m:qe):v?:=.agg #[n? i? (m.yv:Int),n? i? (m.at':Int),s? ⟨a? m.name⟩,.bool m.wanted,s? ⟨a? m.n2⟩,s? ⟨a? m.tx⟩,n? i? m.wt,n? i? m.tg]
def qe.kv(m:qe):v?×v?:=(QK m.yv m.at',m.val)
def qe.Cc(m:qe):dD:=⟨m.n2,f?,m.tx,m.wt,m.tg⟩
def fp:List qe->Wd->Nat
 |[],_=>0|m::l,x=>if m.name=x then max m.yv (fp l x)else fp l x
def xP{l m}(h:l.Perm m)(x):fp l x=fp m x:=by
 induction h with
 |nil=>rfl|cons a _ O=>simp only[fp,O]|swap a b l=>simp only[fp];split<;>split<;>omega
 |trans _ _ U W=>rw[U,W]
def Hl(l)(m)(x):fp (l++[m]) x=if m.name=x then max (fp l x) m.yv else fp l x:=by rw[xP (List.perm_append_comm (l₁:=l) (l₂:=[m]))];show(if m.name=x then max _ (fp l x)else fp l x)=_;split;rw[Nat.max_comm];rfl
def wI{n}:∀(l)(x),(∀m∈l,m.yv<=n)->fp l x<=n
 |[],_,_=>Nat.zero_le _
 |m::l,x,h=>by
  have O:=h m i!
  have U:=wI l x (λm hm=>h m (by simp[hm]));simp only[fp];split<;>omega
def eE(all l:List qe):List dD:=(l.filter λm=>m.wanted&&m.yv==fp all m.name).map qe.Cc
def Gt(all l)(m):eE all (l++[m])=eE all l++(if(m.wanted&&m.yv==fp all m.name)=t? then [m.Cc]else []):=by unfold eE;rw[aK,ax];rw[aA];split<;>rfl
def CJ(all l):(eE all l).length<=l? l:=by unfold eE;rw[aM];exact aE ..
def Fq{all l m}(h:l.Perm m):(eE all l).Perm (eE all m):=(h.filter _).map _
def nN(e:dD):List v?:=[s? ⟨a? e.name⟩,s? ⟨a? e.text⟩,n? i? e.dn,n? i? e.dE]
def jj(es:List dD):List v?:=es.flatMap nN
def Hv(es)(x):jj (es++[x])=jj es++nN x:=by simp[jj]
def BQ:∀(O)(i c)(h),c<4->(jj O)[i*4+c]?=(nN O[i])[c]?:=by
 intro O;induction O with
 |nil=>intro i c h;simp at h|cons a l U=>
  intro i c h W;have e:jj (a::l)=nN a++jj l:=by simp[jj]
  rw[e]
  cases i with
  |zero=>rw[List.getElem?_append_left (by simp[nN];omega)];simp|succ i=>rw[List.getElem?_append_right (by simp[nN];omega)];have Y:(nN a).length=4:=rfl;rw[Y,(o!:(i+1)*4+c-4=i*4+c),U i c (u! h) W];simp
def Gq(x):∀v∈nN x,v.oneCell'=t?:=by intro v O;simp[nN]at O;obtain rfl|rfl|rfl|rfl:=O<;>rfl
def Md(l:List (Wd×v?)){x y}(e:y≠x):(l.filter λp=>p.1 != x).find? (λp=>p.1==y)=l.find? (λp=>p.1==y):=by
 induction l with
 |nil=>rfl|cons p l U=>
  rw[aA];by_cases O:p.1=x;rw[if_neg (u! O),aD];have:(p.1==y)=f?:=by simpa[O]using λh=>e h.symm
  rw[this];exact U;rw[if_pos (u! O),aD,aD];split;rfl;exact U
def LL(l)(x y)(v z):nS (sD l x v) y z=if y=x then v else nS l y z:=by
 by_cases e:y=x;subst e;unfold nS sD
 have:(l.filter λp=>p.1 != y).find? (λp=>p.1==y)=x?:=by rw[aJ];intro p O;have:=(aC.1 O).2;simpa using this
 rw[aL,this];simp;rw[if_neg e];unfold nS sD
 have U:([(x,v)]).find? (λp=>p.1==y)=x?:=by rw[aJ];intro p O;simp only[aw]at O;subst O;simpa using λh=>e h.symm
 rw[aL,U,Option.or_none,Md l e]
def QF(l)(x)(v):(sD l x v).length<=l? l+1:=by unfold sD;rw[aI,List.length_singleton];have:=aE (λp=>p.1 != x) l;omega
def gZ.Vc{P k w B r l rest rest'}(h:gZ P k w B r l rest)(O:rest.Perm rest'):gZ P k w B r l rest':=by obtain⟨a,b,D,left,cnt,U,W,Y⟩:=h;exact⟨(O.map _).nodup_iff.1 a,λp hm=>b p (O.mem_iff.2 hm),D,left,cnt,U,W,λkey kl hk=>(Y key kl hk).trans ⟨λ⟨p,x,y⟩=>⟨p,O.mem_iff.1 x,y⟩,λ⟨p,x,y⟩=>⟨p,O.mem_iff.2 x,y⟩⟩⟩
def Bv{U W:Type}(f){l:List U}{p}{t:List W}(h:(l.map f).Perm (p::t)):∃m O,l.Perm (m::O)/\p=f m/\t.Perm (O.map f):=by
 obtain⟨m,hm,e⟩:=av.1 (h.mem_iff.2 (a' ..));obtain⟨a,b,rfl⟩:=az hm;refine⟨m,a++b,a5,e.symm,?_⟩
 have Y:((a++m::b).map f).Perm (f m::(a++b).map f):=by exact a5.map f
 rw[<-e]at h;exact(aY (h.symm.trans Y))
abbrev J0(w:w?)(B:Nat)(ms:List qe):Prop:=jT prog 170 w B (ms.map qe.kv)
abbrev mR(w:w?)(B r:Nat)(ms O:List qe):Prop:=gZ prog 170 w B r (ms.map qe.kv) (O.map qe.kv)
section
variable {B:Nat} {ms:List qe} (w:w?) {ops:Array Oper} {rest:List Oper} {o:Oper} {a:Act} {Q:Exit->Act->w?->Prop}
def tX(U:o.guard=x?)(m)(O:o.op=Op.range 129 m)(hm:a.eval m=.map (y? B))(h:J0 w B ms)
  (W:∀w',mR w' B w.1.size ms ms->w.grownBy w' x?->w'.1.size=w.1.size+1->aP prog ops Q rest (a.put o.dst (p? (y? ⟨w.1.size,0,x?⟩))) w') :
  aP prog ops Q (o::rest) a w:=
 Bm w U m _ O _ Dm underlying129 hm h W
def vz(hg:o.guard=x?)(it:Operand)(Y:o.op=Op.next it f?)(r:Nat)(U:List qe)(aa:a.eval it=p? (y? ⟨r,0,x?⟩))(h:mR w B r ms U)
  (W:U=[]->aP prog ops Q rest (a.put o.dst (.tuple #[.bool f?])) w)
  (hMore:∀(m:qe)(O:List qe)(w':w?),U.Perm (m::O)->mR w' B r ms O->w'.rangeLeft B r<w.rangeLeft B r->w.grownBy w' (y? r)->w'.1.size=w.1.size->(Instr.entry (p? (y? ⟨r,0,x?⟩))).run prog w'=.ok (.tuple #[QK m.yv m.at',m.val]) w'->
    aP prog ops Q rest (a.put o.dst (.tuple #[.bool t?,QK m.yv m.at',m.val])) w') :
  aP prog ops Q (o::rest) a w:=by
 refine DG w hg it Y Dm r _ aa h (λh0=>W (u! h0)) ?_;intro p ab w' hp hr ac ad hs he;obtain⟨m,l',h1,rfl,h2⟩:=Bv _ hp;exact hMore m l' w' h1 (hr.Vc h2) ac ad hs he
end
end
