import Derived.Test.YtocbogeoffeolaaGreatDoorFolAB
import Derived.Test.YtocbogeoffeolaaGreatDoorFolAG
import Derived.Test.YtocbogeoffeolaaGreatDoorFolAH
set_option linter.unusedVariables false
set_option linter.unusedSimpArgs false
set_option maxHeartbeats 8000000
set_option maxRecDepth 1000000
open Option renaming bind_eq_some_iff->aJ,bind_some->aK
open List renaming append_nil->aL,length_cons->aM,length_append->aN,getElem_append_right->aO,append_assoc->aP,getElem_append_left->aQ,length_map->aR,mem_cons_of_mem->aT,mem_cons_self->aU,map_append->aV,mem_singleton->aW,getElem_mem->aX,mem_filter->aY,mem_append->aZ
open Nat renaming le_refl->ba,zero_le->bc,le_trans->bd,lt_of_lt_of_le->be
open Go renaming maxLen->bf,heap_alloc_new->bg,Calls->bh,cell_later->bi,callFunc->bj,TypeId->bk
open Go.RowKit renaming Hid->bl,intOf->bm,run_makeMap->bn
open Go.RowKit.Below renaming refl->bo,heap_alloc->bp
namespace Go.Proofs.YtocbogeoffeolaaGreatDoor
open Go.Proofs.Tryz
section
open Go.RowKit
variable {e:gS} {es gs ps:List (Nat×gS)} {ks:List Wd} {N a b c f g n:Nat} {bs ls path r rf:Wd}
abbrev sn(l:List (Nat×gS)):List gS:=l.map Prod.snd
def nN(N:Nat):Nat->Wd->List Wd->Wd->Wd->Option (List (Nat×gS)×Wd)
 |0,_,_,_,bs=>some ([],bs)
 |n+1,path,ks,last,bs=>(pf ks last bs).bind λx=>(mZ x.1 x.2).bind λy=>if ie y.1=path then(nN N n path (ks++[x.1]) x.1 y.2).bind λz=>some ((N-bs.length,y.1)::z.1,z.2)else none
def oc(node:Wd->List Wd->Wd->Option (Nat×List (Nat×gS)×Wd)):Nat->Wd->List Wd->Int->Wd->Option (Nat×List (Nat×gS)×Wd)
 |0,_,_,_,bs=>some (0,[],bs)
 |n+1,path,ks,last,bs=>(mu bs).bind λx=>if x.1≠[]/\last<((x.1.getD 0 0).toNat:Int)then
   (node (path++x.1) ks x.2).bind λy=>(oc node n path (ks++(sn y.2.1).map gS.name) ((x.1.getD 0 0).toNat:Int) y.2.2).bind λz=>some (max y.1 z.1,y.2.1++z.2.1,z.2.2)else none
def nf(N:Nat):Nat->Wd->List Wd->Wd->Option (Nat×List (Nat×gS)×Wd)
 |0,_,_,_=>none
 |f+1,path,ks,bs=>if path.length<=24 then
   (kI bs).bind λa=>(rdNum a.2).bind λb=>(nN N b.1 path ks [] b.2).bind λc=>(rdNum c.2).bind λd=>(oc (nf N f) d.1 path (ks++(sn c.1).map gS.name) (-1) d.2).bind λe=>
    if(a.1:Int)=max (k9 (sn c.1)) e.1/\(path=[]\/0<b.1\/1<d.1)then some (a.1,c.1++e.2.1,e.2.2)else none
  else none
def mE(N:Nat):Nat->List Wd->Wd->Wd->Option (List (Nat×gS)×Wd)
 |0,_,_,bs=>some ([],bs)
 |n+1,ks,last,bs=>(pf ks last bs).bind λx=>(mE N n (ks++[x.1]) x.1 x.2).bind λz=>some ((N-bs.length,⟨x.1,true,[],0,0⟩)::z.1,z.2)
def sF(N:Nat)(bs:Wd):Option (List (Nat×gS)×List (Nat×gS)):=
 (rdNum bs).bind λa=>(mE N a.1 [] [] a.2).bind λb=>(mu b.2).bind λc=>if c.1=[]then(nf N 26 [] ((sn b.1).map gS.name) c.2).bind λd=>
  if d.2.2=[]/\0<b.1.length+d.2.1.length/\a.1<=100/\d.2.1.length<=30 then some (b.1,d.2.1)else none else none
theorem vG(h:mE N (n+1) ks ls r=some (gs,rf)):∃nm y gs',pf ks ls r=some (nm,y)/\mE N n (ks++[nm]) nm y=some (gs',rf)/\gs=(N-r.length,⟨nm,true,[],0,0⟩)::gs':=by
 rw[mE]at h;simp only[aJ]at h;obtain⟨⟨nm,y⟩,B,⟨gs',U⟩,D,O⟩:=h;cases O;exact⟨nm,y,gs',B,D,rfl⟩
theorem Dg(h:nN N (n+1) path ks ls r=some (es,rf)):∃nm B e D y,pf ks ls r=some (nm,B)/\mZ nm B=some (e,D)/\ie e=path/\nN N n path (ks++[nm]) nm D=some (y,rf)/\es=(N-r.length,e)::y:=by
 rw[nN]at h;simp only[aJ]at h;obtain⟨⟨nm,B⟩,U,⟨e,D⟩,W,O⟩:=h;split at O
 .rename_i Y;simp only[aJ]at O;obtain⟨⟨y,r4⟩,h4,h5⟩:=O;cases h5;exact⟨nm,B,e,D,y,U,W,Y,h4,rfl⟩
 .cases O
theorem CN{node:Wd->List Wd->Wd->Option (Nat×List (Nat×gS)×Wd)}{Y:Int}(h:oc node (n+1) path ks Y r=some (g,es,rf)) :
  ∃c cs D O y U W B,mu r=some (c::cs,D)/\Y<(c.toNat:Int)/\node (path++(c::cs)) ks D=some (O,y,U)/\oc node n path (ks++(sn y).map gS.name) (c.toNat:Int) U=some (W,B,rf)/\g=max O W/\es=y++B:=by
 rw[oc]at h;simp only[aJ]at h;obtain⟨⟨lb,D⟩,h1,h⟩:=h;split at h
 .rename_i hc;simp only[aJ]at h;obtain⟨⟨O,y,U⟩,h2,⟨W,B,r3⟩,h3,h4⟩:=h
  cases lb with
  |nil=>exact absurd rfl hc.1
  |cons c cs=>
   cases h4;exact⟨c,cs,D,O,y,U,W,B,h1,hc.2,h2,h3,rfl,rfl⟩
 .cases h
theorem El(h:nf N f path ks bs=some (g,es,r)):∃f',f=f'+1/\path.length<=24/\∃r0 nb B own D y r3 gb below,kI bs=some (g,r0)/\rdNum r0=some (nb,B)/\nN N nb path ks [] B=some (own,D)/\rdNum D=some (y,r3)/\oc (nf N f') y path (ks++(sn own).map gS.name) (-1) r3=some (gb,below,r)/\(g:Int)=max (k9 (sn own)) gb/\(path=[]\/0<nb\/1<y)/\es=own++below:=by
 cases f with
 |zero=>cases h
 |succ f=>
  rw[nf]at h;split at h
  .rename_i W;simp only[aJ]at h;obtain⟨⟨wg,r0⟩,Y,⟨nb,B⟩,h2,⟨own,D⟩,h3,⟨y,r3⟩,h4,⟨gb,below,r4⟩,h5,O⟩:=h;split at O
   .rename_i U;cases O;exact⟨f,rfl,W,r0,nb,B,own,D,y,r3,gb,below,Y,h2,h3,h4,h5,U.1,U.2,rfl⟩
   .cases O
  .cases h
theorem ED(h:sF N bs=some (gs,es)):∃n r r0 y g,rdNum bs=some (n,r)/\mE N n [] [] r=some (gs,r0)/\mu r0=some ([],y)/\nf N 26 [] ((sn gs).map gS.name) y=some (g,es,[])/\0<gs.length+es.length/\n<=100/\es.length<=30:=by
 unfold sF at h;simp only[aJ]at h;obtain⟨⟨n,r⟩,O,⟨gs',r0⟩,U,⟨lb,y⟩,W,h⟩:=h;split at h
 .rename_i D;simp only[aJ]at h;obtain⟨⟨g,Y,r2⟩,h4,h⟩:=h;split at h
  .rename_i B;cases h;obtain⟨e,B⟩:=B;simp only at D e B;subst D e;exact⟨n,r,r0,y,g,O,U,W,h4,B⟩
  .cases h
 .cases h
theorem xj:∀{n:Nat}{ks:List Wd}{ls r rf:Wd}{gs:List (Nat×gS)},mE N n ks ls r=some (gs,rf)->gs.length=n
 |0,_,_,_,_,_,h=>by rw[mE]at h; cases h; rfl
 |n+1,_,_,_,_,_,h=>by
  obtain⟨_,_,_,_,y,rfl⟩:=vG h
  simp[xj y]
def s8(a b:Nat)(ps:List (Nat×gS)):Prop:=a<=b/\(∀p∈ps,a<=p.1/\p.1<b)/\ps.Pairwise λx y=>x.1<y.1
theorem s8.nil(h:a<=b):s8 a b []:=⟨h,by simp,.nil⟩
theorem s8.append{B:List (Nat×gS)}(h:s8 a b ps)(U:s8 b c B):s8 a c (ps++B):=by
 obtain⟨h1,D,W⟩:=h;obtain⟨k1,O,Y⟩:=U;refine⟨by omega,λp hp=>?_,List.pairwise_append.2 ⟨W,Y,λx hx y hy=>?_⟩⟩
 .rcases aZ.1 hp with h|h
  .have:=D p h; omega
  .have:=O p h; omega
 .have:=D x hx; have:=O y hy; omega
theorem s8.one(h:a<b):s8 a b [(a,e)]:=⟨by omega,by simp; omega,by simp⟩
theorem s8.from(h:s8 b c ps)(B:a<=b):s8 a c ps:=⟨by have:=h.1; omega,λp y=>by have:=h.2.1 p y; omega,h.2.2⟩
theorem AH(N:Nat):∀{n:Nat}{ks:List Wd}{ls r rf:Wd}{gs:List gS},uF n ks ls r=some (gs,rf)->r.length<=N->∃ps,mE N n ks ls r=some (ps,rf)/\sn ps=gs/\rf.length<=r.length/\s8 (N-r.length) (N-rf.length) ps
 |0,_,_,_,_,_,h,_=>by rw[uF]at h; cases h; exact⟨[],rfl,rfl,ba _,.nil (ba _)⟩
 |n+1,ks,ls,r,rf,gs,h,hN=>by
  rw[uF]at h
  simp only[aJ]at h
  obtain⟨⟨nm,B⟩,y,⟨gs',r2⟩,D,O⟩:=h
  cases O
  try dsimp only at *
  have hl:B.length+1<=r.length:=by rw[(qy y).1]; simp[io]
  obtain⟨ps,k1,U,W,Y⟩:=AH N D (by(try dsimp only); omega);refine⟨(N-r.length,⟨nm,true,[],0,0⟩)::ps,?_,by simp[sn,<-U],by(try dsimp only at W); omega,(s8.one (by omega)).append Y⟩;rw[mE,y,aK,k1];rfl
theorem FY{nm y:Wd}(h:mZ nm r=some (e,y)):y.length<=r.length:=by
 unfold mZ at h;simp only[aJ]at h;obtain⟨⟨tx,r'⟩,U,h⟩:=h;split at h
 .simp only[aJ]at h;obtain⟨⟨wt,r3⟩,W,h⟩:=h;split at h
  .simp only[aJ]at h;obtain⟨⟨tg,r4⟩,Y,h⟩:=h;cases h
   try dsimp only at *
   have B:=(kR U).1;have D:=(mQ W).1;have O:=(kK Y).1
   try dsimp only at B D O
   rw[B,D,O];simp;omega
  .cases h
 .cases h
theorem yX(N:Nat):∀{n:Nat}{path:Wd}{ks:List Wd}{ls r rf:Wd}{es:List gS},u5 n path ks ls r=some (es,rf)->r.length<=N->∃ps,nN N n path ks ls r=some (ps,rf)/\sn ps=es/\rf.length<=r.length/\s8 (N-r.length) (N-rf.length) ps
 |0,_,_,_,_,_,_,h,_=>by rw[u5]at h; cases h; exact⟨[],rfl,rfl,ba _,.nil (ba _)⟩
 |n+1,path,ks,ls,r,rf,es,h,hN=>by
  rw[u5]at h
  simp only[aJ]at h
  obtain⟨⟨nm,W⟩,D,⟨e,r2⟩,O,y⟩:=h
  split at y
  .rename_i U;simp only[aJ]at y;obtain⟨⟨Y,r4⟩,h4,h5⟩:=y;cases h5
   try dsimp only at *
   have hl:W.length+1<=r.length:=by rw[(qy D).1]; simp[io]
   have B:=FY O
   try dsimp only at B U
   obtain⟨ps,k1,k2,k3,k4⟩:=yX N h4 (by(try dsimp only); omega);refine⟨(N-r.length,e)::ps,?_,by simp[sn,<-k2],by(try dsimp only at k3); omega,(s8.one (by(try dsimp only); omega)).append k4⟩;rw[nN,D,aK,O,aK,if_pos U,k1];rfl
  .cases y
def Ot(N:Nat)(f:Nat):Prop:=∀(path:Wd)(ks:List Wd)(r rf:Wd)(g:Nat)(es:List gS),uA f path ks r=some (g,es,rf)->r.length<=N->∃ps,nf N f path ks r=some (g,ps,rf)/\sn ps=es/\rf.length<=r.length/\s8 (N-r.length) (N-rf.length) ps
theorem Au(D:Ot N f):∀{n:Nat}{path:Wd}{ks:List Wd}{y:Int}{r rf:Wd}{g:Nat}{es:List gS},uM (uA f) n path ks y r=some (g,es,rf)->r.length<=N->∃ps,oc (nf N f) n path ks y r=some (g,ps,rf)/\sn ps=es/\rf.length<=r.length/\s8 (N-r.length) (N-rf.length) ps
 |0,_,_,_,_,_,_,_,h,_=>by rw[uM]at h; cases h; exact⟨[],rfl,rfl,ba _,.nil (ba _)⟩
 |n+1,path,ks,y,r,rf,g,es,h,hN=>by
  rw[uM]at h
  simp only[aJ]at h
  obtain⟨⟨lb,r1⟩,O,h⟩:=h
  split at h
  .rename_i U;simp only[aJ]at h;obtain⟨⟨g1,aa,r2⟩,h2,⟨g2,ab,r3⟩,h3,h4⟩:=h;cases h4
   try dsimp only at *
   have hl:r1.length<=r.length:=by rw[(kR O).1]; simp
   obtain⟨ps,k1,B,k3,W⟩:=D _ _ _ _ _ _ h2 (by(try dsimp only); omega)
   try dsimp only at k1 B k3 W
   obtain⟨qs,Y,j2,j3,j4⟩:=Au D h3 (by(try dsimp only); omega);refine⟨ps++qs,?_,by simp[sn]at *; rw[B,j2],by(try dsimp only at j3); omega,(W.append j4).from (by omega)⟩
   try dsimp only at Y U
   rw[oc,O,aK,if_pos U,k1,aK];simp only[B,Y,aK]
  .cases h
theorem Av(N:Nat):∀f,Ot N f
 |0=>λ_ _ _ _ _ _ h _=>by cases h
 |f+1=>λpath ks r rf g es h hN=>by
  rw[uA]at h
  split at h
  .rename_i hp
   simp only[aJ]at h
   obtain⟨⟨wg,r0⟩,D,⟨nb,r1⟩,O,⟨own,r2⟩,h3,⟨nc,r3⟩,U,⟨gb,below,r4⟩,h5,y⟩:=h
   split at y
   .rename_i W;cases y
    try dsimp only at *
    have l1:r0.length<=r.length:=by rw[(mQ D).1]; simp
    have l2:r1.length<=r0.length:=by have:=(kK O).1; (try dsimp only at this); rw[this]; simp
    obtain⟨ps,k1,B,k3,Y⟩:=yX N h3 (by(try dsimp only); omega)
    try dsimp only at k1 B k3 Y
    have l3:r3.length<=r2.length:=by have:=(kK U).1; (try dsimp only at this); rw[this]; simp
    obtain⟨qs,j1,j2,j3,j4⟩:=Au (Av N f) h5 (by(try dsimp only); omega);refine⟨ps++qs,?_,by simp[sn]at *; rw[B,j2],by(try dsimp only at j3); omega,(Y.append (j4.from (by(try dsimp only); omega))).from (by omega)⟩
    try dsimp only at j1 W
    rw[nf,if_pos hp,D,aK,O,aK,k1,aK,U,aK];simp only[B,j1,aK];rw[if_pos W]
   .cases y
  .cases h
theorem Lf{gs es:List gS}(h:JF bs=some (gs,es)):∃ps y,sF bs.length bs=some (ps,y)/\sn ps=gs/\sn y=es/\s8 0 bs.length (ps++y):=by
 unfold JF at h;simp only[aJ]at h;obtain⟨⟨n,r⟩,W,⟨gs',r0⟩,h2,⟨lb,r1⟩,Y,h⟩:=h;split at h
 .rename_i hc;simp only[aJ]at h;obtain⟨⟨g,D,r2⟩,h4,h⟩:=h;split at h
  .rename_i O;cases h
   try dsimp only at *
   have l1:r.length<=bs.length:=by have:=(kK W).1; (try dsimp only at this); rw[this]; simp
   obtain⟨ps,k1,B,k3,k4⟩:=AH bs.length h2 (by(try dsimp only); omega)
   try dsimp only at k1 B k3 k4
   have l3:r1.length<=r0.length:=by rw[(kR Y).1]; simp
   obtain⟨y,j1,U,j3,j4⟩:=Av bs.length 26 _ _ _ _ _ _ h4 (by(try dsimp only); omega)
   try dsimp only at j1 U j3 j4 hc O
   refine⟨ps,y,?_,B,U,?_⟩
   .have a1:ps.length=gs.length:=by rw[<-B]; simp
    have a2:y.length=D.length:=by rw[<-U]; simp
    unfold sF;rw[W,aK,k1,aK,Y,aK,if_pos hc];simp only[B,j1,aK];rw[if_pos (by rw[a1,a2]; exact O)]
   .have:=(k4.append (j4.from (by omega))).from (bc _);rw[O.1]at this;exact this
  .cases h
 .cases h
end
section
open Go.RowKit Go.Maps
def Told(e:gS):Prop:=e.name.length<=255/\e.text.length<=255/\(e.gone=false->0<=e.il/\e.il<=255)
structure Gu where
 fn:FuncId
 cp:Array Value
 own:Nat->Prop
 Q8:Nat->Prop
 T:World->List (Nat×gS)->Prop
def Gu.v(t:Gu):Value:=.func (.func t.fn) #[] t.cp
structure Gu.Ok(t:Gu)(mx:Nat):Prop where
 jZ:∃jZ c,prog.funcs[t.fn]?=some jZ/\jZ.body=some c/\(jZ.name == "runtime.NumGoroutine")=false
 sub:∀k,t.own k->t.Q8 k
 lt:∀{w told k},t.T w told->t.Q8 k->k<w.heap.size
 stay:∀{w w' told},t.T w told->(∀k,t.Q8 k->w'.heap[k]?=w.heap[k]?)->t.T w' told
 tell:∀(w:World)(q:Nat)(told:List (Nat×gS))(e:gS),t.T w told->e.name ∉ (sn told).map gS.name->told.length<1099511627776->Told e->q<=mx->
  bh prog t.fn (#[.int .i64 (q:Int),.string ⟨e.name.toArray⟩,tJ e]++t.cp) w λen w'=>en=.returned (.tuple #[])/\t.T w' (told++[(q,e)])/\gV t.own w w'
structure RG(w:World)(Rb Mk:Nat)(t:Gu)(S:ByteArray)(rest:Wd)(told:List (Nat×gS)):Prop where
 rd:Ih w Rb S rest Mk t.v
 kn:ir prog 9 w Mk ((sn told).map Px)
 sd:t.T w told
 yE:told.length+rest.length<=S.size
 ne:∀k,t.Q8 k->k≠Rb/\k≠Mk
def GR(Rb Mk:Nat)(t:Gu)(k:Nat):Prop:=k=Rb\/k=Mk\/t.own k
section
variable {w w':World} {Rb Mk mx:Nat} {t:Gu} {S:ByteArray} {rest r:Wd} {told:List (Nat×gS)}
theorem RG.mr(h:RG w Rb Mk t S rest told):Mk≠Rb:=by
 obtain⟨p,y,_⟩:=h.rd;exact h.kn.pK y
theorem RG.turn(y:t.Ok mx)(h:RG w Rb Mk t S rest told)(B:gV (· = Rb) w w')(O:Ih w' Rb S r Mk t.v)(U:r.length<=rest.length):RG w' Rb Mk t S r told:=
 ⟨O,h.kn.stay (B.block _ h.kn.lt h.mr),y.stay h.sd λk D=>B.block k (y.lt h.sd D) (h.ne k D).1,by have:=h.yE; omega,h.ne⟩
theorem RG.below(y:t.Ok mx)(h:RG w Rb Mk t S rest told)(hb:Below w.heap.size w w'):RG w' Rb Mk t S rest told:=by
 obtain⟨p,B,D⟩:=h.rd;exact⟨⟨p,by unfold AB at *; rw[hb.block Rb (iN B)]; exact B,D⟩,h.kn.below hb,y.stay h.sd λk O=>hb.block k (y.lt h.sd O),h.yE,h.ne⟩
theorem RG.pos(h:RG w Rb Mk t S rest told):w.cell? ⟨Rb,1,none⟩=some (.int .i64 ((S.size-rest.length:Nat):Int)):=by
 obtain⟨p,h1,y,rfl⟩:=h.rd;unfold AB at h1;rw[Ps h1];have e:S.size-(S.data.toList.drop p).length=p:=by simp; omega
 rw[e];rfl
end
theorem sy{Rb Mk mx:Nat}{t:Gu}{S:ByteArray}{rest:Wd}{told:List (Nat×gS)}{last nm r:Wd}{w:World}(hT:t.Ok mx)(h:RG w Rb Mk t S rest told)(hS:S.size<=1099511627775)(B:pf ((sn told).map gS.name) last rest=some (nm,r)) :
  bh prog 234 #[.pointer (some ⟨Rb,0,none⟩),.string ⟨last.toArray⟩] w λe w'=>e=.returned (.string ⟨nm.toArray⟩)/\RG w' Rb Mk t S r told/\gV (· = Rb) w w':=by
 have Y:=vo Rb S rest Mk t.v w h.rd (by omega);have HR:bl _:=h;rw[Mv]at B;clear h
 cases W:mu rest with
 |none=>rw[W]at B; cases B
 |some x=>
  obtain⟨ah,r'⟩:=x;rw[W]at Y B;simp only[aK]at B;split at B
  .rename_i hc;cases B;obtain⟨U,D,hk⟩:=hc;obtain⟨y,ag⟩:=kR W;have aa:r.length<=rest.length:=by rw[y]; simp
   clear W y;have ab:(⟨nm.toArray⟩:ByteArray).size<=bf:=by show nm.toArray.size<=bf; unfold bf; simp; omega
   have ac:nm.length<=bf:=by unfold bf; omega
   have ad:Op.bytesLess (⟨last.toArray⟩:ByteArray).toList (⟨nm.toArray⟩:ByteArray).toList=true:=by rw[ByteArray.toList_eq,ByteArray.toList_eq]; exact D
   have HT:bl _:=hT;clear hT;go_enter func234,ntmps234;go_wp2_with fail;refine Y.mono ?_;rintro e w1 ⟨g1,rfl,g2,g3⟩;have O:bl (RG w1 Rb Mk t S r told):=HR.out.turn HT.out g1 g2 aa;have ae:bl _:=g1;clear g1 g2 g3 Y;go_wp2_with fail;refine(sK _ _ ab).mono ?_;rintro e w' ⟨rfl,rfl⟩;rw[show mf (⟨nm.toArray⟩:ByteArray).data.toList=true from U];clear ad;go_wp2_with fail;rw[Tr,D];refine(jR _).mono ?_;rintro e w' ⟨rfl,rfl⟩
   have ai:w1.cell? ⟨Rb,2,none⟩=some (.map (some Mk)):=by
    obtain⟨p,h1,_⟩:=O.out.rd;rw[Ps h1]; rfl
   have af:=(O.out.kn.look underlying9 underlying214 (PK w1) nm ac).2;rw[Mw,Lt,decide_eq_false hk]at af;clear D U;go_wp2_with fail;refine(jR _).mono ?_;rintro e w' ⟨rfl,rfl⟩;go_wp2;go_ret;have hb:=(bo w1.heap.size w1).alloc (ba _) (.cells #[] 263);exact⟨rfl,O.out.below HT.out hb,ae.out.then (gV.jk hb)⟩
  .cases B
end
section
open Go.RowKit Go.Maps
variable {S:ByteArray} {told:List (Nat×gS)} {Mk Rb mx:Nat} {t:Gu} {nm r3 rest:Wd} {w:World}
theorem RG.TW{w':World}{b:Nat}{cs:Array Value}{U:bk}{fz:Nat×Nat}(B:t.Ok mx)(h:RG w Rb Mk t S rest told)(hb:w.heap[b]?=some (.cells cs U fz))(W:b≠Rb)(Y:∀k,t.Q8 k->k≠b)(y:gV (· = b) w w'):RG w' Rb Mk t S rest told:=by
 obtain⟨p,D,g2⟩:=h.rd;exact⟨⟨p,by unfold AB at *; rw[y.block Rb (iN D) (λe=>W e.symm)]; exact D,g2⟩,h.kn.stay (y.block _ h.kn.lt (h.kn.pK hb)),B.stay h.sd λk O=>y.block k (B.lt h.sd O) (Y k O),h.yE,h.ne⟩
theorem uX{e:gS}(h:mZ nm rest=some (e,r3)):∃tx wt tg r y,mu rest=some (tx,r)/\(iX tx=true/\tx≠[])/\kI r=some (wt,y)/\wt<=1000000/\rdNum y=some (tg,r3)/\e=⟨nm,false,tx,wt,tg⟩:=by
 unfold mZ at h;simp only[aJ]at h;obtain⟨⟨tx,r⟩,B,h⟩:=h;split at h
 .rename_i D;simp only[aJ]at h;obtain⟨⟨wt,y⟩,O,h⟩:=h;split at h
  .rename_i U;simp only[aJ]at h;obtain⟨⟨tg,Y⟩,W,h⟩:=h;cases h;exact⟨tx,wt,tg,r,y,B,D,O,U,W,rfl⟩
  .cases h
 .cases h
theorem Hf{en:gS}(hT:t.Ok mx)(h:RG w Rb Mk t S rest told)(hS:S.size<=1099511627775)(hX:mZ nm rest=some (en,r3)) :
  bh prog 266 #[.pointer (some ⟨Rb,0,none⟩),.string ⟨nm.toArray⟩] w λe w'=>e=.returned (wz en)/\RG w' Rb Mk t S r3 told/\gV (· = Rb) w w':=by
 obtain⟨tx,wt,tg,r,r2,U,hq,W,ax,Y,rfl⟩:=uX hX;clear hX;obtain⟨w0,aa⟩:∃w0,w.alloc (.cells #[.string ⟨#[]⟩,.string ⟨#[]⟩,.int .i64 0,.int .i64 0] 96)=w0:=⟨_,rfl⟩;have ab:Below w.heap.size w w0:=by rw[<-aa]; exact(bo _ _).alloc (ba _) _
 have ac:bl (w0.heap[w.heap.size]?=some (.cells #[.string ⟨#[]⟩,.string ⟨#[]⟩,.int .i64 0,.int .i64 0] 96 (0,0))):=by show _=_; rw[<-aa]; exact bg w _
 have ad:bl _:=h.below hT ab;have ai:bl (gV (· = Rb) w w0):=gV.jk ab
 have ay:Rb<w.heap.size:=by
  obtain⟨p,h1,_⟩:=h.rd;exact iN h1
 have HD:bl (∀k,t.Q8 k->k≠w.heap.size):=λk hk e=>by have:=hT.lt h.sd hk; omega
 have ht:=vo Rb S rest Mk t.v w0 ad.out.rd (by omega);rw[U]at ht;obtain⟨D,aw⟩:=kR U;obtain⟨aj,_⟩:=mQ W;obtain⟨ak,_⟩:=kK Y;have aq:r.length<=rest.length:=by rw[D]; simp
 have al:r2.length<=r.length:=by rw[aj]; simp
 have am:r3.length<=r2.length:=by rw[ak]; simp
 have HT:bl _:=hT;have HW:bl _:=And.intro W Y;clear h ab U D aj ak W Y hT;have ar:(⟨tx.toArray⟩:ByteArray).size<=bf:=by show tx.toArray.size<=bf; unfold bf; simp; omega
 go_enter func266,ntmps266;go_wp2_with fail;clear aa;refine ht.mono ?_;rintro e w1 ⟨B,rfl,O,g3⟩;have ae:bl _:=ad.out.turn HT.out B O aq;have an:bl (gV (· = Rb) w w1):=ai.out.then B;have af:bl (w1.heap[w.heap.size]?=some (.cells #[.string ⟨#[]⟩,.string ⟨#[]⟩,.int .i64 0,.int .i64 0] 96 (0,0))):=by show _=_; rw[B.block _ (iN ac.out) (by show w.heap.size≠Rb; omega)]; exact ac.out
 clear B O g3 ht ad ai ac;go_wp2_with fail;refine(rT _ _ ar).mono ?_;rintro e w' ⟨rfl,rfl⟩;rw[show decide (iX (⟨tx.toArray⟩:ByteArray).data.toList=true/\(⟨tx.toArray⟩:ByteArray).data.toList≠[])=true from decide_eq_true hq];clear hq;go_wp2_with fail;refine(jR _).mono ?_;rintro e w' ⟨rfl,rfl⟩;have hw:=zm Rb S r Mk t.v w1 ae.out.rd (by omega);rw[HW.out.1]at hw;go_wp2_with fail;refine hw.mono ?_;rintro e w2 ⟨B,rfl,O,g3⟩;have ag:bl _:=ae.out.turn HT.out B O al;have ao:bl (gV (· = Rb) w w2):=an.out.then B;have ah:bl (w2.heap[w.heap.size]?=some (.cells #[.string ⟨#[]⟩,.string ⟨#[]⟩,.int .i64 0,.int .i64 0] 96 (0,0))):=by show _=_; rw[B.block _ (iN af.out) (by show w.heap.size≠Rb; omega)]; exact af.out
 clear B O g3 hw ae an af;have az:(wt:Int)<=1000000:=by omega
 go_wp2_with fail;refine(jR _).mono ?_;rintro e w' ⟨rfl,rfl⟩;have hn:=pV Rb S r2 Mk t.v w2 ag.out.rd (by omega);rw[HW.out.2]at hn;go_wp2_with fail;refine hn.mono ?_;rintro e w3 ⟨B,rfl,O,g3⟩;have au:bl _:=ag.out.turn HT.out B O am;have av:bl (gV (· = Rb) w w3):=ao.out.then B;have y:bl (w3.heap[w.heap.size]?=some (.cells #[.string ⟨#[]⟩,.string ⟨#[]⟩,.int .i64 0,.int .i64 0] 96 (0,0))):=by show _=_; rw[B.block _ (iN ah.out) (by show w.heap.size≠Rb; omega)]; exact ah.out
 clear B O g3 hn ag ao ah HW;have e0:w3.cell? ⟨w.heap.size,0,none⟩=some (.string ⟨#[]⟩):=by rw[Ps y.out]; rfl
 have e1:w3.cell? ⟨w.heap.size,1,none⟩=some (.string ⟨#[]⟩):=by rw[Ps y.out]; rfl
 have e2:w3.cell? ⟨w.heap.size,2,none⟩=some (.int .i64 0):=by rw[Ps y.out]; rfl
 have e3:w3.cell? ⟨w.heap.size,3,none⟩=some (.int .i64 0):=by rw[Ps y.out]; rfl
 have z0:w3.frozen? ⟨w.heap.size,0,none⟩=false:=Ue y.out 0;have z1:w3.frozen? ⟨w.heap.size,1,none⟩=false:=Ue y.out 1;have z2:w3.frozen? ⟨w.heap.size,2,none⟩=false:=Ue y.out 2;have z3:w3.frozen? ⟨w.heap.size,3,none⟩=false:=Ue y.out 3;go_wp2
 have ap:gV (· = w.heap.size) w3 ((((w3.setCell ⟨w.heap.size,0,none⟩ (.string ⟨nm.toArray⟩)).setCell ⟨w.heap.size,1,none⟩ (.string ⟨tx.toArray⟩)).setCell ⟨w.heap.size,2,none⟩ (.int .i64 wt)).setCell ⟨w.heap.size,3,none⟩ (.int .i64 tg)):=
  (((n9 (F:=(· = w.heap.size)) rfl).then (n9 rfl)).then (n9 rfl)).then (n9 rfl)
 refine bodyPost_ret (v:=wz ⟨nm,false,tx,wt,tg⟩) (by simp[results,results266,go_sem,e0,e1,e2,e3,wz]) rfl ⟨rfl,au.out.TW HT.out y.out (by omega) HD.out ap,av.out.trans ap (λi hi hg=>by omega)⟩
end
section
open Go.RowKit Go.Maps
theorem DN{P:Program}{f:FuncId}{jZ:Func}{c:Code}(h:P.funcs[f]?=some jZ)(hb:jZ.body=some c)(y:(jZ.name == "runtime.NumGoroutine")=false) (args:Array Value) (w:World):(bj f args).run P w=.ok (.enter f args) w:=by
 unfold bj;show((match P.funcs[f]? with|none=>_|some fn=>_:Sem Go.Next)).run P w=_;rw[h];simp only[y,hb,Bool.false_eq_true,if_false,Option.isNone_some];rfl
theorem G7{Rb Mk q mx:Nat}{t:Gu}{S:ByteArray}{rest:Wd}{told:List (Nat×gS)}{e:gS}{w:World}(hT:t.Ok mx)(h:RG w Rb Mk t S rest told)(hS:S.size<=1099511627775)(hm:S.size<=mx)(hn:e.name ∉ (sn told).map gS.name)(ho:Told e)(a5:told.length+1+rest.length<=S.size)(hq:q<=S.size) :
  bh prog 235 #[.pointer (some ⟨Rb,0,none⟩),.int .i64 (q:Int),.string ⟨e.name.toArray⟩,tJ e] w λen w'=>en=.returned (.tuple #[])/\RG w' Rb Mk t S rest (told++[(q,e)])/\gV (GR Rb Mk t) w w':=by
 obtain⟨w0,aj⟩:∃w0,w.alloc (.cells #[.bool e.gone,.string ⟨(Bq e).toArray⟩,.string ⟨e.text.toArray⟩,.int .i64 e.gT,.int .i64 e.il] 111)=w0:=⟨_,rfl⟩;have ad:Below w.heap.size w w0:=by rw[<-aj]; exact(bo _ _).alloc (ba _) _
 have ae:w0.heap[w.heap.size]?=some (.cells #[.bool e.gone,.string ⟨(Bq e).toArray⟩,.string ⟨e.text.toArray⟩,.int .i64 e.gT,.int .i64 e.il] 111 (0,0)):=by rw[<-aj]; exact bg w _
 have O:=h.below hT ad;have n1:=O.mr;have aa:=O.ne;have ao:∀k,t.Q8 k->k≠w.heap.size:=λk D e=>by have:=hT.lt h.sd D; omega
 obtain⟨p,hp1,ak⟩:=id O.rd;unfold AB at hp1;have c2:w0.cell? ⟨Rb,2,none⟩=some (.map (some Mk)):=by rw[Ps hp1]; rfl
 have ap:Mk≠w.heap.size:=O.kn.pK ae;have ac:=JN (sn told) e Px (λ_=>rfl) hn;have aq:e.name.length<=bf:=by have:=ho.1; unfold bf; omega
 obtain⟨jZ,cc,ar,au,av⟩:=hT.jZ;have af:bl _:=O;have ag:bl _:=And.intro hp1 ak;have al:bl _:=ae;have aw:bl _:=ad;have HP:bl _:=ac;have HN:bl (e.name ∉ (sn told).map gS.name/\Told e/\told.length<1099511627776/\q<=mx):=⟨hn,ho,by omega,by omega⟩;have HT:bl _:=hT;clear h ad ae O hp1 ak ac hn hT ho;unfold tJ;go_enter func235,ntmps235;go_wp2_with (first|(at_mapUpdate; refine m5 _ rfl _ _ _ 214 rfl 263 underlying9 underlying214 rfl af.out.kn (by rw[aR,aR]; unfold bf; omega) e.name aq rfl (.agg #[]) rfl ?_; intro w1 am ax a6));have ab:=gV.qR ax;have ah:w1.heap[Rb]?=some (.cells #[.string S,.int .i64 p,.map (some Mk),t.v] 216 (0,0)):=by rw[ab.block Rb (iN ag.out.1) (λe=>n1 e.symm)]; exact ag.out.1
 have y:w1.heap[w.heap.size]?=some (.cells #[.bool e.gone,.string ⟨(Bq e).toArray⟩,.string ⟨e.text.toArray⟩,.int .i64 e.gT,.int .i64 e.il] 111 (0,0)):=by rw[ab.block _ (iN al.out) (λe=>ap e.symm)]; exact al.out
 have ay:t.T w1 told:=HT.out.stay af.out.sd λk D=>ab.block k (HT.out.lt af.out.sd D) (aa k D).2;have c3:w1.cell? ⟨Rb,3,none⟩=some (.func (.func t.fn) #[] t.cp):=by rw[Ps ah]; rfl
 have d0:w1.cell? ⟨w.heap.size,0,none⟩=some (.bool e.gone):=by rw[Ps y]; rfl
 have d1:w1.cell? ⟨w.heap.size,1,none⟩=some (.string ⟨(Bq e).toArray⟩):=by rw[Ps y]; rfl
 have d2:w1.cell? ⟨w.heap.size,2,none⟩=some (.string ⟨e.text.toArray⟩):=by rw[Ps y]; rfl
 have d3:w1.cell? ⟨w.heap.size,3,none⟩=some (.int .i64 e.gT):=by rw[Ps y]; rfl
 have d4:w1.cell? ⟨w.heap.size,4,none⟩=some (.int .i64 e.il):=by rw[Ps y]; rfl
 have az:bl (∀w2:World,w2.heap=w1.heap->w2.os=w1.os->w2.tape=w1.tape->w2.output=w1.output->bh prog t.fn (#[.int .i64 (q:Int),.string ⟨e.name.toArray⟩,tJ e]++t.cp) w2 λen w'=>en=.returned (.tuple #[])/\t.T w' (told++[(q,e)])/\gV t.own w1 w'):=by
  intro w2 k1 k2 k3 k4;obtain⟨a1,a2,a3,a4⟩:=HN.out;refine(HT.out.tell w2 q told e (HT.out.stay ay λk _=>by rw[k1]) a1 a3 a2 a4).mono ?_;rintro en w' ⟨q1,q2,Y⟩;exact⟨q1,q2,⟨Y.os.trans k2,Y.tape.trans k3,Y.output.trans k4,by have:=Y.size; rw[k1]at this; exact this,λk D hn=>by rw[Y.block k (by rw[k1]; exact D) hn,k1]⟩⟩
 have B:w1.drew.cell? ⟨Rb,3,none⟩=some (.func (.func t.fn) #[] t.cp)/\w1.drew.cell? ⟨w.heap.size,0,none⟩=some (.bool e.gone)/\w1.drew.cell? ⟨w.heap.size,1,none⟩=some (.string ⟨(Bq e).toArray⟩)/\w1.drew.cell? ⟨w.heap.size,2,none⟩=some (.string ⟨e.text.toArray⟩)/\w1.drew.cell? ⟨w.heap.size,3,none⟩=some (.int .i64 e.gT)/\w1.drew.cell? ⟨w.heap.size,4,none⟩=some (.int .i64 e.il):=⟨c3,d0,d1,d2,d3,d4⟩;clear c3 d0 d1 d2 d3 d4;refine wp_region_held (S:=λw'=>w'.cell? ⟨Rb,3,none⟩=some (.func (.func t.fn) #[] t.cp)/\w'.cell? ⟨w.heap.size,0,none⟩=some (.bool e.gone)/\w'.cell? ⟨w.heap.size,1,none⟩=some (.string ⟨(Bq e).toArray⟩)/\w'.cell? ⟨w.heap.size,2,none⟩=some (.string ⟨e.text.toArray⟩)/\w'.cell? ⟨w.heap.size,3,none⟩=some (.int .i64 e.gT)/\w'.cell? ⟨w.heap.size,4,none⟩=some (.int .i64 e.il)) (by kernel_rfl) ?_;refine iV 0 ?_ B ?_<|iV 1 ?_ B ?_<|iV 2 ?_ B ?_<|iV 3 ?_ B ?_<|iV 4 ?_ B ?_<|iV 5 ?_ B ?_<|iV 6 ?_ B ?_ ?_
 any_goals(rintro w' ⟨k0,k1,k2,k3,k4,k5⟩; go_simp; first|done|with_reducible rfl)
 refine wpAnyH_all (rs:=[7]) (by kernel_rfl) (by simp) ?_;intro i hi;simp only[aW]at hi;subst hi;refine wpOp_step (by rfl) λK' a0=>?_;rw[if_pos (by rfl)];have ai:=az.out w1.drew rfl rfl rfl rfl;unfold Oper.wp;go_simp;change Oper.upon _ _ _ _ _ (Sem.run _ (bj t.fn _) _);rw[DN ar au av];refine ai.mono ?_;rintro en w2 ⟨rfl,q2,Y⟩;have U:∀k,t.own k->k≠Rb/\k≠Mk/\k≠w.heap.size:=λk D=>⟨(aa k (HT.out.sub k D)).1,(aa k (HT.out.sub k D)).2,ao k (HT.out.sub k D)⟩;have an:w2.heap[Rb]?=some (.cells #[.string S,.int .i64 p,.map (some Mk),t.v] 216 (0,0)):=by rw[Y.block Rb (iN ah) (λe=>(U _ e).1 rfl)]; exact ah
 have W:w2.heap[w.heap.size]?=some (.cells #[.bool e.gone,.string ⟨(Bq e).toArray⟩,.string ⟨e.text.toArray⟩,.int .i64 e.gT,.int .i64 e.il] 111 (0,0)):=by rw[Y.block _ (iN y) (λe=>(U _ e).2.2 rfl)]; exact y
 refine a0 _ _ ⟨⟨by rw[Ps an]; rfl,by rw[Ps W]; rfl,by rw[Ps W]; rfl,by rw[Ps W]; rfl,by rw[Ps W]; rfl,by rw[Ps W]; rfl⟩,wpAnyH_done (by kernel_rfl) ?_ _⟩;go_wp2;go_end0;refine⟨rfl,⟨⟨p,an,ag.out.2⟩,?_,q2,by simp; omega,aa⟩,?_⟩
 .rw[show sn (told++[(q,e)])=sn told++[e] by simp[sn],<-HP.out];exact ir.stay am (Y.block _ (ir.lt am) λe=>(U _ e).2.1 rfl)
 .exact((gV.jk aw.out).then (ab.mono (λ_ D=>Or.inr (Or.inl D)))).then (Y.mono (λ_ D=>Or.inr (Or.inr D)))
end
section
open Go.RowKit Go.Maps
variable {S:ByteArray} {told:List (Nat×gS)} {Mk Rb mx n:Nat} {t:Gu} {r0 rest rf:Wd} {w:World}
theorem gV.CY{w':World}(h:gV (· = Rb) w w'):gV (GR Rb Mk t) w w':=h.mono (λ_ y=>Or.inl y)
theorem RG.here(h:RG w Rb Mk t S rest told):∃p:Nat,w.cell? ⟨Rb,1,none⟩=some (.int .i64 (p:Int))/\p=S.size-rest.length:=⟨_,h.pos,rfl⟩
theorem Mf{gs:List (Nat×gS)}(hT:t.Ok mx)(h:RG w Rb Mk t S rest [])(hS:S.size<=1099511627775)(hm:S.size<=mx)(hx:rdNum rest=some (n,r0))(hX:mE S.size n [] [] r0=some (gs,rf)) :
  bh prog 211 #[.pointer (some ⟨Rb,0,none⟩)] w λe w'=>e=.returned (.int .i64 n)/\gV (GR Rb Mk t) w w'/\RG w' Rb Mk t S rf gs:=by
 have ht:=pV Rb S rest Mk t.v w h.rd (by omega);have HR:bl _:=h;have HT:bl _:=hT;clear h hT;rw[hx]at ht;obtain⟨aa,ah⟩:=kK hx;have ai:r0.length<=rest.length:=by rw[aa]; simp
 clear hx aa;go_enter func211,ntmps211;go_wp2_with fail;refine ht.mono ?_;rintro e w1 ⟨g1,rfl,g2,g3⟩;have HR1:bl _:=HR.out.turn HT.out g1 g2 ai;have HF1:bl (gV (GR Rb Mk t) w w1):=g1.CY;have HX0:bl _:=hX;clear g1 g2 g3 ht hX;go_wp2;go_loopw [4,9] (λl i wr=>∃(k:Nat)(done gs':List (Nat×gS))(ls r:Wd),k<=n/\i=.int .i64 k/\l=.string ⟨ls.toArray⟩/\RG wr Rb Mk t S r done/\gV (GR Rb Mk t) w wr/\mE S.size (n-k) ((sn done).map gS.name) ls r=some (gs',rf)/\gs=done++gs') (λ_ i _=>n-(bm i).toNat)
 case atStart=>exact⟨0,[],gs,[],r0,bc _,rfl,rfl,HR1.out,HF1.out,HX0.out,rfl⟩
 case round=>
  obtain⟨k,done,gs',ls,r,hk,rfl,rfl,hr,hf,O,y⟩:=hrel;have ab:bl _:=hf;have HG:bl _:=And.intro O y;by_cases am:k<n
  .obtain⟨p,hp,ac⟩:=hr.here;have B:bl _:=hr;have ad:bl _:=ac;have e1:n-k=(n-(k+1))+1:=by omega
   rw[e1]at O;obtain⟨nm,r1,gs2,hx,ae,rfl⟩:=vG O;have af:=sy HT.out B.out hS hx;obtain⟨ag,U,_,W⟩:=qy hx;have D:bl _:=And.intro ae (And.intro y (And.intro W (lA U).2));have ak:r1.length+1<=r.length:=by rw[ag]; simp[io]
   clear hr hf O y ac hx ag U W ae e1 HG;go_wp2_with fail;refine af.mono ?_;rintro e w2 ⟨rfl,g2,g1⟩;have al:=B.out.yE;have Y:=G7 (q:=p) (e:=⟨nm,true,[],0,0⟩) HT.out g2 hS hm D.out.2.2.1 ⟨by show nm.length<=255; have:=D.out.2.2.2; omega,by simp,λh=>by cases h⟩ (by omega) (by have:=ad.out; omega);have aj:bl (gV (GR Rb Mk t) w w2):=ab.out.then g1.CY;clear af g1 g2 hp;go_wp2_with fail;refine Y.mono ?_;rintro e w3 ⟨rfl,q1,q2⟩;have HR3:bl _:=q1;have HF3:bl (gV (GR Rb Mk t) w w3):=aj.out.then q2;clear Y q1 q2;go_wp2;go_roundw
   case rel=>exact⟨k+1,_,gs2,nm,r1,by omega,by go_num,rfl,HR3.out,HF3.out,by rw[show(sn (done++[(p,(⟨nm,true,[],0,0⟩:gS))])).map gS.name=(sn done).map gS.name++[nm] by simp[sn]]; exact D.out.1,by rw[D.out.2.1,ad.out]; simp⟩
   case measure=>simp[bm]; omega
  .have B:bl _:=hr;clear hr hf O y;go_wp2;go_ret;have O:=HG.out.1;rw[show n-k=0 by omega,mE]at O;cases O;exact⟨rfl,ab.out,by rw[HG.out.2,aL]; exact B.out⟩
theorem CU{path:Wd}{es:List (Nat×gS)}(hT:t.Ok mx)(h:RG w Rb Mk t S rest told)(hS:S.size<=1099511627775)(hm:S.size<=mx)(hx:rdNum rest=some (n,r0))(hX:nN S.size n path ((sn told).map gS.name) [] r0=some (es,rf)) :
  bh prog 238 #[.pointer (some ⟨Rb,0,none⟩),.string ⟨path.toArray⟩] w λe w'=>e=.returned (.tuple #[.int .i64 n,.int .i64 (k9 (sn es))])/\gV (GR Rb Mk t) w w'/\RG w' Rb Mk t S rf (told++es):=by
 have ht:=pV Rb S rest Mk t.v w h.rd (by omega);have HR:bl _:=h;have HT:bl _:=hT;clear h hT;rw[hx]at ht;obtain⟨am,a2⟩:=kK hx;have a3:r0.length<=rest.length:=by rw[am]; simp
 clear hx am;go_enter func238,ntmps238;go_wp2_with fail;refine ht.mono ?_;rintro e w1 ⟨D,rfl,g2,g3⟩;have a4:bl _:=HR.out.turn HT.out D g2 a3;have a5:bl (gV (GR Rb Mk t) w w1):=D.CY;have a6:bl _:=hX;clear D g2 g3 ht hX;go_wp2;go_loopw [5,6,12] (λg l i wr=>∃(k:Nat)(done ah:List (Nat×gS))(ls r:Wd),k<=n/\i=.int .i64 k/\l=.string ⟨ls.toArray⟩/\g=.int .i64 (k9 (sn done))/\RG wr Rb Mk t S r (told++done)/\gV (GR Rb Mk t) w wr/\nN S.size (n-k) path ((sn (told++done)).map gS.name) ls r=some (ah,rf)/\es=done++ah) (λ_ _ i _=>n-(bm i).toNat)
 case atStart=>exact⟨0,[],es,[],r0,bc _,rfl,rfl,rfl,by rw[aL]; exact a4.out,a5.out,by rw[aL]; exact a6.out,rfl⟩
 case round=>
  obtain⟨k,done,ah,ls,r,hk,rfl,rfl,rfl,hr,hf,hg,aa⟩:=hrel;have an:bl _:=hf;have HG:bl _:=And.intro hg aa;by_cases aE:k<n
  .obtain⟨p,hp,ao⟩:=hr.here;have ab:bl _:=hr;have ap:bl _:=ao;have e1:n-k=(n-(k+1))+1:=by omega
   rw[e1]at hg;obtain⟨nm,r1,en,r2,a7,hx,hy,kh,aq,rfl⟩:=Dg hg;have ar:=sy HT.out ab.out hS hx;obtain⟨au,ad,_,ae⟩:=qy hx;obtain⟨tx,wt,tg,aF,O,aG,aB⟩:=CO hy;cases O;obtain⟨_,_,aH,_,_,_,_,_,_,av,O⟩:=uX hy
   have af:tg<=255:=by
    simp only[gS.mk.injEq]at O;have:=(kK av).2;omega
   have ag:0<=tg:=by
    simp only[gS.mk.injEq]at O;omega
   have y:bl _:=And.intro aq (And.intro aa (And.intro ae (And.intro (lA ad).2 (And.intro ag (And.intro af hy)))));have aC:r1.length+1<=r.length:=by rw[au]; simp[io]
   have aI:(iD tx==path)=true:=beq_iff_eq.2 kh;clear hr hf hg aa ao hx au ad ae aq e1 HG hy kh av O af ag;go_wp2_with fail;refine ar.mono ?_;rintro e w2 ⟨rfl,g2,D⟩;have aD:=ab.out.yE;have hent:=Hf HT.out g2 hS y.out.2.2.2.2.2.2;have aw:bl (gV (GR Rb Mk t) w w2):=an.out.then D.CY;clear ar D g2 hp;unfold wz at hent;go_wp2_with fail;refine hent.mono ?_;rintro e w3 ⟨rfl,g2,D⟩;have U:bl _:=g2;have ax:bl (gV (GR Rb Mk t) w w3):=aw.out.then D.CY;clear hent D g2 aw;have a8:(⟨tx.toArray⟩:ByteArray).size<=1099511627776:=by show tx.toArray.size<=_; simp; omega
   obtain⟨w4,ai⟩:∃w4,w3.alloc (.cells #[.string ⟨nm.toArray⟩,.string ⟨tx.toArray⟩,.int .i64 wt,.int .i64 tg] 96)=w4:=⟨_,rfl⟩;have aj:Below w3.heap.size w3 w4:=by rw[<-ai]; exact(bo _ _).alloc (ba _) _
   have ac:w4.heap[w3.heap.size]?=some (.cells #[.string ⟨nm.toArray⟩,.string ⟨tx.toArray⟩,.int .i64 wt,.int .i64 tg] 96 (0,0)):=by rw[<-ai]; exact bg w3 _
   have e1:w4.cell? ⟨w3.heap.size,1,none⟩=some (.string ⟨tx.toArray⟩):=by rw[Ps ac]; rfl
   go_wp2_with fail;refine(qV _ _ a8).mono ?_;rintro e w5 ⟨rfl,ak⟩;clear ai e1;have a9:=aj.size;have B:w5.heap[w3.heap.size]?=some (.cells #[.string ⟨nm.toArray⟩,.string ⟨tx.toArray⟩,.int .i64 wt,.int .i64 tg] 96 (0,0)):=by rw[ak.block _ (iN ac)]; exact ac
   have W:Below w3.heap.size w3 w5:=aj.trans (ak.mono a9)
   have HD:bl (∀k,GR Rb Mk t k->k≠w3.heap.size):=by
    rintro k (h1|h1|h1) e
    .obtain⟨p1,D,_⟩:=U.out.rd;have:=iN D;omega
    .have:=U.out.kn.lt;omega
    .have:=HT.out.lt U.out.sd (HT.out.sub k h1);omega
   have ay:bl _:=U.out.below HT.out W;have az:bl (gV (GR Rb Mk t) w w5):=ax.out.then (gV.jk W);have al:bl _:=B;have d0:w5.cell? ⟨w3.heap.size,0,none⟩=some (.string ⟨nm.toArray⟩):=by rw[Ps B]; rfl
   have d1:w5.cell? ⟨w3.heap.size,1,none⟩=some (.string ⟨tx.toArray⟩):=by rw[Ps B]; rfl
   have d2:w5.cell? ⟨w3.heap.size,2,none⟩=some (.int .i64 wt):=by rw[Ps B]; rfl
   have d3:w5.cell? ⟨w3.heap.size,3,none⟩=some (.int .i64 tg):=by rw[Ps B]; rfl
   clear aj ac ak B W U ax;rw[show(iD (⟨tx.toArray⟩:ByteArray).data.toList)=iD tx from rfl];go_wp2_with fail;refine(jR _).mono ?_;rintro e w' ⟨rfl,rfl⟩;have Y:=G7 (q:=p) (e:=⟨nm,false,tx,wt,tg⟩) HT.out ay.out hS hm y.out.2.2.1 ⟨by show nm.length<=255; have:=y.out.2.2.2.1; omega,by show tx.length<=255; omega,λ_=>⟨y.out.2.2.2.2.1,y.out.2.2.2.2.2.1⟩⟩ (by omega) (by have:=ap.out; omega);have a0:tJ ⟨nm,false,tx,wt,tg⟩=.agg #[.bool false,.string ⟨nm.toArray⟩,.string ⟨tx.toArray⟩,.int .i64 wt,.int .i64 tg]:=rfl;rw[a0]at Y;clear a0;go_wp2_with fail;refine Y.mono ?_;rintro e w6 ⟨rfl,q1,q2⟩
   have a1:w6.heap[w3.heap.size]?=some (.cells #[.string ⟨nm.toArray⟩,.string ⟨tx.toArray⟩,.int .i64 wt,.int .i64 tg] 96 (0,0)):=by
    rw[q2.block _ (iN al.out) (λh=>HD.out _ h rfl)]; exact al.out
   have d26:w6.cell? ⟨w3.heap.size,2,none⟩=some (.int .i64 wt):=by rw[Ps a1]; rfl
   have a':bl _:=q1;have aA:bl (gV (GR Rb Mk t) w w6):=az.out.then q2;clear Y q1 q2 a1 d0 d1 d2 d3 ay az al;go_wp2;go_roundw
   case rel=>
    refine⟨k+1,done++[(p,⟨nm,false,tx,wt,tg⟩)],a7,nm,r2,by omega,by go_num,rfl,?_,by rw[<-aP]; exact a'.out,aA.out,?_,by rw[y.out.2.1,ap.out]; simp⟩
    .rw[show sn (done++[(p,(⟨nm,false,tx,wt,tg⟩:gS))])=sn done++[⟨nm,false,tx,wt,tg⟩] by simp[sn],qo,nC,show k9 []=0 from rfl];have:=nV (sn done);show Value.int .i64 (max (k9 (sn done)) wt)=Value.int .i64 (max (k9 (sn done)) (max (max 0 wt) 0));congr 1;omega
    .rw[show((sn (told++(done++[(p,(⟨nm,false,tx,wt,tg⟩:gS))]))).map gS.name)=(sn (told++done)).map gS.name++[nm] by simp[sn]];exact y.out.1
   case measure=>simp[bm]; omega
  .have ab:bl _:=hr;clear hr hf hg aa;go_wp2;go_ret2;have hg:=HG.out.1;rw[show n-k=0 by omega,nN]at hg;cases hg;have e:=HG.out.2;rw[aL]at e;refine⟨?_,an.out,by rw[e]; exact ab.out⟩;rw[e];rfl
end
section
open Go.RowKit Go.Maps
def QY(t:Gu)(mx f:Nat):Prop:=∀(Rb Mk g:Nat)(S:ByteArray)(rest r:Wd)(told es:List (Nat×gS))(path:Wd)(w:World),RG w Rb Mk t S rest told->S.size<=1099511627775->S.size<=mx->path.length<=1099511627775->nf S.size f path ((sn told).map gS.name) rest=some (g,es,r)->
  bh prog 214 #[.pointer (some ⟨Rb,0,none⟩),.string ⟨path.toArray⟩] w λe w'=>e=.returned (.int .i64 g)/\gV (GR Rb Mk t) w w'/\RG w' Rb Mk t S r (told++es)
theorem Bg{Rb Mk mx n f g:Nat}{t:Gu}{S:ByteArray}{rest r0 rf path:Wd}{told es:List (Nat×gS)}{w:World}(hN:QY t mx f)(hT:t.Ok mx)(h:RG w Rb Mk t S rest told)(hS:S.size<=1099511627775)(hm:S.size<=mx)(hp:path.length<=24)(Y:rdNum rest=some (n,r0))(hX:oc (nf S.size f) n path ((sn told).map gS.name) (-1) r0=some (g,es,rf)) :
  bh prog 239 #[.pointer (some ⟨Rb,0,none⟩),.string ⟨path.toArray⟩] w λe w'=>e=.returned (.tuple #[.int .i64 n,.int .i64 g])/\gV (GR Rb Mk t) w w'/\RG w' Rb Mk t S rf (told++es):=by
 have ht:=pV Rb S rest Mk t.v w h.rd (by omega);have HR:bl _:=h;have HT:bl _:=hT;have HN:bl _:=hN;clear h hT hN;rw[Y]at ht;obtain⟨ae,aj⟩:=kK Y;have ak:r0.length<=rest.length:=by rw[ae]; simp
 clear Y ae;go_enter func239,ntmps239;go_wp2_with fail;refine ht.mono ?_;rintro e w1 ⟨y,rfl,O,g3⟩;have al:bl _:=HR.out.turn HT.out y O ak;have am:bl (gV (GR Rb Mk t) w w1):=y.CY;have an:bl _:=hX;clear y O g3 ht hX;go_wp2;go_loopw [5,6,11] (λgv l i wr=>∃(k gg g':Nat)(done aa:List (Nat×gS))(la:Int)(r:Wd),k<=n/\i=.int .i64 k/\l=.int .i64 la/\gv=.int .i64 gg/\RG wr Rb Mk t S r (told++done)/\gV (GR Rb Mk t) w wr/\oc (nf S.size f) (n-k) path ((sn (told++done)).map gS.name) la r=some (g',aa,rf)/\(g=max gg g'/\es=done++aa)/\-1<=la/\la<=255) (λ_ _ i _=>n-(bm i).toNat)
 case atStart=>exact⟨0,0,g,[],es,-1,r0,bc _,rfl,rfl,rfl,by rw[aL]; exact al.out,am.out,by rw[aL]; exact an.out,⟨by omega,rfl⟩,by omega,by omega⟩
 case round=>
  obtain⟨k,gg,g',done,aa,la,r,hk,rfl,rfl,rfl,hr,hf,U,B,av,aw⟩:=hrel;have af:bl _:=hf;have HG:bl _:=And.intro U B;have ab:bl _:=hr;by_cases ay:k<n
  .rw[show n-k=(n-(k+1))+1 by omega]at U;obtain⟨c,cs,r1,ga,ea,r2,gb,eb,Y,az,hy,hz,rfl,rfl⟩:=CN U;have ac:=vo Rb S r Mk t.v wr ab.out.rd (by omega);rw[Y]at ac;obtain⟨ag,W⟩:=kR Y;have ah:r1.length<=r.length:=by rw[ag]; simp
   have D:bl _:=And.intro hz (And.intro B hy);have hc:=c.toNat_lt;have ai:(⟨(c::cs).toArray⟩:ByteArray).size=cs.length+1:=by show(c::cs).toArray.size=_; simp
   have a0:(⟨(c::cs).toArray⟩:ByteArray)[0]'(by rw[ai]; omega)=c:=rfl;have ao:(⟨path.toArray⟩:ByteArray).size=path.length:=by show path.toArray.size=_; simp
   have ax:¬(9223372036854775807<(⟨path.toArray⟩:ByteArray).size+(⟨(c::cs).toArray⟩:ByteArray).size):=by rw[ao,ai]; simp only[aM]at W; omega
   clear hr hf U B Y ag hy hz HG;go_wp2_with fail;refine ac.mono ?_;rintro e w2 ⟨y,rfl,O,g3⟩;have ap:bl _:=ab.out.turn HT.out y O ah;have aq:bl (gV (GR Rb Mk t) w w2):=af.out.then y.CY;clear ac y O g3;have ad:=HN.out Rb Mk ga S r1 r2 (told++done) ea (path++(c::cs)) w2 ap.out hS hm (by simp only[aN,aM]at W⊢; omega) D.out.2.2;rw[<-R4 path (c::cs)]at ad;go_wp2_with fail;refine(jR _).mono ?_;rintro e w' ⟨rfl,rfl⟩;go_wp2_with fail;refine ad.mono ?_;rintro e w3 ⟨rfl,y,O⟩;have ar:bl _:=O;have au:bl (gV (GR Rb Mk t) w w3):=aq.out.then y;clear ad y O;go_wp2;go_roundw
   case rel=>
    refine⟨k+1,max gg ga,gb,done++ea,eb,(c.toNat:Int),r2,by omega,by go_num,rfl,?_,by rw[<-aP]; exact ar.out,au.out,?_,⟨by rw[D.out.2.1.1,Nat.max_assoc],by rw[D.out.2.1.2,aP]⟩,by omega,by omega⟩
    .show Value.int .i64 (max (gg:Int) (ga:Int))=Value.int .i64 ((max gg ga:Nat):Int);congr 1;omega
    .rw[show((sn (told++(done++ea))).map gS.name)=(sn (told++done)).map gS.name++(sn ea).map gS.name by simp[sn]];exact D.out.1
   case measure=>simp[bm]; omega
  .clear hr hf U B;go_wp2;go_ret2;have U:=HG.out.1;rw[show n-k=0 by omega,oc]at U;cases U;have e1:=HG.out.2.1;have e2:=HG.out.2.2;rw[aL]at e2;refine⟨?_,af.out,by rw[e2]; exact ab.out⟩;rw[e1,Nat.max_zero];rfl
theorem Kf{t:Gu}{mx:Nat}(hT:t.Ok mx):∀f,QY t mx f:=by
 intro f
 induction f with
 |zero=>
  intro Rb Mk g S rest r told es path w h hS hm U hX;cases hX
 |succ f ih=>
  intro Rb Mk g S rest r told es path w h hS hm U hX;obtain⟨f',ah,hp,r0,nb,r1,own,r2,nc,r3,gb,below,W,h2,h3,h4,h5,Y,aa,rfl⟩:=El hX;cases ah;clear hX U;have al:(⟨path.toArray⟩:ByteArray).size=path.length:=by show path.toArray.size=_; simp
  have am:(path.length:Int)<=24:=by omega
  have ht:=zm Rb S rest Mk t.v w h.rd (by omega);rw[W]at ht;have ai:r0.length<=rest.length:=by rw[(mQ W).1]; simp
  have HR:bl _:=h;have HN:bl _:=ih;have HT:bl _:=hT;have HX:bl _:=And.intro h2 (And.intro h3 (And.intro h4 h5));clear h ih hT W h2 h3 h4 h5;have HG:bl _:=Y;have HP:bl _:=aa;go_enter func214,ntmps214;go_wp2_with fail;refine(jR _).mono ?_;rintro e w' ⟨rfl,rfl⟩;go_wp2_with fail;refine ht.mono ?_;rintro e w1 ⟨y,rfl,B,g3⟩;have ab:bl _:=HR.out.turn HT.out y B ai;have ac:bl (gV (GR Rb Mk t) w w1):=y.CY;clear ht y B g3 Y aa;have ad:=CU HT.out ab.out hS hm HX.out.1 HX.out.2.1;go_wp2_with fail;refine ad.mono ?_;rintro e w2 ⟨rfl,y,B⟩;have ae:bl _:=B;have af:bl (gV (GR Rb Mk t) w w2):=ac.out.then y;clear ad y B ab ac;have ag:=Bg HN.out HT.out ae.out hS hm hp HX.out.2.2.1 (by rw[show(sn (told++own)).map gS.name=(sn told).map gS.name++(sn own).map gS.name by simp[sn]]; exact HX.out.2.2.2);go_wp2_with fail;refine ag.mono ?_;rintro e w3 ⟨rfl,y,B⟩;have D:bl (RG w3 Rb Mk t S r (told++(own++below))):=by show RG _ _ _ _ _ _ _; rw[<-aP]; exact B
  have O:bl (gV (GR Rb Mk t) w w3):=af.out.then y;clear ag y B ae af HX;have aj:((g:Int)==max (k9 (sn own)) (gb:Int))=true:=beq_iff_eq.2 HG.out;go_wp2_with fail;refine(jR _).mono ?_;rintro e w' ⟨rfl,rfl⟩;clear aj
  cases path with
  |nil=>
   go_wp2_with fail;refine(jR _).mono ?_;rintro e w' ⟨rfl,rfl⟩;go_wp2;go_ret;exact⟨rfl,O.out,D.out⟩
  |cons c cs=>
   by_cases W:0<nb
   .have ak:(0:Int)<(nb:Int):=by omega
    go_wp2_with fail;refine(jR _).mono ?_;rintro e w' ⟨rfl,rfl⟩;go_wp2;go_ret;exact⟨rfl,O.out,D.out⟩
   .have ak:decide ((0:Int)<(nb:Int))=false:=decide_eq_false (by omega)
    have an:(1:Int)<(nc:Int):=by
     rcases HP.out with h|h|h
     .cases h
     .exact absurd h W
     .omega
    go_wp2_with fail;refine(jR _).mono ?_;rintro e w' ⟨rfl,rfl⟩;go_wp2;go_ret;exact⟨rfl,O.out,D.out⟩
end
section
open Go.RowKit Go.Maps
variable {S:ByteArray} {es gs:List (Nat×gS)} {Mk Rb mx:Nat} {t:Gu} {rest:Wd} {w:World}
theorem Eg(hT:t.Ok mx)(h:RG w Rb Mk t S rest [])(hS:S.size<=1099511627775)(hm:S.size<=mx)(hX:sF S.size rest=some (gs,es)) :
  bh prog 159 #[.pointer (some ⟨Rb,0,none⟩)] w λe w'=>e=.returned (.tuple #[])/\gV (GR Rb Mk t) w w'/\RG w' Rb Mk t S [] (gs++es):=by
 obtain⟨ng,r,r0,r1,g,h1,h2,h3,h4,h5,ao,aj⟩:=ED hX;have ak:gs.length=ng:=xj h2;have ab:=Mf hT h hS hm h1 h2;have ac:r1.length<=r0.length:=by rw[(kR h3).1]; simp
 have HT:bl _:=hT;have H3:bl _:=h3;have H4:bl _:=h4;clear h h1 h2 h3 h4 hX hT;go_enter func159,ntmps159;go_wp2_with fail;refine ab.mono ?_;rintro e w1 ⟨rfl,B,U⟩;have Y:bl _:=U;have ad:bl _:=B;clear ab B U;have aa:=vo Rb S r0 Mk t.v w1 Y.out.rd (by omega);rw[H3.out]at aa;go_wp2_with fail;refine aa.mono ?_;rintro e w2 ⟨B,rfl,U,g3⟩;have ae:bl _:=Y.out.turn HT.out B U ac;have af:bl (gV (GR Rb Mk t) w w2):=ad.out.then B.CY;clear aa B U g3 Y ad;go_wp2_with fail;refine(jR _).mono ?_;rintro e w' ⟨rfl,rfl⟩;have ag:=Kf HT.out 26 Rb Mk g S r1 [] gs es [] w2 ae.out hS hm (by simp) H4.out;go_wp2_with fail;refine ag.mono ?_;rintro e w3 ⟨rfl,B,U⟩;have D:bl _:=U;have y:bl (gV (GR Rb Mk t) w w3):=af.out.then B;clear ag B U ae af;obtain⟨p,O,ar,ah⟩:=D.out.rd;have c0:w3.cell? ⟨Rb,0,none⟩=some (.string S):=by rw[Ps O]; rfl
 have c1:w3.cell? ⟨Rb,1,none⟩=some (.int .i64 p):=by rw[Ps O]; rfl
 have c2:w3.cell? ⟨Rb,2,none⟩=some (.map (some Mk)):=by rw[Ps O]; rfl
 have au:((p:Int)==(S.size:Int))=true:=beq_iff_eq.2 (by
  have:=List.drop_eq_nil_iff.1 ah;simp at this
  omega)
 clear O ah;have W:=λty:bk=>ir.len (ir.stay D.out.kn rfl:ir prog 9 w3.drew Mk ((sn (gs++es)).map Px)) underlying214 ty;have ai:((sn (gs++es)).map Px).length=gs.length+es.length:=by simp
 rw[ai]at W;obtain⟨N,hN⟩:∃N:Nat,N=gs.length+es.length:=⟨_,rfl⟩;rw[<-hN]at W;have av:N<=S.size:=by have:=D.out.yE; rw[aN]at this; omega
 have aw:0<N:=by omega
 have ap:(0:Int)<(N:Int):=by omega
 have aj:N-ng<=30:=by omega
 have al:(ng:Int)<=100:=by omega
 have aq:(N:Int)-(ng:Int)<=30:=by omega
 have am:bl (gV (GR Rb Mk t) w w3.drew):=⟨y.out.os,y.out.tape,y.out.output,y.out.size,y.out.block⟩
 have an:bl (RG w3.drew Rb Mk t S [] (gs++es)):=by
  have h:=D.out;exact⟨h.rd,ir.stay h.kn rfl,HT.out.stay h.sd λ_ _=>rfl,h.yE,h.ne⟩
 clear hN ak ai h5;go_wp2_with fail;go_region_held3 (λw'=>w'.cell? ⟨Rb,0,none⟩=some (.string S)/\w'.cell? ⟨Rb,1,none⟩=some (.int .i64 p)) (go_keep) (first|(go_at_call 212; refine(jR _).mono ?_; rintro e w' ⟨rfl,rfl⟩));go_wp2_with fail;refine(jR _).mono ?_;rintro e w' ⟨rfl,rfl⟩;go_wp2_with fail;refine(jR _).mono ?_;rintro e w' ⟨rfl,rfl⟩;go_wp2_with fail;refine(jR _).mono ?_;rintro e w' ⟨rfl,rfl⟩;go_wp2;go_end0;exact⟨rfl,am.out,an.out⟩
theorem Jc(U:t.Ok mx)(h:RG w Rb Mk t S rest [])(hS:S.size<=1099511627775)(hm:S.size<=mx)(hX:sF S.size rest=some (gs,es)) :
  bh prog 158 #[.func (.func 159) #[.pointer (some ⟨Rb,0,none⟩)] #[]] w λe w'=>e=.returned (.bool true)/\gV (GR Rb Mk t) w w'/\t.T w' (gs++es):=by
 have aj:∀(fn:Fn)(first cap:Array Value)(w:World),(Instr.makeFunc fn first cap).run prog w=.ok (.func fn first cap) w:=λ_ _ _ _=>rfl;obtain⟨w0,W⟩:∃w0,w.alloc (.cells #[.bool false] 4)=w0:=⟨_,rfl⟩;have O:Below w.heap.size w w0:=by rw[<-W]; exact(bo _ _).alloc (ba _) _
 have Y:w0.heap[w.heap.size]?=some (.cells #[.bool false] 4 (0,0)):=by rw[<-W]; exact bg w _
 have aa:=h.below U O;have B:=Eg U aa hS hm hX;have HD:bl (∀k,t.Q8 k->k<w.heap.size):=λk D=>U.lt h.sd D
 have HZ:bl (¬GR Rb Mk t w.heap.size):=by
  rintro(D|D|D)
  .obtain⟨p,h1,_⟩:=h.rd;have:=iN h1;omega
  .have:=h.kn.lt;omega
  .have:=HD.out _ (U.sub _ D);omega
 have ab:bl (w0.heap[w.heap.size]?=some (.cells #[.bool false] 4 (0,0))):=Y;have ae:bl (gV (GR Rb Mk t) w w0):=gV.jk O;have HT:bl _:=U;clear h O Y aa hX U;go_enter_defers func158,ntmps158;go_wp2_with fail;refine B.mono ?_;rintro e w1 ⟨rfl,g1,g2⟩;have y:w1.heap[w.heap.size]?=some (.cells #[.bool false] 4 (0,0)):=by rw[g1.block _ (iN ab.out) HZ.out]; exact ab.out
 have c1:w1.cell? ⟨w.heap.size,0,none⟩=some (.bool false):=by rw[Ps y]; rfl
 have f1:w1.frozen? ⟨w.heap.size,0,none⟩=false:=Ue y 0;have af:bl (w1.heap[w.heap.size]?=some (.cells #[.bool false] 4 (0,0))):=y;have ac:bl _:=g2.sd;have ag:bl (gV (GR Rb Mk t) w w1):=ae.out.then g1;clear B g1 g2 y;go_wp2;refine leaves_cons (f:=210) (args:=#[.pointer (some ⟨w.heap.size,0,none⟩)]) (by simp) (by simp[go_sem]) ?_;refine(Hw _ _).mono ?_;rintro e u' w2 ⟨rfl,rfl,rfl⟩;have ad:gV (· = w.heap.size) w1 (w1.setCell ⟨w.heap.size,0,none⟩ (.bool true)):=n9 rfl
 have ah:(w1.setCell ⟨w.heap.size,0,none⟩ (.bool true)).heap[w.heap.size]?=some (.cells #[.bool true] 4 (0,0)):=by
  rw[heap_set af.out]; rfl
 have ai:(w1.setCell ⟨w.heap.size,0,none⟩ (.bool true)).cell? ⟨w.heap.size,0,none⟩=some (.bool true):=by rw[Ps ah]; rfl
 refine⟨.bool true,?_,rfl,ag.out.trans ad (λi hi hg=>by omega),HT.out.stay ac.out λk D=>ad.block k (HT.out.lt ac.out D) (Nat.ne_of_lt (HD.out k D))⟩;simp[results,results158,go_sem,ai]
theorem Lo(D:t.Ok mx)(h:t.T w [])(hS:S.size<=1099511627775)(hm:S.size<=mx)(hX:sF S.size S.data.toList=some (gs,es)) :
  bh prog 117 #[.string S,t.v] w λe w'=>e=.returned (.bool true)/\gV t.own w w'/\t.T w' (gs++es):=by
 have ae:=@bn prog;have af:∀(fn:Fn)(first cap:Array Value)(w:World),(Instr.makeFunc fn first cap).run prog w=.ok (.func fn first cap) w:=λ_ _ _ _=>rfl;obtain⟨w0,y⟩:∃w0,w.alloc (.map #[] 0)=w0:=⟨_,rfl⟩;have ac:w0.heap.size=w.heap.size+1:=by rw[<-y]; simp
 obtain⟨w1,hw1⟩:∃w1,w0.alloc (.cells #[.string S,.int .i64 0,.map (some w.heap.size),t.v] 216)=w1:=⟨_,rfl⟩;have O:Below w.heap.size w w0:=by rw[<-y]; exact(bo _ _).alloc (ba _) _
 have B:Below w.heap.size w w1:=by rw[<-hw1]; exact O.alloc (by omega) _
 have U:ir prog 9 w0 w.heap.size []:=by rw[<-y]; exact ir.made w
 have W:ir prog 9 w1 w.heap.size []:=U.stay (by rw[<-hw1]; exact bp _ _ _ (by omega));have Y:w1.heap[w.heap.size+1]?=some (.cells #[.string S,.int .i64 0,.map (some w.heap.size),t.v] 216 (0,0)):=by rw[<-hw1,<-ac]; exact bg w0 _
 have aa:RG w1 (w.heap.size+1) w.heap.size t S S.data.toList []:=
  ⟨⟨0,Y,bc _,rfl⟩,W,D.stay h λk hk=>B.block k (D.lt h hk),by simp,λk hk=>by have:=D.lt h hk; omega⟩
 have ab:=Jc D aa hS hm hX
 have ad:bl (∀w',gV (GR (w.heap.size+1) w.heap.size t) w1 w'->gV t.own w w'):=λw' g=>(gV.jk B).trans g (λi hi hg=>by
  rcases hg with h|h|h
  .omega
  .omega
  .exact h)
 clear h O B U W Y aa D hX;unfold Gu.v at hw1⊢;have ag:∀(a:Addr)(w:World),(store a (.func (.func t.fn) #[] t.cp)).run prog w=stored prog w a (.func (.func t.fn) #[] t.cp) .plain:=λa w=>run_store prog w a _ .plain rfl;go_enter func117,ntmps117;go_wp2_with fail;refine ab.mono ?_;rintro e w2 ⟨rfl,g1,g2⟩;have HS:bl _:=g2;clear ab g2;go_wp2;go_ret;exact⟨rfl,ad.out _ g1,HS.out⟩
end
section
open Go.RowKit Go.Maps
def Tp(y h:Nat):Gu where
 fn:=130
 cp:=#[.pointer (some ⟨y,0,none⟩)]
 own k:=k=h
 Q8 k:=k=h\/k=y
 T w told:=w.heap[y]?=some (.cells #[.map (some h)] 85 (0,0))/\je w h (sn told)
theorem Pk(D O mx:Nat):(Tp D O).Ok mx where
 jZ:=⟨_,_,func130,rfl,by kernel_rfl⟩
 sub _ h:=Or.inl h
 lt:=by
  rintro w told k ⟨y,B⟩ (rfl|rfl)
  .exact ir.lt B
  .exact iN y
 stay:=by
  rintro w w' told ⟨y,B⟩ h;exact⟨by rw[h D (Or.inr rfl)]; exact y,ir.stay B (h O (Or.inl rfl))⟩
 tell:=by
  rintro w q told e ⟨y,B⟩ W Y he _;refine(N3 D O (sn told) e q w y B W (by rw[aR]; exact Y) (by have:=he.1; unfold bf; omega)).mono ?_;rintro en w' ⟨rfl,g1,U⟩;exact⟨rfl,⟨by rw[U.block D (iN y) (λk=>ir.pK B y k.symm)]; exact y,by rw[show sn (told++[(q,e)])=sn told++[e] by simp[sn]]; exact g1⟩,U⟩
theorem G5{S:ByteArray}{gs es:List (Nat×gS)}(w:World)(hS:S.size<=1099511627775)(hX:sF S.size S.data.toList=some (gs,es)) :
  bh prog 88 #[.string S] w λe w'=>Below w.heap.size w w'/\∃B,e=.returned (.tuple #[.map (some B),.bool true])/\w.heap.size<=B/\je w' B (sn (gs++es)):=by
 have af:=@bn prog;have ag:∀(fn:Fn)(first cap:Array Value)(w:World),(Instr.makeFunc fn first cap).run prog w=.ok (.func fn first cap) w:=λ_ _ _ _=>rfl;obtain⟨w0,y⟩:∃w0,w.alloc (.map #[] 0)=w0:=⟨_,rfl⟩;have ad:w0.heap.size=w.heap.size+1:=by rw[<-y]; simp
 obtain⟨w1,D⟩:∃w1,w0.alloc (.cells #[.map (some w.heap.size)] 85)=w1:=⟨_,rfl⟩;have W:Below w.heap.size w w0:=by rw[<-y]; exact(bo _ _).alloc (ba _) _
 have Y:Below w.heap.size w w1:=by rw[<-D]; exact W.alloc (by omega) _
 have aa:je w0 w.heap.size []:=by rw[<-y]; exact ir.made w
 have ab:je w1 w.heap.size []:=ir.stay aa (by rw[<-D]; exact bp _ _ _ (by omega));have ac:w1.heap[w.heap.size+1]?=some (.cells #[.map (some w.heap.size)] 85 (0,0)):=by rw[<-D,<-ad]; exact bg w0 _
 have O:=Lo (Pk (w.heap.size+1) w.heap.size S.size) ⟨ac,ab⟩ hS (ba _) hX;have h:bl _:=Y;clear W Y aa ab ac hX;rw[show(Tp (w.heap.size+1) w.heap.size).v=.func (.func 130) #[] #[.pointer (some ⟨w.heap.size+1,0,none⟩)]from rfl]at O;go_enter func88,ntmps88;go_wp2_with fail;refine O.mono ?_;rintro e w2 ⟨rfl,U,g2,g3⟩
 have ae:bl (Below w.heap.size w w2):=by
  show Below _ _ _;refine⟨U.os.trans h.out.os,U.tape.trans h.out.tape,U.output.trans h.out.output,bd h.out.size U.size,λk hk=>?_⟩;rw[U.block k (be hk h.out.size) (by show k≠_; omega),h.out.block k hk]
 have c2:w2.cell? ⟨w.heap.size+1,0,none⟩=some (.map (some w.heap.size)):=by rw[Ps g2]; rfl
 have HS:bl _:=g3;clear O U g2 g3 y D;go_wp2;go_ret2;exact⟨ae.out,_,rfl,ba _,HS.out⟩
end
section
open Go.RowKit Go.Maps
variable {e:gS} {l:List gS}
def Eh(c:Nat):Value:=.map (some c)
structure Pb(w:World)(v:Value)(Cs:List Nat)(ls:List (List gS)):Prop where
 rd:Rd w v (Cs.map Eh)
 len:Cs.length=ls.length
 each:∀i(h:i<ls.length)(h':i<Cs.length),je w Cs[i] ls[i]
theorem yz(ls:List (List gS))(k:Nat)(h:k<ls.length):jW (ls.take (k+1))=ia (jW (ls.take k)) ls[k]:=by
 rw[List.take_succ_eq_append_getElem h,j7]
theorem OE(ls:List (List gS))(k:Nat)(h:k<ls.length):ls[k].length<=li ls:=by
 have y:=zF ls k h;have B:=Gt ls (k+1);omega
theorem xi(ls:List (List gS))(k:Nat)(h:k<=ls.length):(jW (ls.take k)).length<=li ls:=by
 have y:=E1 ls k h;have B:=Gt ls k;rw[AG]at y;omega
theorem Ah(v:Value)(W:List Nat)(ls:List (List gS))(w:World)(h:Pb w v W ls)(ai:li ls<=536870912)(ab:∀l∈ls,∀e∈l,e.name.length<=bf) :
  bh prog 58 #[v] w λen w'=>∃B,en=.returned (.map (some B))/\w.heap.size<=B/\je w' B (jW ls)/\Below w.heap.size w w':=by
 have aj:=@bn prog;obtain⟨a,cap,rfl,af,hcm,ac⟩:=id h.rd;have ad:(W.map Eh).length=ls.length:=by rw[aR,h.len]
 rw[ad]at af⊢;have ak:=Ms ls;unfold bf at hcm;obtain⟨w0,Y⟩:∃w0,w.alloc (.map #[] 0)=w0:=⟨_,rfl⟩;have al:w0.heap.size=w.heap.size+1:=by rw[<-Y]; simp
 have hb0:Below w.heap.size w w0:=by rw[<-Y]; exact(bo _ _).alloc (ba _) _
 have hM0:je w0 w.heap.size []:=by rw[<-Y]; exact ir.made w
 have HL:bl (Pb w (.slice a (W.map Eh).length cap) W ls):=h;have ag:bl (∀j u,(W.map Eh)[j]?=some u->∃b off,a=some ⟨b,off,none⟩/\w.cell? ⟨b,off+j,none⟩=some u):=ac;have ah:bl (∀l∈ls,∀e∈l,e.name.length<=bf):=ab;clear h ac ad ab;go_enter func58,ntmps58;go_wp2;go_loopw [9] (λi wr=>∃k:Nat,k<=ls.length/\i=.int .i64 k/\je wr w.heap.size (jW (ls.take k))/\Below w.heap.size w wr) (λi _=>ls.length-(bm i).toNat)
 case atStart=>exact⟨0,bc _,rfl,hM0,hb0⟩
 case round=>
  obtain⟨k,hk,rfl,hm,hb⟩:=hrel;have HM:bl (je wr w.heap.size (jW (ls.take k))):=hm;have U:bl (Below w.heap.size w wr):=hb;clear hm hb;by_cases y:k<ls.length
  .have ae:k<W.length:=by rw[HL.out.len]; exact y
   obtain⟨bb,off,rfl,D⟩:=ag.out k (Eh W[k]) (by simp[ae]);have hc:=bi U.out D;unfold Eh at hc;have aa:=HL.out.each k y ae;have am:=ir.lt aa;have O:=NP w.heap.size W[k] (jW (ls.take k)) ls[k] wr HM.out (ir.below aa U.out) (by omega) (by have:=OE ls k y; omega) (by have:=xi ls k hk; omega) (ah.out _ (aX y));rw[<-yz ls k y]at O;clear D aa;go_wp2_with fail;refine O.mono ?_;rintro e w1 ⟨rfl,q1,q2⟩;have HM1:bl (je w1 w.heap.size (jW (ls.take (k+1)))):=q1
   have HB1:bl (Below w.heap.size w w1):=by
    show Below _ _ _;refine⟨q2.os.trans U.out.os,q2.tape.trans U.out.tape,q2.output.trans U.out.output,bd U.out.size q2.size,λi hi=>?_⟩;rw[q2.block i (be hi U.out.size) (by show i≠_; omega),U.out.block i hi]
   clear O q1 q2;go_wp2;go_roundw
   case rel=>exact⟨k+1,by omega,by go_num,HM1.out,HB1.out⟩
   case measure=>simp[bm]; omega
  .have HE:bl (ls.take k=ls):=List.take_of_length_le (by omega);go_wp2;go_ret;refine⟨_,rfl,ba _,?_,U.out⟩;have:=HM.out;rw[HE.out]at this;exact this
theorem Q2(h:Sx e):Kd e:=by
 rcases h with h|h
 .have y:=lA h.2.1;have D:=pJ h.2.2.1;have O:=h.2.2.2.2;exact⟨by omega,by omega,⟨by omega,by omega⟩,by omega,by omega⟩
 .have y:=lA h.2;have B:e.text=[]:=by rw[h.1]
  have U:e.gT=0:=by rw[h.1]
  have W:e.il=0:=by rw[h.1]
  exact⟨by omega,by rw[B]; simp,⟨by omega,by omega⟩,by omega,by omega⟩
theorem zD(h:Sx e):mf e.name=true:=by
 rcases h with h|h
 .exact h.2.1
 .exact h.2
theorem Je(l:List gS)(h:∀e∈l,e.name.length<=8):(l.flatMap λe=>io e.name).length<=l.length*9:=by
 induction l with
 |nil=>simp
 |cons e l y=>
  rw[List.flatMap_cons,aN,aM];have B:=y (λx D=>h x (aT _ D));have O:=h e (aU ..);simp only[io,aM]at B⊢;omega
theorem BQ(h:qn l):(ix l).length<=3000000000:=by
 unfold ix
 have D:((jo l).filter λe=>e.gone).length<=100:=by
  rw[((jM l).filter _).length_eq];exact h.gone
 have O:((jo l).filter λe=>!e.gone).length<=30:=by
  rw[((jM l).filter _).length_eq];exact h.there
 have U:=Je ((jo l).filter λe=>e.gone) (λe y=>(lA (zD (h.each e (pI.1 (aY.1 y).1)))).2);have W:=Nn 26 [] ((jo l).filter λe=>!e.gone) (λe y=>Q2 (h.each e (pI.1 (aY.1 y).1)));have B:(io []).length=1:=rfl;simp only[aM,aN,B];omega
theorem sZ(h:qn l):∀e∈l,e.name.length<=bf:=λe y=>by
 have:=(lA (zD (h.each e y))).2;unfold bf;omega
theorem rp(h:qn l):l.length<=130:=by
 have y:=np l;have B:=h.gone;have D:(gR l).length<=30:=h.there;have:=pG l;omega
theorem qF(s:List gS)(w:World)(h:qn s) :
  bh prog 73 #[.string ⟨(ix s).toArray⟩] w λen w'=>∃B,en=.returned (.map (some B))/\w.heap.size<=B/\je w' B s/\Below w.heap.size w w':=by
 have hl:=BQ h;obtain⟨gs,es,O,U⟩:=Il h;obtain⟨ps,D,y,W,Y,_⟩:=Lf O;have hu:=G5 (S:=⟨(ix s).toArray⟩) w (by show(ix s).toArray.size<=_; simp; omega) y;have HP:bl ((sn (ps++D)).Perm s):=by show List.Perm _ _; rw[show sn (ps++D)=sn ps++sn D from aV,W,Y]; exact U
 clear U O y hl h W Y;go_enter func73,ntmps73;go_wp2_with fail;refine hu.mono ?_;rintro e w1 ⟨hb,B,rfl,hB,hs⟩;have HS:bl (je w1 B s):=je.perm hs HP.out;have HB:bl _:=hb;clear hu hs hb;go_wp2;go_ret;exact⟨B,rfl,hB,HS.out,HB.out⟩
end
section
open Go.RowKit Go.Maps
variable {ss:List (List gS)} {buf:List gS}
theorem Qs:(prog.info? 85).map (λi=>(i.zero,i.size,i.bytes))=some (some (.map none),1,8):=by kernel_rfl
structure FA(w:World)(F:Nat->Prop)(b:Nat)(buf:List gS)(ss:List (List gS))(Bb:Nat)(vS vM vK:Value):Prop where
 blk:w.heap[b]?=some (.cells #[.map (some Bb),vS,vM,vK] 90 (0,0))
 fb:F b
 fB:F Bb
 say:je w Bb buf
 row:w.ownsRow 0 9 1 vS ss.length (gQ (ss.map ix))
 mo:∀k,vS.ownBlock=some k->F k
 inv:Inv buf ss
theorem rM{w:World}{base e n:Nat}{v:Value}{xs:List Value}(y:w.ownsRow base e 1 v n xs){P:Program}{k:bk}{B:Nat}{l:List (Wd×Value)}(hm:ir P k w B l):some B≠v.ownBlock:=by
 rcases y.2 with⟨rfl,_⟩|⟨g,cap,D,rfl,_,O,_⟩
 .simp[Value.ownBlock]
 .intro h;simp only[Value.ownBlock,Option.some.injEq]at h;exact hm.pK O h
theorem tj(h:Inv buf ss):buf.length<=130:=by
 have B:=np buf;have D:=h.gone;have y:=h.all;rw[nU,j7]at y;have O:=pO (jW ss) buf;have:=pG buf;omega
theorem KZ(ss:List (List gS))(h:∀s∈ss,qn s):li ss<=ss.length*131:=by
 induction ss with
 |nil=>simp[li]
 |cons s ss y=>
  have B:=y (λx D=>h x (aT _ D));have O:=rp (h s (aU ..));simp only[li,List.map_cons,List.sum_cons,aM]at B⊢;omega
theorem Fc(a b:List (List gS)):li (a++b)=li a+li b:=by simp[li]
theorem MR(h:Inv buf ss):li (ss++[buf])<=1000:=by
 have y:=KZ ss h.nv;have B:=h.yE;have D:=tj h;rw[Fc];have:li [buf]=buf.length+1:=by simp[li]
 omega
theorem BI(h:Inv buf ss):∀l∈ss++[buf],∀e∈l,e.name.length<=bf:=by
 intro l D e B;rcases aZ.1 D with y|y
 .exact sZ (h.nv l y) e B
 .simp only[aW]at y;subst y;have:=(lA (zD (h.each e B))).2;unfold bf;omega
theorem xo{ls:List (List gS)}(h:∀l∈ls,∀e∈l,e.name.length<=bf):∀e∈jW ls,e.name.length<=bf:=by
 have:∀(ls:List (List gS))(a:List gS),(∀e∈a,e.name.length<=bf)->(∀l∈ls,∀e∈l,e.name.length<=bf)->∀e∈ls.foldl ia a,e.name.length<=bf:=by
  intro ls
  induction ls with
  |nil=>intro a y _ e B; exact y e B
  |cons l ls U=>
   intro a y O e B;refine U (ia a l) (λx W=>?_) (λm hm=>O m (aT _ hm)) e B;rcases pN.1 W with D|D
   .exact y x D.1
   .exact O l (aU ..) x D
 exact this ls [] (λ_ h=>by simp at h) h
theorem Ac(F:Nat->Prop)(b:Nat)(buf:List gS)(ss:List (List gS))(Bb:Nat)(vS vM vK:Value)(w:World)(h:FA w F b buf ss Bb vS vM vK) :
  bh prog 59 #[.pointer (some ⟨b,0,none⟩)] w λen w'=>∃C,en=.returned (.map (some C))/\w.heap.size<=C/\je w' C (kZ ss buf)/\Below w.heap.size w w':=by
 obtain⟨i0,hi,af,ag,ah⟩:=info_parts Qs;obtain⟨aS,cS,rfl,aA⟩:=ib h.row;have ai:=Rd.lr h.row;have ax:w.cell? ⟨b,0,none⟩=some (.map (some Bb)):=by rw[Ps h.blk]; rfl
 have aB:w.cell? ⟨b,1,none⟩=some (.slice aS ss.length cS):=by rw[Ps h.blk]; rfl
 have h6:=h.inv.yE
 have HR:bl (∀j(hj:j<ss.length),∃bb off,aS=some ⟨bb,off,none⟩/\w.cell? ⟨bb,off+j,none⟩=some (.string ⟨(ix ss[j]).toArray⟩)):=by
  intro j hj;obtain⟨a',c',he,_,_,hr⟩:=ai;simp only[Value.slice.injEq]at he;obtain⟨rfl,_,rfl⟩:=he;exact hr j _ (by simp[gQ,hj])
 have HP:bl _:=h;clear h ai;go_enter func59,ntmps59;go_wp2;go_loopw [3,11] (λv i wr=>∃(k:Nat)(Cs:List Nat),k<=ss.length/\i=.int .i64 k/\Cs.length=k/\wr.ownsRow w.heap.size 85 1 v k (Cs.map Eh)/\(∀i(h:i<k)(h':i<Cs.length)(h2:i<ss.length),je wr Cs[i] ss[i]/\w.heap.size<=Cs[i])/\Below w.heap.size w wr) (λ_ i _=>ss.length-(bm i).toNat)
 case atStart=>exact⟨0,[],bc _,rfl,rfl,World.ownsRow_nil _ _ _ _,λi h=>by omega,bo _ _⟩
 case round=>
  obtain⟨k,Cs,hk,rfl,hCl,B,W,hb⟩:=hrel;have HB:bl _:=hb;have hz:=hb.size;have HE:bl _:=W;clear W hb;by_cases aj:k<ss.length
  .obtain⟨bb,off,rfl,Y⟩:=HR.out k aj;have hc:=bi HB.out Y;have ak:=qF ss[k] wr (HP.out.inv.nv _ (aX aj));clear Y;go_wp2_with fail;refine ak.mono ?_;rintro e w1 ⟨C,rfl,hC,hs,aa⟩;have a8:=aa.size;have U:w1.ownsRow w.heap.size 85 1 _ k (Cs.map Eh):=iB B (λj hj=>aa.block j (B.lt j hj).2);have al:bl (je w1 C ss[k]/\wr.heap.size<=C):=⟨hs,hC⟩;have ay:bl (Below w.heap.size w w1):=HB.out.trans (aa.mono hz);have az:bl _:=aa;clear ak hs aa
   go_wp2_with (first
    |(at_builtin; refine jp _ rfl _ _ 136 rfl w.heap.size 85 i0 (.map none) 8 underlying136 hi af ag ah rfl _ _ _ rfl (U.alloc _) ⟨w1.heap.size,0,none⟩ _ rfl ki rfl ?c1 ?c2 ?c3 ?_))
   case c1=>omega
   case c2=>unfold bf; omega
   case c3=>first|omega|(simp; omega)
   intro v' w2 O y _
   have HW2:bl (w2.ownsRow w.heap.size 85 1 v' (k+1) ((Cs++[C]).map Eh)):=by
    show w2.ownsRow _ _ _ _ _ _;rw[aV];exact O
   have HB2:bl (Below w.heap.size w w2):=(ay.out.alloc (by omega) _).grown y (by simp; omega) (λb hb=>(B.lt b hb).1)
   have HE2:bl (∀i(h:i<k+1)(h':i<(Cs++[C]).length)(h2:i<ss.length),je w2 (Cs++[C])[i] ss[i]/\w.heap.size<=(Cs++[C])[i]):=by
    intro i h h' h2
    have key:∀(D:Nat)(l:List gS),je w1 D l->je w2 D l:=λD l hm=>by
     have ab:je (w1.alloc (.cells #[.map (some C)] 85)) D l:=ir.kept hm (World.grownBy_alloc _ _ none) (by simp);exact ir.kept ab y (rM (U.alloc _) ab)
    by_cases ac:i<k
    .rw[aQ (by omega)];have hh:=HE.out i ac (by omega) h2;exact⟨key _ _ (ir.below hh.1 az.out),hh.2⟩
    .have am:i=k:=by omega
     subst am;rw[aO (by omega)];simp only[hCl,Nat.sub_self,List.getElem_cons_zero];exact⟨key _ _ al.out.1,bd hz al.out.2⟩
   obtain⟨a',c',rfl,aC⟩:=ib HW2.out;clear O y B U;go_wp2;go_roundw
   case rel=>exact⟨k+1,Cs++[C],by omega,by go_num,by simp[hCl],HW2.out,HE2.out,HB2.out⟩
   case measure=>simp[bm]; omega
  .have a0:k=ss.length:=by omega
   subst a0;have a9:=bi HB.out ax
   go_wp2_with (first
    |(at_builtin; refine jp _ rfl _ _ 136 rfl w.heap.size 85 i0 (.map none) 8 underlying136 hi af ag ah rfl _ _ _ rfl (B.alloc _) ⟨wr.heap.size,0,none⟩ _ rfl ki rfl ?c1 ?c2 ?c3 ?_))
   case c1=>omega
   case c2=>unfold bf; omega
   case c3=>first|omega|(simp; omega)
   intro v' w2 O y _;have an:Below w.heap.size w w2:=(HB.out.alloc hz _).grown y (by simp; omega) (λb hb=>(B.lt b hb).1)
   have ao:Pb w2 v' (Cs++[Bb]) (ss++[buf]):=by
    refine⟨?_,by simp[hCl],λi h h'=>?_⟩
    .rw[aV];exact Rd.lr O
    .have key:∀(D:Nat)(l:List gS),je wr D l->je w2 D l:=λD l hm=>by
      have ab:je (wr.alloc (.cells #[.map (some Bb)] 85)) D l:=ir.kept hm (World.grownBy_alloc _ _ none) (by simp);exact ir.kept ab y (rM (B.alloc _) ab)
     by_cases ac:i<ss.length
     .have e1:(Cs++[Bb])[i]=Cs[i]'(by omega):=aQ (by omega);have e2:(ss++[buf])[i]=ss[i]:=aQ ac;rw[e1,e2];exact key _ _ (HE.out i ac (by omega) ac).1
     .have a1:i=ss.length:=by simp at h; omega
      subst a1;have h9:=h';have e1:(Cs++[Bb])[ss.length]'h9=Bb:=by rw[aO (by omega)]; simp[hCl]
      have e2:(ss++[buf])[ss.length]'h=buf:=by rw[aO (by omega)]; simp
      rw[e1,e2];exact key _ _ (ir.below HP.out.say HB.out)
   have a2:=MR HP.out.inv;have ad:=BI HP.out.inv;have ap:=Ah v' (Cs++[Bb]) (ss++[buf]) w2 ao (by omega) ad;have HB2:bl _:=an;have a3:bl _:=ad
   have a4:bl ((jW (ss++[buf])).length<=1000):=by
    show _<=_;have:=xi (ss++[buf]) (ss++[buf]).length (ba _);rw[List.take_length]at this;omega
   clear O y B ao an ad a2;go_wp2_with fail;refine ap.mono ?_;rintro e w3 ⟨B3,rfl,aD,aq,ar⟩;have au:=sW B3 (jW (ss++[buf])) w3 aq (by have:=a4.out; omega) (xo a3.out);have ae:bl (Below w.heap.size w w3):=HB2.out.trans (ar.mono HB2.out.size);clear ap aq ar;go_wp2_with fail;refine au.mono ?_;rintro e w4 ⟨C,rfl,hC,av,aw⟩;have a5:bl (je w4 C (kZ ss buf)):=by show je _ _ _; rw[nU]; exact av
   have a6:bl (Below w.heap.size w w4):=ae.out.trans (aw.mono ae.out.size);have a7:w.heap.size<=C:=bd ae.out.size hC;clear au av aw;go_wp2;go_ret;exact⟨C,rfl,a7,a5.out,a6.out⟩
end
end Go.Proofs.YtocbogeoffeolaaGreatDoor
