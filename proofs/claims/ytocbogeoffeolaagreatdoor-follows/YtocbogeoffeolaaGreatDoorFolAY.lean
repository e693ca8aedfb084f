import Derived.Test.YtocbogeoffeolaaGreatDoorFolAL
import Derived.Test.YtocbogeoffeolaaGreatDoorFolAX
import Derived.Test.YtocbogeoffeolaaGreatDoorCards
import Derived.Test.YtocbogeoffeolaaGreatDoorTie
import Derived.Conc.LeavingOf
import Derived.Deep.DeepHandedRow
import Derived.Lib.LaidTab
import Derived.LaidMore
import Derived.Stop.LaidErr
set_option linter.unusedVariables false
set_option linter.unusedSimpArgs false
set_option maxHeartbeats 8000000
set_option maxRecDepth 1000000
open Array renaming getElem?_eq_some_iff->bbq,getElem?_eq_getElem->bJ,getElem_ofFn->bK,getElem?_mapIdx->bL,sizeOf_getElem->bM,ofFn->bN,getElem_map->bO
open Nat renaming le_refl->bP,le_trans->bQ,le_of_ble_eq_true->bR,lt_of_lt_of_le->bS,zero_le->bT,mod_one->bU
open Classical renaming choose_spec->bV,propDecidable->bW,choose->bX
open Go renaming Calls->bY,cell_later->bZ,FuncId->ca,maxLen->cb,results->cc,TypeId->cd
open Go.RowKit renaming Hid->ce
open Go.Region renaming ready->cf
open List renaming getElem_cons_zero->ci,not_mem_nil->cj,length_cons->ck,mem_filter->cl,length_nil->cm,mem_cons->cn,map->cq
open Go.World renaming cell?->cr,ownsRow_nil->ct
open Go.Region.linearise renaming go->cu
open Option.some renaming injEq->cv,inj->cw
open Go.Value renaming okWide->cx,ownBlock->cy
open Go renaming undef->cz
namespace Go.Proofs.YtocbogeoffeolaaGreatDoor
open Go.Proofs.Tryz
section
open Go.RowKit Go.Sort
theorem Pp:∀n,Lib.decDigits n=uN n:=by
 intro n
 induction n using Nat.strongRecOn with
 |ind n B=>
  have e:∀d,d<=9->UInt8.ofNat (48+d)=48+UInt8.ofNat d:=λd D=>by
   rcases(by omega:d=0\/d=1\/d=2\/d=3\/d=4\/d=5\/d=6\/d=7\/d=8\/d=9)with rfl|rfl|rfl|rfl|rfl|rfl|rfl|rfl|rfl|rfl<;>rfl
  by_cases h:n<=9
  .rw[sY h,Lib.decDigits,dif_pos (by omega),e n h]
  .rw[rn h,Lib.decDigits,dif_neg (by omega),B (n / 10) (by omega),e (n % 10) (by omega)]
theorem GW(n:Nat)(y:n<100)(w:World):bY prog 85 #[.int .i64 (n:Int)] w λe w'=>e=.returned (.string ⟨(uN n).toArray⟩)/\kC w w':=by
 have h:=Any.strconv_Itoa_small {NG with} n y w;change bY prog 85 _ _ _ at h;refine h.mono ?_;rintro e w' ⟨rfl,rfl⟩;exact⟨by rw[Pp],kC.refl _⟩
theorem Ny(e:gS)(w:World)(B:0<=e.gT)(hI:∀y,kC w y->bY prog 85 #[.int .i64 e.gT] y λen w'=>en=.returned (.string ⟨(uN e.gT.toNat).toArray⟩)/\kC y w')(hn:e.name.length<=65536)(ht:e.text.length<=1048576)(hd:(uN e.gT.toNat).length<=100) :
  bY prog 51 #[.agg #[.string ⟨e.name.toArray⟩,.string ⟨e.text.toArray⟩,.int .i64 e.gT,.int .i64 e.il]] w λen w'=>en=.returned (.string ⟨(jH e).toArray⟩)/\kC w w':=by
 obtain⟨nm,gn,tx,wt,tg⟩:=e;simp only at B hI hn ht hd⊢;obtain⟨D,O⟩:∃D:ByteArray,D=⟨(uN wt.toNat).toArray⟩:=⟨_,rfl⟩;obtain⟨nb,U⟩:∃nb:ByteArray,nb=⟨nm.toArray⟩:=⟨_,rfl⟩;obtain⟨Y,aa⟩:∃Y:ByteArray,Y=⟨tx.toArray⟩:=⟨_,rfl⟩;have ae:nb.size<=65536:=by rw[U]; show nm.toArray.size<=_; simpa using hn
 have af:Y.size<=1048576:=by rw[aa]; show tx.toArray.size<=_; simpa using ht
 have ag:D.size<=100:=by rw[O]; show(uN wt.toNat).toArray.size<=_; simpa using hd
 have k0:¬9223372036854775807<nb.size+1:=by omega
 have k1:¬9223372036854775807<nb.size+1+D.size:=by omega
 have k2:¬9223372036854775807<nb.size+1+D.size+1:=by omega
 have k3:¬9223372036854775807<nb.size+1+D.size+1+Y.size:=by omega
 rw[<-O]at hI;rw[<-U,<-aa];have HI:ce (∀y,kC w y->bY prog 85 #[.int .i64 wt] y λen w'=>en=.returned (.string D)/\kC y w'):=hI;have ab:ce (D=⟨(uN wt.toNat).toArray⟩/\nb=⟨nm.toArray⟩/\Y=⟨tx.toArray⟩):=⟨O,U,aa⟩;clear hI B hn ht hd O U aa;obtain⟨w0,B⟩:∃w0,w0=w.alloc (.cells #[.string nb,.string Y,.int .i64 wt,.int .i64 tg] 96):=⟨_,rfl⟩
 have hA:∀j,w0.cell? ⟨w.heap.size,j,none⟩=(#[Value.string nb,.string Y,.int .i64 wt,.int .i64 tg]:Array Value)[j]?:=λj=>by
  rw[B,World.cell?_alloc_at _ _ _ _ rfl]
 have ac:ce (kC w w0):=by rw[B]; exact kC.alloc _ _
 have d0:w0.cell? ⟨w.heap.size,0,none⟩=some (.string nb):=hA 0;have d1:w0.cell? ⟨w.heap.size,1,none⟩=some (.string Y):=hA 1;have d2:w0.cell? ⟨w.heap.size,2,none⟩=some (.int .i64 wt):=hA 2;clear hA;go_enter func51,ntmps51;go_wp2_with fail;rw[<-B];clear B;refine n8 (by kernel_rfl) ?_;refine ic 0 ?_ ?_<|ic 1 ?_ ?_<|ic 2 ?_ ?_<|ic 3 ?_ ?_<|ic 4 ?_ ?_ ?_
 any_goals(intro y hy; have q:=bZ hy d0; have q1:=bZ hy d2; unfold jh; go_simp; refine⟨kC.refl _,?_⟩; with_reducible rfl)
 go_simp;refine ic 5 ?_ ?_ ?_;rotate_left
 .intro y hy; unfold jh; go_simp; refine⟨rfl,(HI.out y ((kC.trans ac.out hy))).mono ?_⟩; rintro e y2 ⟨rfl,h2⟩; refine⟨_,rfl,h2,?_⟩; with_reducible rfl
 go_simp;refine ic 6 ?_ ?_<|ic 7 ?_ ?_<|ic 8 ?_ ?_<|ic 9 ?_ ?_<|ic 10 ?_ ?_<|ic 11 ?_ ?_ ?_
 any_goals(intro y hy; have q:=bZ hy d1; unfold jh; go_simp; refine⟨kC.refl _,?_⟩; with_reducible rfl)
 go_simp;refine tD (by kernel_rfl) ?_ _;intro y hy;have ad:ce (kC w y):=kC.trans ac.out hy;clear hy;go_simp;go_wp2;go_ret;refine⟨?_,ad.out⟩;show Ending.returned (.string (nb++⟨#[32]⟩++D++⟨#[32]⟩++Y))=_;obtain⟨rfl,rfl,rfl⟩:=ab.out;congr 2;unfold jH;apply ByteArray.ext;simp[ByteArray.data_append]
end
section
open Go.Conc Go.RowKit Go.Maps
variable {listed:Array Bool} {ops:Array Oper} {c:Code} {rest:List Nat} {b i most:Nat} {o:Oper} {md:Region.Mode} {W:World}
noncomputable def marked (W:World) (Mp:Nat->Prop):World:={W with heap:=W.heap.mapIdx λb x=>@ite _ (Mp b) (bW _) qM x}
theorem BP{Mp:Nat->Prop}(h:¬Mp b):(marked W Mp).heap[b]?=W.heap[b]?:=by
 show(W.heap.mapIdx _)[b]?=_;rw[bL]
 cases W.heap[b]? with
 |none=>rfl
 |some x=>simp[h]
theorem LZ{Mp:Nat->Prop}(hb:b<W.heap.size)(h:Mp b):(marked W Mp).heap[b]?=some qM:=by
 show(W.heap.mapIdx _)[b]?=_;rw[bL,bJ hb];simp[h]
theorem xA(W:World)(Mp:Nat->Prop):(marked W Mp).heap.size=W.heap.size:=by
 show(W.heap.mapIdx _).size=_;simp
noncomputable def mC (Z:ob prog) (W0:World) (Mp:Nat->Prop):Env prog where
 Z:=Z
 jv:=λb=>b<W0.heap.size/\¬Mp b
 w0:=marked W0 Mp
 T:=[]
 gl:=λg=>tP g=true
 st:=true
 jz:=λf=>wG f=true
 ok:=NL prog wG tP true
 X:=λm=>(∀r,Mp r->m.blk r=some r)/\∀r o v,Mp r->W0.cell? ⟨r,o,none⟩=some v->m.tI r o=some v
 le:=λ_ _ h x=>⟨λr hr=>h.blk r r (x.1 r hr),λr o v hr hv=>by rw[h.tI]; exact x.2 r o v hr hv⟩
theorem FI(Z:ob prog)(W0:World)(Mp:Nat->Prop):∀b,b<(mC Z W0 Mp).w0.heap.size->(mC Z W0 Mp).jv b\/(mC Z W0 Mp).w0.heap[b]?=some qM:=λb hb=>by
 have hb:b<W0.heap.size:=by rw[<-xA W0 Mp]; exact hb
 by_cases h:Mp b
 .exact .inr (LZ hb h)
 .exact .inl ⟨hb,h⟩
section
variable {Z:ob prog} {W0:World} {Mp:Nat->Prop} {fn:ca} {tm:Array Value} {os:List OF} {wl:World} {V:List (Nat×Option (List Value))} {k:List Item}
theorem jn(hi:ops[i]?=some o)(D:Region.wanted o (yielded ops tm)=true)(O:Ke prog wG tP true o.op=true)
  (B:∀τ,jh prog o ⟨tm,[]⟩ (tp wl τ) (λv y=>gP (mC Z W0 Mp) (⟨fn,(Act.put ⟨tm,[]⟩ o.dst v).tmps,.inRegion ops rest::k⟩::os) y V)):gP (mC Z W0 Mp) (⟨fn,tm,.inRegion ops (i::rest)::k⟩::os) wl V:=
 gP.SS hi D (Ed O) B
theorem kM(y:mM (λo=>Ke prog wG tP true o.op) c=true)(D:k.all nz=true)(O:os≠[])(h:∀B:World,B.heap=wl.heap->B.os=wl.os->c.wp prog (Mj (mC Z W0 Mp) fn k os V) ⟨tm,[]⟩ B):gP (mC Z W0 Mp) (⟨fn,tm,.code c::k⟩::os) wl V:=
 gP.JG (qS y) D (.inl O) λτ _=>h (tp wl τ) rfl rfl
theorem mS(y:mM (λo=>Ke prog wG tP true o.op) c=true)(B:k.all nz=true)(D:os≠[])(h:∀τ,c.wp prog (Mj (mC Z W0 Mp) fn k os V) ⟨tm,[]⟩ (tp wl τ)):gP (mC Z W0 Mp) (⟨fn,tm,.code c::k⟩::os) wl V:=
 gP.JG (qS y) B (.inl D) λτ _=>h τ
end
theorem PZ{acc:List Nat}(D:cf md ops listed=[]):∀(y t:Nat),cu md ops y t listed acc=acc.reverse
 |0,_=>rfl
 |f+1,t=>by
  simp only[cu]
  split
  .rename_i q O
   have B:(cf md ops listed)[t % (cf md ops listed).length]?=some q:=O
   rw[D]at B;simp at B
  .rfl
theorem Py{j:Nat}(U:cf md ops listed=[j])(Y:cf md ops (listed.setIfInBounds j true)=[])(B t:Nat):cu md ops (B+1) t listed []=[j]:=by
 simp only[cu];split
 .rename_i q D;have y:(cf md ops listed)[t % (cf md ops listed).length]?=some q:=D;rw[U]at y;have O:t % ([j]:List Nat).length=0:=bU t;rw[O]at y;have hj:q=j:=by simpa using y.symm
  subst hj;exact PZ Y _ _
 .rename_i D;have y:(cf md ops listed)[t % (cf md ops listed).length]?=none:=D;rw[U]at y;have O:t % ([j]:List Nat).length=0:=bU t;rw[O]at y;simp at y
theorem RE{last:Nat}{Z:ob prog}{W0:World}{Mp:Nat->Prop}(h:((List.range ops.size).all λi=>i==last || (match ops[i]? with|some o=>Ke prog wG tP true o.op|none=>true))=true):∀(i:Nat)o,i≠last->ops[i]?=some o->OkOp prog (mC Z W0 Mp).jz (mC Z W0 Mp).gl (mC Z W0 Mp).st o.op:=by
 intro i o y hi;have B:i<ops.size:=(bbq.1 hi).1;have:=List.all_eq_true.1 h i (List.mem_range.2 B);rw[hi]at this;simp only[Bool.or_eq_true,beq_iff_eq]at this;rcases this with e|e
 .exact absurd e y
 .exact Ed e
theorem GQ(m:Nat)(hm:m<=3)(w:World):bY prog 46 #[.int .i64 (m:Int)] w λe w'=>e=.returned (.bool true)/\w=w':=by
 have y:(0:Int)<=m:=by omega
 have B:(m:Int)<=3:=by omega
 go_enter func46,ntmps46;go_wp2;go_ret;exact⟨rfl,rfl⟩
def P9(w:World)(base:Nat)(es:List gS)(A:Ask)(most:Nat)(v:Value):Prop:=∃L:List gS,L.Perm (es.filter A.has)/\L.Pairwise (λx y=>jw x y=true)/\∃u,v=.tuple #[u,.int .i64 0]/\w.ownsRow base 9 1 u (L.take most).length (gQ ((L.take most).map jH))
section
variable {Z:ob prog} {W0:World} {Mp:Nat->Prop} {fn:ca} {tm:Array Value} {os:List OF} {wl:World} {k:List Item}
def N7(c:Code):Code:=match c with
 |.seq _ (.seq _ (.seq _ (.seq _ y)))=>y
 |_=>.skip
theorem uT{fa:Option Addr}{l cp:Nat}{L:List gS}{wl:World}{a0 a1 a2 a3 a5 a6 a7 a8 a9 au av aw ax ay az a4 a' aA aB aC aD aE aF aG aH aI aJ aK aL aM aN aO aP aQ aR aS aT aU aV aW aX aY aZ ba bc bd be bf bh bi bj bk bl bm bn bo bp bq br bs bt bu bv bw bx:Value}(hi:ops[i]?=some o)(hR:pA wl 4 (.slice fa l cp) l (lh L))(hL:l=L.length)(b9:1<=most)(bA:most<=20)(h5:5<=wl.heap.size)
  (B:∀e∈L,∀y:World,(∀r,r<5->y.heap[r]?=wl.heap[r]?)->bY prog 51 #[.agg #[.string ⟨e.name.toArray⟩,.string ⟨e.text.toArray⟩,.int .i64 e.gT,.int .i64 e.il]] y λen w'=>en=.returned (.string ⟨(jH e).toArray⟩)/\kC y w')
  (hn:∀(w2:World)(u:Value),(∀r,r<wl.heap.size->w2.heap[r]?=wl.heap[r]?)->wl.heap.size<=w2.heap.size->w2.os=wl.os->w2.ownsRow wl.heap.size 9 1 u (L.take most).length (gQ ((L.take most).map jH))->gP (mC Z W0 Mp) (⟨fn,jg o.dst tm (.tuple #[u,.int .i64 0]),.inRegion ops rest::k⟩::os) w2 []) :
  gP (mC Z W0 Mp) (⟨17,#[a0,a1,a2,a3,.int .i64 (most:Int),a5,a6,a7,a8,a9,au,av,.slice fa l cp,aw,ax,ay,az,a4,a',aA,aB,aC,aD,aE,aF,aG,aH,aI,aJ,aK,aL,aM,aN,aO,aP,aQ,aR,aS,aT,aU,aV,aW,aX,aY,aZ,ba,bc,bd,be,bf,bh,bi,bj,bk,bl,bm,bn,bo,bp,bq,br,bs,bt,bu,bv,bw,bx],[.code (N7 (jc f17))]⟩::⟨fn,tm,.inRegion ops (i::rest)::k⟩::os) wl []:=by
 have HA:ce _:=And.intro hR (And.intro hL (And.intro h5 (And.intro B hn)));clear hR h5 B hn;show gP _ (⟨_,_,[.code (.seq (.region 6 _ false) (.seq (.seq (.region 7 _ false) (.block 0 _)) (.seq (.region 12 _ false) .ret)))]⟩::_) _ _;refine gP.seq ?_;refine gZ λkk aa=>?_;have HK:ce _:=aa;clear aa;refine gP.region ?_
 (refine jn rfl (by rfl) (by kernel_rfl) λτ=>?_; unfold jh; go_simp; simp only[ik]; refine gP.ij τ ?_);refine gP.inRegion ?_;rw[HK.out];clear HK kk;refine gP.seq ?_;refine gZ λkk aa=>?_;have HK:ce _:=aa;clear aa;refine kM (by kernel_rfl) (by rw[HK.out]; rfl) (by simp) λy0 af U=>?_;obtain⟨hR,hL,h5,B,hn⟩:=HA.out;have ah:pA y0 4 (.slice fa l cp) l (lh L):=hR.later λa u h=>by simp only[cr]at h⊢; rw[af]; exact h
 obtain⟨n,ai⟩:∃n,n=min most l:=⟨_,rfl⟩;have b7:min (most:Int) (l:Int)=(n:Int):=by omega
 have bB:n<=l:=by omega
 obtain⟨bC,bD,al,bE,am,_,Y⟩:=id ah;simp only[Value.slice.injEq]at al;obtain⟨rfl,_,rfl⟩:=al;have bF:n<=cp:=by omega
 have b8:cp<=9223372036854775807:=am;have HR:ce _:=And.intro ah (And.intro Y (And.intro af (And.intro U ai)));clear hR hL h5 B hn ah Y af U ai am;obtain⟨i9,bz,an,b0,b1⟩:=info_parts tW;go_wp2_with fail;go_loopw [13,56] (λu i wr=>∃j:Nat,j<=n/\i=.int .i64 j/\wr.ownsRow y0.heap.size 9 1 u j (gQ ((L.take j).map jH))/\Below y0.heap.size y0 wr) (λ_ i _=>n-(intOf i).toNat)
 case atStart=>exact⟨0,bT _,rfl,ct _ _ _ _,Below.refl _ _⟩
 case round=>
  obtain⟨j,hj,rfl,ab,hb⟩:=hrel;obtain⟨ag,cg,rfl,bG⟩:=ib ab;have HO:ce (wr.ownsRow y0.heap.size 9 1 (.slice ag j cg) j (gQ ((L.take j).map jH))):=ab;have HB:ce (Below _ _ _):=hb;clear ab hb;by_cases bH:j<n
  .have aj:j<L.length:=by omega
   obtain⟨e,he⟩:∃e,e=L[j]:=⟨_,rfl⟩;have ae:e∈L:=by rw[he]; exact List.getElem_mem aj
   have ac:∀c,c<4->(lh L)[j*4+c]?=(oY e)[c]?:=λc hc=>by rw[CB L j c aj hc,he]
   obtain⟨bg,og,rfl,b2⟩:=HR.out.2.1 (j*4) (.string ⟨e.name.toArray⟩) (ac 0 (by omega))
   have D:∀c u,c<4->(oY e)[c]?=some u->wr.cell? ⟨bg,og+j*4+c,none⟩=some u:=λc u hc hu=>by
    obtain⟨b',o',h1,h2⟩:=HR.out.2.1 (j*4+c) u (by rw[ac c hc]; exact hu);simp only[cv,Addr.mk.injEq]at h1;obtain⟨rfl,rfl,_⟩:=h1;rw[Nat.add_assoc];exact bZ HB.out h2
   have d0:wr.cell? ⟨bg,og+j*4,none⟩=some (.string ⟨e.name.toArray⟩):=D 0 _ (by omega) rfl;have d1:wr.cell? ⟨bg,og+j*4+1,none⟩=some (.string ⟨e.text.toArray⟩):=D 1 _ (by omega) rfl;have d2:wr.cell? ⟨bg,og+j*4+2,none⟩=some (.int .i64 e.gT):=D 2 _ (by omega) rfl;have d3:wr.cell? ⟨bg,og+j*4+3,none⟩=some (.int .i64 e.il):=D 3 _ (by omega) rfl;have HE:ce _:=And.intro he ae;clear he ae ac D b2;go_wp2_with fail;have ao:=HB.out.size;refine(HA.out.2.2.2.1 e HE.out.2 _ (λr hr=>?_)).mono ?_
   .have h5:=HA.out.2.2.1;have O:=HR.out.2.2.1;rw[lD _ _ (by rw[O]at ao; omega),HB.out.block r (by rw[O]; omega),O]
   rintro en w5 ⟨rfl,hx⟩;have b3:=hx.size;simp only[World.size_alloc]at b3;have ak:Below wr.heap.size wr w5:=((Below.refl _ _).alloc (bP _) _).trans (Below.mono hx (by simp));have b4:ce (Below y0.heap.size y0 w5):=HB.out.trans (ak.mono ao);have ap:ce (w5.ownsRow y0.heap.size 9 1 (.slice ag j cg) j (gQ ((L.take j).map jH))):=iB HO.out (λg hg=>ak.block g (HO.out.lt g hg).2);clear d0 d1 d2 d3 hx ak
   go_wp2_with (first
    |(at_builtin; refine jp _ rfl _ _ 31 rfl y0.heap.size 9 i9 (.string ⟨#[]⟩) 16 underlying31 bz an b0 b1 rfl _ _ _ rfl (ap.out.alloc _) ⟨w5.heap.size,0,none⟩ _ rfl (ya rfl) rfl ?c1 ?c2 ?c3 ?_))
   case c1=>omega
   case c2=>unfold cb; omega
   case c3=>first|omega|(simp; omega)
   intro v3 w3 ad aq _
   have HO3:ce (w3.ownsRow y0.heap.size 9 1 v3 (j+1) (gQ ((L.take (j+1)).map jH))):=by
    show w3.ownsRow _ _ _ _ _ _;rw[List.take_succ_eq_append_getElem aj,List.map_append,<-HE.out.1];rw[show(cq jH (List.take j L)++cq jH [e])=(L.take j).map jH++[jH e]from rfl,lH,List.map_take];exact ad
   have HB3:ce (Below y0.heap.size y0 w3):=(b4.out.alloc (by omega) _).grown aq (by simp; omega) (λg hg=>(ap.out.lt g hg).1);clear ad aq;go_wp2;go_roundw
   case rel=>exact⟨j+1,by omega,by go_num,HO3.out,HB3.out⟩
   case measure=>simp[intOf]; omega
  .have b5:j=n:=by omega
   subst b5;go_wp2;refine im ?_;rw[HK.out];refine gP.seq (gP.region ?_)
   (refine jn rfl (by rfl) (by kernel_rfl) λτ=>?_; unfold jh; go_simp; simp only[ik]; refine gP.ij τ ?_)
   (refine jn rfl (by rfl) (by kernel_rfl) λτ=>?_; unfold jh; go_simp; simp only[ik]; refine gP.ij τ ?_)
   (refine jn rfl (by rfl) (by kernel_rfl) λτ=>?_; unfold jh; go_simp; simp only[ik]; refine gP.ij τ ?_);refine gP.inRegion ?_;refine gP.back (v:=.tuple #[.slice ag j cg,.int .i64 0]) (.inr ⟨_,rfl⟩) func17 hi (λτ=>by simp[cc,results17,go_sem]) ?_;obtain⟨_,bI,h5,B,hn⟩:=HA.out;obtain⟨_,_,O,U,ai⟩:=HR.out;have hO:=HO.out;have hB:=HB.out;rw[O]at hO hB;have ar:(L.take most).length=j:=by rw[List.length_take]; omega
   have b6:L.take j=L.take most:=by
    by_cases hc:most<=L.length
    .rw[show j=most by omega]
    .rw[show j=L.length by omega,List.take_length,List.take_of_length_le (by omega)]
   refine hn wr (.slice ag j cg) (λr hr=>?_) (by have:=hB.size; rw[O]at this; exact this) (hB.os.trans U) ?_
   .rw[hB.block r hr,O]
   .rw[ar,<-b6];exact hO
theorem Lk{lb:Nat}{vS vM vK:Value}{sa:Option Addr}{sc mode il:Nat}{qb:ByteArray}{es:List gS}(hi:ops[i]?=some o)(ak:vS=.slice sa (0:Nat) sc)
  (hb:wl.heap[b]?=some (.cells #[.map (some lb),vS,vM,vK] 90 (0,0))) (hs:je wl lb es) (af:5<=lb) (ag:∀a,sa=some a->5<=a.block/\∃c e f,wl.heap[a.block]?=some (.cells c e f))
  (hl:es.length<=100000) (ad:∀e∈es,e.name.length<=65536/\e.text.length<=1048576/\(e.gone=false->0<=e.il/\e.il<=255))
  (hm:mode<=3) (ht:il<=255) (av:1<=most) (aw:most<=20) (hq:iX qb.data.toList=true) (ax:qb.size<=1000)
  (B:∀e∈es,e.gone=false->∀y:World,(∀r,r<5->y.heap[r]?=wl.heap[r]?)->bY prog 51 #[.agg #[.string ⟨e.name.toArray⟩,.string ⟨e.text.toArray⟩,.int .i64 e.gT,.int .i64 e.il]] y λen w'=>en=.returned (.string ⟨(jH e).toArray⟩)/\kC y w') (h5:5<=wl.heap.size)
  (hn:∀(w2:World)(v:Value),(∀r,r<wl.heap.size->w2.heap[r]?=wl.heap[r]?)->wl.heap.size<=w2.heap.size->w2.os=wl.os->P9 w2 wl.heap.size es ⟨mode,⟨(iD qb.data.toList).toArray⟩,il⟩ most v->gP (mC Z W0 Mp) (⟨fn,jg o.dst tm v,.inRegion ops rest::k⟩::os) w2 []) :
  gP (mC Z W0 Mp) (⟨17,#[.pointer (some ⟨b,0,none⟩),.int .i64 (mode:Int),.string qb,.int .i64 (il:Int),.int .i64 (most:Int),cz,cz,cz,cz,cz,cz,cz,cz,cz,cz,cz,cz,cz,cz,cz,cz,cz,cz,cz,cz,cz,cz,cz,cz,cz,cz,cz,cz,cz,cz,cz,cz,cz,cz,cz,cz,cz,cz,cz,cz,cz,cz,cz,cz,cz,cz,cz,cz,cz,cz,cz,cz,cz,cz,cz,cz,cz,cz,cz,cz,cz,cz],[.code (jc f17)]⟩::⟨fn,tm,.inRegion ops (i::rest)::k⟩::os) wl []:=by
 have HA:ce _:=And.intro hb (And.intro hs (And.intro af (And.intro ag (And.intro hl (And.intro ad (And.intro B (And.intro h5 (And.intro hn ak))))))));have HM:ce _:=And.intro hm (And.intro ht (And.intro av (And.intro aw (And.intro hq ax))));clear hb hs af ag hl ad B h5 hn ak;show gP _ (⟨_,_,[.code (.seq (.region 0 _ false) (.seq (.seq (.region 1 _ false) (.cond _ _ .skip)) (.seq (.seq (.region 3 _ false) (.cond _ _ .skip)) (.seq (.region 5 _ true) (.seq (.region 6 _ false) (.seq (.seq (.region 7 _ false) (.block 0 _)) (.seq (.region 12 _ false) .ret)))))))]⟩::_) _ _;refine gP.seq ?_;refine gZ λkk D=>?_;have HK:ce _:=D;clear D;refine gP.region ?_
 (refine jn rfl (by rfl) (by kernel_rfl) λτ=>?_; unfold jh; go_simp; simp only[ik]; refine gP.ij τ ?_)
 (refine jn rfl (by rfl) (by kernel_rfl) λτ=>?_; unfold jh; go_simp; simp only[ik]; refine gP.ij τ ?_);refine gP.inRegion ?_;rw[HK.out];clear HK kk;refine gP.seq (gP.seq ?_);refine gZ λkk D=>?_;have HK:ce _:=D;clear D;refine mS (by kernel_rfl) (by rw[HK.out]; rfl) (by simp) λτ=>?_;have g1:¬((il:Int)<0):=by omega
 have g2:¬((255:Int)<(il:Int)):=by omega
 have c1:=GQ mode hm (tp wl τ);have c2:=ES (most:Int) (tp wl τ);rw[decide_eq_true (show(1:Int)<=most/\(most:Int)<=20 by omega)]at c2;have c3:=λτ=>sL qb (tp wl τ) (by unfold cb; omega);rw[hq]at c3;have C3:ce _:=c3;clear hm ht av aw hq ax c3;go_wp2_with fail;refine c1.mono ?_;rintro e w' ⟨rfl,rfl⟩;clear c1;go_wp2_with fail;refine c2.mono ?_;rintro e w' ⟨rfl,rfl⟩;clear c2;go_wp2;refine im (gP.ij τ ?_);rw[HK.out];simp only[decide_eq_false (Int.not_lt.2 g1),decide_eq_false (Int.not_lt.2 g2),Bool.or_false];clear HK kk g1 g2;refine gP.sH trivial rfl (gP.skip (gP.seq (gP.seq ?_)));refine gZ λkk D=>?_;have HK:ce _:=D;clear D;refine mS (by kernel_rfl) (by rw[HK.out]; rfl) (by simp) λτ=>?_;have c3:=C3.out τ;clear C3;go_wp2_with fail;refine c3.mono ?_;rintro e w' ⟨rfl,rfl⟩;clear c3;go_wp2;refine im (gP.ij τ ?_);rw[HK.out];clear HK kk;refine gP.sH trivial rfl (gP.skip (gP.seq ?_));refine gZ λkk D=>?_;have HK:ce _:=D;clear D
 have am:ce (∀y,rZ wl y->y.cell? ⟨b,1,none⟩=some vS):=λy hy=>by
  obtain⟨τ,h⟩:=hy;exact bZ h (show(tp wl τ).cell? _=_ by rw[Ps (w:=tp wl τ) (show(tp wl τ).heap[b]?=_ from HA.out.1)]; rfl)
 have an:ce (∀y,rZ wl y->y.cell? ⟨b,0,none⟩=some (.map (some lb))):=λy hy=>by
  obtain⟨τ,h⟩:=hy;exact bZ h (show(tp wl τ).cell? _=_ by rw[Ps (w:=tp wl τ) (show(tp wl τ).heap[b]?=_ from HA.out.1)]; rfl)
 obtain⟨fb,ao⟩:∃fb:ByteArray,fb=⟨(iD qb.data.toList).toArray⟩:=⟨_,rfl⟩;have ap:ce (∀y:World,bY prog 50 #[.string qb] y λe w'=>e=.returned (.string fb)/\kC y w'):=λy=>by rw[ao]; exact qV qb y (by have:=HM.out; omega)
 have aq:ce _:=ao;clear ao;refine gP.Im (Sd:=λa y=>rZ wl y/\a.defers=[]/\gP _ (⟨_,a.tmps,.inRegion _ [13,14]::_⟩::_) y _) (last:=13) (tl:=[14]) (by kernel_rfl) (RE (by kernel_rfl)) ?_ (λa y h=>h.2);refine jA 0 ?_ ?_<|jA 1 ?_ ?_<|jA 2 ?_ ?_<|jA 3 ?_ ?_<|jA 4 ?_ ?_<|jA 5 ?_ ?_<|jA 6 ?_ ?_<|jA 7 ?_ ?_<|jA 8 ?_ ?_<|jA 9 ?_ ?_ ?_
 any_goals(intro y hy; have q:=am.out y hy; have q1:=an.out y hy; unfold jh; go_simp; refine⟨kC.refl _,?_⟩; with_reducible rfl)
 go_simp;refine jA 10 ?_ ?_ ?_;rotate_left
 .intro y hy; unfold jh; go_simp; refine⟨rfl,(ap.out y).mono ?_⟩; rintro e y2 ⟨rfl,h2⟩; refine⟨_,rfl,h2,?_⟩; with_reducible rfl
 go_simp;refine jA 11 ?_ ?_<|jA 12 ?_ ?_ ?_
 any_goals(intro y hy; unfold jh; go_simp; refine⟨kC.refl _,?_⟩; with_reducible rfl)
 go_simp;refine Jj (by kernel_rfl) (λt=>Py (by kernel_rfl) (by kernel_rfl) _ _) ?_;intro y hy;refine⟨hy,rfl,?_⟩;obtain⟨τ,hx⟩:=hy;obtain⟨hb,hs,af,ag,hl,ad,B,h5,hn,ak⟩:=HA.out;have ae:wl.heap.size<=y.heap.size:=hx.size;have hold:∀r,r<wl.heap.size->y.heap[r]?=wl.heap[r]?:=λr hr=>hx.block r hr;have aa:y.os=wl.os:=hx.os;have ar:je y lb es:=ir.stay hs (hold lb (ir.lt hs));subst ak;have ah:Ask.Ok ⟨mode,fb,il⟩:=⟨HM.out.1,by show il<256; have:=HM.out; omega,by rw[aq.out]; show(iD qb.data.toList).toArray.size<=_; rw[List.size_toArray,j9]; have:=HM.out; simp; omega⟩;refine gP.Pm (A:=⟨mode,fb,il⟩) (es:=es) (sa:=sa) (sc:=sc) (lb:=lb) (xs:=#[.tmp 38,.tmp 42,.tmp 47]) (FI _ _ _) rfl rfl rfl rfl (by simp[iH]) rfl (by kernel_rfl) ah ar af (λa ha=>?_) hl (λe he=>⟨by have:=(ad e he).1; unfold cb; omega,(ad e he).2⟩) ?_ ?_
 .obtain⟨p1,c,e,f,p2⟩:=ag a ha;exact⟨p1,c,e,f,by rw[hold _ (bbq.1 p2).1]; exact p2⟩
 .intro l cp hr;obtain⟨rfl,rfl,_⟩:=id hr;have ac:pA y 4 (.slice none 0 0) 0 (lh []):=pA.nil y 4;have O:Pg ((ja es).map (nH ⟨mode,fb,il⟩ 0)) []:=hr.2.2
  have U:List.Perm [] (es.filter (Ask.has ⟨mode,fb,il⟩)):=by
   have:=O.1;rw[tE]at this;exact this.trans ((lI es).filter _)
  have HH:ce _:=And.intro U (And.intro O.2 (And.intro hold (And.intro ae (And.intro aa (And.intro h5 (And.intro B (And.intro hn ac)))))));clear hb hs af ag hl ad B h5 hn ae hold aa ar ah O U ac HA an am ap hx;rw[lR];go_simp
  (refine jn rfl (by rfl) (by kernel_rfl) λτ=>?_; unfold jh; go_simp; simp only[ik]; refine gP.ij τ ?_);refine gP.inRegion ?_;rw[HK.out];show gP _ (⟨_,_,[.code (N7 (jc f17))]⟩::_) _ _;obtain⟨U,au,hold,ae,aa,h5,B,hn,ac⟩:=HH.out;refine uT (L:=[]) hi ac rfl HM.out.2.2.1 HM.out.2.2.2.1 (by omega) (λe he y2 ab=>?_) (λw2 u h1 h2 h3 h4=>?_)
  .have Y:=(U.mem_iff.1 he);rw[cl]at Y;exact B e Y.1 (zw Y.2) y2 (λr hr=>(ab r hr).trans (hold r (by omega)))
  .refine hn w2 _ (λr hr=>(h1 r (by omega)).trans (hold r hr)) (by omega) (h3.trans aa) ⟨[],?_,au,u,rfl,mH h4 (by omega)⟩;rw[<-aq.out];exact U
 .intro off spot l cp cs e f hr a3;obtain⟨rfl,rfl,rfl,rfl,L,ay,rfl,az,a0,al,ai⟩:=hr;obtain⟨y2,ab⟩:∃y2:World,y2={y with heap:=y.heap.push (.cells cs 96 (0,0))}:=⟨_,rfl⟩;have aj:∀r,r<y.heap.size->y2.heap[r]?=y.heap[r]?:=λr hr=>by rw[ab]; show(y.heap.push _)[r]?=_; rw[Array.getElem?_push,if_neg (by omega)]
  have a4:y2.heap.size=y.heap.size+1:=by rw[ab]; simp
  have a1:y2.os=y.os:=by rw[ab]
  have a2:y2.heap[y.heap.size]?=some (.cells cs 96 (0,0)):=by rw[ab]; simp
  have ac:pA y2 4 (.slice (some ⟨y.heap.size,0,none⟩) L.length cp) L.length (lh L):=pA.lr (base:=0) (e:=96) ⟨by rw[xc],.inr ⟨y.heap.size,cp,cs,rfl,bT _,a2,az,a0,al,ai⟩⟩;rw[<-ab];have hold:∀r,r<wl.heap.size->y2.heap[r]?=wl.heap[r]?:=λr hr=>(aj r (by omega)).trans (hold r hr);have ae:wl.heap.size<=y2.heap.size:=by omega
  have aa:y2.os=wl.os:=a1.trans aa;clear aj a4 a1 a2 az a0 al ai a3 ab;have O:Pg ((ja es).map (nH ⟨mode,fb,il⟩ 0)) L:=ay
  have U:List.Perm L (es.filter (Ask.has ⟨mode,fb,il⟩)):=by
   have:=O.1;rw[tE]at this;exact this.trans ((lI es).filter _)
  have HH:ce _:=And.intro U (And.intro O.2 (And.intro hold (And.intro ae (And.intro aa (And.intro h5 (And.intro B (And.intro hn ac)))))));clear hb hs af ag hl ad B h5 hn ae hold aa ar ah O ay U ac HA an am ap hx;rw[lR];go_simp
  (refine jn rfl (by rfl) (by kernel_rfl) λτ=>?_; unfold jh; go_simp; simp only[ik]; refine gP.ij τ ?_);refine gP.inRegion ?_;rw[HK.out];show gP _ (⟨_,_,[.code (N7 (jc f17))]⟩::_) _ _;obtain⟨U,au,hold,ae,aa,h5,B,hn,ac⟩:=HH.out;refine uT (L:=L) hi ac rfl HM.out.2.2.1 HM.out.2.2.2.1 (by omega) (λe he y2 ab=>?_) (λw2 u h1 h2 h3 h4=>?_)
  .have Y:=(U.mem_iff.1 he);rw[cl]at Y;exact B e Y.1 (zw Y.2) y2 (λr hr=>(ab r hr).trans (hold r (by omega)))
  .refine hn w2 _ (λr hr=>(h1 r (by omega)).trans (hold r hr)) (by omega) (h3.trans aa) ⟨L,?_,au,u,rfl,mH h4 (by omega)⟩;rw[<-aq.out];exact U
end
end
section
open Go.RowKit Go.Maps
variable {xs:List Wd} {v:Value} {w':World}
structure rz(w0 w:World):Prop where
 os:w.os=w0.os
 size:w0.heap.size<=w.heap.size
 block:∀k,k<w0.heap.size->w.heap[k]?=w0.heap[k]?
theorem rz.trans{a b c:World}(h:rz a b)(y:rz b c):rz a c:=⟨y.os.trans h.os,bQ h.size y.size,λk B=>(y.block k (bS B h.size)).trans (h.block k B)⟩
theorem rz.of{w:World}(h:Below w.heap.size w w'):rz w w':=⟨h.os,h.size,h.block⟩
structure AW(w0 w:World)(F1 F2:Nat->Prop)(b:Nat)(buf:List gS)(ss:List (List gS))(ts:List (List Wd)):Prop where
 j:PJ w F1 F2 b buf ss ts
 T9:∀k,F1 k->w0.heap.size<=k
 Rl:∀k,F2 k->w0.heap.size<=k
 low:rz w0 w
structure St(w w':World)(F1 F2 F1' F2':Nat->Prop):Prop where
 size:w.heap.size<=w'.heap.size
 block:∀k,k<w.heap.size->¬F1 k->¬F2 k->w'.heap[k]?=w.heap[k]?
 f1:∀k,F1' k->F1 k\/w.heap.size<=k
 f2:∀k,F2' k->F2 k\/w.heap.size<=k
def Kept(w:World)(F1 F2:Nat->Prop)(v:Value)(xs:List Wd):Prop:=w.ownsRow 0 9 1 v xs.length (gQ xs)/\∀g,v.ownBlock=some g->¬F1 g/\¬F2 g
theorem Kept.step{w:World}{F1 F2 D O:Nat->Prop}(h:Kept w F1 F2 v xs)(st:St w w' F1 F2 D O):Kept w' D O v xs:=by
 have B:∀g,v.ownBlock=some g->g<w.heap.size:=λg y=>(h.1.lt g y).2;refine⟨iB h.1 λg y=>st.block g (B g y) (h.2 g y).1 (h.2 g y).2,λg y=>⟨λY=>?_,λY=>?_⟩⟩
 .rcases st.f1 g Y with U|U
  .exact(h.2 g y).1 U
  .have:=B g y; omega
 .rcases st.f2 g Y with U|U
  .exact(h.2 g y).2 U
  .have:=B g y; omega
theorem Kept.new{w0 w:World}{F1 F2:Nat->Prop}{b:Nat}{buf:List gS}{ss:List (List gS)}{ts:List (List Wd)}(h:AW w0 w F1 F2 b buf ss ts)(y:w'.ownsRow w.heap.size 9 1 v xs.length (gQ xs)):Kept w' F1 F2 v xs:=
 ⟨mH y (bT _),λg D=>⟨λB=>by have:=h.j.T1 g B; have:=(y.lt g D).1; omega,λB=>by have:=h.j.T6 g B; have:=(y.lt g D).1; omega⟩⟩
theorem St.same{w:World}{F1 F2:Nat->Prop}(h:rz w w'):St w w' F1 F2 F1 F2:=⟨h.size,λk y _ _=>h.block k y,λ_ y=>.inl y,λ_ y=>.inl y⟩
theorem AW.same{w0 w:World}{F1 F2:Nat->Prop}{b:Nat}{buf:List gS}{ss:List (List gS)}{ts:List (List Wd)}(h:AW w0 w F1 F2 b buf ss ts)(y:rz w w'):AW w0 w' F1 F2 b buf ss ts:=⟨h.j.below y.size y.block,h.T9,h.Rl,h.low.trans y⟩
section
variable {w0 w:World} {F1 F2:Nat->Prop} {b:Nat} {buf:List gS} {ss:List (List gS)} {ts:List (List Wd)}
theorem AW.Kp{f:ca}{args:Array Value}{code:Nat}{buf':List gS}{ss':List (List gS)}(h:AW w0 w F1 F2 b buf ss ts)(hc:∀vM vK,we vM vK w F1 b buf ss->bY prog f args w (RM (we vM vK) w F1 b code buf' ss')) :
  bY prog f args w λe w'=>e=.returned (.int .i64 code)/\∃O,AW w0 w' O F2 b buf' ss' ts/\St w w' F1 F2 O F2:=by
 obtain⟨⟨h1,h2,h3,Bb,vS,B,n,vK,kn,h4,h5⟩,k1,k2,U⟩:=h;refine(hc (.map (some B)) vK ⟨h1,Bb,vS,h4⟩).mono ?_;rintro e w' ⟨rfl,F',hp,hF,y⟩;refine⟨rfl,F',⟨PJ.entries h1 h2 h3 h4 h5 hp hF y,λk D=>?_,k2,?_⟩,⟨y.size,λk D hn _=>y.block k D hn,hF,λ_ D=>.inl D⟩⟩
 .rcases hF k D with Y|Y
  .exact k1 k Y
  .exact bQ U.size Y
 .exact⟨y.os.trans U.os,bQ U.size y.size,λk D=>(y.block k (bS D U.size) λY=>absurd (k1 k Y) (by omega)).trans (U.block k D)⟩
theorem AW.observe(h:AW w0 w F1 F2 b buf ss ts)(s:ByteArray)(hB:jE ts<=16777216)(hs:s.size<=cb) :
  bY prog 34 #[.pointer (some ⟨b,0,none⟩),.string s] w λe w'=>e=.returned (.int .i64 (oT ts s.data.toList).1)/\∃O,AW w0 w' F1 O b buf ss (oT ts s.data.toList).2/\St w w' F1 F2 F1 O:=by
 obtain⟨⟨h1,h2,h3,Bb,vS,B,n,vK,kn,h4,h5⟩,k1,k2,U⟩:=h;refine(CK w F2 b ts s ⟨h2,B,n,vK,kn,h5⟩ hB hs).mono ?_;rintro e w' ⟨rfl,F',hp,hF,y⟩;refine⟨rfl,F',⟨PJ.words h1 h2 h3 h4 h5 hp hF y,k1,λk D=>?_,?_⟩,⟨y.size,λk D _ hn=>y.block k D hn,λ_ D=>.inl D,hF⟩⟩
 .rcases hF k D with Y|Y
  .exact k2 k Y
  .exact bQ U.size Y
 .exact⟨y.os.trans U.os,bQ U.size y.size,λk D=>(y.block k (bS D U.size) λY=>absurd (k2 k Y) (by omega)).trans (U.block k D)⟩
theorem AW.Eo(h:AW w0 w F1 F2 b buf ss ts)(y:Jd w)(s:ByteArray)(most:Int)(D:jE ts<=16777216)(O:s.size<=cb) :
  bY prog 35 #[.pointer (some ⟨b,0,none⟩),.string s,.int .i64 most] w λe w'=>∃v,e=.returned (.tuple #[v,.int .i64 (tf ts s.data.toList most).2])/\Kept w' F1 F2 v (tf ts s.data.toList most).1/\AW w0 w' F1 F2 b buf ss ts/\rz w w':=by
 obtain⟨⟨h1,U,h3,Bb,vS,B,n,Y,kn,h4,h5⟩,k1,k2,k3⟩:=id h;refine(EK w F2 b ts s most y ⟨U,_,_,B,n,Y,kn,h5⟩ D O).mono ?_;rintro e w' ⟨v,rfl,ho,hb⟩;exact⟨v,rfl,Kept.new h ho,h.same (.of hb),.of hb⟩
theorem AW.TK(h:AW w0 w F1 F2 b buf ss ts):∃D y,we D y w F1 b buf ss:=by
 obtain⟨⟨O,h2,h3,U,Y,B,n,y,kn,h4,h5⟩,k1,k2,k3⟩:=h;exact⟨_,_,O,U,Y,h4⟩
end
theorem SM(w:World):bY prog 31 #[] w λe w'=>∃(b:Nat)(F1 F2:Nat->Prop),e=.returned (.pointer (some ⟨b,0,none⟩))/\AW w w' F1 F2 b [] [] []/\Below w.heap.size w w':=by
 have ad:=@run_makeMap prog;go_enter func31,ntmps31;go_wp2_with fail;refine(MV _).mono ?_;rintro e w1 ⟨B,rfl,U,hC,y⟩;go_wp2;go_ret;have D:(w.alloc (Obj.map #[] 0)).heap.size=w.heap.size+1:=by simp
 have Y:je (w.alloc (Obj.map #[] 0)) w.heap.size []:=ir.made w;have aa:je w1 w.heap.size []:=ir.below Y y;rw[D]at y U;have ab:=y.size;rw[D]at ab;have hb:Below w.heap.size w w1:=((Below.refl _ _).alloc (bP _) _).trans (y.mono (by omega));have ac:=hC.lt;have O:=hb.alloc (o:=.cells #[.map (some w.heap.size),.slice none 0 0,.map (some B),.slice none 0 0] 90) (by omega);refine⟨w1.heap.size,λk=>k=w1.heap.size\/k=w.heap.size,λk=>k=w1.heap.size\/k=B,rfl,⟨⟨?_,?_,?_,w.heap.size,.slice none 0 0,B,0,.slice none 0 0,[],?_,?_⟩,?_,?_,.of O⟩,O⟩
 .rintro k (rfl|rfl)
  .simp
  .simp; omega
 .rintro k (rfl|rfl)
  .simp
  .simp; omega
 .rintro k (h|h) (h'|h')<;>omega
 .exact⟨pQ _ _,Or.inl rfl,Or.inr rfl,ir.stay aa (Below.heap_alloc _ _ _ (by omega)),ct _ _ _ _,λk hk=>by simp[cy]at hk,Qx⟩
 .refine⟨pQ _ _,Or.inl rfl,Or.inr rfl,?_,by simp[jE],ct _ _ _ _,λk hk=>by simp[cy]at hk,by simp[iA],λt ht=>by simp at ht,by simp⟩;refine(hC.stay (Below.heap_alloc _ _ _ ac)).mono (bP _) (λws _=>by rw[Ox])
 .rintro k (rfl|rfl)<;>omega
 .rintro k (rfl|rfl)<;>omega
theorem BH{w:World}{F1 F2:Nat->Prop}(h:Kept w F1 F2 v xs):∃a c,v=.slice a xs.length c/\xs.length<=c/\c<=cb/\∀i(hi:i<xs.length),∃g,a=some ⟨g,0,none⟩/\w.cell? ⟨g,i,none⟩=some (.string ⟨xs[i].toArray⟩):=by
 rcases h.1.2 with⟨rfl,B⟩|⟨g,cap,D,rfl,_,O,U,Y,h3,h4⟩
 .refine⟨none,0,by rw[B],by omega,bT _,λi hi=>?_⟩;omega
 .refine⟨some ⟨g,0,none⟩,cap,rfl,U,Y,λi hi=>⟨g,rfl,?_⟩⟩;rw[Ps O];have y:=kW xs i hi;rw[<-h4,List.getElem?_take,if_pos (by omega)]at y;simpa using y
theorem O4{w:World}{F1 F2:Nat->Prop}(x y:Wd)(h:Kept w F1 F2 v [x,y]):bY prog 27 #[v,.string ⟨x.toArray⟩,.string ⟨y.toArray⟩,.int .i64 2] w λe w'=>e=.returned (.bool true)/\w=w':=by
 obtain⟨a,c,rfl,D,U,B⟩:=BH h;obtain⟨g,rfl,d0⟩:=B 0 (by simp);obtain⟨g',O,d1⟩:=B 1 (by simp);simp only[cv,Addr.mk.injEq,and_true]at O;subst O;simp only[ck,cm,ci,List.getElem_cons_succ]at d0 d1 D⊢;go_enter func27,ntmps27;go_wp2;go_ret;exact⟨rfl,rfl⟩
theorem SU{w:World}{F1 F2:Nat->Prop}(x:Wd)(y:ByteArray)(h:Kept w F1 F2 v [x]):bY prog 27 #[v,.string ⟨x.toArray⟩,.string y,.int .i64 1] w λe w'=>e=.returned (.bool true)/\w=w':=by
 obtain⟨a,c,rfl,D,O,B⟩:=BH h;obtain⟨g,rfl,d0⟩:=B 0 (by simp);simp only[ck,cm,ci]at d0 D⊢;go_enter func27,ntmps27;go_wp2;go_ret;exact⟨rfl,rfl⟩
end
section
open Go.Conc Go.RowKit Go.Maps
variable {qb:ByteArray}
theorem Iw{buf L:List gS}{mode il most:Nat}(D:(buf.map gS.name).Nodup)(hm:mode<=3)(ht:il<=255)(U:1<=most)(Y:most<=20)(hq:iX qb.data.toList=true)
  (O:L.Perm (buf.filter (Ask.has ⟨mode,⟨(iD qb.data.toList).toArray⟩,il⟩))) (hs:L.Pairwise λx y=>jw x y=true):(L.take most).map jH=(vZ (gR buf) mode qb.data.toList il most).1:=by
 have e1:buf.filter (Ask.has ⟨mode,⟨(iD qb.data.toList).toArray⟩,il⟩)=(gR buf).filter λe=>uc mode il qb.data.toList e:=by
  unfold gR;rw[List.filter_filter];refine List.filter_congr λe _=>?_;unfold Ask.has uc ie;simp[Bool.and_comm]
 rw[e1]at O;have B:((gR buf).map gS.name).Nodup:=D.sublist (List.filter_sublist.map _);have h:=Dz (mode:=(mode:Int)) (il:=(il:Int)) (most:=(most:Int)) (q:=qb.data.toList) B hs (by simpa using O);unfold vZ;rw[if_neg (by omega),if_pos hq];show _=(uK (gR buf) _ _ []).map _;rw[h];simp
section
variable {Z:ob prog} {W0:World} {Mp:Nat->Prop} {fn:ca} {tm:Array Value} {os:List OF} {wl w0:World} {k:List Item} {F1 F2:Nat->Prop} {b:Nat} {buf:List gS} {ts:List (List Wd)}
theorem AW.xd{ops:Array Oper}{i:Nat}{rest:List Nat}{o:Oper}{mode il most:Nat}(hi:ops[i]?=some o)(h:AW w0 wl F1 F2 b buf [] ts)(h5:5<=w0.heap.size)
  (hl:buf.length<=100000) (af:∀e∈buf,e.name.length<=65536/\e.text.length<=1048576/\(e.gone=false->0<=e.il/\e.il<=255))
  (hm:mode<=3) (ht:il<=255) (aa:1<=most) (ab:most<=20) (hq:iX qb.data.toList=true) (ag:qb.size<=1000)
  (O:∀e∈buf,e.gone=false->∀y:World,(∀r,r<5->y.heap[r]?=wl.heap[r]?)->bY prog 51 #[.agg #[.string ⟨e.name.toArray⟩,.string ⟨e.text.toArray⟩,.int .i64 e.gT,.int .i64 e.il]] y λen w'=>en=.returned (.string ⟨(jH e).toArray⟩)/\kC y w')
  (hn:∀(w2:World)(u:Value),AW w0 w2 F1 F2 b buf [] ts->rz wl w2->Kept w2 F1 F2 u (vZ (gR buf) mode qb.data.toList il most).1->gP (mC Z W0 Mp) (⟨fn,jg o.dst tm (.tuple #[u,.int .i64 0]),.inRegion ops rest::k⟩::os) w2 []) :
  gP (mC Z W0 Mp) (⟨17,#[.pointer (some ⟨b,0,none⟩),.int .i64 (mode:Int),.string qb,.int .i64 (il:Int),.int .i64 (most:Int),cz,cz,cz,cz,cz,cz,cz,cz,cz,cz,cz,cz,cz,cz,cz,cz,cz,cz,cz,cz,cz,cz,cz,cz,cz,cz,cz,cz,cz,cz,cz,cz,cz,cz,cz,cz,cz,cz,cz,cz,cz,cz,cz,cz,cz,cz,cz,cz,cz,cz,cz,cz,cz,cz,cz,cz,cz,cz,cz,cz,cz,cz],[.code (jc f17)]⟩::⟨fn,tm,.inRegion ops (i::rest)::k⟩::os) wl []:=by
 obtain⟨⟨h1,h2,h3,Bb,vS,B,n,vK,kn,Y,h6⟩,k1,k2,k3⟩:=id h
 have U:∃sa sc,vS=.slice sa (0:Nat) sc/\∀a,sa=some a->5<=a.block/\∃c e f,wl.heap[a.block]?=some (.cells c e f):=by
  have ac:=Y.row;rcases ac.2 with⟨rfl,_⟩|⟨g,cap,ah,rfl,_,hg,_⟩
  .exact⟨none,0,rfl,λa ha=>by cases ha⟩
  .refine⟨some ⟨g,0,none⟩,cap,rfl,λa ha=>?_⟩;cases ha;exact⟨bQ h5 (k1 g (Y.mo g rfl)),ah,_,_,hg⟩
 obtain⟨sa,sc,ai,aj⟩:=U;refine Lk (es:=buf) hi ai Y.blk Y.say (bQ h5 (k1 Bb Y.fB)) aj hl af hm ht aa ab hq ag O (bQ h5 k3.size) ?_;intro w2 v hb hz ho ad;obtain⟨L,ak,al,u,rfl,ae⟩:=ad;have D:rz wl w2:=⟨ho,hz,hb⟩;refine hn w2 u (h.same D) D ?_;have e:=Iw Y.inv.nodup hm ht aa ab hq ak al;rw[<-e];refine Kept.new h ?_;rw[List.length_map];exact ae
theorem Ja{e:gS}(B:0<=e.gT)(h1:e.gT<100)(D:e.name.length<=65536)(O:e.text.length<=1048576)(y:World):bY prog 51 #[.agg #[.string ⟨e.name.toArray⟩,.string ⟨e.text.toArray⟩,.int .i64 e.gT,.int .i64 e.il]] y λU w'=>U=.returned (.string ⟨(jH e).toArray⟩)/\kC y w':=by
 refine Ny e y B (λY _=>?_) D O ?_
 .have:=GW e.gT.toNat (by omega) Y;rw[show((e.gT.toNat:Nat):Int)=e.gT by omega]at this;exact this
 .have:=MY 3 e.gT.toNat (by omega) (by omega);omega
end
end
section
def ea:gS:=⟨[97],false,[78,101,119,32,89,111,114,107],50,1⟩
def eb:gS:=⟨[98],false,[78,101,119,97,114,107],70,3⟩
def ec:gS:=⟨[99],false,[89,111,114,107],60,1⟩
def gb:gS:=⟨[98],true,[],0,0⟩
theorem t1:om [] [] ea.name ea.text 50 1=(0,[ea]):=by kernel_rfl
theorem t2:om [ea] [] eb.name eb.text 70 3=(0,[ea,eb]):=by kernel_rfl
theorem t3:om [ea,eb] [] ec.name ec.text 60 1=(0,[ea,eb,ec]):=by kernel_rfl
theorem t4:(vZ (gR [ea,eb,ec]) 0 [110,101,119] 0 5).1=[jH eb,jH ea]:=by kernel_rfl
theorem t5:(vZ (gR [ea,eb,ec]) 1 [89,79,82,75] 0 5).1=[jH ec,jH ea]:=by kernel_rfl
theorem t6:(vZ (gR [ea,eb,ec]) 2 [110,119,101] 2 5).1=[jH eb]:=by kernel_rfl
theorem t7:(kF [ea,eb,ec] [])=(0,[],[[ea,eb,ec]]):=by kernel_rfl
theorem t8:qO [] [[ea,eb,ec]] [98]=(0,[gb]):=by kernel_rfl
theorem t9:(kF [gb] [[ea,eb,ec]])=(0,[],[[ea,eb,ec],[gb]]):=by kernel_rfl
theorem t10:sq [[ea,eb,ec],[gb]] 1=([1,1,98,0,0,0,0,0,0],0):=by kernel_rfl
theorem t11:(jS [[ea,eb,ec],[gb]] 0).1=0/\(jS [[ea,eb,ec],[gb]] 0).2.length=1:=by constructor<;>kernel_rfl
theorem t12:(oT [] [116,104,101,32,99,97,116,32,115,97,116]).1=0:=by kernel_rfl
theorem t13:(oT (oT [] [116,104,101,32,99,97,116,32,115,97,116]).2 [116,104,101,32,99,97,116,32,114,97,110]).1=0:=by kernel_rfl
theorem t14:(tf (oT (oT [] [116,104,101,32,99,97,116,32,115,97,116]).2 [116,104,101,32,99,97,116,32,114,97,110]).2 [116,104,101,32,99,97,116] 2)=([[114,97,110],[115,97,116]],0):=by kernel_rfl
theorem t15:jH ea=[97,32,53,48,32,78,101,119,32,89,111,114,107]:=by
 unfold jH;rw[show ea.gT.toNat=50 from rfl,rn (by omega),sY (by omega)];rfl
theorem t16:jH eb=[98,32,55,48,32,78,101,119,97,114,107]:=by
 unfold jH;rw[show eb.gT.toNat=70 from rfl,rn (by omega),sY (by omega)];rfl
theorem t17:jH ec=[99,32,54,48,32,89,111,114,107]:=by
 unfold jH;rw[show ec.gT.toNat=60 from rfl,rn (by omega),sY (by omega)];rfl
end
section
open Go.Conc Go.RowKit Go.Maps
theorem Pt:∀e∈[ea,eb,ec],e.name.length<=65536/\e.text.length<=1048576/\(e.gone=false->0<=e.il/\e.il<=255):=by
 intro e y;simp only[cn,cj,or_false]at y;rcases y with rfl|rfl|rfl<;>exact⟨by decide,by decide,λ_=>⟨by decide,by decide⟩⟩
theorem IY:∀e∈[ea,eb,ec],∀y:World,bY prog 51 #[.agg #[.string ⟨e.name.toArray⟩,.string ⟨e.text.toArray⟩,.int .i64 e.gT,.int .i64 e.il]] y λD w'=>D=.returned (.string ⟨(jH e).toArray⟩)/\kC y w':=by
 intro e B y;have h:=Pt e B;simp only[cn,cj,or_false]at B;rcases B with rfl|rfl|rfl<;>exact Ja (by decide) (by decide) h.1 h.2.1 y
theorem wI:f17.name≠ "runtime.NumGoroutine":=by
 have:f17.name = "(*hint/hint.Engine).Complete":=by kernel_rfl
 rw[this];decide
theorem kz{w y:World}(B:y.heap=w.heap)(D:y.os=w.os):rz w y:=⟨D,by rw[B]; exact bP _,λk _=>by rw[B]⟩
section
variable {Z:ob prog} {W0:World} {Mp:Nat->Prop} {fn:ca} {tm:Array Value} {os:List OF} {wl:World} {k:List Item}
theorem IQ{ops:Array Oper}{i:Nat}{rest:List Nat}{o:Oper}(hi:ops[i]?=some o)(hW:Jd wl)(h5:5<=wl.heap.size)(hn:∀w2:World,rz wl w2->gP (mC Z W0 Mp) (⟨fn,jg o.dst tm (.bool true),.inRegion ops rest::k⟩::os) w2 []) :
  gP (mC Z W0 Mp) (⟨32,#[cz,cz,cz,cz,cz,cz,cz,cz,cz,cz,cz,cz,cz,cz,cz,cz,cz,cz,cz,cz,cz,cz,cz,cz,cz,cz,cz,cz,cz,cz,cz,cz,cz,cz,cz,cz,cz,cz,cz,cz,cz,cz,cz,cz,cz,cz,cz,cz,cz,cz,cz,cz,cz,cz,cz,cz,cz,cz,cz,cz,cz,cz,cz,cz,cz,cz,cz,cz,cz,cz,cz,cz,cz,cz,cz,cz,cz,cz,cz,cz,cz,cz,cz,cz,cz,cz,cz,cz,cz,cz,cz,cz,cz,cz,cz,cz,cz,cz,cz,cz,cz,cz,cz,cz,cz,cz,cz,cz,cz,cz,cz,cz,cz,cz,cz,cz,cz,cz,cz,cz,cz,cz,cz,cz,cz,cz,cz,cz,cz,cz,cz,cz,cz,cz,cz,cz,cz,cz,cz,cz,cz,cz,cz,cz,cz,cz,cz,cz,cz,cz,cz,cz,cz,cz],[.code (jc f32)]⟩::⟨fn,tm,.inRegion ops (i::rest)::k⟩::os) wl []:=by
 have HN:ce _:=And.intro hW (And.intro h5 hn);clear hW h5 hn;show gP _ (⟨_,_,[.code (.seq (.region 0 _ false) (.seq (.region 1 _ false) (.seq (.seq (.region 2 _ false) (.cond _ _ .skip)) (.seq (.region 4 _ false) (.seq (.region 5 _ false) (.seq (.region 6 _ false) (.seq (.region 7 _ false) (.seq (.region 8 _ false) (.seq (.region 9 _ false) (.seq (.region 10 _ false) (.seq (.region 11 _ false) (.seq (.region 12 _ false) (.seq (.region 13 _ false) (.seq (.region 14 _ false) (.seq (.region 15 _ false) (.seq (.region 16 _ false) (.seq (.region 17 _ false) (.seq (.seq (.region 18 _ false) (.cond _ _ .skip)) (.seq (.region 20 _ false) (.seq (.region 21 _ false) (.seq (.region 22 _ false) (.seq (.region 23 _ false) (.seq (.region 24 _ false) (.seq (.region 25 _ false) .ret))))))))))))))))))))))))]⟩::_) _ _;refine gP.seq ?_;refine gZ λkk D=>?_;have U:ce _:=D;clear D;refine gP.region ?_
 (refine jn rfl (by rfl) (by kernel_rfl) λτ=>?_; unfold jh; go_simp; simp only[ik]; refine gP.ij τ ?_);refine gP.inRegion ?_;rw[U.out];clear U kk;refine gP.seq ?_;refine gZ λkk D=>?_;have U:ce _:=D;clear D;refine kM (by kernel_rfl) (by rw[U.out]; rfl) (by simp) λy0 aa O=>?_;have B:=kz aa O;have C:=SM y0;have HL:ce _:=B;clear aa O B;go_wp2_with fail;refine C.mono ?_;clear C;rintro e w1 ⟨b,F1,F2,rfl,hA,hb⟩
 have HA:ce (AW wl w1 F1 F2 b [] [] []):=by
  have h0:=HL.out;refine⟨hA.j,λk hk=>bQ h0.size (hA.T9 k hk),λk hk=>bQ h0.size (hA.Rl k hk),h0.trans hA.low⟩
 clear hA hb HL;go_wp2;refine im ?_;rw[U.out];clear U kk;refine gP.seq (gP.seq ?_);refine gZ λkk D=>?_;have U:ce _:=D;clear D;refine gP.region ?_
 (refine jn rfl (by rfl) (by kernel_rfl) λτ=>?_; unfold jh; go_simp; simp only[ik]; refine gP.ij τ ?_)
 (refine jn rfl (by rfl) (by kernel_rfl) λτ=>?_; unfold jh; go_simp; simp only[ik]; refine gP.ij τ ?_);refine gP.inRegion ?_;rw[U.out];clear U kk;refine gP.sH trivial rfl (gP.skip ?_);refine gP.seq ?_;refine gZ λkk D=>?_;have U:ce _:=D;clear D;refine kM (by kernel_rfl) (by rw[U.out]; rfl) (by simp) λy0 aa O=>?_;have B:=kz aa O;have A:=HA.out.same B
 have C:bY prog 38 #[.pointer (some ⟨b,0,none⟩),.string ⟨#[97]⟩,.string ⟨#[78,101,119,32,89,111,114,107]⟩,.int .i64 50,.int .i64 1] y0 (λe w'=>e=.returned (.int .i64 0)/\∃ac,AW wl w' ac F2 b [ea] [] []/\St y0 w' F1 F2 ac F2):=A.Kp (code:=0) (buf':=[ea]) (ss':=[]) λvM vK hp=>by
  refine(Ek y0 F1 b [] [] ⟨#[97]⟩ ⟨#[78,101,119,32,89,111,114,107]⟩ 50 1 hp (by decide) (by decide)).mono ?_;rintro e w' ⟨h1,h2,h3⟩;rw[show om [] [] (⟨#[97]⟩:ByteArray).data.toList (⟨#[78,101,119,32,89,111,114,107]⟩:ByteArray).data.toList 50 1=(0,[ea])from t1]at h1 h2;exact⟨h1,F1,h2,λ_ hk=>Or.inl hk,h3⟩
 have HL:ce _:=B;clear aa O B A;go_wp2_with fail;refine C.mono ?_;clear C;rintro e w2 ⟨rfl,au,hA,Y⟩;have B:=HL.out;have HA:ce (AW _ _ _ _ _ _ _ _):=hA;clear hA Y HL B;go_wp2;refine im ?_;rw[U.out];clear U kk;refine gP.seq ?_;refine gZ λkk D=>?_;have U:ce _:=D;clear D;refine kM (by kernel_rfl) (by rw[U.out]; rfl) (by simp) λy0 aa O=>?_;have B:=kz aa O;have A:=HA.out.same B
 have C:bY prog 38 #[.pointer (some ⟨b,0,none⟩),.string ⟨#[98]⟩,.string ⟨#[78,101,119,97,114,107]⟩,.int .i64 70,.int .i64 3] y0 (λe w'=>e=.returned (.int .i64 0)/\∃ac,AW wl w' ac F2 b [ea,eb] [] []/\St y0 w' au F2 ac F2):=A.Kp (code:=0) (buf':=[ea,eb]) (ss':=[]) λvM vK hp=>by
  refine(Ek y0 au b [ea] [] ⟨#[98]⟩ ⟨#[78,101,119,97,114,107]⟩ 70 3 hp (by decide) (by decide)).mono ?_;rintro e w' ⟨h1,h2,h3⟩;rw[show om [ea] [] (⟨#[98]⟩:ByteArray).data.toList (⟨#[78,101,119,97,114,107]⟩:ByteArray).data.toList 70 3=(0,[ea,eb])from t2]at h1 h2;exact⟨h1,au,h2,λ_ hk=>Or.inl hk,h3⟩
 have HL:ce _:=B;clear aa O B A;go_wp2_with fail;refine C.mono ?_;clear C;rintro e w3 ⟨rfl,av,hA,Y⟩;have B:=HL.out;have HA:ce (AW _ _ _ _ _ _ _ _):=hA;clear hA Y HL B;go_wp2;refine im ?_;rw[U.out];clear U kk;refine gP.seq ?_;refine gZ λkk D=>?_;have U:ce _:=D;clear D;refine kM (by kernel_rfl) (by rw[U.out]; rfl) (by simp) λy0 aa O=>?_;have B:=kz aa O;have A:=HA.out.same B
 have C:bY prog 38 #[.pointer (some ⟨b,0,none⟩),.string ⟨#[99]⟩,.string ⟨#[89,111,114,107]⟩,.int .i64 60,.int .i64 1] y0 (λe w'=>e=.returned (.int .i64 0)/\∃ac,AW wl w' ac F2 b [ea,eb,ec] [] []/\St y0 w' av F2 ac F2):=A.Kp (code:=0) (buf':=[ea,eb,ec]) (ss':=[]) λvM vK hp=>by
  refine(Ek y0 av b [ea,eb] [] ⟨#[99]⟩ ⟨#[89,111,114,107]⟩ 60 1 hp (by decide) (by decide)).mono ?_;rintro e w' ⟨h1,h2,h3⟩;rw[show om [ea,eb] [] (⟨#[99]⟩:ByteArray).data.toList (⟨#[89,111,114,107]⟩:ByteArray).data.toList 60 1=(0,[ea,eb,ec])from t3]at h1 h2;exact⟨h1,av,h2,λ_ hk=>Or.inl hk,h3⟩
 have HL:ce _:=B;clear aa O B A;go_wp2_with fail;refine C.mono ?_;clear C;rintro e w4 ⟨rfl,aj,hA,Y⟩;have B:=HL.out;have HA:ce (AW _ _ _ _ _ _ _ _):=hA;clear hA Y HL B;go_wp2;refine im ?_;rw[U.out];clear U kk;refine gP.seq ?_;refine gZ λkk D=>?_;have U:ce _:=D;clear D;refine gP.region ?_
 (refine jn rfl (by rfl) (by kernel_rfl) λτ=>?_; unfold jh; go_simp; simp only[ik]; refine gP.ij τ ?_);refine gP.uk #[.pointer (some ⟨b,0,none⟩),.int .i64 (0:Nat),.string ⟨#[110,101,119]⟩,.int .i64 (0:Nat),.int .i64 (5:Nat),cz,cz,cz,cz,cz,cz,cz,cz,cz,cz,cz,cz,cz,cz,cz,cz,cz,cz,cz,cz,cz,cz,cz,cz,cz,cz,cz,cz,cz,cz,cz,cz,cz,cz,cz,cz,cz,cz,cz,cz,cz,cz,cz,cz,cz,cz,cz,cz,cz,cz,cz,cz,cz,cz,cz,cz,cz,cz,cz,cz,cz,cz] (i:=1) (jZ:=f17) (c:=jc f17) rfl rfl func17 (by kernel_rfl) wI rfl (by simp[iH,Plain]) (by kernel_rfl) ?_;refine AW.xd (mode:=0) (il:=0) (most:=5) rfl HA.out HN.out.2.1 (by decide) Pt (by decide) (by decide) (by decide) (by decide) (by decide) (by decide) (λe he _ y _=>IY e he y) ?_;intro w5 u1 hA B hk;rw[show(vZ (gR [ea,eb,ec]) (0:Nat) (⟨#[110,101,119]⟩:ByteArray).data.toList (0:Nat) (5:Nat)).1=[jH eb,jH ea]from t4]at hk;have HA:ce (AW _ _ _ _ _ _ _ _):=hA;obtain⟨ah,ai,an,_⟩:=ib hk.1;subst an;have K1:ce (Kept _ _ _ _ _):=hk;clear hA B hk;rw[lR];go_simp
 (refine jn rfl (by rfl) (by kernel_rfl) λτ=>?_; unfold jh; go_simp; simp only[ik]; refine gP.ij τ ?_)
 (refine jn rfl (by rfl) (by kernel_rfl) λτ=>?_; unfold jh; go_simp; simp only[ik]; refine gP.ij τ ?_)
 (refine jn rfl (by rfl) (by kernel_rfl) λτ=>?_; unfold jh; go_simp; simp only[ik]; refine gP.ij τ ?_)
 (refine jn rfl (by rfl) (by kernel_rfl) λτ=>?_; unfold jh; go_simp; simp only[ik]; refine gP.ij τ ?_)
 (refine jn rfl (by rfl) (by kernel_rfl) λτ=>?_; unfold jh; go_simp; simp only[ik]; refine gP.ij τ ?_);refine gP.inRegion ?_;rw[U.out];clear U kk;refine gP.seq ?_;refine gZ λkk D=>?_;have U:ce _:=D;clear D;refine gP.region ?_
 (refine jn rfl (by rfl) (by kernel_rfl) λτ=>?_; unfold jh; go_simp; simp only[ik]; refine gP.ij τ ?_);refine gP.uk #[.pointer (some ⟨b,0,none⟩),.int .i64 (1:Nat),.string ⟨#[89,79,82,75]⟩,.int .i64 (0:Nat),.int .i64 (5:Nat),cz,cz,cz,cz,cz,cz,cz,cz,cz,cz,cz,cz,cz,cz,cz,cz,cz,cz,cz,cz,cz,cz,cz,cz,cz,cz,cz,cz,cz,cz,cz,cz,cz,cz,cz,cz,cz,cz,cz,cz,cz,cz,cz,cz,cz,cz,cz,cz,cz,cz,cz,cz,cz,cz,cz,cz,cz,cz,cz,cz,cz,cz] (i:=1) (jZ:=f17) (c:=jc f17) rfl rfl func17 (by kernel_rfl) wI rfl (by simp[iH,Plain]) (by kernel_rfl) ?_;refine AW.xd (mode:=1) (il:=0) (most:=5) rfl HA.out HN.out.2.1 (by decide) Pt (by decide) (by decide) (by decide) (by decide) (by decide) (by decide) (λe he _ y _=>IY e he y) ?_;intro w6 u2 hA B hk;rw[show(vZ (gR [ea,eb,ec]) (1:Nat) (⟨#[89,79,82,75]⟩:ByteArray).data.toList (0:Nat) (5:Nat)).1=[jH ec,jH ea]from t5]at hk;have K1:ce (Kept w6 aj F2 (.slice ah 2 ai) [jH eb,jH ea]):=K1.out.step (St.same B);have HA:ce (AW _ _ _ _ _ _ _ _):=hA;obtain⟨ak,al,an,_⟩:=ib hk.1;subst an;have K2:ce (Kept _ _ _ _ _):=hk;clear hA B hk;rw[lR];go_simp
 (refine jn rfl (by rfl) (by kernel_rfl) λτ=>?_; unfold jh; go_simp; simp only[ik]; refine gP.ij τ ?_)
 (refine jn rfl (by rfl) (by kernel_rfl) λτ=>?_; unfold jh; go_simp; simp only[ik]; refine gP.ij τ ?_)
 (refine jn rfl (by rfl) (by kernel_rfl) λτ=>?_; unfold jh; go_simp; simp only[ik]; refine gP.ij τ ?_)
 (refine jn rfl (by rfl) (by kernel_rfl) λτ=>?_; unfold jh; go_simp; simp only[ik]; refine gP.ij τ ?_)
 (refine jn rfl (by rfl) (by kernel_rfl) λτ=>?_; unfold jh; go_simp; simp only[ik]; refine gP.ij τ ?_);refine gP.inRegion ?_;rw[U.out];clear U kk;refine gP.seq ?_;refine gZ λkk D=>?_;have U:ce _:=D;clear D;refine gP.region ?_
 (refine jn rfl (by rfl) (by kernel_rfl) λτ=>?_; unfold jh; go_simp; simp only[ik]; refine gP.ij τ ?_);refine gP.uk #[.pointer (some ⟨b,0,none⟩),.int .i64 (2:Nat),.string ⟨#[110,119,101]⟩,.int .i64 (2:Nat),.int .i64 (5:Nat),cz,cz,cz,cz,cz,cz,cz,cz,cz,cz,cz,cz,cz,cz,cz,cz,cz,cz,cz,cz,cz,cz,cz,cz,cz,cz,cz,cz,cz,cz,cz,cz,cz,cz,cz,cz,cz,cz,cz,cz,cz,cz,cz,cz,cz,cz,cz,cz,cz,cz,cz,cz,cz,cz,cz,cz,cz,cz,cz,cz,cz,cz] (i:=1) (jZ:=f17) (c:=jc f17) rfl rfl func17 (by kernel_rfl) wI rfl (by simp[iH,Plain]) (by kernel_rfl) ?_;refine AW.xd (mode:=2) (il:=2) (most:=5) rfl HA.out HN.out.2.1 (by decide) Pt (by decide) (by decide) (by decide) (by decide) (by decide) (by decide) (λe he _ y _=>IY e he y) ?_;intro w7 u3 hA B hk;rw[show(vZ (gR [ea,eb,ec]) (2:Nat) (⟨#[110,119,101]⟩:ByteArray).data.toList (2:Nat) (5:Nat)).1=[jH eb]from t6]at hk;have K1:ce (Kept w7 aj F2 (.slice ah 2 ai) [jH eb,jH ea]):=K1.out.step (St.same B);have K2:ce (Kept w7 aj F2 (.slice ak 2 al) [jH ec,jH ea]):=K2.out.step (St.same B);have HA:ce (AW _ _ _ _ _ _ _ _):=hA;obtain⟨ao,ap,an,_⟩:=ib hk.1;subst an;have K3:ce (Kept _ _ _ _ _):=hk;clear hA B hk;rw[lR];go_simp
 (refine jn rfl (by rfl) (by kernel_rfl) λτ=>?_; unfold jh; go_simp; simp only[ik]; refine gP.ij τ ?_)
 (refine jn rfl (by rfl) (by kernel_rfl) λτ=>?_; unfold jh; go_simp; simp only[ik]; refine gP.ij τ ?_)
 (refine jn rfl (by rfl) (by kernel_rfl) λτ=>?_; unfold jh; go_simp; simp only[ik]; refine gP.ij τ ?_)
 (refine jn rfl (by rfl) (by kernel_rfl) λτ=>?_; unfold jh; go_simp; simp only[ik]; refine gP.ij τ ?_)
 (refine jn rfl (by rfl) (by kernel_rfl) λτ=>?_; unfold jh; go_simp; simp only[ik]; refine gP.ij τ ?_);refine gP.inRegion ?_;rw[U.out];clear U kk;refine gP.seq ?_;refine gZ λkk D=>?_;have U:ce _:=D;clear D;refine kM (by kernel_rfl) (by rw[U.out]; rfl) (by simp) λy0 aa O=>?_;have B:=kz aa O;have A:=HA.out.same B
 have C:bY prog 29 #[.pointer (some ⟨b,0,none⟩)] y0 (λe w'=>e=.returned (.int .i64 0)/\∃ac,AW wl w' ac F2 b [] [[ea,eb,ec]] []/\St y0 w' aj F2 ac F2):=A.Kp (code:=0) (buf':=[]) (ss':=[[ea,eb,ec]]) λvM vK hp=>by
  refine(OJ y0 aj b [ea,eb,ec] [] hp).mono ?_;rintro e w' h;rw[show kF [ea,eb,ec] []=(0,[],[[ea,eb,ec]])from t7]at h;exact h
 have HL:ce _:=B;clear aa O B A;go_wp2_with fail;refine C.mono ?_;clear C;rintro e w8 ⟨rfl,ag,hA,Y⟩;have B:=HL.out;have K1:ce (Kept w8 ag F2 (.slice ah 2 ai) [jH eb,jH ea]):=(K1.out.step (St.same B)).step Y;have K2:ce (Kept w8 ag F2 (.slice ak 2 al) [jH ec,jH ea]):=(K2.out.step (St.same B)).step Y;have K3:ce (Kept w8 ag F2 (.slice ao 1 ap) [jH eb]):=(K3.out.step (St.same B)).step Y;have HA:ce (AW _ _ _ _ _ _ _ _):=hA;clear hA Y HL B;go_wp2;refine im ?_;rw[U.out];clear U kk;refine gP.seq ?_;refine gZ λkk D=>?_;have U:ce _:=D;clear D;refine kM (by kernel_rfl) (by rw[U.out]; rfl) (by simp) λy0 aa O=>?_;have B:=kz aa O;have A:=HA.out.same B
 have C:bY prog 37 #[.pointer (some ⟨b,0,none⟩),.string ⟨#[98]⟩] y0 (λe w'=>e=.returned (.int .i64 0)/\∃ac,AW wl w' ac F2 b [gb] [[ea,eb,ec]] []/\St y0 w' ag F2 ac F2):=A.Kp (code:=0) (buf':=[gb]) (ss':=[[ea,eb,ec]]) λvM vK hp=>by
  refine(Pw y0 ag b [] [[ea,eb,ec]] ⟨#[98]⟩ hp (by decide)).mono ?_;rintro e w' ⟨h1,h2,h3⟩;rw[show qO [] [[ea,eb,ec]] (⟨#[98]⟩:ByteArray).data.toList=(0,[gb])from t8]at h1 h2;exact⟨h1,ag,h2,λ_ hk=>Or.inl hk,h3⟩
 have HL:ce _:=B;clear aa O B A;go_wp2_with fail;refine C.mono ?_;clear C;rintro e w9 ⟨rfl,am,hA,Y⟩;have B:=HL.out;have K1:ce (Kept w9 am F2 (.slice ah 2 ai) [jH eb,jH ea]):=(K1.out.step (St.same B)).step Y;have K2:ce (Kept w9 am F2 (.slice ak 2 al) [jH ec,jH ea]):=(K2.out.step (St.same B)).step Y;have K3:ce (Kept w9 am F2 (.slice ao 1 ap) [jH eb]):=(K3.out.step (St.same B)).step Y;have HA:ce (AW _ _ _ _ _ _ _ _):=hA;clear hA Y HL B;go_wp2;refine im ?_;rw[U.out];clear U kk;refine gP.seq ?_;refine gZ λkk D=>?_;have U:ce _:=D;clear D;refine kM (by kernel_rfl) (by rw[U.out]; rfl) (by simp) λy0 aa O=>?_;have B:=kz aa O;have A:=HA.out.same B
 have C:bY prog 29 #[.pointer (some ⟨b,0,none⟩)] y0 (λe w'=>e=.returned (.int .i64 0)/\∃ac,AW wl w' ac F2 b [] [[ea,eb,ec],[gb]] []/\St y0 w' am F2 ac F2):=A.Kp (code:=0) (buf':=[]) (ss':=[[ea,eb,ec],[gb]]) λvM vK hp=>by
  refine(OJ y0 am b [gb] [[ea,eb,ec]] hp).mono ?_;rintro e w' h;rw[show kF [gb] [[ea,eb,ec]]=(0,[],[[ea,eb,ec],[gb]])from t9]at h;exact h
 have HL:ce _:=B;clear aa O B A;go_wp2_with fail;refine C.mono ?_;clear C;rintro e ar ⟨rfl,ae,hA,Y⟩;have B:=HL.out;have K1:ce (Kept ar ae F2 (.slice ah 2 ai) [jH eb,jH ea]):=(K1.out.step (St.same B)).step Y;have K2:ce (Kept ar ae F2 (.slice ak 2 al) [jH ec,jH ea]):=(K2.out.step (St.same B)).step Y;have K3:ce (Kept ar ae F2 (.slice ao 1 ap) [jH eb]):=(K3.out.step (St.same B)).step Y;have HA:ce (AW _ _ _ _ _ _ _ _):=hA;clear hA Y HL B;go_wp2;refine im ?_;rw[U.out];clear U kk;refine gP.seq ?_;refine gZ λkk D=>?_;have U:ce _:=D;clear D;refine mS (by kernel_rfl) (by rw[U.out]; rfl) (by simp) λτ=>?_;have B:rz ar (tp ar τ):=⟨rfl,bP _,λ_ _=>rfl⟩;obtain⟨vM,vK,hp⟩:=(HA.out.same B).TK;have C:=S8 (tp ar τ) ae b [] [[ea,eb,ec],[gb]] 1 hp;rw[t10]at C;clear hp;clear B;go_wp2_with fail;refine C.mono ?_;clear C;rintro e w9 ⟨rfl,rfl⟩;go_wp2;refine im (gP.ij τ ?_);rw[U.out];clear U kk;refine gP.seq ?_;refine gZ λkk D=>?_;have U:ce _:=D;clear D;refine kM (by kernel_rfl) (by rw[U.out]; rfl) (by simp) λy0 aa O=>?_;have B:=kz aa O;have A:=HA.out.same B
 have C:bY prog 39 #[.pointer (some ⟨b,0,none⟩),.int .i64 0] y0 (λe w'=>e=.returned (.int .i64 0)/\∃ac,AW wl w' ac F2 b [] (jS [[ea,eb,ec],[gb]] 0).2 []/\St y0 w' ae F2 ac F2):=A.Kp (code:=0) (buf':=[]) (ss':=(jS [[ea,eb,ec],[gb]] 0).2) λvM vK hp=>by
  refine(RP y0 ae b [] [[ea,eb,ec],[gb]] 0 hp).mono ?_;rintro e w' h;rw[t11.1]at h;exact h
 have HL:ce _:=B;clear aa O B A;go_wp2_with fail;refine C.mono ?_;clear C;rintro e aw ⟨rfl,ab,hA,Y⟩;have B:=HL.out;have K1:ce (Kept aw ab F2 (.slice ah 2 ai) [jH eb,jH ea]):=(K1.out.step (St.same B)).step Y;have K2:ce (Kept aw ab F2 (.slice ak 2 al) [jH ec,jH ea]):=(K2.out.step (St.same B)).step Y;have K3:ce (Kept aw ab F2 (.slice ao 1 ap) [jH eb]):=(K3.out.step (St.same B)).step Y;have HA:ce (AW _ _ _ _ _ _ _ _):=hA;clear hA Y HL B;go_wp2;refine im ?_;rw[U.out];clear U kk;refine gP.seq ?_;refine gZ λkk D=>?_;have U:ce _:=D;clear D;refine kM (by kernel_rfl) (by rw[U.out]; rfl) (by simp) λy0 aa O=>?_;have B:=kz aa O;have A:=HA.out.same B;have C:=A.observe ⟨#[116,104,101,32,99,97,116,32,115,97,116]⟩ (bR (by kernel_rfl)) (by decide);rw[show(oT [] (⟨#[116,104,101,32,99,97,116,32,115,97,116]⟩:ByteArray).data.toList).1=0 from t12]at C;have HL:ce _:=B;clear aa O B A;go_wp2_with fail;refine C.mono ?_;clear C;rintro e ax ⟨rfl,aq,hA,Y⟩;have B:=HL.out;have K1:ce (Kept ax ab aq (.slice ah 2 ai) [jH eb,jH ea]):=(K1.out.step (St.same B)).step Y;have K2:ce (Kept ax ab aq (.slice ak 2 al) [jH ec,jH ea]):=(K2.out.step (St.same B)).step Y;have K3:ce (Kept ax ab aq (.slice ao 1 ap) [jH eb]):=(K3.out.step (St.same B)).step Y;have HA:ce (AW _ _ _ _ _ _ _ _):=hA;clear hA Y HL B;go_wp2;refine im ?_;rw[U.out];clear U kk;refine gP.seq ?_;refine gZ λkk D=>?_;have U:ce _:=D;clear D;refine kM (by kernel_rfl) (by rw[U.out]; rfl) (by simp) λy0 aa O=>?_;have B:=kz aa O;have A:=HA.out.same B;have C:=A.observe ⟨#[116,104,101,32,99,97,116,32,114,97,110]⟩ (bR (by kernel_rfl)) (by decide);rw[show(oT (oT [] (⟨#[116,104,101,32,99,97,116,32,115,97,116]⟩:ByteArray).data.toList).2 (⟨#[116,104,101,32,99,97,116,32,114,97,110]⟩:ByteArray).data.toList).1=0 from t13]at C;have HL:ce _:=B;clear aa O B A;go_wp2_with fail;refine C.mono ?_;clear C;rintro e ay ⟨rfl,af,hA,Y⟩;have B:=HL.out;have K1:ce (Kept ay ab af (.slice ah 2 ai) [jH eb,jH ea]):=(K1.out.step (St.same B)).step Y;have K2:ce (Kept ay ab af (.slice ak 2 al) [jH ec,jH ea]):=(K2.out.step (St.same B)).step Y;have K3:ce (Kept ay ab af (.slice ao 1 ap) [jH eb]):=(K3.out.step (St.same B)).step Y;have HA:ce (AW _ _ _ _ _ _ _ _):=hA;clear hA Y HL B;go_wp2;refine im ?_;rw[U.out];clear U kk;refine gP.seq ?_;refine gZ λkk D=>?_;have U:ce _:=D;clear D;refine kM (by kernel_rfl) (by rw[U.out]; rfl) (by simp) λy0 aa O=>?_;have B:=kz aa O;have A:=HA.out.same B
 have az:Jd y0:=by
  have h0:=A.low;have hW:=HN.out.1;have h5:=HN.out.2.1;have hc:∀j,y0.cell? ⟨0,j,none⟩=wl.cell? ⟨0,j,none⟩:=λj=>by simp only[cr]; rw[h0.block 0 (by omega)]
  exact⟨(hc 0).trans hW.1,(hc 1).trans hW.2.1,(hc 2).trans hW.2.2⟩
 have C:=A.Eo az ⟨#[116,104,101,32,99,97,116]⟩ 2 (bR (by kernel_rfl)) (by decide);rw[show tf (oT (oT [] (⟨#[116,104,101,32,99,97,116,32,115,97,116]⟩:ByteArray).data.toList).2 (⟨#[116,104,101,32,99,97,116,32,114,97,110]⟩:ByteArray).data.toList).2 (⟨#[116,104,101,32,99,97,116]⟩:ByteArray).data.toList 2=([[114,97,110],[115,97,116]],0)from t14]at C;have HL:ce _:=B;clear aa O B A az;go_wp2_with fail;refine C.mono ?_;clear C;rintro e ad ⟨u4,rfl,hk,hA,a0⟩;have B:=HL.out.trans a0;have K1:ce (Kept ad ab af (.slice ah 2 ai) [jH eb,jH ea]):=K1.out.step (St.same B);have K2:ce (Kept ad ab af (.slice ak 2 al) [jH ec,jH ea]):=K2.out.step (St.same B);have K3:ce (Kept ad ab af (.slice ao 1 ap) [jH eb]):=K3.out.step (St.same B);have HA:ce (AW _ _ _ _ _ _ _ _):=hA;obtain⟨a1,a2,an,_⟩:=ib hk.1;subst an;have K4:ce (Kept _ _ _ _ _):=hk;clear hA hk a0 HL B;go_wp2;refine im ?_;rw[U.out];clear U kk;refine gP.seq (gP.seq ?_);refine gZ λkk D=>?_;have U:ce _:=D;clear D;refine mS (by kernel_rfl) (by rw[U.out]; rfl) (by simp) λτ=>?_;go_wp2;refine im (gP.ij τ ?_);rw[U.out];clear U kk;refine gP.sH trivial rfl (gP.skip ?_);refine gP.seq ?_;refine gZ λkk D=>?_;have U:ce _:=D;clear D;refine mS (by kernel_rfl) (by rw[U.out]; rfl) (by simp) λτ=>?_;have B:rz ad (tp ad τ):=⟨rfl,bP _,λ_ _=>rfl⟩;have C:=O4 _ _ (K1.out.step (St.same B));simp only[t15,t16,t17]at C;clear B;go_wp2_with fail;refine C.mono ?_;clear C;rintro e w9 ⟨rfl,rfl⟩;go_wp2;refine im (gP.ij τ ?_);rw[U.out];clear U kk;refine gP.seq ?_;refine gZ λkk D=>?_;have U:ce _:=D;clear D;refine mS (by kernel_rfl) (by rw[U.out]; rfl) (by simp) λτ=>?_;have B:rz ad (tp ad τ):=⟨rfl,bP _,λ_ _=>rfl⟩;have C:=O4 _ _ (K2.out.step (St.same B));simp only[t15,t16,t17]at C;clear B;go_wp2_with fail;refine C.mono ?_;clear C;rintro e w9 ⟨rfl,rfl⟩;go_wp2;refine im (gP.ij τ ?_);rw[U.out];clear U kk;refine gP.seq ?_;refine gZ λkk D=>?_;have U:ce _:=D;clear D;refine mS (by kernel_rfl) (by rw[U.out]; rfl) (by simp) λτ=>?_;have B:rz ad (tp ad τ):=⟨rfl,bP _,λ_ _=>rfl⟩;have C:=SU _ ⟨#[]⟩ (K3.out.step (St.same B));simp only[t15,t16,t17]at C;clear B;go_wp2_with fail;refine C.mono ?_;clear C;rintro e w9 ⟨rfl,rfl⟩;go_wp2;refine im (gP.ij τ ?_);rw[U.out];clear U kk;refine gP.seq ?_;refine gZ λkk D=>?_;have U:ce _:=D;clear D;refine mS (by kernel_rfl) (by rw[U.out]; rfl) (by simp) λτ=>?_;have B:rz ad (tp ad τ):=⟨rfl,bP _,λ_ _=>rfl⟩;have C:=O4 _ _ (K4.out.step (St.same B));clear B;go_wp2_with fail;refine C.mono ?_;clear C;rintro e w9 ⟨rfl,rfl⟩;go_wp2;refine im (gP.ij τ ?_);rw[U.out];clear U kk;refine gP.seq ?_;refine gZ λkk D=>?_;have U:ce _:=D;clear D;refine mS (by kernel_rfl) (by rw[U.out]; rfl) (by simp) λτ=>?_;have B:rz ad (tp ad τ):=⟨rfl,bP _,λ_ _=>rfl⟩;obtain⟨vM,vK,hp⟩:=(HA.out.same B).TK;have C:=Lw (tp ad τ) ab b [] (jS [[ea,eb,ec],[gb]] 0).2 hp;rw[t11.2]at C;clear hp;clear B;go_wp2_with fail;refine C.mono ?_;clear C;rintro e w9 ⟨rfl,rfl⟩;go_wp2;refine im (gP.ij τ ?_);rw[U.out];clear U kk;refine gP.seq ?_;refine gZ λkk D=>?_;have U:ce _:=D;clear D;refine mS (by kernel_rfl) (by rw[U.out]; rfl) (by simp) λτ=>?_;go_wp2;refine im (gP.ij τ ?_);rw[U.out];clear U kk;refine gP.back (v:=.bool true) (.inr ⟨_,rfl⟩) func32 hi (λτ=>by simp[cc,results32,go_sem]) ?_;exact HN.out.2.2 _ HA.out.low
end
end
section
open Go.Conc Go.RowKit
variable {f:ca} {Z:ob prog} {b r:Nat} {m:Ren} {v v':Value}
theorem stands:∀v:Value,∃x,(∀m,VR m x v)/\∀t z,v=.iface t z->∃B,x=.iface t B
 |.bool b=>⟨_,λ_=>.bool b,λ_ _ e=>(by cases e)⟩
 |.int k n=>⟨_,λ_=>.int k n,λ_ _ e=>(by cases e)⟩
 |.string s=>⟨_,λ_=>.string s,λ_ _ e=>(by cases e)⟩
 |.float k b=>⟨_,λ_=>.jC _ trivial,λ_ _ e=>(by cases e)⟩
 |.complex k a b=>⟨_,λ_=>.jC _ trivial,λ_ _ e=>(by cases e)⟩
 |.pointer none=>⟨_,λ_=>.ku,λ_ _ e=>(by cases e)⟩
 |.pointer (some a)=>⟨_,λ_=>.jC _ trivial,λ_ _ e=>(by cases e)⟩
 |.slice none l c=>⟨_,λ_=>.jq l c,λ_ _ e=>(by cases e)⟩
 |.slice (some a) l c=>⟨_,λ_=>.jC _ trivial,λ_ _ e=>(by cases e)⟩
 |.map none=>⟨_,λ_=>.pa,λ_ _ e=>(by cases e)⟩
 |.map (some r)=>⟨_,λ_=>.jC _ trivial,λ_ _ e=>(by cases e)⟩
 |.chan none=>⟨_,λ_=>.lO,λ_ _ e=>(by cases e)⟩
 |.chan (some r)=>⟨_,λ_=>.jC _ trivial,λ_ _ e=>(by cases e)⟩
 |.nilFunc=>⟨_,λ_=>.nilFunc,λ_ _ e=>(by cases e)⟩
 |.nilIface=>⟨_,λ_=>.nilIface,λ_ _ e=>(by cases e)⟩
 |.tuple c=>⟨_,λ_=>.jC _ trivial,λ_ _ e=>(by cases e)⟩
 |.iface t v=>by
  obtain⟨x,O,_⟩:=stands v
  exact⟨.iface t x,λm=>.iface t (O m),λ_ _ e=>(by cases e; exact⟨_,rfl⟩)⟩
 |.agg c=>by
  have y:∀i(h:i<c.size),∃x,(∀m,VR m x c[i])/\∀t z,c[i]=.iface t z->∃B,x=.iface t B:=λi h=>stands c[i];refine⟨.agg (bN λi:_root_.Fin c.size=>bX (y i.1 i.2)),λm=>.agg (by simp) λi h U=>?_,λ_ _ e=>(by cases e)⟩;simp only[bK];exact(bV (y i (by simpa using h))).1 m
 |.func (.func f) a c=>⟨_,λ_=>.jC _ trivial,λ_ _ e=>(by cases e)⟩
 |.func (.methodOf t n) a c=>⟨_,λ_=>.jC _ trivial,λ_ _ e=>(by cases e)⟩
 |.func (.via t p f b) a c=>⟨_,λ_=>.jC _ trivial,λ_ _ e=>(by cases e)⟩
 |.func (.yield l) a c=>⟨_,λ_=>.jC _ trivial,λ_ _ e=>(by cases e)⟩
 |.func (.method n) f c=>by
  have y:∀i(h:i<f.size),∃x,(∀m,VR m x f[i])/\∀t z,f[i]=.iface t z->∃B,x=.iface t B:=λi h=>stands f[i];refine⟨.func (.method "") (bN λi:_root_.Fin f.size=>bX (y i.1 i.2)) #[.func (.method n) f c],λm=>.s9 (by simp) (λi h U=>?_) (λt w Y=>?_),λ_ _ e=>(by cases e)⟩
  .simp only[bK];exact(bV (y i (by simpa using h))).1 m
  .obtain⟨D,e0⟩:=bbq.1 Y;obtain⟨z,hz⟩:=(bV (y 0 D)).2 t w e0;refine⟨z,?_⟩;rw[bJ (by simpa using D)];simp only[bK];rw[hz]
termination_by v=>SizeOf.sizeOf v
decreasing_by
 all_goals simp_wf
 all_goals(first|omega|(have:=bM c i h; omega)|(have:=bM f i h; omega))
def CL(Mp:Nat->Prop):Value->Prop
 |.bool _|.int _ _|.string _|.pointer none|.slice none _ _|.map none|.chan none|.nilFunc|.nilIface=>True
 |.pointer (some a)=>Mp a.block
 |.slice (some a) _ _=>Mp a.block
 |_=>False
theorem JJ(Mp:Nat->Prop)(v:Value)(B:¬CL Mp v):∃x,(∀m,VR m x v)/\(q7 x\/∀m v',VR m x v'->v'=v):=by
 have y:Na v->∃x,(∀m,VR m x v)/\(q7 x\/∀m v',VR m x v'->v'=v):=λh=>⟨.tuple #[],λm=>.jC _ h,.inl trivial⟩
 cases v with
 |bool b=>exact absurd trivial B
 |int k n=>exact absurd trivial B
 |string s=>exact absurd trivial B
 |float k b=>exact y trivial
 |complex k a b=>exact y trivial
 |pointer a=>cases a with|none=>exact absurd trivial B|some a=>exact y trivial
 |slice a l c=>cases a with|none=>exact absurd trivial B|some a=>exact y trivial
 |map a=>cases a with|none=>exact absurd trivial B|some a=>exact y trivial
 |chan a=>cases a with|none=>exact absurd trivial B|some a=>exact y trivial
 |nilFunc=>exact absurd trivial B
 |nilIface=>exact absurd trivial B
 |iface t v=>exact y trivial
 |tuple c=>exact y trivial
 |agg c=>
  obtain⟨x,O,_⟩:=stands (.agg c)
  have Y:q7 x:=by
   have:=O ⟨λ_=>none,λ_=>none,λ_=>False,λ_=>True,λ_=>True,False,λ_=>False,λ_=>0,λ_ _=>none,λ_=>none,0,λ_ _ h=>(by cases h),λ_ _ _ h=>(by cases h),λ_ _ _ h=>(by cases h)⟩;cases this<;>trivial
  exact⟨x,O,.inl Y⟩
 |func fn f c=>
  cases fn with
  |func g=>exact y trivial
  |methodOf t n=>exact y trivial
  |via t p g b=>exact y trivial
  |yield l=>exact y trivial
  |method n=>
   have D:∀i(h:i<f.size),∃x,(∀m,VR m x f[i])/\∀t z,f[i]=.iface t z->∃z',x=.iface t z':=λi h=>stands f[i];refine⟨.func (.method "") (bN λi:_root_.Fin f.size=>bX (D i.1 i.2)) #[.func (.method n) f c],λm=>.s9 (by simp) (λi h h'=>?_) (λt w hw=>?_),.inr λm v' h=>?_⟩
   .simp only[bK];exact(bV (D i (by simpa using h))).1 m
   .obtain⟨U,e0⟩:=bbq.1 hw;obtain⟨z,hz⟩:=(bV (D 0 U)).2 t w e0;refine⟨z,?_⟩;rw[bJ (by simpa using U)];simp only[bK];rw[hz]
   .cases h with
    |func hf=>cases hf
    |s9 _ _ _=>rfl
theorem K9{Mp:Nat->Prop}(hm:∀r,Mp r->m.blk r=some r)(h:CL Mp v):VR m v v:=by
 cases v with
 |bool b=>exact .bool b
 |int k n=>exact .int k n
 |string s=>exact .string s
 |pointer a=>cases a with|none=>exact .ku|some a=>exact .ptr (.mk (hm _ h))
 |slice a l c=>cases a with|none=>exact .jq l c|some a=>exact .slice l c (.mk (hm _ h))
 |map a=>cases a with|none=>exact .pa|some a=>exact h.elim
 |chan a=>cases a with|none=>exact .lO|some a=>exact h.elim
 |nilFunc=>exact .nilFunc
 |nilIface=>exact .nilIface
 |_=>exact h.elim
theorem KO{Mp:Nat->Prop}(hm:∀r,Mp r->m.blk r=some r)(h:CL Mp v)(D:VR m v v'):v'=v:=by
 have y:∀{a B:Addr},Mp a.block->AR m a B->B=a:=fun {a B} ha x=>by
  cases x with
  |mk hb=>
   rw[hm _ ha]at hb;cases hb;rfl
 cases D with
 |jC _ _=>exact h.elim
 |ptr x=>rw[y h x]
 |slice l c x=>rw[y h x]
 |map _=>exact h.elim
 |gone _=>exact h.elim
 |chan _=>exact h.elim
 |func _ _ _ _ _=>exact h.elim
 |iface _ _=>exact h.elim
 |agg _ _=>exact h.elim
 |tuple _ _=>exact h.elim
 |s9 _ _ _=>exact h.elim
 |_=>rfl
noncomputable def Nu (Mp:Nat->Prop) (v:Value):Value:=@dite _ (CL Mp v) (bW _) (λ_=>v) λh=>bX (JJ Mp v h)
theorem A1{Mp:Nat->Prop}(h:CL Mp v):Nu Mp v=v:=by simp[Nu,h]
theorem FV{Mp:Nat->Prop}(h:¬CL Mp v):Nu Mp v=bX (JJ Mp v h):=by simp[Nu,h]
theorem S3{Mp:Nat->Prop}(hm:∀r,Mp r->m.blk r=some r)(v:Value):VR m (Nu Mp v) v:=by
 by_cases h:CL Mp v
 .rw[A1 h]; exact K9 hm h
 .rw[FV h]; exact(bV (JJ Mp v h)).1 m
theorem OT{Mp:Nat->Prop}(hm:∀r,Mp r->m.blk r=some r)(y:VR m (Nu Mp v) v'):q7 (Nu Mp v)\/v'=v:=by
 by_cases h:CL Mp v
 .rw[A1 h]at y; exact .inr (KO hm h y)
 .rw[FV h]at y⊢;exact(bV (JJ Mp v h)).2.imp id λx=>x m v' y
noncomputable def SY (Mp:Nat->Prop):Obj->Obj
 |.cells c e f=>.cells (c.map (Nu Mp)) e f
 |o=>o
noncomputable def sx (W0:World) (Mp:Nat->Prop):World:={W0 with heap:=W0.heap.mapIdx λb o=>@ite _ (Mp b) (bW _) (SY Mp o) o}
section
variable {W0:World} {Mp:Nat->Prop}
theorem uJ:(sx W0 Mp).heap.size=W0.heap.size:=by simp[sx]
theorem sE(h:Mp b){c:Array Value}{e:cd}{f:Nat×Nat}(hb:W0.heap[b]?=some (.cells c e f)):(sx W0 Mp).heap[b]?=some (.cells (c.map (Nu Mp)) e f):=by
 unfold sx;simp only[bL,hb];simp[h,SY]
theorem LH(h:¬Mp b):(sx W0 Mp).heap[b]?=W0.heap[b]?:=by
 unfold sx;simp only[bL]
 cases W0.heap[b]? with
 |none=>rfl
 |some o=>simp[h]
theorem rY{a:Addr}(B:CL Mp v)(h:W0.cell? a=some v):(sx W0 Mp).cell? a=some v:=by
 by_cases hm:Mp a.block
 .unfold cr at h⊢
  cases y:W0.heap[a.block]? with
  |none=>rw[y]at h; cases h
  |some o=>
   rw[y]at h
   cases o with
   |cells c e f=>
    rw[sE hm y];simp only at h⊢;split at h
    .cases h
    .rename_i D;rw[if_neg D,Array.getElem?_map,h];simp[A1 B]
   |_=>cases h
 .unfold cr at h⊢;rw[LH hm];exact h
noncomputable def pT (W0:World) (Mp:Nat->Prop):Ren where
 blk:=λr=>@ite _ (Mp r) (bW _) (some r) none
 ch:=λ_=>none
 loose:=λ_=>False
 ok:=NL prog wG tP true
 jz:=λf=>wG f=true
 kL:=False
 dead:=λ_=>False
 dm:=λ_=>0
 tI:=λr o=>@ite _ (Mp r) (bW _) (W0.cell? ⟨r,o,none⟩) none
 nJ:=λ_=>none
 G:=5
 qG:=λr r' h=>by split at h<;>cases h; exact Iff.rfl
 inj:=λr s t h1 h2=>by
  split at h1<;>cases h1
  split at h2<;>cases h2
  rfl
 wD:=λ_ _ _ h=>by cases h
theorem pS(h:Mp r):(pT W0 Mp).blk r=some r:=by simp[pT,h]
theorem qq{r':Nat}(h:(pT W0 Mp).blk r=some r'):Mp r/\r'=r:=by
 simp only[pT]at h;split at h
 .cases h; exact⟨by assumption,rfl⟩
 .cases h
theorem LQ(D:5<=W0.heap.size)(U:∀r,Mp r->∃c e f,W0.heap[r]?=some (.cells c e f)):WR (pT W0 Mp) (sx W0 Mp) W0:=by
 refine⟨λr r' y=>?_,λr r' c e f Y e' f' y O B _=>?_,λ_ _ _ _ _ _ _ _ _ _ _ h=>h.elim,λ_ _ h=>(by cases h),by rw[uJ]; exact D,D,rfl,λ_ _ h=>(by cases h),λ_ _ _ h=>h.elim,λ_ h=>h.elim,λr o v hv=>?_⟩
 .obtain⟨hm,rfl⟩:=qq y;obtain⟨c,e,f,hb⟩:=U _ hm
  exact⟨_,_,sE hm hb,hb,.cells e f f (iI.kG (by simp) λi h h'=>by
   simp only[bO]
   exact S3 (λr y=>pS y) _)⟩
 .obtain⟨hm,rfl⟩:=qq y;rw[sE hm B]at O;cases O;rfl
 .simp only[pT]at hv;split at hv
  .rename_i hm;refine⟨r,pS hm,λc e f Y e' f' x _ B _ _=>?_⟩;unfold cr at hv;rw[B]at hv;simpa using hv
  .cases hv
theorem KV(B:∀g,tP g=true->Mp g):Rg (mC Z W0 Mp) (pT W0 Mp):=
 ⟨RR rfl rfl rfl (λ_ h=>h) (λg D=>pS (B g D)),id,λ_ _ h=>(by cases h),rfl,rfl,λr y=>pS y,λr o v y O=>by simp[pT,y,O]⟩
theorem NN{wS w:World}(hc:∀r,Mp r->∃c e f,W0.heap[r]?=some (.cells c e f))(y:Rg (mC Z W0 Mp) m)(hw:WR m wS w)(aa:∀b,(mC Z W0 Mp).jv b->w.heap[b]?=(mC Z W0 Mp).w0.heap[b]?)(D:∀k,k<W0.heap.size->wS.heap[k]?=(sx W0 Mp).heap[k]?) :
  ∀b,b<W0.heap.size->w.heap[b]?=W0.heap[b]?:=by
 intro b hb;by_cases hm:Mp b
 .obtain⟨c,e,f,B⟩:=hc b hm;have O:=y.x.1 b hm;obtain⟨o,o',h1,h2,h3⟩:=hw.obj b b O;rw[D b hb,sE hm B]at h1;cases h1
  cases h3 with
  |@cells _ c' _ _ f' ab=>
   have ac:wS.heap[b]?=some (.cells (c.map (Nu Mp)) e f):=by rw[D b hb]; exact sE hm B
   have hf:f'=f:=hw.fz b b _ _ _ _ _ _ O ac h2 (y.ry.strict rfl b)
   have ag:c'=c:=by
    have ad:=ab.size;simp at ad;refine Array.ext ad.symm λi hi U=>?_;have hv:=ab.idx i (by simpa using U) hi;simp only[bO]at hv;rcases OT (λr hr=>y.x.1 r hr) hv with hn|he
    .have Y:W0.cell? ⟨b,i,none⟩=some c[i]:=by
      unfold cr;rw[B];simp[U]
     have hp:=y.x.2 b i c[i] hm Y;obtain⟨r',ae,af⟩:=hw.tI b i c[i] hp;rw[O]at ae;cases ae;have:=af _ _ _ _ _ _ (Nu Mp c[i]) ac h2 (by simp[U]) hn;rw[bJ hi]at this;exact cw this
    .exact he
   rw[h2,B,hf,ag]
 .have:=aa b ⟨hb,hm⟩;rw[this];exact BP hm
end
section
variable {H:Type} {enc:cd×Value->H}
theorem rh{a:Assume}{C:Checked}{os:Os}{fn:Func}{s:OpenSpec}{F:Stop.Interp}{D:List PathCond}{apart fresh B O:Bool}{laid:List (String×DataW Unit)}
  (own:ownKnob C.prog.godebug=none) (U:os.Started) (ac:C.prog.funcs[f]?=some fn)
  (witness:∃(w:World)(tape:Tape)(i:Input),w.os=os/\(w.forCall tape i).Shaped C.prog/\i.vars=[]/\Input.okWide C.prog (w.forCall tape i) .any w.heap.size f i/\
    s.preRow enc C.prog fn D apart laid (w.forCall tape i).memory i.args/\a.holds C.prog (lone (Frame.enter C.prog f i.args .normal) [] (w.forCall tape i)))
  (runs:∀(W:World)(base:Nat)(args:Array Value)(ds gs:List (DataW H))(y:List MemPlace),
    (∀(j:Nat)t v,fn.params[j]?=some t->args[j]?=some v->cx C.prog W .any base t v)->
    DataW.Whole enc C.prog fn.params.toList s.vars apart W args.toList ds gs y->
    (∀k,s.cond=some k->k H (ds++gs)=true)->
    laidMetH C.prog laid W->W.ShapedOpen C.prog->args.size=fn.params.size->
    vX C.prog (λv W'=>∃W2:World,W2.blind=W'.blind/\(s.at F).post enc C.prog fn apart fresh B O W args v W2) (solo (G (Frame.enter C.prog f args .normal) []) W) #[]) :
  ReturnsInLeavingWide a C os f .any (s.preRow enc C.prog fn D apart laid) ((s.at F).post enc C.prog fn apart fresh B O):=by
 refine returnsInLeavingWide_of_good own U witness ?_;intro w tape i _ ad _ ae Y _;obtain⟨_,_,_,af,aa,_,_,_,ag,ab⟩:=ae;have e:af=fn:=cw (aa.symm.trans ac);subst e;obtain⟨⟨hp,hl⟩,_⟩:=Y;obtain⟨ds,gs,y,hw,_,hk⟩:=OpenSpec.pre_parts hp;have ah:=DataW.Whole.of_heap (w':=w.forCall tape i) (by rfl) hw;obtain⟨N,last,o,w',t',h1,h2,h3,h4⟩:=runs (w.forCall tape i) w.heap.size i.args ds gs y ab ah hk (hl.of_heap (by rfl)) ad ag;exact⟨N,last,o,w',t',h1,h2,h3,h4.mono λv ⟨W2,e2,hp⟩=>by rw[<-e2]; exact ChangeSpec.post_blind hp⟩
end
def uQ(W:World)(w:World):Prop:=Below W.heap.size W {w with tape:=W.tape}
theorem QG{W0:World}{Mp:Nat->Prop}{jZ:Func}{rs:Array Tmp}{tm:Array Value}{wl:World}(hc:∀r,Mp r->∃c e f,W0.heap[r]?=some (.cells c e f))(hf:prog.funcs[f]?=some jZ)(ab:prog.inits.idxOf? f=none)(D:∀k,k<W0.heap.size->wl.heap[k]?=(sx W0 Mp).heap[k]?)(ac:Plain v)(O:∀w:World,(cc jZ tm).run prog w=.ok v w) :
  gP (mC (ending prog λv' w=>v'=v/\uQ W0 w) W0 Mp) [⟨f,tm,[.code .ret]⟩] wl []:=by
 refine gP.tail (λx hx=>by simp only[List.mem_singleton]at hx; subst hx; trivial) (.inr λ_ h=>by cases h) ?_;let y:LS->Prop:=λS=>S.cs=[door prog]/\S.fr.fn=f/\S.w.heap=wl.heap/\S.fr.leaving prog S.w (.returned v);refine lE.pU (Stop:=λS=>∃τ,y (S.on τ)) (λS τ ⟨B,h⟩=>⟨B,h⟩) (λτ _=>⟨1,⟨⟨f,tm,[.code .ret],[],.returning,.normal,none⟩,[door prog],tp wl τ⟩,rfl,⟨τ,rfl,rfl,rfl,rfl,rfl,rfl,jZ,hf,O _⟩,by simp⟩) λS' ⟨B,ad,ae,hh,hl⟩=>?_;refine lE.tape (τ:=B) ?_;refine lE.done rfl rfl ad hl (by rw[ae]; exact ab) λm v2 w af hv hw U Y=>⟨?_,?_⟩
 .cases hv<;>first|rfl|exact ac.elim
 .have hold:=NN hc af hw U (λk hk=>by rw[hh]; exact D k hk);refine⟨Y.1,rfl,Y.2,?_,hold⟩;show W0.heap.size<=w.heap.size;rcases Nat.lt_or_ge w.heap.size W0.heap.size with aa|ag
  .have:=hold w.heap.size aa;rw[Array.getElem?_eq_none (bP _),bJ aa]at this;cases this
  .exact ag
end
section
open Go.ChangeShapes Go.WideShapes Go.ChangeAt Go.RowKit Go.Conc
variable {gs:List (Option Addr)} {c l:Nat} {W:World}
theorem Ta:ownKnob prog.godebug=none:=by kernel_rfl
theorem vT:laidOutB prog=true:=by kernel_rfl
def Sb:List (String×DataW Unit):=[("math/bits.deBruijn32tab",Rows.laid_math_bits_deBruijn32tab),("math/bits.deBruijn64tab",Rows.laid_math_bits_deBruijn64tab),("internal/strconv.uint64pow10",Rows.laid_internal_strconv_uint64pow10),("hint/follow.weights",Rows.laid_hint_follow_weights)]
theorem DW(h:laidMetH prog Sb W):Jd W:=by
 rw[MakeChecks.laidMetH_plain _ _ _ (by kernel_rfl)]at h;have B:=h.tail.tail.tail;have y:=Lib.tabIs_of_head (k:=.u64) (zs:=[4,10,25]) (g:=0) (t:=195) (e:=141) (n:=3) (by kernel_rfl) (by kernel_rfl) underlying195 underlying141 (by kernel_rfl) (by kernel_rfl) B;exact⟨y.cell (by kernel_rfl) 0 (by decide),y.cell (by kernel_rfl) 1 (by decide),y.cell (by kernel_rfl) 2 (by decide)⟩
theorem Ao(h:W.ShapedOpen prog):∀g,g<5->∃c e f,W.heap[g]?=some (.cells c e f):=by
 have key:∀g,g<5->(((begin prog (λ_ _=>0) default).world.heap[g]?).bind Obj.row?).isSome=true:=by
  intro g y;rcases(by omega:g=0\/g=1\/g=2\/g=3\/g=4)with rfl|rfl|rfl|rfl|rfl<;>kernel_rfl
 intro g y;obtain⟨⟨z,t⟩,D⟩:=Option.isSome_iff_exists.1 (key g y);obtain⟨cs,B,_⟩:=h.1 g z t (by rw[xT]; exact y) D;exact⟨cs,t,_,B⟩
theorem LD{base:Nat}{t e:cd}{a:Addr}(O:prog.underlying t=some (.slice e))(h:cx prog W .any base t (.slice (some a) l c)):a.spot=none/\∃cs y f,W.heap[a.block]?=some (.cells cs y f):=by
 simp only[cx,O,Cell.okWide,Cell.ok]at h;obtain⟨_,_,_,B,row,cells,hsh,_⟩:=h;refine⟨B,?_⟩;unfold World.shape? at hsh
 cases D:W.heap[a.block]? with
 |none=>rw[D]at hsh; cases hsh
 |some o=>
  cases o with
  |cells cs y f=>exact⟨cs,y,f,rfl⟩
  |_=>rw[D]at hsh; cases hsh
def FD(gs:List (Option Addr))(b:Nat):Prop:=tP b=true\/∃a,some a∈gs/\a.block=b
theorem PI{g:Nat}(h:tP g=true):g<5:=by
 unfold tP at h;simp only[Bool.or_eq_true,beq_iff_eq]at h;omega
theorem Gd(y:W.ShapedOpen prog)(B:∀a,some a∈gs->∃c e f,W.heap[a.block]?=some (.cells c e f)):∀r,FD gs r->∃c e f,W.heap[r]?=some (.cells c e f):=by
 rintro r (h|⟨a,h,rfl⟩)
 .exact Ao y r (PI h)
 .exact B a h
theorem J6(y:W.ShapedOpen prog):5<=W.heap.size:=by
 obtain⟨c,e,f,h⟩:=Ao y 4 (by omega);have:=(bbq.1 h).1;omega
theorem NR{Mp:Nat->Prop}(h:Jd W):Jd (sx W Mp):=⟨rY trivial h.1,rY trivial h.2.1,rY trivial h.2.2⟩
theorem Is{a:Option Addr}(h:a∈gs):VR (pT W (FD gs)) (.slice a l c) (.slice a l c):=by
 cases a with
 |none=>exact .jq l c
 |some a=>exact .slice l c (.mk (pS (.inr ⟨a,h,rfl⟩)))
theorem Nx{args:Array Value}{f:ca}{jZ:Func}{c:Code}{v:Value}{tm:Array Value}(B:W.ShapedOpen prog)(U:∀a,some a∈gs->∃c e f,W.heap[a.block]?=some (.cells c e f))(Y:prog.funcs[f]?=some jZ)(hb:jZ.body=some c)(y:iI (pT W (FD gs)) args args)(D:args++Array.replicate (jZ.ntmps-args.size) cz=tm)
  (h:gP (mC (ending prog λv' w=>v'=v/\uQ W w) W (FD gs)) [⟨f,tm,[.code c]⟩] (sx W (FD gs)) []):vX prog (λv' w=>v'=v/\uQ W w) (solo (G (Frame.enter prog f args .normal) []) W) #[]:=
 Hx (E:=mC (ending prog λv' w=>v'=v/\uQ W w) W (FD gs)) (m:=pT W (FD gs)) rfl (λb hb=>⟨hb.1,(BP hb.2).symm⟩) (λr b O hb=>absurd (qq O).1 (by rw[<-(qq O).2]; exact hb.2)) (FI _ _ _) (by rw[show(mC _ W (FD gs)).w0.heap.size=W.heap.size from xA W _]; exact bP _) ⟨rfl,rfl⟩ rfl Y hb (KV λg hg=>.inl hg) (LQ (J6 B) (Gd B U)) y (by rw[D]; exact h)
theorem vX.mono{P:Program}{A B:Value->World->Prop}{M:Machine}{t:Trace}(h:vX P A M t)(y:∀v w,A v w->B v w):vX P B M t:=by
 obtain⟨N,last,o,w',t',D,O,U,Y⟩:=h;exact⟨N,last,o,w',t',D,O,U,Y.mono λv=>y v w'⟩
end
end Go.Proofs.YtocbogeoffeolaaGreatDoor
