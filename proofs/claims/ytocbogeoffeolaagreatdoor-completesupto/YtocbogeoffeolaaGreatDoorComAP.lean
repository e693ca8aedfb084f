import Derived.Test.YtocbogeoffeolaaGreatDoorComAO
import Derived.ProofKit
import Derived.JoinedCond
import Derived.Deep.Slices
import Derived.Lib.SmallJoins
set_option linter.all false
set_option maxHeartbeats 8000000
set_option maxRecDepth 1000000
open List renaming getElem?_eq_getElem->bz,range->b5,length_append->b6,map_append->b7,getElem?_eq_some_iff->b8,length_filter_le->b9,mem_singleton->b',getElem_mem->bA,sum_append->bB,range_succ->bC,mem_filter->bD,map_cons->bE,map_nil->bF
open Go.Proofs.YtocbogeoffeolaaGreatDoor.Rows renaming uptoBulkAll->bG,uptoBulk->bH
open Go.DataW renaming trod_int->bI,trod_string->bJ,trod->bK,trod_struct->bL,trod_bool->bM
open Nat renaming le_trans->bN,le_refl->bO,zero_add->bP,zero_le->bQ,mul_le_mul_right->bR,lt_of_lt_of_le->bT
open Go.Proofs.Tryz renaming underlying3->bU,underlying9->bV,results41->bW,func41->bX,ntmps77->bY,ntmps110->bZ,func77->ca,underlying118->cb,func110->cd,underlying4->ce,f13->cf,func13->cg
open Go.World renaming ownsRow_nil->ch,cells?_some->ci,cell?->cj
open Go.RowKit renaming Hid->ck
open Go.RowKit.Below renaming heap_setCell->cl,refl->cm,setCell->cn
open Go renaming cell_later->cp,results->cq,maxLen->cr,FuncId->ct,Calls->cu
open Array renaming mem_of_getElem?->cw,mem_toList_iff->cx
open Go.Addr renaming add_lit->cy,add->cz
open Bool renaming and_eq_true->c4
open Go renaming undef->c5
open And renaming intro->A?
open Bool renaming false->f?,true->t?
open Go renaming Value->v?,World->w?
open Go.Ending renaming returned->e?
open Go.IntKind renaming i64->i?
open Go.Item renaming inRegion->r?
open Go.Obj renaming cells->c?
open Go.Value renaming int->n?,pointer->p?,string->s?
open List renaming length->l?
open Option renaming none->x?,some->y?
namespace Go.Proofs.YtocbogeoffeolaaGreatDoor
open Go.Proofs.Tryz
section
open Go.RowKit
variable {ss:List (List dD)} {buf:List dD} {vs:List v?} {g n:Nat} {F:Nat->Prop} {uL v v3:v?} {w':w?}
def GC{e}(h:NI e):mH e/\l? e.text<=24:=by
 have Y:∀x,fU x=t?->l? x<=8:=λx O=>by simp only[fU,c4,decide_eq_true_eq]at O;omega
 have hq:∀x,eR x=t?->l? x<=24:=λx O=>by simp only[eR,c4,decide_eq_true_eq]at O;exact O.1
 obtain⟨_,U,h3,_,h5,h6,h7,h8⟩|⟨h1,U⟩:=h
 have:=Y _ U;have:=hq _ h3;exact⟨⟨o!,o!,⟨o!,o!⟩,o!,o!⟩,o!⟩;have:=Y _ U;rw[h1];exact⟨⟨by simp only;omega,i!,⟨i!,i!⟩,i!,i!⟩,i!⟩
def N4{l}(h:lm l):(∀e∈l,mH e)/\l? l<=1048576/\(l.map λe=>l? e.text).sum<=1048576:=by have:=kq h;exact⟨λe O=>(GC (h.each e O)).1,o!,FJ l (λe O=>(GC (h.each e O)).2) o!⟩
def RL(F)(b)(buf)(ss)(ts)(n)(w)(hR:j6 w F b buf ss ts)(ac:∀l∈ss,lm l) :
  cu prog 108 #[p? (y? ⟨b,0,x?⟩),n? i? n] w λe w'=>e=e? (.tuple #[s? ⟨(iZ ss n).1.toArray⟩,n? i? (iZ ss n).2])/\B? w w':=by
 obtain⟨vB,vS,vT,hh,ah,ai,ad,aj⟩:=id hR;obtain⟨vs,ak,O,al,ae⟩:=id ad;obtain⟨aS,cS,rfl,am⟩:=dH O;have an:w.cell? ⟨b,1,x?⟩=y? (.slice aS ss.length cS):=by rw[dq hh];rfl
 by_cases U:n<0
 .have Y:ck (iZ ss n=([],6)):=by show iZ .. = _;unfold iZ;rw[if_pos (Or.inl U)]
  go_wp2;go_ret2;rw[Y.out];exact⟨q?,cm ..⟩
 by_cases aa:l? ss<=n
 .have Y:ck (iZ ss n=([],6)):=by show iZ .. = _;unfold iZ;rw[if_pos (Or.inr aa)]
  go_wp2;go_ret2;rw[Y.out];exact⟨q?,cm ..⟩
 obtain⟨m,rfl⟩:=Int.eq_ofNat_of_zero_le (o!:0<=n);have hm:m<l? ss:=o!;obtain⟨u,hu,hE⟩:=ae m hm;obtain⟨bS,oS,rfl,lg⟩:=fy O m _ hu;have hk:=ac _ (bA hm);obtain⟨k1,k2,k3⟩:=N4 hk;have ab:=Eu _ _ w (iu.eL hE.1) k1 k2 k3;rw[DY (wE hk)]at ab
 have Y:ck (iZ ss m=(eh ss[m],0)):=by
  show iZ .. = _;unfold iZ;rw[if_neg o!];have e:ss.getD ((m:Int)).toNat []=ss[m]:=by rw[Int.toNat_natCast,List.getD_eq_getElem?_getD,bz hm];rfl
  rw[e]
 go_enter func108,ntmps108;go_wp2_with fail;refine ab.mono ?_;rintro e w1 ⟨rfl,af⟩;have ag:ck _:=af;go_wp2;go_ret2;rw[Y.out];exact⟨q?,ag⟩
def IL{l}(h:Inv buf ss)(U:l? l<=130):gF (ss++[l])<=536870912:=by have O:=vU h;simp[gF]at O⊢;omega
structure xW(w:w?)(g:Nat)(l:List dD)(uL:v?)(w':w?)(v:v?)(n:Nat)(vs:List v?):Prop where
 below:B? w w'
 blk:w'.1[g]?=some (.cells #[.slice none 0 0,v,.slice none 0 0] 120 (0,0))
 row:w'.ownsRow w.1.size 75 1 v n vs
 Cc:w'.ownsRow w.1.size 202 5 uL l.length (dv l)
 gz:w.1.size<=g
def J8{w w2 w3 l}(hb:B? w w2)(hk:w2.1[g]?=y? (c? #[.slice x? 0 0,.slice x? 0 0,.slice x? 0 0] 120 (0,0)))
  (hl:w2.ownsRow w.1.size 202 5 uL l.length (dv l)) (ho:w3.ownsRow w.1.size 75 1 v3 n vs) (hg:w2.grownBy w3 (Value.slice x? 0 0).ownBlock) (ab:w.1.size<=g) :
  xW w g l uL (w3.setCell ⟨g,1,x?⟩ v3) v3 n vs:=by
 have hz:=hb.size;have Y:=λk hk=>hg.block k hk (by simp[Value.ownBlock]);have aa:w3.1[g]?=y? (c? #[.slice x? 0 0,.slice x? 0 0,.slice x? 0 0] 120 (0,0)):=by rw[Y g (eG hk)];exact hk
 have ac:=dG hl (λk O=>Y k (hl.lt k O).2);have U:∀k,k≠g->(w3.setCell ⟨g,1,x?⟩ v3).1[k]?=w3.1[k]?:=λk hk=>cl _ _ _ _ hk;refine⟨?_,by rw[heap_set aa];rfl,dK ho (λk O=>U k (λe=>by subst e;exact gD aa ho d! O)),dG ac (λk O=>U k (λe=>by subst e;exact fc aa ac d! O)),ab⟩;exact cn (hb.trans ⟨hg.os,hg.tape,hg.output,hg.size,λk O=>Y k o!⟩) ab _
def FE{w w4 U l v6 o}(h:xW w g l uL w4 v3 n vs)(ho:U.ownsRow w.1.size 75 1 v6 (n+1) (vs++[uL]))(hg:(w4.alloc o).grownBy U v3.ownBlock) :
  U.1[g]?=y? (c? #[.slice x? 0 0,v3,.slice x? 0 0] 120 (0,0))/\xW w g l uL (U.setCell ⟨g,1,x?⟩ v6) v6 (n+1) (vs++[uL]):=by
 have hz:=h.below.size;have ad:w4.1.size<=U.1.size:=by have:=hg.size;simp at this;omega
 have ae:=eG h.blk;have ab:∀k,k<w4.1.size->v3.ownBlock≠y? k->U.1[k]?=w4.1[k]?:=λk hk af=>by rw[hg.block k j! (λe=>af e.symm),Below.heap_alloc _ _ _ hk]
 have Y:U.1[g]?=y? (c? #[.slice x? 0 0,v3,.slice x? 0 0] 120 (0,0)):=by rw[ab g ae (gD h.blk h.row d!)];exact h.blk
 have ac:=dG h.Cc (λk O=>ab k (h.Cc.lt k O).2 (λe=>fP h.Cc h.row d! k O e));have aa:∀k,k≠g->(U.setCell ⟨g,1,x?⟩ v6).1[k]?=U.1[k]?:=λk hk=>cl _ _ _ _ hk;refine⟨Y,?_,by rw[heap_set Y];rfl,dK ho (λk O=>aa k (λe=>by subst e;exact gD Y ho d! O)),dG ac (λk O=>aa k (λe=>by subst e;exact fc Y ac d! O)),h.gz⟩;refine cn (h.below.trans ⟨?_,?_,?_,ad,λk O=>ab k o! (λe=>by have:=(h.row.lt k e).1;omega)⟩) h.gz _;exact hg.os;exact hg.tape;exact hg.output
def Gy{w:w?}{l}(hF:∀k,F k->k<w.1.size)(Y:Zip (jE w F) vs ss)(h:xW w g l uL w' v n (vs++[uL])) :
  Zip (jE w' (kJ F w w')) (vs++[uL]) (ss++[l]):=by
 refine Zip.append (Y.mono (λu x U=>⟨dG U.1 (λk O=>h.below.block k (hF k (U.2 k O))),λk O=>Or.inl (U.2 k O)⟩)) (Zip.one ⟨fj h.Cc (bQ _),λk O=>Or.inr ⟨(h.Cc.lt k O).1,(h.Cc.lt k O).2⟩⟩)
def AB{w:w?}{l}(hF:∀k,F k->k<w.1.size)(hZ:Zip (jE w F) vs ss)(h:xW w g l uL w' v (l? ss+1) (vs++[uL]))(Y:gF (ss++[l])<=536870912) :
  cu prog 143 #[p? (y? ⟨g,0,x?⟩)] w' λe O=>∃u,e=e? u/\O.ownsRow w'.1.size 202 5 u (dO (ss++[l]) []).length (dv (dO (ss++[l]) []))/\B? w' O:=by
 have hz:=Gy hF hZ h;have U:w'.ownsRow 0 75 1 v (ss++[l]).length (vs++[uL]):=by rw[b6];exact fj h.row (bQ _)
 exact tG _ g _ v _ [] _ w' h.blk ⟨ch ..,nofun⟩ ⟨vs++[uL],hz.1,U,λk hk=>Or.inr (h.row.lt k hk),hz.2⟩ Y i!
def Q1{w Y:w?}{b l vB vS vT ts}(hF:∀k,F k->k<w.1.size)
  (hh:w.1[b]?=y? (c? #[vB,vS,vT] 120 (0,0))) (ab:F b) (ac:jE w F vB buf) (hT:pV w F vT ts) (hZ:Zip (jE w F) vs ss) (h:xW w g l uL w' v (l? ss+1) (vs++[uL])) (O:B? w' Y) :
  Y.1[b]?=y? (c? #[vB,vS,vT] 120 (0,0))/\j6 (Y.setCell ⟨b,1,x?⟩ v) (kJ F w (Y.setCell ⟨b,1,x?⟩ v)) b buf (ss++[l]) ts/\dp F w (Y.setCell ⟨b,1,x?⟩ v):=by
 have ad:=O.size;have hb:=h.below.trans (O.mono h.below.size);have U:=Gy hF hZ h;have aa:Y.ownsRow w.1.size 75 1 v (ss++[l]).length (vs++[uL]):=by rw[b6];exact dK h.row (λk hk=>O.block k (h.row.lt k hk).2)
 refine G2 hF hh ab ac hT hb aa U.1 (λi hi=>?_);obtain⟨u,hu,hE⟩:=U.2 i hi
 exact⟨u,hu,dG hE.1 (λk hk=>O.block k (hE.1.lt k hk).2),λk hk=>by
  obtain h1|h1:=hE.2 k hk
  exact Or.inl h1
  exact Or.inr ⟨h1.1,o!⟩⟩
def RP(F:Nat->Prop)(b)(buf)(ss)(ts)(O)(w:w?)(hF:∀k,F k->k<w.1.size)(hR:j6 w F b buf ss ts)(hI:Inv buf ss)(hs:O.size<=cr) :
  cu prog 110 #[p? (y? ⟨b,0,x?⟩),s? O] w λe w'=>e=e? (n? i? (gr buf ss O.1.1).1)/\
   j6 w' (kJ F w w') b buf (gr buf ss O.1.1).2 ts/\dp F w w':=by
 obtain⟨i8,a4,a5,a7,a9⟩:=info_parts Hu;have HR:ck (j6 w F b buf ss ts):=hR;have HF:ck (∀k,F k->k<w.1.size):=hF;have a':ck (Inv buf ss):=hI;have bq:=hI.yW;have aa:=Ni O w hs;obtain⟨vB,vS,vT,hh,aA,av,aC,aD⟩:=id hR;obtain⟨vs,aw,ax,aY,ay⟩:=id aC;obtain⟨aS,cS,rfl,br⟩:=dH ax;obtain⟨aB,cB,rfl,bs⟩:=dL av.1;have bt:=hF b aA;have aE:w.cell? ⟨b,0,x?⟩=y? (.slice aB buf.length cB):=by rw[dq hh];rfl
 have aZ:w.cell? ⟨b,1,x?⟩=y? (.slice aS ss.length cS):=by rw[dq hh];rfl
 have HH:ck (w.1[b]?=y? (c? #[.slice aB buf.length cB,.slice aS ss.length cS,vT] 120 (0,0))):=hh;have ba:ck (jE w F (.slice aB buf.length cB) buf):=av;have bc:ck (pV w F vT ts):=aD;have aF:ck (w.ownsRow 0 75 1 (.slice aS ss.length cS) ss.length vs):=ax;have HZ:ck (Zip (jE w F) vs ss):=⟨aw,ay⟩;have HVL:ck (l? vs=l? ss):=aw
 have aG:ck (∀u∈vs,u.oneCell'=t?):=λu hu=>by obtain⟨i,hi,rfl⟩:=List.mem_iff_getElem.1 hu;obtain⟨u',az,hE⟩:=ay i o!;rw[bz hi]at az;simp only[Option.some.injEq]at az;obtain⟨a,c,e,_⟩:=dL hE.1;rw[az,e];rfl
 clear hR hh av aD aC ax ay hF hI aY aw
 cases hu:gf O.1.1 with
 |none=>
  have HU:ck (gr buf ss O.1.1=(7,ss)):=by show gr _ _ _=_;unfold gr;rw[hu]
  rw[hu]at aa;clear hu;go_enter cd,bZ;go_wp2_with fail;refine aa.mono ?_;rintro e w1 ⟨U,aU,nU,cU,rfl⟩;have ab:ck (Below w.1.size w w1):=U;clear U aa;go_wp2;go_ret;refine⟨dQ (by rw[HU.out];rfl),?_,dp.eB ab⟩;rw[HU.out];exact kA HR HF ab
 |some l=>
  have HU:ck (gr buf ss O.1.1=if 0<buf.length then(3,ss)else if 6<l? ss+1\/30<(dO (ss++[l]) []).length then(4,ss)else(0,ss++[l])):=by show gr _ _ _=_;unfold gr;rw[hu]
  have bd:=kq (sU hu).1;rw[hu]at aa;clear hu;by_cases aj:0<l? buf
  .have Y:ck (gr buf ss O.1.1=(3,ss)):=by show gr _ _ _=_;rw[HU.out,if_pos aj]
   have aH:(0:Int)<(l? buf:Int):=o!;go_enter cd,bZ;go_wp2_with fail;refine aa.mono ?_;rintro e w1 ⟨U,aU,cU,rfl,ak⟩;have ab:ck (Below w.1.size w w1):=U;have aq:=cp U aE;clear U aa ak;go_wp2;go_ret;refine⟨dQ (by rw[Y.out];rfl),?_,dp.eB ab⟩;rw[Y.out];exact kA HR HF ab
  have aH:¬((0:Int)<(l? buf:Int)):=o!;go_enter cd,bZ;go_wp2_with fail;refine aa.mono ?_;rintro e w1 ⟨U,aU,cU,rfl,ak⟩;have ab:ck (Below w.1.size w w1):=U;have aq:=cp U aE;have ar:=cp U aZ;have aI:ck (w1.ownsRow w.1.size 202 5 (.slice aU l.length cU) l.length (dv l)):=ak;clear U aa ak;go_wp2;have a0:=ab.out.size;obtain⟨w2,al⟩:∃w2,w2=w1.alloc (c? #[.slice x? 0 0,.slice x? 0 0,.slice x? 0 0] 120):=⟨_,q?⟩;have ad:Below w1.1.size w1 w2:=by rw[al];exact(cm _ _).alloc (bO _) _
  have ae:ck (Below w.1.size w w2):=ab.out.trans (ad.mono a0);have ac:ck (w2.1[w1.1.size]?=y? (c? #[.slice x? 0 0,.slice x? 0 0,.slice x? 0 0] 120 (0,0))):=by show _=_;rw[al];exact heap_alloc_new w1 _
  have am:ck (w2.ownsRow w.1.size 202 5 (.slice aU l.length cU) l.length (dv l)):=dG aI (λk hk=>ad.block k (aI.out.lt k hk).2)
  have be:ck (Rd w2 (.slice aS ss.length cS) vs):=by have h:=Rd.eL (dK aF (λk hk=>ae.out.block k (aF.out.lt k hk).2));exact h
  have au:=cp ad ar;have aJ:w2.cell? ⟨w1.1.size,1,x?⟩=y? (.slice x? 0 0):=by rw[dq ac.out];rfl
  rw[<-al];clear al ad aq ar;have bf:=a0;clear a0;generalize w1.1.size=g at *;refine jC (Sd:=λa y=>y.tape=w2.tape->pE _ _ _ [12] a y) (last:=12) (tl:=[]) k! ?_ (λa y h ht=>h ht);refine dX 0 ?_ ?_<|dX 1 ?_ ?_<|dX 2 ?_ ?_<|dX 3 ?_ ?_<|dX 4 ?_ ?_ ?_
  any_goals(intro y hy;have q:=eM hy aJ;unfold fL;go_simp;refine⟨eJ.refl _,?_⟩;with_reducible rfl)
  refine dX 5 ?_ ?_<|dX 6 ?_ ?_<|dX 7 ?_ ?_<|dX 8 ?_ ?_ ?_
  any_goals(intro y hy;have q:=eM hy au;unfold fL;go_simp;refine⟨eJ.refl _,?_⟩;with_reducible rfl)
  go_simp;have st:∀x,fW eJ (λy=>kO w2 y/\y.ownsRow w.1.size 75 1 x ss.length vs):=λx y y' h hx=>⟨kO.wN _ _ _ h.1 hx,dK h.2 λk hk=>hx.block k (h.2.lt k hk).2⟩;have fr:∀x,im (λy=>kO w2 y/\y.ownsRow w.1.size 75 1 x ss.length vs):=λx y τ h=>⟨kO.free _ _ _ h.1,h.2⟩;refine Iw (i:=9) k! d! (S7 q? l! _ id st fr (λ_ _ h=>h.1) (λy hy=>?_) λx=>?_)
  .obtain⟨τ,hx⟩:=id hy;refine Ad _ _ 118 q? w.1.size 75 i8 (.slice x? 0 0) 24 cb a4 a5 a7 a9 q? (.slice x? 0 0) 0 [] q? (ch _ _ _ _) _ _ q? (Rd.below (w:=tp w2 τ) be hx) aG ?c1 ?c2 (bN ae.out.size hx.size) ?_
   case c1=>rw[HVL.out];omega
   case c2=>rw[HVL.out];unfold cr;omega
   intro v3 w3 af ah bu;rw[bP,List.nil_append,HVL.out]at af;have aK:eJ y w3:=⟨ah.os,ah.tape,ah.output,ah.size,λk hk=>ah.block k hk (by simp[Value.ownBlock])⟩;exact⟨aK,v3,q?,kO.wN _ _ _ hy aK,af⟩
  refine dX 10 ?_ ?_ (dX 11 ?_ ?_ ?_ (hC:=st x) (hT:=fr x)) (hC:=st x) (hT:=fr x)
  any_goals(intro y hy;unfold fL;go_simp;refine⟨eJ.refl _,?_⟩;with_reducible rfl)
  refine qY k! (λt=>DW k! _ _) ?_;rintro y ⟨hy,af⟩ ht;have hx:=vh hy ht;have am:ck (y.ownsRow w.1.size 202 5 (.slice aU l.length cU) l.length (dv l)):=dG am (λk hk=>hx.block k (am.out.lt k hk).2);have ac:ck (y.1[g]?=y? (c? #[.slice x? 0 0,.slice x? 0 0,.slice x? 0 0] 120 (0,0))):=(hx.block g (eG ac)).trans ac;have ae:ck (Below w.1.size w y):=ae.out.trans (hx.mono ae.out.size);clear hy ht hx au aJ st fr;obtain⟨a3,c3,rfl,bv⟩:=dH af;have bg:=dq ac;have bh:=dP ac 1;refine oR q? q? ?_;unfold fL;go_simp;refine sW ?_;clear bg bh;have a1:=J8 ae ac am af ⟨q?,q?,q?,bO _,λ_ _ _=>rfl⟩ bf;obtain⟨w4,aL⟩:∃w4,w4=y.setCell ⟨g,1,x?⟩ (.slice a3 ss.length c3):=⟨_,q?⟩;rw[<-aL]at a1⊢;have an:ck (xW w g l (.slice aU l.length cU) w4 (.slice a3 ss.length c3) ss.length vs):=a1;clear a1 af aL;have aM:w4.cell? ⟨g,1,x?⟩=y? (.slice a3 ss.length c3):=by rw[dq an.out.blk];rfl
  have bw:=an.out.below.size;go_wp2_with (at_builtin;go_must (refine dW _ q? _ _ 118 q? w.1.size 75 i8 (.slice x? 0 0) 24 cb a4 a5 a7 a9 q? _ _ _ q? (an.out.row.alloc _) _ [.slice aU l.length cU] q? ?k0 ?k9 ?k1 ?k2 ?k3 ?_))
  case k0=>go_light;exact Rd.one (km q?)
  case k9=>intro u hu;simp at hu;subst hu;rfl
  case k1=>simp;omega
  case k2=>simp[cr];omega
  case k3=>simp;omega
  intro v6 w6 a2 aN bi;obtain⟨a6,c6,rfl,b0⟩:=dH a2;have ao:=FE an a2 aN;have bl:w6.cell? ⟨g,1,x?⟩=y? (.slice a3 ss.length c3):=by rw[dq ao.1];rfl
  have bm:w6.frozen? ⟨g,1,x?⟩=f?:=dP ao.1 1;have ag:ck (xW w g l (.slice aU l.length cU) (w6.setCell ⟨g,1,x?⟩ (.slice a6 (l? ss+1) c6)) (.slice a6 (l? ss+1) c6) (l? ss+1) (vs++[.slice aU l.length cU])):=ao.2;clear ao a2 aN bi aM;by_cases h6:6<l? ss+1
  .have bj:(6:Int)<(l? ss:Int)+1:=o!;have Y:ck (gr buf ss O.1.1=(4,ss)):=by show gr _ _ _=_;rw[HU.out,if_neg aj,if_pos (Or.inl h6)]
   have aO:ck (Below w.1.size w (w6.setCell ⟨g,1,x?⟩ (.slice a6 (l? ss+1) c6))):=ag.out.below;go_wp2;go_ret;refine⟨dQ (by rw[Y.out];rfl),?_,dp.eB aO⟩;rw[Y.out];exact kA HR HF aO
  have bj:¬((6:Int)<(l? ss:Int)+1):=o!;have aP:(w6.setCell ⟨g,1,x?⟩ (.slice a6 (l? ss+1) c6)).cell? ⟨g,1,x?⟩=y? (.slice a6 (l? ss+1) c6):=by rw[dq ag.out.blk];rfl
  have aQ:=AB HF HZ ag (IL a' bd);have bk:=ag.out.below.size;go_wp2_with fail;refine aQ.mono ?_;rintro e w8 ⟨u8,rfl,aR,ap⟩;obtain⟨a8,c8,rfl,b1⟩:=dL aR;have aT:ck (Below w.1.size w w8):=ag.out.below.trans (ap.mono bk);have bn:=cp ap aP;clear aQ aR;by_cases aV:30<(dO (ss++[l]) []).length
  .have aW:(30:Int)<((dO (ss++[l]) []).length:Int):=o!;have Y:ck (gr buf ss O.1.1=(4,ss)):=by show gr _ _ _=_;rw[HU.out,if_neg aj,if_pos (Or.inr aV)]
   clear ap;go_wp2;go_ret;refine⟨dQ (by rw[Y.out];rfl),?_,dp.eB aT⟩;rw[Y.out];exact kA HR HF aT
  have aW:¬((30:Int)<((dO (ss++[l]) []).length:Int)):=o!
  have Y:ck (gr buf ss O.1.1=(0,ss++[l])):=by show gr _ _ _=_;rw[HU.out,if_neg aj,if_neg (by rintro(h|h);exact h6 h;exact aV h)]
  have ai:=Q1 HF HH aA ba bc HZ ag ap;have bo:w8.cell? ⟨b,1,x?⟩=y? (.slice aS ss.length cS):=by rw[dq ai.1];rfl
  have bp:w8.frozen? ⟨b,1,x?⟩=f?:=dP ai.1 1;have aX:ck (j6 (w8.setCell ⟨b,1,x?⟩ (.slice a6 _ c6)) _ b buf _ ts/\dp F w _):=ai.2;go_wp2;go_ret;refine⟨dQ (by rw[Y.out];rfl),?_⟩;rw[Y.out];exact aX
section
variable {s:Sg}
def Tg(n)(U:n.size<=cr):P4 110 (λp=>#[p,s? n]) s (n? i? (gr s.b s.s n.1.1).1) ⟨s.b,(gr s.b s.s n.1.1).2,s.t⟩:=
 λ_ _ _ h hF O=>(RP _ _ _ _ _ n _ hF h O U).mono λ_ _ ⟨Y,h2,h3⟩=>⟨Y,h2,h3,G8 O _⟩
def Va(n):P4 108 (λp=>#[p,n? i? n]) s (.tuple #[s? ⟨(iZ s.s n).1.toArray⟩,n? i? (iZ s.s n).2]) s:=
 λ_ _ _ h hF O=>(RL _ _ _ _ _ n _ h O.kM).mono λ_ _ ⟨Y,U⟩=>⟨Y,kA h hF U,.eB U,O⟩
end
def FH{l}(Y:∀e∈l,mH e)(O:l? l<=1048576)(aa:(l.map λe=>l? e.text).sum<=1048576):(⟨(mL l).toArray⟩:ByteArray).size<=cr:=by show(mL l).toArray.size<=_;rw[List.size_toArray];unfold mL cr;rw[List.length_cons,b6];have h1:=zx ((eK l).filter λe=>e.gone) (λe U=>Y e (j9.1 (bD.1 U).1));have h2:((eK l).filter λe=>e.gone).length<=(eK l).length:=b9 _ _;have h3:((eK l).filter λe=>!e.gone).length<=(eK l).length:=b9 _ _;rw[tH]at h2 h3;have h4:=AP (ns l) ((eK l).filter λe=>!e.gone) [] [] (λe U=>Y e (j9.1 (bD.1 U).1));have h5:ns l*(((eK l).filter λe=>!e.gone).length*3145743)<=2097153*(1048576*3145743):=Nat.mul_le_mul (by unfold ns;omega) (bR _ o!);have h6:=bR 1048577 (bN h2 O);simp only[List.length_nil]at h4;omega
def MC(w:w?)(v:v?):Prop:=∃O:List dD,iu w 5 v O.length (dv O)/\(∀e∈O,mH e)/\l? O<=1048576/\(O.map λe=>l? e.text).sum<=1048576
def MC.low{w w' v}(h:MC w v)(O:lI w w'):MC w' v:=by obtain⟨l,U,Y⟩:=h;exact⟨l,U.low O,Y⟩
section
variable {w0 w:w?} {c:Nat->Nat} {B:Nat} {va vl vm:v?} {last:Nat} {us:List v?} {ms:List Wd} {es:List vG} {s:Sg}
def SZ{i O W N M K S T aL nL cL made}(h:PS w0 w c B va vl vm last us ms es)(hi)(hx:es[i].x=s)(hy:es[i].y=s)(ho:R9 N M K W S T)(hL:MC w (.slice aL nL cL))(h2:6<=O)(h5:O<=8) :
  cu prog 77 #[.agg #[p? (y? ⟨es[i].bx,0,x?⟩),p? (y? ⟨es[i].yb,0,x?⟩)],.agg (Hs O W N M K S T (.slice aL nL cL) made)] w λe w'=>e=e? (.bool t?)/\∃c' s',s'.t=s.t/\PS w0 w' c' B va vl vm last us ms (es.set i ⟨es[i].bx,es[i].yb,s',s'⟩):=by
 have hk:O=6\/O=7\/O=8:=o!;obtain⟨c1,h1,z1,z2,p1,p2,U,af⟩:=(h.lr hi hx hy).two (c? #[p? (y? ⟨es[i].bx,0,x?⟩),p? (y? ⟨es[i].yb,0,x?⟩)] 122) (c? (Hs O W N M K S T (.slice aL nL cL) made) 77);generalize es[i].bx=b1 at *;generalize es[i].yb=b2 at *;have H1:ck _:=h1;have d1:=dq p1;have d2:=dq p2;obtain⟨lE,l1,l2,l3,l4⟩:=hL.low af;have ac:i<(es.set i ⟨b1,b2,s,s⟩).length:=by rw[List.length_set];exact hi
 have Y:=H1.x i ac;have aa:=H1.y i ac;rw[sE]at Y aa;clear h hx hy h2 h5 h1 af hL ac;unfold Hs at *;obtain rfl|rfl|rfl:=hk
 .obtain⟨F1,F2,hA,_⟩:=Y;obtain⟨F,⟨vB,vS,vT,hh,_,_,⟨vs,_,ag,_,_⟩,_⟩,_,_⟩:=aa;obtain⟨aS,cS,rfl,_⟩:=dH ag;have d3:=dq hh;have C:=hA.kM;clear ag hh;go_enter ca,bY;go_wp2_with fail;refine C.mono ?_;rintro e w1 ⟨rfl,rfl⟩;clear C;go_wp2;go_ret;exact⟨dT i!,_,_,q?,H1⟩
 .clear Y aa l1 l2 l3 l4;have HX:ck (Q2 _ _ _ _ _):=V1 (s:=s) N;have HY:ck (P4 _ _ _ _ _):=Va (s:=s) N;generalize (⟨(iZ s.s N).1.toArray⟩:ByteArray)=dS at *;generalize (iZ s.s N).2=dN at *;have ah:(dS.toList==dS.toList)=t?:=i!;go_enter ca,bY;go_wp2_with fail;refine(H1.VZ hi HX).mono ?_;rintro e w1 ⟨rfl,c2,h2,z⟩;have q1:=dq ((z.block _ o! z1).1.trans p1);have q2:=dq ((z.block _ o! z2).1.trans p2);have H2:ck _:=h2;clear h2 z d1 d2 p1 p2 H1;go_wp2_with fail;refine(H2.Wg hi HY).mono ?_;rintro e w2 ⟨rfl,c3,h3,_⟩;have H3:ck _:=h3;clear h3 H2 q1 q2;go_wp2_with fail;refine(yT _ _).mono ?_;rintro e w' ⟨rfl,rfl⟩;go_wp2;go_ret;exact⟨dT i!,_,_,q?,H3⟩
 clear Y aa
 obtain rfl:nL=l? lE:=by obtain⟨a',c',he,_⟩:=id l1;simp only[Value.slice.injEq]at he;exact he.2.1
 cases made
 case' false=>have HX:ck (Q2 _ _ _ _ _):=Tl (s:=s) S ho.s;have HY:ck (P4 _ _ _ _ _):=Tg (s:=s) S ho.s;clear l1 l2 l3 l4;go_enter ca,bY;go_wp2_with fail;have HP:ck (PS w0 _ c1 B va vl vm last us ms (es.set i ⟨b1,b2,s,s⟩)):=H1.out
 case' true=>have C:=Eu _ lE _ l1 l2 l3 l4;have ad:=FH l2 l3 l4;generalize (⟨(mL lE).toArray⟩:ByteArray)=pk at *;have HX:ck (Q2 _ _ _ _ _):=Tl (s:=s) pk ad;have HY:ck (P4 _ _ _ _ _):=Tg (s:=s) pk ad;clear l1 l2 l3 l4 ad;go_enter ca,bY;go_wp2_with fail;refine C.mono ?_;rintro e w9 ⟨rfl,ab⟩;have ae:=lI.of ab;have HP:ck (PS w0 w9 (ub c1 _ 0) B va vl vm last us ms (es.set i ⟨b1,b2,s,s⟩)):=H1.same ae 0;have p1:=(ab.block _ o!).trans p1;have p2:=(ab.block _ o!).trans p2;have z1:=(je (c:=c1) (m:=0) (bT (o!:w.1.size<w.1.size+2) U)).trans z1;have z2:=(je (c:=c1) (m:=0) (bT (o!:w.1.size+1<w.1.size+2) U)).trans z2;have U:=bN U ae.size;have d1:=dq p1;have d2:=dq p2;clear C ab ae;go_wp2_with fail
 all_goals
  refine(HP.VZ hi HX).mono ?_;rintro e w1 ⟨rfl,c2,h2,z⟩;have q1:=dq ((z.block _ o! z1).1.trans p1);have q2:=dq ((z.block _ o! z2).1.trans p2);have H2:ck _:=h2;clear h2 z d1 d2 p1 p2 H1 HP;go_wp2_with fail;refine(H2.Wg hi HY).mono ?_;rintro e w2 ⟨rfl,c3,h3,_⟩;have H3:ck _:=h3;clear h3 H2 q1 q2;go_wp2_with fail;refine(yT _ _).mono ?_;rintro e w' ⟨rfl,rfl⟩;go_wp2;go_ret;refine⟨dT i!,_,_,?_,H3⟩;rfl
end
open Go.Conc Go.Maps
def QD(M:Nat)(es:List vG):Prop:=∀e∈es,e.x=e.y/\CW e.x.t<=M
def Ug(w0 w:w?)(B last n u M:Nat):Prop:=∃c va vl vm O us ms es,PS w0 w c B va vl vm O us ms es/\O<=last+1/\l? us<=u+9/\n<=l? es/\l? es<=n+1/\QD (M+25) es
def QD.mono{M M' es}(h:QD M es)(hm:M<=M'):QD M' es:=λe O=>⟨(h e O).1,bN (h e O).2 hm⟩
def QD.set{M i O U es s}(h:QD M es)(Y:CW s.t<=M):QD M (es.set i ⟨O,U,s,s⟩):=λe he=>by
 obtain h1|rfl:=List.mem_or_eq_of_mem_set he
 exact h e h1;exact⟨q?,Y⟩
def Hy:f78.name≠ "runtime.NumGoroutine":=by have:f78.name = "(*hint/hintlaw.World).tells":=k!;rw[this];decide
section
variable {Z:mE prog} {W0:w?} {Mp:Nat->Prop} {fn:ct} {tm:Array v?} {os:List OF} {wl w0:w?} {k:List Item}
variable {c:Nat->Nat} {B:Nat} {va vl vm:v?} {last:Nat} {us:List v?} {ms:List Wd} {es:List vG} {s:Sg}
def MI{ops:Array Oper}{i}{rest:List Nat}{o:Oper}{Mb U W N M K S T}{aL:Option Addr}{nL cL made}(hi:ops[i]?=y? o)(h:PS w0 wl c B va vl vm last us ms es)(h1:1<=l? es)(ar:l? es<=9)(hq:QD Mb es)(h5:5<=w0.1.size)(ag:nV w0)(ho:R9 N M K W S T)(hL:MC wl (.slice aL nL cL))(Y:last<=1073741824)(hu:l? us<=17179869184)(hk:U=1\/2<=U/\U<=9)
  (hn:∀w2,Ug w0 w2 B last es.length us.length Mb->dk (jk Z W0 Mp) (⟨fn,fq o.dst tm (.bool t?),r? ops rest::k⟩::os) w2 []) :
  dk (jk Z W0 Mp) (⟨41,#[p? (y? ⟨B,0,x?⟩),.agg (Hs U W N M K S T (.slice aL nL cL) made),c5,c5,c5,c5,c5,c5,c5,c5,c5,c5,c5,c5,c5,c5,c5,c5,c5,c5,c5,c5,c5,c5,c5,c5,c5,c5,c5,c5,c5,c5,c5,c5,c5,c5,c5,c5,c5,c5,c5,c5,c5,c5,c5,c5,c5,c5,c5,c5,c5],[.code (eD f41)]⟩::⟨fn,tm,r? ops (i::rest)::k⟩::os) wl []:=by
 unfold Hs;have H:ck _:=A? h (A? hq (A? h5 (A? ag (A? ho (A? hL (A? Y (A? hu hn)))))));clear h hq h5 ag ho hL Y hu hn;show dk _ (⟨_,_,[.code (.seq (.region 0 _ f?) (.seq (.seq (.region 1 _ f?) (.cond _ (.seq (.region 2 _ f?) .ret) .skip)) (.seq (.seq (.region 3 _ f?) (.cond _ (.seq (.region 4 _ f?) .ret) .skip)) (.seq (.region 5 _ t?) (.seq (.block 0 (.seq (.region 6 _ f?) (.cond _ (.seq (.region 7 _ f?) .ret) (.seq (.region 8 _ f?) (.cond _ (.seq (.region 9 _ f?) .ret) .skip))))) (.seq (.region 10 _ f?) .ret))))))]⟩::_) _ _;refine iR λkk HK y Y=>?_;have HL:ck (lI wl (y.alloc (c? #[n? i? U,n? i? W,n? i? N,n? i? M,n? i? K,s? S,s? T,.slice aL nL cL,.bool made] 77))):=Y.trans (.of (eJ.alloc _ _));have p1:=uO y (c? #[n? i? U,n? i? W,n? i? N,n? i? M,n? i? K,s? S,s? T,.slice aL nL cL,.bool made] 77);clear Y;go_wp2;refine fR HK ?_;clear HK kk;generalize y.alloc (c? #[n? i? U,n? i? W,n? i? N,n? i? M,n? i? K,s? S,s? T,.slice aL nL cL,.bool made] 77)=w1 at *;generalize y.1.size=O at *;have HP:ck (∀y,lI w1 y->∀o,y.cell? ⟨O,o,x?⟩=_):=λy Y=>dq ((Y.block _ (eG p1)).trans p1);clear p1;refine dk.seq (iR λkk HK y Y=>?_);have d:=HP.out y Y;have HY:ck _:=Y;clear Y;obtain rfl|⟨k2,k9⟩:=hk
 .go_wp2;refine fR HK ?_;clear HK kk d;refine dk.rN trivial q? (iR λkk HK y2 Y=>?_);have C:=Pv (H.out.1.same ((HL.trans HY).trans Y) 0) o!;clear Y;go_wp2_with fail;refine C.mono ?_;clear C;rintro e w2 ⟨rfl,c',an,bx,yb,hp⟩;have HN:ck (Ug w0 w2 B last es.length us.length Mb):=⟨c',an,_,_,_,_,_,_,hp,o!,o!,i!,i!,λe he=>?_⟩;rotate_left
  .obtain h1|h1:=List.mem_append.1 he
   exact H.out.2.1.mono o! e h1;obtain rfl:=b'.1 h1;exact⟨q?,by simp[NL,CW]⟩
  clear hp;go_wp2;refine fR HK ?_;clear HK kk;exact dk.back (v:=.bool t?) (.inr ⟨_,q?⟩) bX hi (λτ=>by simp[cq,bW,go_sem]) (H.out.2.2.2.2.2.2.2.2 _ HN)
 have n1:(U==1)=f?:=by rw[beq_eq_false_iff_ne];omega
 have n2:¬U<2:=o!;have n3:¬11<U:=o!;go_wp2;refine fR HK ?_;clear HK kk d;refine dk.nh trivial q? (dk.skip (dk.seq (iR λkk HK y2 Y=>?_)));have HY:ck (lI w1 y2):=HY.trans Y;have d:=HP.out y2 HY;clear Y;go_wp2;refine fR HK ?_;clear HK kk d;refine dk.nh trivial (congrArg Value.bool (j!:(decide (U<2) || decide (11<U))=f?)) (dk.skip (iR λkk HK y3 Y=>?_));have HY:ck (lI w1 y3):=HY.trans Y;have d:=HP.out y3 HY;have ad:=H.out.1.same (HL.trans HY) 0;obtain⟨j,ah⟩:∃j,j=CM W es.length:=⟨_,q?⟩;have hj:j<l? es:=ah▸EL W es.length h1
 have aj:ck (∀w':w?,cu prog 75 #[n? i? W,n? i? es.length] w' λe ao=>e=e? (n? i? j)/\w'=ao):=λw'=>by rw[ah];exact QI W es.length w' H.out.2.2.2.2.1.w0 H.out.2.2.2.2.1.w1 h1 o!
 clear ah Y
 obtain⟨g,cc,ap,e0,e1⟩:∃g cc,va=.slice (y? ⟨g,0,x?⟩) es.length cc/\y3.cell? ⟨g,j*2,x?⟩=y? (p? (y? ⟨es[j].bx,0,x?⟩))/\y3.cell? ⟨g,j*2+1,x?⟩=y? (p? (y? ⟨es[j].yb,0,x?⟩)):=by
  obtain⟨_,h0⟩|⟨g,cap,cur,he,_⟩:=ad.law.row.2
  omega;have hc:=ad.law.row.cells (g:=g) (by rw[he];rfl);have hp:=Cg es j hj;refine⟨g,cap,he,?_,?_⟩;have:=hc (j*2) _ hp.1;rwa [cy,bP]at this;have:=hc (j*2+1) _ hp.2;rwa [cy,bP]at this
 subst ap;have d0:=dq ad.law.1 0;have dw:y3.cell? ⟨O,1,x?⟩=y? (n? i? W):=d 1;have au:(j:Int)<(l? es:Int):=o!;have ak:=H.out.2.1 es[j] (bA hj);have HX:ck _:=ak;have HQ:ck _:=ad;clear ad ak d;generalize al:es[j].bx=b1 at *;generalize am:es[j].yb=b2 at *;have HB:ck (es[j].bx=b1/\es[j].yb=b2):=⟨al,am⟩;clear al am;refine jC (Sd:=λa y=>y.tape=y3.tape->pE _ _ _ [15] a y) (last:=15) (tl:=[]) k! ?_ (λa y h ht=>h ht);refine ew 0 ?_ ?_<|ew 1 ?_ ?_<|ew 2 ?_ ?_<|ew 3 ?_ ?_<|ew 4 ?_ ?_<|ew 5 ?_ ?_ ?_
 any_goals(intro y hy;have q0:=eM hy d0;have q1:=eM hy dw;unfold fL;go_simp;refine⟨eJ.refl _,?_⟩;with_reducible rfl)
 refine ew 6 ?_ ?_<|ew 7 ?_ ?_<|ew 8 ?_ ?_<|ew 9 ?_ ?_<|ew 10 ?_ ?_ ?_
 any_goals(intro y hy;have q0:=eM hy d0;unfold fL;go_simp;refine⟨eJ.refl _,?_⟩;with_reducible rfl)
 refine ew 11 ?_ ?_ ?_;rotate_left
 .intro y hy;unfold fL;go_simp;refine⟨q?,(aj y).mono ?_⟩;rintro e y2 ⟨rfl,rfl⟩;refine⟨_,q?,eJ.refl _,?_⟩;with_reducible rfl
 refine ew 12 ?_ ?_<|ew 13 ?_ ?_ ?_
 any_goals(intro y hy;have q0:=eM hy e0;have q1:=eM hy e1;unfold fL;go_simp;refine⟨eJ.refl _,?_⟩;with_reducible rfl)
 go_simp;refine Iw (i:=14) k! d! (Hc (λg=>p? (y? ⟨g,0,x?⟩)) (λg y=>y.1[g]?=y? (c? #[p? x?,p? x?] 122 (0,0))/\y3.1.size<=g) q? (kO.wN _) (kO.free _) (λ_ y y' h hx=>⟨(hx.block _ (eG h.1)).trans h.1,h.2⟩) (λ_ _ _ h=>h) l! ?_ λg'=>?_)
 .intro y hy;obtain⟨_,hz⟩:=id hy;unfold fL;go_simp;exact⟨eJ.alloc _ _,q?,uO _ _,hz.size⟩
 refine qY k! (λt=>DW k! _ _) ?_;rintro y ⟨hy,ae,aq⟩ ht;have af:ck (lI w1 y):=HY.trans (.of (vh hy ht));have q0:=dq ae;have q1:=λo=>dP ae o;refine oR q? q? ?_;unfold fL;go_simp;refine sW ?_;refine fR HK ?_;obtain⟨w4,ab⟩:∃w4,w4=(y.setCell ⟨g',0,x?⟩ (p? (y? ⟨b1,0,x?⟩))).setCell ⟨g',1,x?⟩ (p? (y? ⟨b2,0,x?⟩)):=⟨_,q?⟩;have p4:w4.1[g']?=y? (c? #[p? (y? ⟨b1,0,x?⟩),p? (y? ⟨b2,0,x?⟩)] 122 (0,0)):=by rw[ab,heap_set (heap_set ae _ _)];rfl
 have aa:ck (lI w1 w4):=by have hz:=HY.size;refine⟨by rw[ab];exact af.os,by rw[ab];simp[World.setCell];exact af.size,λk hk=>?_⟩;rw[ab,cl _ _ _ _ (o!:k≠g'),cl _ _ _ _ (o!:k≠g')];exact af.block k hk
 have ai:ck (∀y,lI w4 y->∀o,y.cell? ⟨g',o,x?⟩=_):=λy Y=>dq ((Y.block _ (eG p4)).trans p4);rw[<-ab];clear ab p4 q0 q1 ae aq hy ht af HY HQ d0 dw e0 e1 aj;refine dk.seq (dk.block (iR λkk HK y5 Y=>?_));have H5:ck _:=Y;have d:=HP.out y5 (aa.trans Y);clear Y;go_wp2;refine fR HK ?_;clear HK kk d;by_cases k5:U<=5
 .refine dk.rN trivial (congrArg Value.bool (decide_eq_true k5)) (iR λkk HK y6 Y=>?_);have H6:ck (lI w4 y6):=H5.trans Y;have d:=HP.out y6 (aa.trans H6);have e:=ai.out y6 H6;have C:=R5 (aL:=aL) (nL:=nL) (cL:=cL) (made:=made) (H.out.1.same ((HL.trans aa).trans H6) 0) hj q? HX.1.symm H.out.2.2.2.2.1 k2 k5;rw[HB.1,HB.2]at C;unfold Hs at C;clear Y H5;go_wp2_with fail;refine C.mono ?_;clear C d e;rintro e w7 ⟨rfl,c',s',ht,hp⟩;have HN:ck (Ug w0 w7 B last es.length us.length Mb):=⟨c',_,_,_,_,_,_,_,hp,o!,o!,i!,i!,(H.out.2.1.set (by rw[ht];exact HX.2)).mono o!⟩;clear hp;go_wp2;refine fR HK ?_;clear HK kk;exact dk.back (v:=.bool t?) (.inr ⟨_,q?⟩) bX hi (λτ=>by simp[cq,bW,go_sem]) (H.out.2.2.2.2.2.2.2.2 _ HN)
 refine dk.nh trivial (congrArg Value.bool (decide_eq_false k5)) (iR λkk HK y6 Y=>?_);have H6:ck (lI w4 y6):=H5.trans Y;have d:=HP.out y6 (aa.trans H6);clear Y H5;go_wp2;refine fR HK ?_;clear HK kk d;by_cases k8:U<=8
 .refine dk.rN trivial (congrArg Value.bool (decide_eq_true k8)) (iR λkk HK y7 Y=>?_);have H7:ck (lI w4 y7):=H6.trans Y;have d:=HP.out y7 (aa.trans H7);have e:=ai.out y7 H7;have ac:=(HL.trans aa).trans H7;have C:=SZ (made:=made) (H.out.1.same ac 0) hj q? HX.1.symm H.out.2.2.2.2.1 (H.out.2.2.2.2.2.1.low ac) o! k8;rw[HB.1,HB.2]at C;unfold Hs at C;clear Y H6 ac;go_wp2_with fail;refine C.mono ?_;clear C d e;rintro e w8 ⟨rfl,c',s',ht,hp⟩;have HN:ck (Ug w0 w8 B last es.length us.length Mb):=⟨c',_,_,_,_,_,_,_,hp,o!,o!,i!,i!,(H.out.2.1.set (by rw[ht];exact HX.2)).mono o!⟩;clear hp;go_wp2;refine fR HK ?_;clear HK kk;exact dk.back (v:=.bool t?) (.inr ⟨_,q?⟩) bX hi (λτ=>by simp[cq,bW,go_sem]) (H.out.2.2.2.2.2.2.2.2 _ HN)
 refine dk.nh trivial (congrArg Value.bool (decide_eq_false k8)) (dk.skip (dk.inBlock (dk.sr λkk HK=>?_)));obtain rfl:U=9:=o!
 (refine fu ?_;go_simp);refine s7 q? l! k! λτ=>?_;have q:=ai.out (tp y6 τ) (H6.tape τ);unfold fL;go_simp;simp only[iJ];refine dk.pj τ ?_;clear q;refine s7 q? l! k! λτ=>?_;have q:=HP.out (tp y6 τ) ((aa.trans H6).tape τ);unfold fL;go_simp;simp only[iJ];refine dk.pj τ ?_;clear q;have ac:=(HL.trans aa).trans H6;obtain⟨e1,e2⟩:=HB.out;subst e1;subst e2
 refine dk.sS _ (iD:=f78) (c:=eD f78) q? l! func78 k! Hy q? (by simp[e9,Plain]) k!
  (IK (aL:=aL) (nL:=nL) (cL:=cL) (made:=made) q? (H.out.1.same ac 0) hj q? HX.1.symm H.out.2.2.1 (D7 ⟨H.out.2.2.2.1,H.out.2.2.1⟩ (H.out.1.low.trans ac)) H.out.2.2.2.2.1 H.out.2.2.2.2.2.2.1 H.out.2.2.2.2.2.2.2.1 λw8 c' av aw ax ay hp az=>?_)
 have HN:ck (Ug w0 w8 B last es.length us.length Mb):=⟨c',_,_,_,_,_,_,_,hp,o!,o!,o!,o!,H.out.2.1.mono o!⟩;clear hp;rw[kh];go_simp
 (refine fu ?_;go_simp);refine dk.ie HK ?_;clear HK kk;exact dk.back (v:=.bool t?) (.inr ⟨_,q?⟩) bX hi (λτ=>by simp[cq,bW,go_sem]) (H.out.2.2.2.2.2.2.2.2 _ HN)
end
variable {ops:Array Oper} {hi:Int} {rest:List Nat} {cap i:Nat} {o:Oper} {a:Option Addr} {X:w?->Prop}
def MS(w:w?)(a:Option Addr)(n:Nat):Prop:=∀k,k<n->∃b off O W N M K S T aL nL cL made,a=y? ⟨b,off,x?⟩/\(∀j,j<9->w.cell? ⟨b,off+k*9+j,x?⟩=(Hs O W N M K S T (.slice aL nL cL) made)[j]?)/\R9 N M K W S T/\MC w (.slice aL nL cL)
def MS.low{w w'}(h:MS w a n)(U:lI w w'):MS w' a n:=λk hk=>by obtain⟨b,off,O,W,N,M,K,S,T,aL,nL,cL,made,h1,h2,h3,h4⟩:=h k hk;refine⟨b,off,O,W,N,M,K,S,T,aL,nL,cL,made,h1,λj Y=>?_,h3,h4.low U⟩;have:=h2 j Y;rw[<-this];rw[Array.getElem?_eq_getElem (Y)]at this;exact(l5 U this).trans this.symm
def Iq(w0 w:w?)(B k:Nat):Prop:=∃c va vl vm last us ms es,PS w0 w c B va vl vm last us ms es/\last<=k/\l? us<=9*k/\1<=l? es/\l? es<=10/\QD (25*k) es
def PM(hi:Int)(X:w?->Prop):Prop:=∀(Z:mE prog)(W0:w?)(Mp:Nat->Prop)(fn:ct)(tm:Array v?)(os:List OF)(wl w0:w?)(k:List Item)(c:Nat->Nat)(B:Nat)(va vl vm:v?)(last:Nat)(us:List v?)(ms:List Wd)(es:List vG)(ops:Array Oper)(i:Nat)(rest:List Nat)(o:Oper)(U:Nat)(O W N M K:Int)(S T:ByteArray)(aL:Option Addr)(nL cL:Nat)(made:Bool),ops[i]?=y? o->PS w0 wl c B va vl vm last us ms es->1<=l? es->l? es<=9->QD U es->U<=16777216->5<=w0.1.size->X w0->R9 N M K W S T->MC wl (.slice aL nL cL)->last<=1073741824->l? us<=17179869184->O=1\/2<=O/\O<=hi->
 (∀w2,Ug w0 w2 B last es.length us.length U->dk (jk Z W0 Mp) (⟨fn,fq o.dst tm (.bool t?),r? ops rest::k⟩::os) w2 [])->
 dk (jk Z W0 Mp) (⟨41,#[p? (y? ⟨B,0,x?⟩),.agg (Hs O W N M K S T (.slice aL nL cL) made),c5,c5,c5,c5,c5,c5,c5,c5,c5,c5,c5,c5,c5,c5,c5,c5,c5,c5,c5,c5,c5,c5,c5,c5,c5,c5,c5,c5,c5,c5,c5,c5,c5,c5,c5,c5,c5,c5,c5,c5,c5,c5,c5,c5,c5,c5,c5,c5,c5],[.code (eD f41)]⟩::⟨fn,tm,r? ops (i::rest)::k⟩::os) wl []
def TS:PM 9 nV:=by intro Z W0 Mp fn tm os wl w0 k c B va vl vm last us ms es ops i rest o Mb U W N M K S T aL nL cL made hi h Y O hq _ h5 hX ho hL hl hu hk hn;exact MI hi h Y O hq h5 hX ho hL hl hu hk hn
def MQ:f41.name≠ "runtime.NumGoroutine":=by decide
def To(c:Code):Code:=match c with
 |.seq _ (.seq _ (.seq _ (.seq _ (.seq (.seq _ (.block _ (.loop x))) _))))=>x|_=>.skip
def NX(c:Code):Code:=match c with
 |.seq _ (.seq _ (.seq _ (.seq _ (.seq (.seq _ (.block _ (.loop _))) y))))=>y|_=>.skip
section
variable {Z:mE prog} {W0:w?} {Mp:Nat->Prop} {fn:ct} {tm:Array v?} {os:List OF} {w0:w?} {k:List Item}
def JG{B}(be:ops[i]?=y? o)(bf:PM hi X)(h5:5<=w0.1.size)(hX:X w0)(hs:MS w0 a n)(bs:n<=600000)
  (hn:∀w2,lI w0 w2->dk (jk Z W0 Mp) (⟨fn,fq o.dst tm (.bool t?),r? ops rest::k⟩::os) w2 []) :
  ∀(d m)(w)(a3 a4 a5 a6 a8 ad ae af ag ah ai aj ak al am an ao ap aq ar au aw ax ay az a0 a1 a2 a7 a9 a' aA aB aC aD aE aF aG aH aI aJ aK aM aN aO aP aQ aR aS aT aU aV aW aX aY aZ ba bc bd),n=m+d->Iq w0 w B m->
   dk (jk Z W0 Mp) (⟨13,#[.slice a n cap,n? i? 2,n? i? hi,a3,a4,a5,a6,p? (y? ⟨B,0,x?⟩),a8,n? i? (m:Int),ad,ae,af,ag,ah,ai,aj,ak,al,am,an,ao,ap,aq,ar,au,aw,ax,ay,az,a0,a1,a2,a7,a9,a',aA,aB,aC,aD,aE,aF,aG,aH,aI,aJ,aK,aM,aN,aO,aP,aQ,aR,aS,aT,aU,aV,aW,aX,aY,aZ,ba,bc,bd],[.code (To (eD cf)),.inLoop (To (eD cf)),.inBlock 0,.code (NX (eD cf))]⟩::⟨fn,tm,r? ops (i::rest)::k⟩::os) w []:=by
 have H:ck _:=A? bf (A? h5 (A? hX (A? hs hn)));clear bf h5 hX hs hn;intro d;induction d with
 |zero=>intro m w a3 a4 a5 a6 a8 ad ae af ag ah ai aj ak al am an ao ap aq ar au aw ax ay az a0 a1 a2 a7 a9 a' aA aB aC aD aE aF aG aH aI aJ aK aM aN aO aP aQ aR aS aT aU aV aW aX aY aZ ba bc bd hm hR;obtain⟨c,va,vl,vm,last,us,ms,es,ac,_⟩:=hR;obtain rfl:n=m:=hm;have HP:ck (PS w0 w c B va vl vm last us ms es):=ac;clear ac;show dk _ (⟨_,_,.code (.seq (.seq (.region 6 _ f?) (.cond _ .skip (.exit 0))) _)::_⟩::_) _ _;refine dk.seq (iR λkk Y y U=>?_);have HL:ck (lI w0 y):=HP.out.low.trans U;have bt:¬(n:Int)<(n:Int):=o!;clear U HP;go_wp2;refine fR Y ?_;clear Y kk;refine dk.nh trivial q? ?_;refine dk.exit (k':=[.code (NX (eD cf))]) q? ?_;show dk _ (⟨_,_,[.code (.seq (.region 14 _ f?) .ret)]⟩::_) _ _;refine iR λkk Y y2 U=>?_;have HL:ck (lI w0 y2):=HL.out.trans U;clear U;go_wp2;refine fR Y ?_;exact dk.back (v:=.bool t?) (.inr ⟨_,q?⟩) cg be (λτ=>by simp[cq,results13,go_sem]) (H.out.2.2.2.2 _ HL)
 |succ d ih=>
  intro m w a3 a4 a5 a6 a8 ad ae af ag ah ai aj ak al am an ao ap aq ar au aw ax ay az a0 a1 a2 a7 a9 a' aA aB aC aD aE aF aG aH aI aJ aK aM aN aO aP aQ aR aS aT aU aV aW aX aY aZ ba bc bd hm hR;obtain⟨c,va,vl,vm,last,us,ms,es,ac,bu,bv,bg,bh,hq⟩:=hR;have HP:ck (PS w0 w c B va vl vm last us ms es):=ac;have HQ:ck (QD (25*m) es):=hq;have HM:ck (n=m+(d+1)):=hm;have bw:(m:Int)<(n:Int):=o!;clear ac hq;show dk _ (⟨_,_,.code (.seq (.seq (.region 6 _ f?) (.cond _ .skip (.exit 0))) (.seq (.block 1 (.seq (.region 8 _ f?) (.seq (.region 9 _ f?) (.cond _ (.seq (.region 10 _ f?) (.seq (.region 11 _ f?) (.seq (.region 12 _ f?) (.cond _ (.seq (.region 13 _ f?) .ret) .skip)))) .skip)))) (.region 7 _ f?)))::_⟩::_) _ _;refine dk.seq (iR λkk Y y U=>?_);have HP:ck (PS w0 y _ B va vl vm last us ms es):=HP.out.same U 0;obtain⟨av,cv,rfl,_⟩:=dL HP.out.law.row;have d0:=dq HP.out.law.1;clear U hm;by_cases br:l? es<10
  case neg=>have bk:¬(l? es:Int)<10:=o!;go_wp2;refine fR Y ?_;clear Y kk d0;refine dk.nh trivial (by first|rfl|exact congrArg Value.bool (decide_eq_false o!)) ?_;refine dk.exit (k':=[.code (NX (eD cf))]) rfl ?_;show dk _ (⟨_,_,[.code (.seq (.region 14 _ f?) .ret)]⟩::_) _ _;refine iR λkk Y y2 U=>?_;have HL:ck (lI w0 y2):=HP.out.low.trans U;clear U;go_wp2;refine fR Y ?_;exact dk.back (v:=.bool t?) (.inr ⟨_,q?⟩) cg be (λτ=>by simp[cq,results13,go_sem]) (H.out.2.2.2.2 _ HL)
  have bk:(l? es:Int)<10:=o!;go_wp2;refine fR Y ?_;clear Y kk d0;refine dk.rN trivial q? (dk.skip (dk.seq (dk.block (iR λkk Y y2 U=>?_))));have HP:ck (PS w0 y2 _ B _ vl vm last us ms es):=HP.out.same U 0;obtain⟨b,off,O,W,N,M,K,S,T,aL,nL,cL,made,rfl,aa,bi,bj⟩:=(H.out.2.2.2.1.low HP.out.low) m o!;have c0:y2.cell? ⟨b,off+m*9,x?⟩=y? (n? i? O):=aa 0 o!;have HO:ck (R9 N M K W S T):=bi
  have HC:ck (∀y,lI y2 y->y.cell? ⟨b,off+m*9,x?⟩=y? (n? i? O)/\y.cell? ⟨b,off+m*9+1,x?⟩=y? (n? i? W)/\y.cell? ⟨b,off+m*9+2,x?⟩=y? (n? i? N)/\y.cell? ⟨b,off+m*9+3,x?⟩=y? (n? i? M)/\y.cell? ⟨b,off+m*9+4,x?⟩=y? (n? i? K)/\y.cell? ⟨b,off+m*9+5,x?⟩=y? (s? S)/\y.cell? ⟨b,off+m*9+6,x?⟩=y? (s? T)/\y.cell? ⟨b,off+m*9+7,x?⟩=y? (.slice aL nL cL)/\y.cell? ⟨b,off+m*9+8,x?⟩=y? (.bool made)/\MC y (.slice aL nL cL)):=λy U=>⟨l5 U (aa 0 o!),l5 U (aa 1 o!),l5 U (aa 2 o!),l5 U (aa 3 o!),l5 U (aa 4 o!),l5 U (aa 5 o!),l5 U (aa 6 o!),l5 U (aa 7 o!),l5 U (aa 8 o!),bj.low U⟩
  clear U aa bi bj;go_wp2;refine fR Y ?_;clear Y kk c0;refine iR λkk Y y3 U=>?_;have H3:ck (lI y2 y3):=U;clear U;by_cases hk:O=1\/2<=O/\O<=hi
  case neg=>
   have n1:(O==1)=f?:=by rw[beq_eq_false_iff_ne];omega
   have HR:ck (Iq w0 y3 B (m+1)):=⟨_,_,_,_,_,_,_,_,HP.out.same H3 0,o!,o!,bg,bh,HQ.out.mono o!⟩;have ab:O<2\/2<=O/\hi<O:=o!;obtain h2|⟨h2,h3⟩:=ab
   all_goals
    go_wp2;refine fR Y ?_;clear Y kk;refine dk.nh trivial (by first|rfl|exact congrArg Value.bool (decide_eq_false o!)) (dk.skip (dk.inBlock (dk.region ?_)))
    (iterate 3 (refine fu ?_;go_simp));refine dk.inRegion (dk.inLoop ?_);rw[show IntKind.i64.wrap ((m:Int)+1)=((m+1:Nat):Int) by simp only[IntKind.wrap_i64];omega];exact ih (m+1) _ _ _ _ _ _ _ _ _ _ _ _ _ _ _ _ _ _ _ _ _ _ _ _ _ _ _ _ _ _ _ _ _ _ _ _ _ _ _ _ _ _ _ _ _ _ _ _ _ _ _ _ _ _ _ _ _ _ _ _ (v! HM.out) HR
  have bl:ck (O=1\/2<=O/\O<=hi):=hk;have ab:O=1\/(O==1)=f?/\2<=O/\O<=hi:=hk.imp_right λh=>⟨by rw[beq_eq_false_iff_ne];omega,h⟩;clear hk;obtain h1|⟨h1,h2,h3⟩:=ab
  all_goals
   try subst h1
   go_wp2;refine fR Y ?_;clear Y kk;refine dk.rN trivial (by first|rfl|exact congrArg Value.bool (decide_eq_true o!)) (dk.sr λkk Y=>?_)
   (iterate 4 (refine fu ?_;go_simp));refine s7 q? l! k! λτ=>?_;obtain⟨q0,q1,q2,q3,q4,q5,q6,q7,q8,_⟩:=HC.out (tp y3 τ) (H3.out.tape τ);unfold fL;go_simp;simp only[iJ];refine dk.pj τ ?_;clear q0 q1 q2 q3 q4 q5 q6 q7 q8
   refine dk.sS _ (iD:=f41) (c:=eD f41) q? l! bX k! MQ q? (by simp[e9,Plain]) k!
    (H.out.1 Z W0 Mp _ _ _ y3 w0 _ _ B _ vl vm last us ms es _ 5 _ _ (25*m) _ W N M K S T aL nL cL made q? (HP.out.same H3 0) bg o! HQ o! H.out.2.1 H.out.2.2.1 HO (HC y3 H3).2.2.2.2.2.2.2.2.2 o! o! (by first|exact bl|exact .inl rfl) λw4 hN=>?_)
   have HN:ck (Ug w0 w4 B last es.length us.length (25*m)):=hN;clear hN;rw[kh];go_simp
   (refine fu ?_;go_simp);refine dk.ie Y ?_;clear Y kk;refine iR λkk Y y5 U=>?_;obtain⟨c',b0,bm,bn,bo,bp,bq,b1,hp,n1,n2,n3,n4,n5⟩:=HN.out;have hp:=hp.same U 0;obtain⟨D,hD,_⟩:=hp.law.lists;have d5:=dq hp.law.1;have C:=Pw B D bm bn bp bq y5 (d5 1) (d5 2) hD hp.law.len o!;have HR:ck (∀y,lI y5 y->Iq w0 y B (m+1)):=λy U=>⟨_,_,_,_,_,_,_,_,hp.same U 0,o!,o!,o!,o!,n5.mono o!⟩;clear U hp hD d5 n1 n2 n3 n4 n5;go_wp2_with fail;refine C.mono ?_;clear C;rintro e w6 ⟨rfl,nq,rfl⟩;have H6:ck (lI y5 (y5.drewN nq)):=.of (below_drewN (cm _ _) nq);generalize y5.drewN nq=w6 at *;go_wp2;refine fR Y ?_;clear Y kk;refine iR λkk Y y7 U=>?_;have HR:ck (Iq w0 y7 B (m+1)):=HR.out y7 (H6.out.trans U);clear U H6;go_wp2;refine fR Y ?_;clear Y kk;refine dk.nh trivial q? (dk.skip (dk.inBlock (dk.region ?_)))
   (iterate 3 (refine fu ?_;go_simp));refine dk.inRegion (dk.inLoop ?_);rw[show IntKind.i64.wrap _=((m+1:Nat)) by simp only[IntKind.wrap_i64];omega];exact ih _ _ _ _ _ _ _ _ _ _ _ _ _ _ _ _ _ _ _ _ _ _ _ _ _ _ _ _ _ _ _ _ _ _ _ _ _ _ _ _ _ _ _ _ _ _ _ _ _ _ _ _ _ _ _ _ _ _ _ _ _ (v! HM.out) HR
def PS.start(w):PS w (w.alloc (c? #[rD,rD,rD,n? i? 0] 74)) (λk=>if k<w.1.size then 0 else 1) w.1.size rD rD rD 0 [] [] []:=by have O:∀k,rD.ownBlock≠y? k:=nofun;refine⟨⟨uO ..,⟨λ_=>False,⟨ch ..,ch ..,nofun,nofun,nofun,nofun,nofun⟩,nofun,nofun⟩,q?,ch ..,if_neg (Nat.lt_irrefl _),λk U=>absurd U (O k),λk U=>absurd U (O k),λk U=>absurd U (O k)⟩,λk U=>if_pos U,.of (eJ.alloc ..),nofun,nofun⟩
def It{wl:w?}(aa:ops[i]?=y? o)(ab:PM hi X)(h5:5<=wl.1.size)(hX:∀y,lI wl y->X y)(hs:MS wl a n)(ac:n<=600000)
  (hn:∀w2,lI wl w2->dk (jk Z W0 Mp) (⟨fn,fq o.dst tm (.bool t?),r? ops rest::k⟩::os) w2 []) :
  dk (jk Z W0 Mp) (⟨13,#[.slice a n cap,n? i? 2,n? i? hi,c5,c5,c5,c5,c5,c5,c5,c5,c5,c5,c5,c5,c5,c5,c5,c5,c5,c5,c5,c5,c5,c5,c5,c5,c5,c5,c5,c5,c5,c5,c5,c5,c5,c5,c5,c5,c5,c5,c5,c5,c5,c5,c5,c5,c5,c5,c5,c5,c5,c5,c5,c5,c5,c5,c5,c5,c5,c5,c5,c5,c5],[.code (eD cf)]⟩::⟨fn,tm,r? ops (i::rest)::k⟩::os) wl []:=by
 have H:ck _:=A? ab (A? h5 (A? hX (A? hs hn)));refine iR λkk U y O=>?_;have Y:ck _:=O;go_wp2;refine fR U ?_;refine iR λkk U y1 O=>?_;have Y:ck _:=Y.trans O;have HP:ck _:=PS.start y1;go_wp2;refine fR U ?_;generalize y1.1.size=B at *;refine iR λkk U y3 O=>?_;have C:=Pv (HP.same O 0) i!;go_wp2_with fail;refine C.mono ?_;rintro e w4 ⟨rfl,c',ad,bx,yb,hp⟩;have HR:ck (Iq y1 w4 B 0):=⟨_,_,_,_,_,_,_,_,hp,o!,i!,i!,i!,λe he=>by obtain rfl:=b'.1 he;exact⟨q?,by simp[NL,CW]⟩⟩;go_wp2;refine fR U ?_;refine dk.seq (iR λkk U y5 O=>?_)
 have HR:ck (Iq y1 y5 B 0):=by obtain⟨c,va,vl,vm,last,us,ms,es,h1,h2⟩:=HR.out;exact⟨_,_,_,_,_,_,_,_,h1.same O 0,h2⟩
 go_wp2;refine fR U ?_;refine dk.nh trivial q? (dk.skip (dk.seq (iR λkk U y6 O=>?_)))
 have HR:ck (Iq y1 y6 B 0):=by obtain⟨c,va,vl,vm,last,us,ms,es,h1,h2⟩:=HR.out;exact⟨_,_,_,_,_,_,_,_,h1.same O 0,h2⟩
 go_wp2;refine fR U ?_;refine dk.block (dk.loop ?_);exact JG aa H.out.1 (bN H.out.2.1 Y.size) (H.out.2.2.1 _ Y) (H.out.2.2.2.1.low Y) ac (λw2 O=>H.out.2.2.2.2 w2 (Y.trans O)) n 0 _ _ _ _ _ _ _ _ _ _ _ _ _ _ _ _ _ _ _ _ _ _ _ _ _ _ _ _ _ _ _ _ _ _ _ _ _ _ _ _ _ _ _ _ _ _ _ _ _ _ _ _ _ _ _ _ _ _ _ _ o! HR
end
end
section
open Go.ChangeShapes Go.WideShapes Go.ChangeAt Go.RowKit Go.Conc
variable {a:Addr} {cs:List v?} {b n o:Nat} {Mp:Nat->Prop} {v:v?} {W:w?}
def mZ{n}(h:(Lit.int i? n).wf=t?) : -9223372036854775808<=n/\n<=9223372036854775807:=by have O:IntKind.i64.min = -9223372036854775808:=rfl;have U:IntKind.i64.max=9223372036854775807:=rfl;simp only[Lit.wf,c4,decide_eq_true_eq]at h;omega
def vn(h:(cs.drop o).take 1=[v]):cs[o]?=y? v:=by
 have:((cs.drop o).take 1)[0]?=y? v:=by rw[h];rfl
 simpa using this
def A9:prog.cellsOf 202=5:=by kernel_rfl
def KM:prog.cellsOf 77=9:=by kernel_rfl
def Pf{w:w?}(h:w.cell? a=y? v):∃cs e f,w.1[a.block]?=y? (c? cs e f):=by
 unfold cj at h
 cases O:w.1[a.block]? with
 |none=>rw[O]at h;cases h
 |some o=>
  rw[O]at h
  cases o with
  |cells cs e f=>exact⟨cs,e,f,q?⟩|_=>cases h
def Dg{U:Nat->Prop}{l:List dD}{j:Nat}{u:v?}(h:(dv l)[j]?=y? u):BD Mp U u:=by
 have Y:=(b8.1 h).1;rw[sC]at Y;rw[(o!:j=j / 5*5+j % 5),sB l _ o! _ o!]at h;have O:=o!;generalize j % 5=f at h O;match f,O with
 |0,_|1,_|2,_|3,_|4,_=>simp[eo]at h;rw[<-h];trivial
def FQ{H}(l r:List (DataW H)):bG (l++r)=bG l+bG r:=by
 induction l with
 |nil=>simp[bG]|cons x l O=>simp only[List.cons_append,bG,O];omega
def sT{H}(l)(i:Nat)(d:DataW H)(h:l[i]?=y? d):bH d<=bG l:=by
 induction l generalizing i with
 |nil=>simp at h|cons x l O=>
  cases i with
  |zero=>simp at h;subst h;simp only[bG];omega|succ i=>have:=O i (u! h);simp only[bG];omega
def Hg{H}(D:Nat->DataW H)(g):∀n,(∀i,i<n->g i<=bH (D i))->((b5 n).map g).sum<=bG ((b5 n).map D):=by
 intro n;induction n with
 |zero=>simp|succ n O=>intro h;have U:=O (λi hi=>h i o!);have Y:=h n o!;rw[bC,b7,b7,bB,FQ];simp only[bE,bF,List.sum_cons,List.sum_nil,bG];omega
def Ou(n):((b5 n).map (λ_=>1)).sum=n:=by
 induction n with
 |zero=>rfl|succ n O=>rw[bC,b7,bB,O];rfl
section
variable {H:Type} {enc:TypeId×v?->H} {w:w?} {base:Nat} {held:Bool} {fuel:Nat}
def KF{U:Array Field}{xs:List (DataW H×List MemPlace)}(hf:∀(i:Nat)(f:Field),U[i]?=y? f->bK enc prog w base (λ_=>t?) held n f.type ((cs.drop f.offset).take (prog.cellsOf f.type))=xs[i]?)(i:Nat){O:Field}(h:U[i]?=y? O)(ho:O.offset=i)(hc:prog.cellsOf O.type=1)(Y:i<l? xs) :
  ∃y,xs[i]?=y? y/\bK enc prog w base (λ_=>t?) held n O.type ((cs.drop i).take 1)=y? y:=by
 have:=hf i O h;rw[ho,hc,bz Y]at this;exact⟨_,bz Y,this⟩
def OI{x:DataW H×List MemPlace}
  (hc:w.cells? base ⟨b,o,x?⟩ 5=y? cs) (h:bK enc prog w base (λ_=>t?) held fuel 202 cs=y? x) :
  ∃e:dD,(∀f u,(eo e)[f]?=y? u->w.cell? ⟨b,o+f,x?⟩=y? u)/\(-9223372036854775808<=e.dn/\e.dn<=9223372036854775807)/\(-9223372036854775808<=e.dE/\e.dE<=9223372036854775807)/\l? e.name+l? e.text+2<=bH x.1:=by
 obtain⟨xs,n,rfl,hx,hl,aa,Y⟩:=bL underlying202 h;obtain⟨_,ac,U⟩:=ci hc;have ab:l? xs=5:=aa
 have cell:∀i,i<5->∀v,(cs.drop i).take 1=[v]->w.cell? _=y? v:=λi hi v hv=>by have:=U i hi;rw[vn hv]at this;exact this
 obtain⟨y0,e0,f0⟩:=KF Y 0 q? q? k! o!;obtain⟨y1,_,f1⟩:=KF Y 1 q? q? k! o!;obtain⟨y2,e2,f2⟩:=KF Y 2 q? q? k! o!;obtain⟨y3,_,f3⟩:=KF Y 3 q? q? k! o!;obtain⟨y4,_,f4⟩:=KF Y 4 q? q? k! o!;obtain⟨S,g0,z0,_⟩:=bJ bV f0;obtain⟨B,g1,_⟩:=bM ce f1;obtain⟨T,g2,z2,_⟩:=bJ bV f2;obtain⟨W,g3,_,w3⟩:=bI bU f3;obtain⟨G,g4,_,w4⟩:=bI bU f4;refine⟨⟨S.1.1,B,T.1.1,W,G⟩,λf u O=>?_,mZ w3,mZ w4,?_⟩;match f,O with
 |0,O=>rw[<-O];exact cell 0 o! _ g0|1,O=>rw[<-O];exact cell 1 o! _ g1|2,O=>rw[<-O];exact cell 2 o! _ g2|3,O=>rw[<-O];exact cell 3 o! _ g3|4,O=>rw[<-O];exact cell 4 o! _ g4|f+5,O=>simp[eo]at O
 rw[hx];match xs,ab,e0,e2 with
 |[a0,a1,a2,a3,a4],_,e0,e2=>simp at e0 e2;subst e0 e2;simp only[bE,bF,bG,z0,z2,bH];omega
def K8(w:w?)(a:Option Addr)(n c:Nat):Prop:=∀x,a=y? x->(∃cs e f,w.1[x.block]?=y? (c? cs e f))\/n=0/\c=0
def Lm{x:DataW H×List MemPlace}
  (h:bK enc prog w base (λ_=>t?) held fuel 75 cs=y? x) (hb:bH x.1<=1048576):∃a n c,cs=[.slice a n c]/\K8 w a n c/\MC w (.slice a n c):=by
 obtain⟨ab,_⟩|⟨a,len,cap,m,n,D,Pl,ab,_,hl,hm,ad,hx,ac⟩:=Deep.open_slice underlying75 h
 exact⟨x?,0,0,ab,λ_ h=>(by cases h),[],⟨x?,0,q?,bO _,by unfold cr;omega,q?,λj u hj=>by simp[dv]at hj⟩,λe he=>by simp at he,i!,i!⟩
 have ae:K8 w (y? a) len cap:=λx hx=>by cases hx;by_cases hc:cap=0;exact .inr ⟨o!,hc⟩;obtain⟨ai,U,_⟩:=ac 0 (by rw[ad];simp;omega);rw[A9]at U;obtain⟨_,af,O⟩:=ci U;have Y:=O 0 o!;rw[bz o!]at Y;obtain⟨cs,e,f,h2⟩:=Pf Y;exact .inl ⟨cs,e,f,by simpa[cz]using h2⟩
 refine⟨y? a,len,cap,ab,ae,?_⟩;clear ae;have ao:len<=m:=by rw[ad];split<;>omega
 have ap:bG ((b5 len).map D)<=1048576:=by have e1:x.1=.slice ((b5 len).map D) ((b5 (m-len)).map λj=>D (len+j)):=congrArg Prod.fst hx;rw[e1]at hb;simp only[bH]at hb;omega
 clear hb;by_cases h0:len=0;subst h0;exact⟨[],⟨y? a,cap,q?,bQ _,hm,q?,λj u hj=>by simp[dv]at hj⟩,λe he=>by simp at he,i!,i!⟩;obtain⟨b,off,spot⟩:=a
 have aj:spot=x?:=by obtain⟨ai,U,_⟩:=ac 0 o!;rw[A9]at U;obtain⟨_,af,O⟩:=ci U;have Y:=O 0 o!;rw[bz o!]at Y;simpa[cz]using World.cell?_spot Y
 subst aj
 have ag:∀i,i<len->∃e:dD,(∀f u,(eo e)[f]?=y? u->w.cell? ⟨b,off+i*5+f,x?⟩=y? u)/\(-9223372036854775808<=e.dn/\e.dn<=9223372036854775807)/\(-9223372036854775808<=e.dE/\e.dE<=9223372036854775807)/\l? e.name+l? e.text+2<=bH (D i):=λi hi=>by obtain⟨cs',hc,ht⟩:=ac i o!;rw[A9,cy]at hc;exact OI hc ht
 obtain⟨g,hg⟩:∃g:Nat->dD,∀i,i<len->(∀f u,(eo (g i))[f]?=y? u->w.cell? ⟨b,off+i*5+f,x?⟩=y? u)/\(-9223372036854775808<=(g i).dn/\(g i).dn<=9223372036854775807)/\(-9223372036854775808<=(g i).dE/\(g i).dE<=9223372036854775807)/\(g i).name.length+(g i).text.length+2<=bH (D i):=
  ⟨λi=>if h:i<len then Classical.choose (ag i h)else⟨[],f?,[],0,0⟩,λi hi=>by
    simp only[hi,dite_true]
    exact Classical.choose_spec (ag i hi)⟩
 have ah:∀e∈(b5 len).map g,∃i,i<len/\g i=e:=λe he=>by obtain⟨i,hi,rfl⟩:=List.mem_map.1 he;exact⟨i,List.mem_range.1 hi,q?⟩
 have ak:∀i,i<len->bH (D i)<=bG ((b5 len).map D):=λi hi=>sT _ i _ (by simp[hi]);refine⟨(b5 len).map g,?_,λe he=>?_,?_,?_⟩;have aa:((b5 len).map g).length=len:=i!;refine⟨y? ⟨b,off,x?⟩,cap,by rw[aa],by rw[aa];exact hl,hm,by rw[sC],λj u hj=>⟨b,off,q?,?_⟩⟩
 have al:j<((b5 len).map g).length*5:=by rw[<-sC];exact(b8.1 hj).1
 rw[aa]at al;obtain⟨i,f,am,an⟩:∃i f,j=i*5+f/\f<5:=⟨j / 5,j % 5,o!,o!⟩;subst am;have hi:i<len:=o!;rw[sB _ i (by rw[aa];exact hi) f an]at hj;rw[List.getElem_map,List.getElem_range]at hj;have:=(hg i hi).1 f u hj;rw[(o!:off+(i*5+f)=off+i*5+f)];exact this;obtain⟨i,hi,rfl⟩:=ah e he;have Y:=hg i hi;have h2:=ak i hi;exact⟨o!,o!,Y.2.1,Y.2.2.1.1,Y.2.2.1.2⟩;rw[List.length_map,List.length_range];have Y:=Hg D (λ_=>1) len (λi hi=>by have:=(hg i hi).2.2.2;omega);have h2:=Ou len;omega;have Y:=Hg D (λi=>(g i).text.length) len (λi hi=>by have:=(hg i hi).2.2.2;omega);rw[List.map_map];have h2:((λe:dD=>l? e.text) ∘ g)=λi=>(g i).text.length:=rfl;rw[h2];omega
def Sp{x:DataW H×List MemPlace}
  (hc:w.cells? base ⟨b,o,x?⟩ 9=y? cs) (h:bK enc prog w base (λ_=>t?) held fuel 77 cs=y? x) (hb:bH x.1<=1048576) :
  ∃O W N M K S T aL nL cL made,(∀j,j<9->w.cell? ⟨b,o+j,x?⟩=(Hs O W N M K S T (.slice aL nL cL) made)[j]?)/\R9 N M K W S T/\MC w (.slice aL nL cL)/\K8 w aL nL cL:=by
 obtain⟨xs,n,rfl,hx,hl,aa,U⟩:=bL underlying77 h;obtain⟨_,ad,Y⟩:=ci hc;have ae:l? xs=9:=aa
 have cell:∀i,i<9->∀v,(cs.drop i).take 1=[v]->w.cell? ⟨b,o+i,x?⟩=y? v:=λi hi v hv=>by have:=Y i hi;rw[cy,vn hv]at this;exact this
 obtain⟨y0,_,f0⟩:=KF U 0 q? q? k! o!;obtain⟨y1,_,f1⟩:=KF U 1 q? q? k! o!;obtain⟨y2,_,f2⟩:=KF U 2 q? q? k! o!;obtain⟨y3,_,f3⟩:=KF U 3 q? q? k! o!;obtain⟨y4,_,f4⟩:=KF U 4 q? q? k! o!;obtain⟨y5,_,f5⟩:=KF U 5 q? q? k! o!;obtain⟨y6,_,f6⟩:=KF U 6 q? q? k! o!;obtain⟨y7,e7,f7⟩:=KF U 7 q? q? k! o!;obtain⟨y8,_,f8⟩:=KF U 8 q? q? k! o!
 have ab:bH y7.1<=1048576:=by rw[hx]at hb;simp only[bH]at hb;have:=sT (xs.map (·.1)) 7 y7.1 (by rw[List.getElem?_map,e7];rfl);omega
 obtain⟨O,g0,_,_⟩:=bI bU f0;obtain⟨W,g1,_,w1⟩:=bI bU f1;obtain⟨N,g2,_,w2⟩:=bI bU f2;obtain⟨M,g3,_,w3⟩:=bI bU f3;obtain⟨K,g4,_,w4⟩:=bI bU f4;obtain⟨S,g5,_,s5⟩:=bJ bV f5;obtain⟨T,g6,_,s6⟩:=bJ bV f6;obtain⟨aL,nL,cL,g7,ac,hL⟩:=Lm f7 ab;obtain⟨made,g8,_⟩:=bM ce f8;have b1:=mZ w1;have b2:=mZ w2;have b3:=mZ w3;have b4:=mZ w4;refine⟨O,W,N,M,K,S,T,aL,nL,cL,made,λj hj=>?_,⟨b2.1,b2.2,b3.1,b3.2,b4.1,b4.2,b1.1,b1.2,s5,s6⟩,hL,ac⟩;match j,hj with
 |0,h=>exact cell 0 h _ g0|1,h=>exact cell 1 h _ g1|2,h=>exact cell 2 h _ g2|3,h=>exact cell 3 h _ g3|4,h=>exact cell 4 h _ g4|5,h=>exact cell 5 h _ g5|6,h=>exact cell 6 h _ g6|7,h=>exact cell 7 h _ g7|8,h=>exact cell 8 h _ g8
end
def TZ(w:w?)(a:Option Addr)(n:Nat):Prop:=∀k,k<n->∃b off O W N M K S T aL nL cL made,a=y? ⟨b,off,x?⟩/\(∀j,j<9->w.cell? ⟨b,off+k*9+j,x?⟩=(Hs O W N M K S T (.slice aL nL cL) made)[j]?)/\R9 N M K W S T/\MC w (.slice aL nL cL)/\K8 w aL nL cL
def AD(W:w?)(b:Nat):Prop:=∃c e f,W.1[b]?=y? (c? c e f)
def PQ(h:MC W v):MC (mj W Mp) v:=by obtain⟨l,⟨a,c,U,Y,h3,h4,h5⟩,g⟩:=h;refine⟨l,⟨a,c,U,Y,h3,h4,λj u O=>?_⟩,g⟩;obtain⟨b,o,e,hc⟩:=h5 j u O;exact⟨b,o,e,js (Dg O) hc⟩
def QE{x:Addr}{l c:Nat}(h:W.cell? a=y? (.slice (y? x) l c)):x.block<W.1.size+(W.1.toList.map P5).sum:=by
 unfold cj at h
 cases O:W.1[a.block]? with
 |none=>rw[O]at h;cases h
 |some o=>
  rw[O]at h
  cases o with
  |cells cs e f=>
   simp only at h;split at h
   cases h;have U:=JM Uz (cx.2 (cw h));have Y:=JM P5 (cx.2 (cw O));simp only[P5,Uz]at U Y;omega
  |_=>cases h
def PA{a:Option Addr}(h:TZ W a n):MS (mj W (AD W)) a n:=λk hk=>by
 obtain⟨b,off,U,Wn,N,M,K,S,T,aL,nL,cL,made,h1,O,h3,h4,h5⟩:=h k hk;refine⟨b,off,U,Wn,N,M,K,S,T,aL,nL,cL,made,h1,λj hj=>?_,h3,PQ h4⟩
 have hn:BD (AD W) (Zo W) (.slice aL nL cL):=by
  cases aL with
  |none=>trivial|some x=>
   by_cases Y:AD W x.block;exact .inl Y;obtain h|h:=h5 x q?
   exact absurd h Y;exact .inr ⟨h.1,h.2,QE (O 7 o!),λc e f he=>Y ⟨c,e,f,he⟩⟩
 match j,hj with
 |0,h=>exact js trivial (O 0 h)|1,h=>exact js trivial (O 1 h)|2,h=>exact js trivial (O 2 h)|3,h=>exact js trivial (O 3 h)|4,h=>exact js trivial (O 4 h)|5,h=>exact js trivial (O 5 h)|6,h=>exact js trivial (O 6 h)|7,h=>exact js hn (O 7 h)|8,h=>exact js trivial (O 8 h)
def L6{args:Array v?}{f:ct}{iD:Func}{c:Code}{v:v?}{tm:Array v?}(U:W.ShapedOpen prog)(hf:prog.funcs[f]?=y? iD)(hb:iD.body=y? c)(O:eP (oY W (AD W)) args args)(aa:args++Array.replicate (iD.ntmps-args.size) c5=tm)
  (h:dk (jk (ending prog λY w=>Y=v/\vg W w) W (AD W)) [⟨f,tm,[.code c]⟩] (mj W (AD W)) []):vk prog (λY w=>Y=v/\vg W w) (solo (G (Frame.enter prog f args .normal) []) W) #[]:=
 IP (E:=jk (ending prog λY w=>Y=v/\vg W w) W (AD W)) (m:=oY W (AD W)) q? (λb hb=>⟨hb.1,(Cz hb.2).symm⟩) (λr b hr hb=>absurd (nj hr).1 (by rw[<-(nj hr).2];exact hb.2)) (Hk _ _ _) (by rw[show(jk _ W (AD W)).w0.1.size=W.1.size from xH W _];exact bO _) ⟨q?,q?⟩ q? hf hb (LP λg hg=>zK U g (Sn hg)) (Mn (Kk U) λ_ h=>h) O (by rw[aa];exact h)
def Ip:cf.name≠ "runtime.NumGoroutine":=by have:cf.name = "hint/hintlaw.plays":=k!;rw[this];decide
def Ae{a:Option Addr}{n cap:Nat}(O:W.ShapedOpen prog)(U:nV W)(hs:TZ W a n)(Y:∀x,a=y? x->∃c e f,W.1[x.block]?=y? (c? c e f))(hn:n<=600000) :
  vk prog (λv' w=>v'=.bool t?/\vg W w) (solo (G (Frame.enter prog 4 #[.slice a n cap] .normal) []) W) #[]:=by
 refine L6 (iD:=Tryz.f4) (c:=eD Tryz.f4) O func4 k! (.one ?_) q? ?_
 .cases a with
  |none=>exact .gq _ _|some x=>exact .slice _ _ (.mk (oK (Y x q?)))
 have aa:=PA hs;have h5:=LJ (Mp:=AD W) O;have ht:=Qh (Mp:=AD W) U;show dk _ (⟨_,#[.slice a n cap,c5,c5,c5,c5],[.code (.seq (.region 0 _ f?) (.seq (.region 1 _ f?) .ret))]⟩::_) _ _;refine dk.seq (dk.region ?_)
 (refine fu ?_;go_simp);refine dk.inRegion (dk.seq (dk.region ?_))
 (refine fu ?_;go_simp);refine dk.sS #[.slice a n cap,n? i? 2,n? i? 9,c5,c5,c5,c5,c5,c5,c5,c5,c5,c5,c5,c5,c5,c5,c5,c5,c5,c5,c5,c5,c5,c5,c5,c5,c5,c5,c5,c5,c5,c5,c5,c5,c5,c5,c5,c5,c5,c5,c5,c5,c5,c5,c5,c5,c5,c5,c5,c5,c5,c5,c5,c5,c5,c5,c5,c5,c5,c5,c5,c5,c5] (i:=1) (iD:=cf) (c:=eD cf) q? q? cg k! Ip q? (by simp[e9,Plain]) k! ?_;refine It q? TS h5 (λy hl=>D7 ⟨ht,h5⟩ hl) aa hn λw2 hl=>?_
 (refine fu ?_;go_simp);refine dk.inRegion ?_;refine R7 (iD:=Tryz.f4) (rs:=#[]) (λ_ h=>h) func4 k! (λk hk=>hl.block k hk) trivial λw=>?_;simp[cq,results4,go_sem,fq]
end
