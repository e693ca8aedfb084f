import Derived.Test.YtocbogeoffeolaaGreatDoorComAH
import Derived.Shelf.SlIter.Sorted
import Derived.Shelf.Strconv.Itoa3
set_option linter.all false
set_option maxHeartbeats 8000000
set_option maxRecDepth 1000000
open Array renaming getElem?_setIfInBounds_ne->bk,getElem_ofFn->bl,getElem?_eq_none->bm,getElem?_eq_some_iff->bn,getElem?_eq_getElem->bo,getElem?_setIfInBounds_self_of_lt->bp,ofFn->bq,ext_getElem?->br
open List renaming mem_cons->bs,getElem?_eq_getElem->bt,not_mem_nil->bu,mem_map->bv,length_map->bw,mem_cons_of_mem->bx,getElem?_map->bz,find?_cons->b0,map_cons->b1
open Go.Proofs.Tryz renaming underlying9->b2,underlying0->b3,zeroValue9->b4,zeroValue0->b6,underlying4->b7,zeroValue4->b8,sizeOf9->b9,sizeOf0->b',isAgg9->bA,isAgg0->bB,underlying229->bC,underlying184->bD,underlying177->bE,underlying141->bF,zeroValue229->bG,zeroValue184->bH,zeroValue177->bI,zeroValue141->bJ,underlying85->bK,sizeOf4->bL,underlying5->bM,underlying3->bN,zeroValue5->bO,zeroValue3->bP,isAgg4->bQ
open Go.RowKit.Below renaming heap_setCell->bR,refl->bS
open Classical renaming choose_spec->bT,choose->bU,byContradiction->bV
open Go renaming FuncId->bW,callsIn_wide->bX,yielded->bY,Calls->bZ,cell_later->ca,TypeId->cb,maxLen->cc
open Option.some renaming injEq->ce
open Go.Region renaming wanted->cf
open Go.RowKit renaming Hid->cg
open Go.World renaming size_alloc->ci,cell?->cj
open Nat renaming le_refl->ck
open Go renaming undef->cn
open And renaming intro->A?
open Bool renaming false->f?,true->t?
open Go renaming Program->P?,Value->v?,World->w?
open Go.Ending renaming returned->e?
open Go.IntKind renaming i64->i?
open Go.Item renaming inRegion->r?
open Go.Obj renaming cells->c?
open Go.Value renaming int->n?,pointer->p?,string->s?
open List renaming length->l?,toArray->a?
open Option renaming none->x?,some->y?
namespace Go.Proofs.YtocbogeoffeolaaGreatDoor
open Go.Proofs.Tryz
section
open Go.Shelf
def CD:Go.Shelf.Ren:=⟨fun|7=>122|10=>163|n=>n,fun|23=>85|26=>9|3=>111|28=>177|0=>0|27=>176|33=>81|4=>4|n=>n,fun|n=>n⟩
def T3:Go.Proofs.SlLaysZ.n7 prog CD:={
 mixed:=k!
 f7:=⟨f122.name,d!,k? func122⟩,f10:=⟨f163.name,d!,k? func163⟩,t0:=b3,a0:=bB,z0:=b',v0:=b6,t4:=b7,a4:=bQ,z4:=bL,v4:=b8,t23:=bK,a23:=isAgg85,z23:=sizeOf85,v23:=zeroValue85,t26:=b2,a26:=bA,z26:=b9,v26:=b4,t27:=underlying176,a27:=isAgg176,z27:=sizeOf176,v27:=zeroValue176,t28:=bE,a28:=isAgg177,z28:=sizeOf177,v28:=bI,t33:=underlying81,a33:=isAgg81,z33:=sizeOf81
 v33:=zeroValue81}
def yf:Go.Shelf.Ren:=⟨fun|6=>121|8=>161|9=>162|11=>216|13=>125|12=>217|23=>172|24=>173|14=>243|15=>244|16=>245|17=>246|18=>247|19=>248|20=>249|21=>250|22=>251|25=>271|26=>219|27=>220|28=>272|29=>273|30=>175|31=>279|n=>n,fun|26=>9|28=>177|24=>31|0=>0|3=>3|37=>184|48=>229|50=>141|4=>4|40=>222|39=>221|45=>226|5=>5|9=>9|51=>272|55=>276|57=>292|58=>212|33=>81|n=>n,fun|n=>n⟩
def RU:Go.Proofs.SlLaysZ.n6 prog yf:={
 mixed:=k!
 f6:=⟨f121.name,d!,k? func121⟩,f8:=⟨f161.name,d!,k? func161⟩,f11:=⟨f216.name,d!,k? func216⟩,t0:=b3,a0:=bB,z0:=b',v0:=b6,t24:=underlying31,a24:=isAgg31,z24:=sizeOf31,v24:=zeroValue31,t26:=b2,a26:=bA,z26:=b9,v26:=b4,t28:=bE,a28:=isAgg177,z28:=sizeOf177,v28:=bI
 i26:=by kernel_rfl}
def E4:Go.Shelf.Ren:=⟨fun|6=>83|15=>125|14=>124|28=>172|29=>173|20=>164|21=>165|22=>166|23=>167|24=>168|25=>169|26=>170|27=>171|46=>218|47=>219|48=>220|49=>221|50=>222|57=>252|n=>n,fun|22=>82|24=>96|25=>133|3=>3|39=>184|0=>0|53=>229|55=>141|4=>4|46=>222|45=>221|50=>226|5=>5|9=>9|66=>272|70=>276|76=>292|77=>212|n=>n,fun|n=>n⟩
def KO:Go.Proofs.SlLaysF0.n6 prog E4:={
 mixed:=k!
 f6:=⟨f83.name,d!,k? func83⟩,f14:=⟨f124.name,d!,k? func124⟩,f15:=func125.trans (congrArg y? k!),f20:=⟨f164.name,d!,k? func164⟩,f21:=⟨f165.name,d!,k? func165⟩,f22:=⟨f166.name,d!,k? func166⟩,f23:=⟨f167.name,d!,k? func167⟩,f24:=⟨f168.name,d!,k? func168⟩,f25:=⟨f169.name,d!,k? func169⟩,f26:=⟨f170.name,d!,k? func170⟩,f27:=⟨Tryz.f171.name,d!,k? func171⟩,f28:=func172.trans (congrArg y? k!),f29:=func173.trans (congrArg y? k!),f46:=⟨f218.name,d!,k? func218⟩,f47:=func219.trans (congrArg y? k!),f48:=func220.trans (congrArg y? k!),f49:=⟨f221.name,d!,k? func221⟩,f50:=⟨f222.name,d!,k? func222⟩,f57:=⟨f252.name,d!,k? func252⟩,t0:=b3,a0:=bB,z0:=b',v0:=b6,t3:=bN,a3:=isAgg3,z3:=sizeOf3,v3:=bP,t4:=b7,a4:=bQ,z4:=bL,v4:=b8,t5:=bM,a5:=isAgg5,z5:=sizeOf5,v5:=bO,t9:=b2,a9:=bA,z9:=b9,v9:=b4,t22:=underlying82,a22:=isAgg82,z22:=sizeOf82,v22:=zeroValue82,t25:=underlying133,a25:=isAgg133,z25:=sizeOf133,v25:=zeroValue133,t39:=bD,a39:=isAgg184,z39:=sizeOf184,v39:=bH,t45:=underlying221,a45:=isAgg221,z45:=sizeOf221,v45:=zeroValue221,t46:=underlying222,a46:=isAgg222,z46:=sizeOf222,v46:=zeroValue222,t50:=underlying226,a50:=isAgg226,z50:=sizeOf226,v50:=zeroValue226,t53:=bC,a53:=isAgg229,z53:=sizeOf229,v53:=bG,t55:=bF,a55:=isAgg141,z55:=sizeOf141,v55:=bJ,t66:=underlying272,a66:=isAgg272,z66:=sizeOf272,v66:=zeroValue272,t70:=underlying276,a70:=isAgg276,z70:=sizeOf276,v70:=zeroValue276,t76:=underlying292,a76:=isAgg292,z76:=sizeOf292,v76:=zeroValue292,t77:=underlying212,a77:=isAgg212,z77:=sizeOf212
 v77:=zeroValue212}
def Ep:Go.Shelf.Ren:=⟨fun|171=>85|243=>129|246=>176|283=>223|284=>224|285=>225|286=>226|129=>173|317=>253|318=>254|319=>255|320=>256|337=>274|338=>275|n=>n,fun|3=>3|9=>9|2=>2|4=>4|171=>278|0=>0|53=>141|37=>60|5=>5|173=>280|212=>295|51=>229|20=>20|213=>296|46=>184|232=>312|233=>313|n=>n,fun|17=>2|18=>3|19=>4|n=>n⟩
def Qn:Go.Proofs.LaysM.n171 prog Ep:={
 mixed:=k!
 f129:=func173.trans (congrArg y? k!),f171:=func85.trans (congrArg y? k!),f243:=func129.trans (congrArg y? k!),f246:=func176.trans (congrArg y? k!),f283:=func223.trans (congrArg y? k!),f284:=func224.trans (congrArg y? k!),f285:=func225.trans (congrArg y? k!),f286:=func226.trans (congrArg y? k!),f317:=func253.trans (congrArg y? k!),f318:=func254.trans (congrArg y? k!),f319:=func255.trans (congrArg y? k!),f320:=func256.trans (congrArg y? k!),f337:=func274.trans (congrArg y? k!),f338:=func275.trans (congrArg y? k!),t0:=b3,a0:=bB,z0:=b',v0:=b6,t2:=underlying2,a2:=isAgg2,z2:=sizeOf2,v2:=zeroValue2,t3:=bN,a3:=isAgg3,z3:=sizeOf3,v3:=bP,t4:=b7,a4:=bQ,z4:=bL,v4:=b8,t5:=bM,a5:=isAgg5,z5:=sizeOf5,v5:=bO,t9:=b2,a9:=bA,z9:=b9,v9:=b4,t20:=underlying20,a20:=isAgg20,z20:=sizeOf20,v20:=zeroValue20,t37:=underlying60,a37:=isAgg60,z37:=sizeOf60,v37:=zeroValue60,t46:=bD,a46:=isAgg184,z46:=sizeOf184,v46:=bH,t51:=bC,a51:=isAgg229,z51:=sizeOf229,v51:=bG,t53:=bF,a53:=isAgg141,z53:=sizeOf141,v53:=bJ,t171:=underlying278,a171:=isAgg278,z171:=sizeOf278,v171:=zeroValue278,t173:=underlying280,a173:=isAgg280,z173:=sizeOf280,v173:=zeroValue280,t212:=underlying295,a212:=isAgg295,z212:=sizeOf295,v212:=zeroValue295,t213:=underlying296,a213:=isAgg296,z213:=sizeOf296,t232:=underlying312,a232:=isAgg312,z232:=sizeOf312,v232:=zeroValue312,t233:=underlying313,a233:=isAgg313,z233:=sizeOf313,v233:=zeroValue313,g17:=k!
 g18:=k!
 g19:=k!
 i0:=k!
 i2:=k!
 i3:=k!
 i4:=k!
 i5:=k!
 i9:=k!
 i20:=k!
 i37:=k!
 i46:=k!
 i51:=k!
 i53:=k!
 i171:=k!
 i173:=k!
 i212:=k!
 i232:=k!
 i233:=k!
 m17:=k!
 m18:=k!
 m19:=by kernel_rfl}
open Go.RowKit Go.Maps Go.Sort
def Ow(m):AnyZ.SortsIn prog yf Fence.wide m:=
 ⟨λblk off cap ss W U B O=>bX.2 (Any.slices_Sort_string yN blk off cap ss W U B O),
  λp cap W=>bX.2 (Any.slices_Sort_string_none yN p cap W)⟩
def QC(B)(w):bZ prog 122 #[.map (y? B)] w λe w'=>e=e? (.func (.func 163) #[] #[p? (y? ⟨w.1.size,0,x?⟩)])/\w'=w.alloc (c? #[.map (y? B)] 85):=
 bX.1 (AnyZ.keys_in T3 _ 5 trivial q? _ w)
def Gg(B)(l)(w)(h:dU prog 9 w B l)(hl:l? l<=100000) :
  bZ prog 121 #[.func (.func 163) #[] #[p? (y? ⟨w.1.size,0,x?⟩)]] (w.alloc (c? #[.map (y? B)] 85)) λe w'=>∃v,e=e? v/\
   w'.ownsRow (w.1.size+1) 9 1 v l.length (dy ((l.map Prod.fst).mergeSort λx y=>decide (x<=y)))/\Below (w.1.size+1) (w.alloc (c? #[.map (y? B)] 85)) w':=by
 obtain⟨D,O,W⟩:=h;have ad:=O.lt
 have Y:SeqGives Fence.wide 2 _ _ #[p? (y? ⟨w.1.size,0,x?⟩)] encStr _ _ (w.alloc (c? #[.map (y? B)] 85)):=
  AnyZ.keys_gives (ρ:=CD) {T3 with} _ _ trivial q? o! _ B _ D _ i! i! (by
   obtain⟨es,clock,hb,Ft,W,hD⟩:=O
   exact⟨es,clock,(Below.heap_alloc _ _ B ad).trans hb,Ft,W,hD⟩)
 have hc:=bX.1 (AnyZ.sorted_in RU _ 5 trivial trivial trivial trivial q? o! (Ow _) (enters_of func162 k! q?) _ _ trivial (enters_of func163 k! q?) _ _ (by rw[W.size];unfold cc;omega) (by rw[W.size];omega) _ Y);refine hc.mono ?_;rintro e w' ⟨v,ss,rfl,hp,U,_,hb⟩
 have aa:Collected D (λ_=>f?) _:=⟨W.nodup,λx=>by
  rw[W.has x]
  simp⟩
 have ab:=hp.trans (aa.perm O (string_keyed k!) k! (λ_=>rfl)).symm;have ac:l? ss=l? l:=by rw[ab.length_eq];simp
 rw[ci]at U hb;refine⟨v,q?,?_,hb⟩;rw[ac,mergeSort_of_perm ab]at U;exact U
end
section
open Go.Conc Go.RowKit Go.Maps
variable {es:List dD} {ms:List v?} {cap num:Nat} {w w':w?}
structure Ask where
 m:Nat
 q:ByteArray
 t:Nat
structure Ask.Ok(A:Ask):Prop where
 m:A.m<=3
 t:A.t<256
 q:A.q.size<=1048576
def Ask.has(A:Ask)(e:dD):Bool:=!e.gone&&(mO A.t e.dE.toNat&&ik A.m A.q.1.1 (eA e.text))
def bytes(l:Wd):ByteArray:=⟨a? l⟩
def pg(A:Ask)(k:Nat)(p:Nat×dD):v?:=if A.has p.2=t? then Bq k p.1 (bytes p.2.name) t? (bytes (yy p.2)) (bytes p.2.text) p.2.dn p.2.dE else Bq k p.1 (bytes p.2.name) f? QG QG 0 0
def rO(es:List dD):List dD:=es.mergeSort λa b=>decide (a.name<=b.name)
def iF(es:List dD):List (Nat×dD):=(rO es).zipIdx.map λp=>(p.2,p.1)
def oP(es):(rO es).Perm es:=List.mergeSort_perm ..
def GQ(es):(rO es).map dD.name=(es.map dD.name).mergeSort λx y=>decide (x<=y):=List.map_mergeSort λ_ _ _ _=>rfl
def sO(es)(k:Nat):(iF es)[k]?=((rO es)[k]?).map λe=>(k,e):=by simp[iF,List.getElem?_zipIdx];cases(rO es)[k]?<;>rfl
def GF(es):(iF es).length=l? es:=by simp[iF,(oP es).length_eq]
def GZ{k}(B:k<l? es):∃e,(rO es)[k]?=y? e/\e∈es/\((es.map dD.name).mergeSort λx y=>decide (x<=y))[k]?=y? e.name:=by
 have h:k<(rO es).length:=by rw[(oP es).length_eq];exact B
 refine⟨(rO es)[k],bt h,(oP es).mem_iff.1 (List.getElem_mem h),?_⟩;rw[<-GQ,bz,bt h];rfl
def M5(B:(es.map dD.name).Nodup){e}(O:e∈es)(z):nS (es.map kB) e.name z=sw e:=by
 have:(es.map kB).find? (λp=>p.1==e.name)=y? (kB e):=by
  induction es with
  |nil=>cases O
  |cons x es W=>
   rw[b1,List.nodup_cons]at B;rw[b1,b0];by_cases U:x.name=e.name;obtain rfl|h:=bs.1 O
   simp[kB];exact absurd (List.mem_map_of_mem h) (U▸B.1);have:((kB x).1==e.name)=f?:=by simpa[kB]using U
   rw[this];obtain rfl|h:=bs.1 O
   exact absurd q? U;exact W B.2 h
 unfold nS;rw[this];rfl
structure SW(w:w?)(num:Nat)(es:List dD)(A:Ask)(cap:Nat)(ms:List v?):Prop where
 c0:w.cell? ⟨5,0,none⟩=some (.chan (some 10))
 c1:w.cell? ⟨6,0,none⟩=some (.map (some 11))
 c2:w.cell? ⟨7,0,none⟩=some (.int .i64 num)
 c3:w.cell? ⟨8,0,none⟩=some (.int .i64 A.m)
 c4:w.cell? ⟨8,1,none⟩=some (.string A.q)
 c5:w.cell? ⟨8,2,none⟩=some (.int .i64 A.t)
 ch:w.1[10]?=some (.chan cap ms.toArray false ms.length 0 false)
 sm:eT w 11 es
def SW.lt{A}(h:SW w num es A cap ms):11<w.1.size:=h.sm.lt
def SW.ext{A}(h:SW w num es A cap ms)(B:eJ w w'):SW w' num es A cap ms:=by have O:=h.lt;exact⟨(B.cell (p:=⟨5,0,x?⟩) (by show(5)<_;omega)).trans h.c0,(B.cell (p:=⟨6,0,x?⟩) (by show(6)<_;omega)).trans h.c1,(B.cell (p:=⟨7,0,x?⟩) (by show(7)<_;omega)).trans h.c2,(B.cell (p:=⟨8,0,x?⟩) (by show(8)<_;omega)).trans h.c3,(B.cell (p:=⟨8,1,x?⟩) (by show(8)<_;omega)).trans h.c4,(B.cell (p:=⟨8,2,x?⟩) (by show(8)<_;omega)).trans h.c5,(B.block 10 o!).trans h.ch,h.sm.below B⟩
def SW.tp{A:Ask}(h:SW w num es A cap ms)(τ:Tape):SW (tp w τ) num es A cap ms:=by obtain⟨B,O,U,W,Y,h6,h7,D,h8,h9⟩:=h;exact⟨B,O,U,W,Y,h6,h7,D,h8,h9⟩
def SW.wV{A}(h:SW w num es A cap ms)(B:kO w w'):SW w' num es A cap ms:=by obtain⟨τ,B⟩:=B;exact(h.tp τ).ext B
def SW.ix{A}(h:SW w num es A cap ms)(v):SW {w with heap:=w.1.setIfInBounds 10 (.chan cap (ms.toArray.push v) f? (l? ms+1) 0 f?)} num es A cap (ms++[v]):=by
 have U:=h.lt;have hb:∀k,k≠10->(w.1.setIfInBounds 10 (.chan cap (ms.toArray.push v) f? (l? ms+1) 0 f?))[k]?=w.1[k]?:=λk O=>by rw[bk (Ne.symm O)]
 have B:∀(k o:Nat),k≠10->cj {w with heap:=w.1.setIfInBounds 10 (.chan cap (ms.toArray.push v) f? (l? ms+1) 0 f?)} ⟨k,o,x?⟩=w.cell? ⟨k,o,x?⟩:=λk o O=>by simp only[cj,hb k O]
 refine⟨(B 5 0 o!).trans h.c0,(B 6 0 o!).trans h.c1,(B 7 0 o!).trans h.c2,(B 8 0 o!).trans h.c3,(B 8 1 o!).trans h.c4,(B 8 2 o!).trans h.c5,?_,h.sm.stay (hb 11 o!)⟩;rw[bp o!];simp
def sH:List Deferred:=[⟨.collected 9,#[.chan (y? 10)]⟩]
def CA{f tm rest w L Kp Q}(h:rest.wp prog Q ⟨tm,sH⟩ w)
  (Y:∀e a w',Q e a w'->(e=.normal\/e=.ret)/\a.defers=sH/\(∃cap U s r t,w'.1[10]?=y? (.chan cap U f? s r t)/\U.toList=L)/\Kp w') :
  ∃n B,runN prog n (lone ⟨f,tm,[.code rest],sH,.run,.normal,x?⟩ [door prog] w)=.next (LS.m B)/\OV prog f L Kp B:=by
 obtain⟨e,a,w',hq,O⟩:=h ⟨f,#[],[],[],.run,.normal,x?⟩ [] _;obtain⟨he,hd,hh,hk⟩:=Y e a w' hq
 have hr:∃td n,runN prog n (lone ⟨f,tm,[.code rest],sH,.run,.normal,x?⟩ [door prog] w)=.next (lone ⟨f,a.tmps,td,a.defers,.returning,.normal,x?⟩ [door prog] w'):=by
  obtain rfl|rfl:=he
  obtain⟨n,W⟩:=(show Steps .. from O).trans (.one step_end);exact⟨[],n,W⟩;obtain⟨td,n,W⟩:=O;exact⟨td,n,W⟩
 obtain⟨td,n,W⟩:=hr;exact⟨n,⟨⟨f,a.tmps,td,a.defers,.returning,.normal,x?⟩,[door _],w'⟩,W,q?,q?,hd,q?,hh,hk⟩
def UX(L:List v?)(o:Option Obj):Exit->Act->w?->Prop:=λe a w'=>(e=.normal\/e=.ret)/\a.defers=sH/\(∃cap B s r t,w'.1[10]?=y? (.chan cap B f? s r t)/\B.toList=L)/\w'.1[11]?=o
def Nt{w w':w?}{base e sz n:Nat}{v xs}(h:w.ownsRow base e sz v n xs)(hb:∀g,base<=g->g<w.1.size->w'.1[g]?=w.1[g]?):w'.ownsRow base e sz v n xs:=by
 obtain⟨W,B⟩:=h;refine⟨W,?_⟩;obtain B|⟨g,cap,cur,Y,O,U,h5⟩:=B
 exact .inl B;exact .inr ⟨g,cap,cur,Y,O,(hb g O (bn.1 U).1).trans U,h5⟩
def An{w y}(h:kO w y)(g)(B:g<w.1.size):y.1[g]?=w.1[g]?:=by obtain⟨τ,h⟩:=h;exact h.block g B
def V3(num)(es)(A)(hA:A.Ok)(cap)(w)(h:SW w num es A cap [])(ai:l? es<=cap)(hl:l? es<=100000)(aj:∀e∈es,l? e.name<=cc/\l? e.text<=1048576/\(e.gone=f?->0<=e.dE/\e.dE<=255))(a9:num<=1000) :
  (xj f120).wp prog (UX ((iF es).map (pg A num)) (w.1[11]?)) ⟨(xe 120 27 6 .skip).tmps,sH⟩ w:=by
 have HS:cg _:=h;have c1:=h.c1;obtain⟨D,hD⟩:∃D,D=(iF es).map (pg A num):=⟨_,q?⟩;have HD:cg _:=hD;rw[<-hD];clear hD;have W:=Gg 11 (es.map kB) w h.sm (u! hl);have HK:cg (∀y,y=w->bZ prog 122 #[.map (y? 11)] y λe w'=>e=e? (.func (.func 163) #[] #[p? (y? ⟨w.1.size,0,x?⟩)])/\w'=w.alloc (c? #[.map (y? 11)] 85)):=λy O=>by subst O;exact QC 11 _
 rw[show(xe 120 27 6 .skip).tmps=#[p? (y? ⟨5,0,x?⟩),p? (y? ⟨6,0,x?⟩),p? (y? ⟨7,0,x?⟩),p? (y? ⟨8,0,x?⟩),cn,cn,.chan (y? 10),cn,cn,cn,cn,cn,cn,cn,cn,cn,cn,cn,cn,cn,cn,cn,cn,cn,cn,cn,cn]from rfl];show Code.wp prog (Code.seq (Code.region 1 _ f?) (Code.block 0 (Code.loop _))) _ _ _;obtain⟨N,hN⟩:∃N,N=(es.map dD.name).mergeSort λx y=>decide (x<=y):=⟨_,q?⟩;have ak:(es.map kB).map Prod.fst=es.map dD.name:=by simp[kB]
 rw[ak,<-hN,bw]at W;have Y:l? es=l? N:=by rw[hN];simp
 rw[Y]at W ai hl;have al:=W;have HN:cg _:=hN;have am:cg _:=Y;have a4:cg _:=aj;have a5:=h.lt;clear W hN Y ak aj h;go_wp2_with (go_at_call 122;refine(HK _ q?).mono ?_;rintro e y ⟨rfl,rfl⟩);refine al.mono ?_;rintro e y ⟨v,rfl,U,hb⟩;obtain⟨av,cv,rfl,a'⟩:=dH U
 have HX:cg (eJ w y):=by show Below _ _ _;exact((bS _ _).alloc (ck _) _).trans (Below.mono hb o!)
 have HR:cg (y.ownsRow 12 9 1 (.slice av N.length cv) N.length (dy N)):=ownsRow_base_a U o!;clear U hb HK al;have HS1:cg (SW y num es A cap []):=HS.ext HX;have HK1:cg (y.1[11]?=w.1[11]?):=HX.block 11 a5;clear HX HS c1;go_wp2_with fail;go_loopw [11] (λi wr=>∃k:Nat,k<=l? N/\i=n? i? k/\SW wr num es A cap (D.take k)/\wr.ownsRow 12 9 1 (.slice av N.length cv) N.length (dy N)/\wr.1[11]?=w.1[11]?) (λi _=>l? N-(intOf i).toNat)
 case atStart=>exact⟨0,Nat.zero_le _,q?,HS1,HR,HK1⟩
 case round=>
  obtain⟨k,hk,rfl,an,ao,ap⟩:=hrel;have B:cg _:=an;have aa:cg _:=ao;have ab:cg _:=ap;clear an ao ap HS1 HR HK1;have aq:cg (l? D=l? N):=by show _=_;rw[HD.out,bw,GF,am.out]
  by_cases hlt:k<l? N
  .obtain⟨bg,og,rfl,ac⟩:=fy aa k _ (lK N k hlt);go_upto_region 4 with fail;obtain⟨e,ar,ad,ae⟩:=GZ (es:=es) (k:=k) (by rw[am.out];exact hlt)
   have au:N[k]=e.name:=by rw[<-HN.out,bt hlt,ce]at ae;exact ae
   rw[au];obtain⟨aw,ax,ay⟩:=a4.out e ad
   have HM:cg (∀y:w?,bZ prog 119 #[.agg #[n? i? num,n? i? k],s? ⟨a? e.name⟩,sw e,.agg #[n? i? A.m,s? A.q,n? i? A.t]] y λx w'=>x=e? (pg A num (k,e))/\eJ y w'):=λy=>by refine(EW num k ⟨a? e.name⟩ e.gone ⟨(yy e).toArray⟩ ⟨a? e.text⟩ e.dn e.dE A.m A.t A.q y hA.m hA.t ay hA.q (by show e.text.toArray.size<=_;simpa using ax)).mono ?_;rintro x w' ⟨h1,h2⟩;exact⟨h1,h2⟩
   have af:cg (∀y,SW y num es A cap (D.take k)->(Instr.lookup 85 (.map (y? 11)) (s? ⟨a? e.name⟩) f?).run prog y=.ok (sw e) y):=λy O=>by rw[(dU.look O.sm b2 bK (KP y) e.name aw).1,M5 (by have:=O.sm.nodup;simpa[kB]using this) ad]
   have az:D[k]?=y? (pg A num (k,e)):=by rw[HD.out,bz,sO,ar];rfl
   have HT:cg (D.take (k+1)=D.take k++[pg A num (k,e)]):=by obtain⟨a6,a7⟩:=List.getElem?_eq_some_iff.1 az;show _=_;rw[List.take_succ_eq_append_getElem a6,a7]
   obtain⟨sv,a0⟩:∃sv,sv=sw e:=⟨_,q?⟩;obtain⟨mv,a1⟩:∃mv,mv=pg A num (k,e):=⟨_,q?⟩;rw[<-a0]at HM af;rw[<-a1]at HM HT;clear a0 a1 au aw ax ay ar ad ae az ac;refine jC (Sd:=λa y=>pE _ _ _ [10] a y) (last:=10) (tl:=[]) k! ?_ (λa y h _=>h);refine dX 0 ?_ ?_<|dX 1 ?_ ?_<|dX 2 ?_ ?_<|dX 3 ?_ ?_<|dX 4 ?_ ?_<|dX 5 ?_ ?_<|dX 6 ?_ ?_<|dX 7 ?_ ?_<|dX 8 ?_ ?_ ?_
   any_goals(intro y O;have q:=(B.wV O).c0;have q1:=(B.wV O).c2;have q2:=(B.wV O).c1;have q3:=af.out y (B.wV O);have q4:=(B.wV O).c3;have q5:=(B.wV O).c4;have q6:=(B.wV O).c5;unfold fL;go_simp;refine⟨eJ.refl _,?_⟩;with_reducible rfl)
   go_simp;refine dX 9 ?_ ?_ ?_;rotate_left
   .intro y O;unfold fL;go_simp;refine⟨q?,(HM y).mono ?_⟩;rintro e y2 ⟨rfl,h2⟩;refine⟨_,q?,h2,?_⟩;with_reducible rfl
   go_simp;refine qY k! (λt=>Q3 k! _ _) ?_;intro y O;have ag:=B.wV O;have a8:=aq.out;refine A7 (v:=mv) q? q? q? q? q? q? ag.ch j! ?_;have ah:=ag.ix mv;rw[<-HT.out]at ah
   have a2:=Nt (w':={y with heap:=y.1.setIfInBounds 10 (.chan cap ((D.take k).toArray.push mv) f? ((D.take k).length+1) 0 f?)}) aa (λg h1 h2=>by
    show(y.1.setIfInBounds 10 _)[g]?=_;rw[bk o!]
    exact An O g h2)
   have a3:({y with heap:=y.1.setIfInBounds 10 (.chan cap ((D.take k).toArray.push mv) f? ((D.take k).length+1) 0 f?)}:w?).1[11]?=w.1[11]?:=by show(y.1.setIfInBounds 10 _)[11]?=_;rw[bk o!,An O 11 B.lt];exact ab
   generalize ({y with heap:=y.1.setIfInBounds 10 (.chan cap ((D.take k).toArray.push mv) f? ((D.take k).length+1) 0 f?)}:w?)=w3 at *;have HS4:cg _:=ah;have HR4:cg _:=a2;have HK4:cg _:=a3;clear ah a2 a3 O ag a8 HM af HT B aa ab;go_wp2;go_roundw
   case rel=>exact⟨k+1,hlt,i!,HS4,HR4,HK4⟩
   case measure=>simp[intOf];omega
  obtain rfl:k=l? N:=o!;go_wp2;exact⟨.inl q?,q?,⟨_,_,_,_,_,B.ch,by rw[List.toList_toArray,<-aq.out,List.take_length]⟩,ab⟩
end
section
open Go.Conc Go.RowKit Go.Maps
variable {ops:Array Oper} {c x y:Code} {rest:List Nat} {i:Nat} {o:Oper} {v:v?}
def WK(dd q K:Nat)(m:Ren):Prop:=(m.dead=λr=>r=dd)/\m.dm dd=q/\∀r,m.loose r->r<K
def oe(P)(Z:mE P)(w:w?)(T:List Frame)(dd q K:Nat)(lent:Bool):Env P where
 Z:=Z
 gu:=λb=>b<w.1.size/\(lent=t?->b≠q)
 w0:=w
 T:=T
 gl:=λg=>Di g=t?
 st:=f?
 gE:=λf=>NM f=t?
 ok:=Qs P NM Di f?
 X:=WK dd q K
 le:=λm B h ⟨O,U,W⟩=>⟨h.dead.trans O,by rw[h.dm];exact U,λr Y=>W r (h.less r Y)⟩
def Ej{Z w T dd q K lent}(m)(B:m.ok=(oe prog Z w T dd q K lent).ok)(O:m.gE=(oe prog Z w T dd q K lent).gE)(U:m.G=prog.globals.size):mF prog m (oe prog Z w T dd q K lent).gl (oe prog Z w T dd q K lent).st:=V9 B O (U.trans zZ)
section
variable {P:P?} {E:Env P} {fn:bW} {tm:Array v?} {os:List OF} {wl:w?} {V:List (Nat×Option (List v?))} {k:List Item}
def dk.pj(τ)(h:dk E os wl V):dk E os (tp wl τ) V:=dk.tape (τ:=wl.tape) h
def Ji(E:Env P)(fn:bW)(k:List Item)(os:List OF)(V:List (Nat×Option (List v?))):Exit->Act->w?->Prop:=λe a w'=>a.defers=[]/\∃k',((e=.normal/\k'=k)\/∃id,e=.exit id/\exitTo id k=y? k')/\dk E (⟨fn,a.tmps,k'⟩::os) w' V
def dk.Km(B:gG E.ok c)(O:k.all lG=t?)(U:wF E os)(h:∀τ,Bo τ wl->c.wp P (Ji E fn k os V) ⟨tm,[]⟩ (tp wl τ)):dk E (⟨fn,tm,.code c::k⟩::os) wl V:=dk.code B O U h λ_ _ _ h=>h
def dk.TO(U:ops[i]?=y? o)(O:cf o (bY ops tm)=t?)(W:OkOp P E.gE E.gl E.st o.op)
  (B:∀τ,fL P o ⟨tm,[]⟩ (tp wl τ) (λv y=>dk E (⟨fn,(Act.put ⟨tm,[]⟩ o.dst v).tmps,r? ops rest::k⟩::os) y V)):dk E (⟨fn,tm,r? ops (i::rest)::k⟩::os) wl V:=by
 refine dk.any U O W λτ=>?_;have:=B τ;refine iJ.mono (λv y h=>?_) this;rw[wq]at h;exact h
def Same(y B:w?):Prop:=B=y
def dk.pu(O:ops[i]?=y? o)(B:cf o (bY ops tm)=t?)(U:OkOp P E.gE E.gl E.st o.op)(W:∀y,fL P o ⟨tm,[]⟩ y λu Y=>Same y Y/\u=v)
  (h:dk E (⟨fn,(Act.put ⟨tm,[]⟩ o.dst v).tmps,r? ops rest::k⟩::os) wl V):dk E (⟨fn,tm,r? ops (i::rest)::k⟩::os) wl V:=
 dk.TO O B U λτ=>(W _).mono λ_ _ hh=>by obtain⟨rfl,rfl⟩:=hh;exact dk.pj τ h
end
section
variable {Z:mE prog} {w:w?} {T:List Frame} {dd q K:Nat} {lent:Bool} {fn:bW} {tm:Array v?} {os:List OF} {wl:w?} {V:List (Nat×Option (List v?))} {k:List Item}
def Vu(U:ops[i]?=y? o)(O:cf o (bY ops tm)=t?)(W:GN prog NM Di f? o.op=t?)
  (B:∀τ,fL prog o ⟨tm,[]⟩ (tp wl τ) (λv y=>dk (oe prog Z w T dd q K lent) (⟨fn,(Act.put ⟨tm,[]⟩ o.dst v).tmps,r? ops rest::k⟩::os) y V)):dk (oe prog Z w T dd q K lent) (⟨fn,tm,r? ops (i::rest)::k⟩::os) wl V:=
 dk.TO U O (xb W) B
def fG(h:dk (oe prog Z w T dd q K lent) (⟨fn,(Act.put ⟨tm,[]⟩ o.dst v).tmps,r? ops rest::k⟩::os) wl V)(O:ops[i]?=y? o:=by rfl)(U:∀y,fL prog o ⟨tm,[]⟩ y (λu W=>Same y W/\u=v):=by intro y;unfold fL;go_simp;refine⟨q?,?_⟩;with_reducible rfl)
  (B:cf o (bY ops tm)=t?:=by rfl) (Y:GN prog NM Di f? o.op=t?:=by kernel_rfl):dk (oe prog Z w T dd q K lent) (⟨fn,tm,r? ops (i::rest)::k⟩::os) wl V:=dk.pu O B (xb Y) U h
def pn(W:ops[i]?=y? o)(O:cf o (bY ops tm)=t?)(Y:GN prog NM Di f? o.op=t?)
  (B:∀U:w?,U.1=wl.1->U.os=wl.os->fL prog o ⟨tm,[]⟩ U (λv y=>dk (oe prog Z w T dd q K lent) (⟨fn,(Act.put ⟨tm,[]⟩ o.dst v).tmps,r? ops rest::k⟩::os) y V)):dk (oe prog Z w T dd q K lent) (⟨fn,tm,r? ops (i::rest)::k⟩::os) wl V:=
 Vu W O Y λτ=>B _ q? rfl
def kR(B:ll (λo=>GN prog NM Di f? o.op) c=t?)(U:k.all lG=t?)(W:wF (oe prog Z w T dd q K lent) os)(h:∀O:w?,O.1=wl.1->O.os=wl.os->c.wp prog (Ji (oe prog Z w T dd q K lent) fn k os V) ⟨tm,[]⟩ O):dk (oe prog Z w T dd q K lent) (⟨fn,tm,.code c::k⟩::os) wl V:=
 dk.Km (qE B) U W λτ _=>h _ q? rfl
def dk.rN{P}{E:Env P}{c}(B:wH c)(e:kE tm c=.bool t?)(h:dk E (⟨fn,tm,.code x::k⟩::os) wl V):dk E (⟨fn,tm,.code (.cond c x y)::k⟩::os) wl V:=dk.cond B e h
def dk.nh{P}{E:Env P}{c}(B:wH c)(e:kE tm c=.bool f?)(h:dk E (⟨fn,tm,.code y::k⟩::os) wl V):dk E (⟨fn,tm,.code (.cond c x y)::k⟩::os) wl V:=dk.cond B e h
def kh(d)(tm)(v):fq d tm v=(Act.put ⟨tm,[]⟩ d v).tmps:=by rw[wq]
def iN{P}{E:Env P}{tmps w'}(h:dk E (⟨fn,tmps,k⟩::os) w' V):Ji E fn k os V .normal ⟨tmps,[]⟩ w':=⟨q?,k,.inl ⟨q?,q?⟩,h⟩
end
section
open Go.Conc Go.RowKit Go.Maps
structure tC(ex:Obj)(es:List dD):Prop where
 isMap:∃a c,ex=.map a c
 Wj:∀m:Ren,OR m ex ex
 inv:∀(m:Ren)o',OR m ex o'->o'=ex
 say:∀(w:w?)(B:Nat),w.1[B]?=some ex->eT w B es
def bb(s:Nat):Nat->Nat|0=>s+4|1=>s+1|2=>s|_=>s+2
def O7(A:Ask):Array v?:=#[n? i? A.m,s? A.q,n? i? A.t]
def VI(s:Nat)(v:v?)(num:Nat)(A:Ask):Nat->Array v?|0=>#[.chan (y? (s+3))]|1=>#[v]|2=>#[n? i? num]|_=>O7 A
abbrev Wo(s dd num:Nat)(A:Ask):Nat->Array v?:=VI s (.map (y? dd)) num A
def W4(num:Nat)(A:Ask):Nat->Array v?|0=>#[.chan (y? 10)]|1=>#[.map (y? 11)]|2=>#[n? i? num]|_=>O7 A
def VK(t:cb):Nat->cb|0=>167|1=>t|2=>3|_=>94
abbrev Wb:Nat->cb:=VK 85
def Kz(s i):s<=bb s i/\bb s i<s+5:=by unfold bb;split<;>omega
def Qq(s):∀i j,i<4->j<4->bb s i=bb s j->i=j:=by intro i j B O h;have:i=0\/i=1\/i=2\/i=3:=o!;have:j=0\/j=1\/j=2\/j=3:=o!;obtain rfl|rfl|rfl|rfl:=‹i=0\/_›<;>obtain rfl|rfl|rfl|rfl:=‹j=0\/_›<;>simp[bb]at h⊢
def Flat.arr{c}(h:∀i(B:i<c.size),Flat c[i]){m mi O}(U:eP m c O):eP mi c O:=by
 have:O=c:=by apply br;intro i;by_cases B:i<c.size;obtain⟨W,Y,h2⟩:=U.get (bo B);rw[Y,(h i B).eq m W h2,bo B];rw[bm (by rw[<-U.size];omega),bm o!]
 subst this;exact eP.iP q? λi B _=>(h i B).refl mi
def GJ(A)(k)(p):Flat (pg A k p):=by
 unfold pg;split;refine .agg λi B=>?_;have:=B;match i,this with
 |0,_|1,_|6,_|7,_=>exact .int ..|2,_|4,_|5,_=>exact .string _|3,_=>exact .bool _
 refine .agg λi B=>?_;have:=B;match i,this with
 |0,_|1,_|6,_|7,_=>exact .int ..|2,_|4,_|5,_=>exact .string _|3,_=>exact .bool _
def LK{Z w T dd q K num s A es ex}{U:w?}{os}(hA:A.Ok)(hK:K<=s+5)(h5:5<=s)(ag:dd<s)
  (hc:∀i,i<4->U.1[bb s i]?=y? (c? (Wo s dd num A i) (Wb i) (0,0))) (aa:5<=q) (hq:q<w.1.size) (ab:w.1[q]?=y? ex) (hM:tC ex es) (ac:∀(m)(r:Nat)(o),U.1[r]?=y? o->¬OR m o ex)
  (hl:l? es<=100000) (ad:∀e∈es,l? e.name<=cc/\l? e.text<=1048576/\(e.gone=f?->0<=e.dE/\e.dE<=255)) (W:num<=1000) :
  Sends (oe prog Z w T dd q K f?) (oe prog Z w T dd q (s+5) t?) 120 (yF (bb s)) os os U (uu U [bb s 0,bb s 1,bb s 2,bb s 3]) (s+3) ((iF es).map (pg A num)):=by
 refine He (cm:=Wo s dd num A) (cd:=W4 num A) (te:=Wb) (fz:=λ_=>(0,0)) (M:=y? q) (ex:=ex) (cap:=l? es) Vj q? q? d! d! d! Ve (λv hv=>?_) ⟨q?,q?,q?,q?,q?,Ej,λm B=>?_,λb=>?_,λi hi=>?_,Qq s,hc,λm B i hi=>?_,q?,q?,λi O h4 m mi w' a' B hw ae ha=>?_,λb hb=>?_⟩ λτ=>?_;obtain⟨p,_,rfl⟩:=bv.1 hv;exact GJ A num p;obtain⟨x1,x2,x3⟩:=B.x;refine⟨x1,x2,λr B=>?_⟩;obtain B|B:=B
 have:=x3 r B;omega;simp only[bs,bu,or_false,bb]at B;omega;simp only[oe,ne_eq,ce];constructor;rintro⟨O,Y⟩;exact⟨⟨O,λh=>by cases h⟩,λe=>Y trivial e.symm⟩;rintro⟨⟨O,_⟩,Y⟩;exact⟨O,λ_ e=>Y e.symm⟩;have:=Kz s i;omega;obtain⟨x1,_,_⟩:=B.x;rw[x1];have:=(Kz s i).1;show ¬(bb s i=dd);omega;obtain⟨x1,x2,_⟩:=B.x;have:i=1\/i=2\/i=3:=o!;obtain rfl|rfl|rfl:=this
 have hz:=ha.size;obtain⟨v',e1,e2⟩:=ha.get (show(Wo s dd num A 1)[0]?=y? (.map (y? dd))from rfl)
 have hv:v'=.map (y? q):=by
  cases e2 with
  |gone hd=>rw[x2]|map hb=>rw[(hw.dead dd (by rw[x1])).1]at hb;cases hb
 subst hv
 have:a'=#[.map (y? q)]:=by
  apply br;intro j;match j with
  |0=>rw[e1];rfl|j+1=>rw[bm (by rw[<-hz];show 1<=j+1;omega),bm (by show 1<=j+1;omega)]
 subst this;exact eP.one (.map (ae q q?))
 exact Flat.arr (c:=#[n? _ num]) (λj hj=>by
  have:=hj;match j,this with
  |0,_=>exact .int ..) ha
 exact Flat.arr (c:=O7 A) (λj hj=>by
  have:=hj;match j,this with
  |0,_=>exact .int ..|1,_=>exact .string _|2,_=>exact .int ..) ha
 cases hb;obtain⟨a,c,e⟩:=hM.isMap;exact⟨aa,⟨hq,nofun⟩,ab,hM.Wj,hM.inv,λa' e' f' h=>(by rw[h]at e;cases e),ac⟩
 have af:SW (tp (uE U (W4 num A) Wb es.length ex) τ) num es A es.length []:=by refine⟨q?,q?,q?,q?,q?,q?,q?,hM.say _ _ q?⟩
 exact CA (V3 num es A hA _ _ af (ck _) hl ad W) λe a w' ⟨O,Y,h3,h4⟩=>⟨O,Y,h3,.inr (h4.trans q?)⟩
end
section
open Go.Conc Go.RowKit Go.Maps
variable {ops:Array Oper} {rest:List Nat} {o:Oper} {P:P?} {E:Env P}
def eD(f:Func):Code:=match f.body with
 |some c=>c|none=>.skip
def dk.MO{fn tm os wl V k i}(W:ops[i]?=y? o)(B:cf o (bY ops tm)=t?)
  (O:∀(U)(w),(execOp (kE U) o).runT P w #[]=(.ok (.value (.chan (y? w.1.size))) {w with heap:=w.1.push (.chan 0 #[] f? 0 0 f?)},#[]))
  (h:dk E (⟨fn,(Act.put ⟨tm,[]⟩ o.dst (.chan (y? wl.1.size))).tmps,r? ops rest::k⟩::os) {wl with heap:=wl.1.push lH} ((wl.1.size,x?)::V)):dk E (⟨fn,tm,r? ops (i::rest)::k⟩::os) wl V:=
 dk.makeChan W B O (by rw[wq]at h;exact h)
section
variable {Z:mE prog} {w:w?} {T:List Frame} {dd q K:Nat} {lent:Bool} {fn:bW} {tm:Array v?} {os:List OF} {wl:w?} {V:List (Nat×Option (List v?))} {k:List Item}
def LN{m Pd ρ gs w' t q a c}(U:E.gu q)(hw:E.w0.1[q]?=y? (.map a c))(B:Co P E.gu E.w0 Pd ρ m wl gs w' t)(j)(m')(r')(W:(ρ j).oc=y? m'):m'.blk r'≠y? q:=by intro hb;have hl:=B.ff j m' W r' q hb U;obtain⟨aa,O⟩:=B.wr W;obtain⟨c1,e1,f1,hc⟩:=O.lk r' q hb hl;obtain⟨o,o',Y,h2,h3⟩:=O.obj r' q hb;rw[(B.fix q U).2,hw]at h2;cases h2;rw[hc]at Y;cases Y;cases h3
def Oj(dd:Nat):Option ByteArray->v?
 |none=>.map (y? dd)|some S=>s? S
def Ut:Option ByteArray->cb
 |none=>85|some _=>9
def V4:Option ByteArray->bW
 |none=>80|some _=>79
noncomputable def UG:Option ByteArray->Func
 |none=>f80|some _=>f79
def VO:Option ByteArray->bW
 |none=>120|some _=>116
def EP(x)(num)(A)(L){lent' i}(s)(hs:s=wl.1.size)(hi:ops[i]?=y? o)(aj:∀(r:Nat)a c,wl.1[r]?≠y? (.map a c))(hV:∀x∈V,x.1<s)
  (hS:∀(W:w?)(os),(∀j,j<4->W.1[bb s j]?=y? (c? (VI s (Oj dd x) num A j) (VK (Ut x) j) (0,0)))->(∀(r:Nat)a c,W.1[r]?≠y? (.map a c))->Sends (oe prog Z w T dd q K lent) (oe prog Z w T dd q (s+5) lent') (VO x) (yF (bb s)) os os W (uu W [bb s 0,bb s 1,bb s 2,bb s 3]) (s+3) L)
  (ak:∀q',(oe prog Z w T dd q K lent).gu q'->¬(oe prog Z w T dd q (s+5) lent').gu q'->∃a c,w.1[q']?=y? (.map a c))
  (hn:∀w2:w?,w2.1.size=s+5->(∀r,r<s->w2.1[r]?=wl.1[r]?)->(∀(r:Nat)a c,w2.1[r]?≠y? (.map a c))->w2.os=wl.os->dk (oe prog Z w T dd q (s+5) lent') (⟨fn,fq o.dst tm (.chan (y? (s+3))),r? ops rest::k⟩::os) w2 ((s+3,y? L)::V)) :
  dk (oe prog Z w T dd q K lent) (⟨V4 x,#[n? i? num,Oj dd x,.agg #[n? i? A.m,s? A.q,n? i? A.t],cn,cn,cn,cn,cn,cn,cn,cn],[.code (eD (UG x))]⟩::⟨fn,tm,r? ops (i::rest)::k⟩::os) wl V:=by
 obtain⟨v1,ag⟩:∃v,v=Oj dd x:=⟨_,q?⟩;obtain⟨t1,ah⟩:∃t,t=Ut x:=⟨_,q?⟩;have HV:cg _:=A? ag ah;have al:cg _:=hS;clear ag ah hS;cases x
 all_goals
  simp only[Oj,V4,UG];show dk _ (⟨_,_,[.code (.seq (.region 0 _ f?) (.seq (.region 1 _ f?) (.seq (.region 2 _ f?) (.seq (.region 3 _ f?) .ret))))]⟩::_) _ _;refine dk.seq ?_;have HS:cg _:=hs;clear hs;refine kR k! q? (.inl i!) λy0 B O=>?_;have HY:cg (y0.1=wl.1/\y0.os=wl.os):=⟨B,O⟩;clear B O;go_wp2;refine iN ?_;obtain⟨B,O⟩:=HY.out;obtain⟨w3,Y⟩:∃w3,w3=(((y0.alloc (c? #[n? i? num] 3)).alloc (c? #[v1] t1)).alloc (c? #[n? i? A.m,s? A.q,n? i? A.t] 94)):=⟨_,q?⟩;have U:y0.1.size=s:=by rw[B];exact HS.symm
  have z3:w3.1.size=s+3:=by rw[Y];simp[U]
  have o3:∀r,r<s->w3.1[r]?=wl.1[r]?:=λr hr=>by rw[Y,jL _ _ (by simp[U];omega),jL _ _ (by simp[U];omega),jL _ _ (by rw[U];omega),B]
  have g0:w3.1[s]?=y? (c? #[n? i? num] 3 (0,0)):=by rw[Y,jL _ _ (by simp only[ci,U];omega),jL _ _ (by simp only[ci,U];omega),lB _ _ U.symm]
  have g1:w3.1[s+1]?=y? (c? #[v1] t1 (0,0)):=by rw[Y,jL _ _ (by simp[U]),lB _ _ (by simp[U])]
  have g2:w3.1[s+2]?=y? (c? #[n? i? A.m,s? A.q,n? i? A.t] 94 (0,0)):=by rw[Y,lB _ _ (by simp[U])]
  have p3:w3.os=wl.os:=by rw[Y];exact O
  rw[HV.1,HV.2]at Y;simp only[Oj,Ut]at Y;rw[<-Y,U];clear Y B O U HY y0;refine dk.seq (dk.region ?_);refine dk.MO (i:=0) q? q? (λan w=>k!) ?_;rw[z3];obtain⟨w4,ab⟩:∃w4:w?,w4={w3 with heap:=w3.1.push lH}:=⟨_,q?⟩;have z4:w4.1.size=s+4:=by rw[ab];simp[z3]
  have o4:∀r,r<s+3->w4.1[r]?=w3.1[r]?:=λr hr=>by rw[ab];show(w3.1.push _)[r]?=_;rw[Array.getElem?_push,if_neg o!]
  have g3:w4.1[s+3]?=y? lH:=by rw[ab];show(w3.1.push _)[s+3]?=_;rw[<-z3];simp
  have p4:w4.os=wl.os:=by rw[ab];exact p3
  rw[<-ab];clear ab;have ai:s+1+1=s+2:=rfl;rw[ai];clear ai;go_simp;refine pn q? l! k! λy0 B O=>?_;have HY:cg (y0.1=w4.1/\y0.os=w4.os):=⟨B,O⟩;clear B O;unfold fL;go_simp;simp only[iJ];obtain⟨B,O⟩:=HY.out;obtain⟨w5,ac⟩:∃w5,w5=y0.alloc (c? #[.chan x?] 167):=⟨_,q?⟩;have z5:w5.1.size=s+5:=by rw[ac];simp[B,z4]
  have o5:∀r,r<s+4->w5.1[r]?=w4.1[r]?:=λr hr=>by rw[ac,jL _ _ (by rw[B,z4];exact hr),B]
  have g4:w5.1[s+4]?=y? (c? #[.chan x?] 167 (0,0)):=by rw[ac,lB _ _ (by rw[B,z4])]
  have p5:w5.os=wl.os:=by rw[ac];exact O.trans p4
  rw[<-ac,B,z4];clear ac B O HY y0;refine pn q? l! k! λy0 B O=>?_;have c4:=dq (by rw[B];exact g4) 0;have f4:y0.frozen? ⟨s+4,0,x?⟩=f?:=dP (by rw[B];exact g4) 0;have HY:cg (y0.1=w5.1/\y0.os=w5.os):=⟨B,O⟩;clear B O;unfold fL;go_simp;simp only[iJ];obtain⟨B,O⟩:=HY.out;obtain⟨W,ad⟩:∃W,W=y0.setCell ⟨s+4,0,x?⟩ (.chan (y? (s+3))):=⟨_,q?⟩;have z6:W.1.size=s+5:=by rw[ad];simp[B,z5]
  have o6:∀r,r≠s+4->W.1[r]?=w5.1[r]?:=λr hr=>by rw[ad,bR _ _ _ _ hr,B]
  have g6:W.1[s+4]?=y? (c? #[.chan (y? (s+3))] 167 (0,0)):=by rw[ad];exact heap_setCell_box_a _ (by rw[B];exact g4)
  have p6:W.os=wl.os:=by rw[ad];exact O.trans p5
  rw[<-ad];clear ad B O HY c4 f4 y0;refine dk.inRegion (dk.seq (dk.region ?_));have k0:W.1[s]?=y? (c? #[n? i? num] 3 (0,0)):=by rw[o6 _ o!,o5 _ o!,o4 _ o!];exact g0
  have k1:W.1[s+1]?=y? (c? #[v1] t1 (0,0)):=by rw[o6 _ o!,o5 _ o!,o4 _ o!];exact g1
  have k2:W.1[s+2]?=y? (c? #[n? i? A.m,s? A.q,n? i? A.t] 94 (0,0)):=by rw[o6 _ o!,o5 _ o!,o4 _ o!];exact g2
  have k3:W.1[s+3]?=y? lH:=by rw[o6 _ o!,o5 _ o!];exact g3
  have ko:∀r,r<s->W.1[r]?=wl.1[r]?:=λr hr=>by rw[o6 _ o!,o5 _ o!,o4 _ o!,o3 _ hr]
  clear g0 g1 g2 g3 g4 o3 o4 o5 o6 z3 z4 z5 p3 p4 p5
  have af:∀j,j<4->W.1[bb s j]?=y? (c? (VI s v1 num A j) (VK t1 j) (0,0)):=by
   intro j hj;match j,hj with
   |0,_=>exact g6|1,_=>exact k1|2,_=>exact k0|3,_=>exact k2
  have ae:∀(r:Nat)a c,W.1[r]?≠y? (.map a c):=by
   intro r a c h;by_cases h1:r<s;rw[ko r h1]at h;exact aj r a c h;have h2:=(bn.1 h).1;rw[z6]at h2;have:r=s\/r=s+1\/r=s+2\/r=s+3\/r=s+4:=o!;obtain rfl|rfl|rfl|rfl|rfl:=this
   rw[k0]at h;cases h;rw[k1]at h;cases h;rw[k2]at h;cases h;rw[k3]at h;cases h;rw[g6]at h;cases h
  rw[HV.1,HV.2]at af;have hS:=λos=>al.out W os af ae;have e:∀v,Array.map (kE #[Value.int IntKind.i64 ↑num,v,Value.agg #[Value.int IntKind.i64 ↑A.m,Value.string A.q,Value.int IntKind.i64 ↑A.t],Value.pointer (y? {block:=s,off:=0}),Value.pointer (y? {block:=s+1,off:=0}),Value.pointer (y? {block:=s+2,off:=0}),Value.chan x?,Value.pointer (y? {block:=s+4,off:=0}),Value.chan (y? (s+3)),cn,cn]) #[Operand.tmp 7,Operand.tmp 4,Operand.tmp 3,Operand.tmp 5]=yF (bb s):=λv=>by kernel_rfl
  refine dk.go (i:=0) (j:=1) (q:=9) (rc:=s+3) (E₂:=oe prog Z w T dd q (s+5) lent') (wl₂:=uu W [bb s 0,bb s 1,bb s 2,bb s 3]) (L:=L) (V₂:=(s+3,y? L)::V) q? q? q? q? q? q? q? q? ?_ ?_ (by rw[e];exact hS _) ?_ ?_ ?_ ?_ ?_ ?_;intro x hx;simp only[bs,bu,or_false]at hx;obtain rfl|rfl|rfl|rfl:=hx<;>trivial
  show 9<11;decide;intro q' h1 h2 m Pd ρ gs w' t ao am ap j m' r' hr;obtain⟨a,c,hx⟩:=ak q' h1 h2;exact LN h1 hx am j m' r' hr;simp;intro x hx;obtain rfl|hx:=bs.1 hx
  exact .inl rfl;refine .inr ⟨bx _ hx,λe=>?_⟩;have:=hV x hx;rw[e]at this;exact absurd this (by show ¬(s+3<s);omega);simp;intro r vs hr;obtain hr|hr:=bs.1 hr
  cases hr;exact bx _ hr;obtain⟨w7,aa⟩:∃w7,w7=uu W [bb s 0,bb s 1,bb s 2,bb s 3]:=⟨_,q?⟩;have z7:w7.1.size=s+5:=by rw[aa,AC];exact z6
  have o7:∀r,r<s->w7.1[r]?=wl.1[r]?:=λr hr=>by rw[aa,tv _ (by simp only[bs,bu,or_false,bb];omega)];exact ko r hr
  have g7:w7.1[s+4]?=y? (c? #[.chan (y? (s+3))] 167 (0,1)):=by rw[aa];exact Eg W (by simp[bb]) g6
  have m7:∀(r:Nat)a c,w7.1[r]?≠y? (.map a c):=by
   intro r a c h;rw[aa,CY]at h
   cases he:W.1[r]? with
   |none=>rw[he]at h;cases h
   |some o=>
    rw[he]at h;simp only[Option.map_some,ce]at h;split at h
    cases o<;>simp[QV]at h;exact ae _ _ _ he;exact ae r a c (by rw[he,h])
  have p7:w7.os=wl.os:=by rw[aa];exact p6
  rw[<-aa];clear aa hS af ae k0 k1 k2 k3 ko g6 z6 p6;refine dk.inRegion (dk.seq ?_);refine kR k! q? (.inl i!) λy0 B O=>?_;have c7:=dq (by rw[B];exact g7) 0;have HY:cg (y0.1=w7.1/\y0.os=w7.os):=⟨B,O⟩;clear B O;simp only[List.setIfInBounds_toArray,List.set_cons_succ,List.set_cons_zero];go_wp2;refine iN ?_;obtain⟨B,O⟩:=HY.out;refine dk.back (v:=.chan (y? (s+3))) (.inr ⟨_,q?⟩) (by first|exact func80|exact func79) hi (λτ=>?_) (hn y0 (by rw[B];exact z7) (λr hr=>by rw[B];exact o7 r hr) (λr a c=>by rw[B];exact m7 r a c) (O.trans p7));kernel_rfl
def Ba(num)(A)(es)(ex){i}(s)(hs:s=wl.1.size)(hi:ops[i]?=y? o)(hA:A.Ok)(hK:K<=s+5)(h5:5<=s)(Y:dd<s)(aa:5<=q)(hq:q<w.1.size)(O:w.1[q]?=y? ex)(hM:tC ex es)(ab:∀(r:Nat)a c,wl.1[r]?≠y? (.map a c))
  (hl:l? es<=100000) (ac:∀e∈es,l? e.name<=cc/\l? e.text<=1048576/\(e.gone=f?->0<=e.dE/\e.dE<=255)) (U:num<=1000) (hV:∀x∈V,x.1<s)
  (hn:∀w2:w?,w2.1.size=s+5->(∀r,r<s->w2.1[r]?=wl.1[r]?)->(∀(r:Nat)a c,w2.1[r]?≠y? (.map a c))->w2.os=wl.os->dk (oe prog Z w T dd q (s+5) t?) (⟨fn,fq o.dst tm (.chan (y? (s+3))),r? ops rest::k⟩::os) w2 ((s+3,y? ((iF es).map (pg A num)))::V)) :
  dk (oe prog Z w T dd q K f?) (⟨80,#[n? i? num,.map (y? dd),.agg #[n? i? A.m,s? A.q,n? i? A.t],cn,cn,cn,cn,cn,cn,cn,cn],[.code (eD f80)]⟩::⟨fn,tm,r? ops (i::rest)::k⟩::os) wl V:=by
 obtain⟨ad,ae,B⟩:=hM.isMap
 exact EP x? num A _ s hs hi ab hV (λw6 os af ag=>LK (Z:=Z) (T:=T) (os:=os) hA hK h5 Y af aa hq O hM (λm r o h1 W=>by
  rw[B]at W;cases W
  exact ag _ _ _ h1) hl ac U) (λq' h1 W=>by
  have:q'=q:=bV λah=>W ⟨h1.1,λ_=>ah⟩;subst this
  exact⟨ad,ae,O.trans (by rw[B])⟩) hn
end
end
section
open Go.Conc Go.RowKit Go.Maps
variable {yz v3:Bool} {v2 v4 v5:ByteArray} {v0 v1 v6 v7:Int} {s:Nat}
def Nh:v?:=.agg #[n? i? 0,n? i? 0,s? ⟨#[]⟩,.bool f?,s? ⟨#[]⟩,s? ⟨#[]⟩,n? i? 0,n? i? 0]
def nT(cl:Nat->Option Nat):Array v?:=#[.chan (cl 0),.chan (cl 1),.chan (cl 2),.chan (cl 3),.chan (cl 4),.chan (cl 5),.chan (cl 6)]
def Qt(v:v?):Prop:=∃(a b:Int)(c:ByteArray)(d:Bool)(e f:ByteArray)(g h:Int),v=.agg #[n? i? a,n? i? b,s? c,.bool d,s? e,s? f,n? i? g,n? i? h]
def vY(w:w?)(s:Nat)(v0 v1 v2 v3 v4 v5 v6 v7:v?):w?:=(((((((w.setCell ⟨s,0,x?⟩ v0).setCell ⟨s,1,x?⟩ v1).setCell ⟨s,2,x?⟩ v2).setCell ⟨s,3,x?⟩ v3).setCell ⟨s,4,x?⟩ v4).setCell ⟨s,5,x?⟩ v5).setCell ⟨s,6,x?⟩ v6).setCell ⟨s,7,x?⟩ v7
def zt{w v0 v1 v2 v3 v4 v5 v6 v7 u0 u1 u2 u3 u4 u5 u6 u7 t f}(h:w.1[s]?=y? (c? #[u0,u1,u2,u3,u4,u5,u6,u7] t f)):(vY w s v0 v1 v2 v3 v4 v5 v6 v7).1[s]?=y? (c? #[v0,v1,v2,v3,v4,v5,v6,v7] t f):=by unfold vY;rw[heap_set (heap_set (heap_set (heap_set (heap_set (heap_set (heap_set (heap_set h 0 v0) 1 v1) 2 v2) 3 v3) 4 v4) 5 v5) 6 v6) 7 v7];rfl
def AJ(w){r}(v0 v1 v2 v3 v4 v5 v6 v7)(h:r≠s):(vY w s v0 v1 v2 v3 v4 v5 v6 v7).1[r]?=w.1[r]?:=by unfold vY;rw[bR _ _ _ _ h,bR _ _ _ _ h,bR _ _ _ _ h,bR _ _ _ _ h,bR _ _ _ _ h,bR _ _ _ _ h,bR _ _ _ _ h,bR _ _ _ _ h]
def wJ(w)(s)(v0 v1 v2 v3 v4 v5 v6 v7):(vY w s v0 v1 v2 v3 v4 v5 v6 v7).1.size=w.1.size:=by unfold vY;simp
def ru(w:w?)(p)(v):(w.setCell p v).os=w.os:=by unfold World.setCell;split <;>(try split) <;>(try split)<;>rfl
def Dj(w)(s)(v0 v1 v2 v3 v4 v5 v6 v7):(vY w s v0 v1 v2 v3 v4 v5 v6 v7).os=w.os:=by unfold vY;simp only[ru]
def nb:Code->Nat->Code
 |.cond _ x _,0=>x|.cond _ _ y,n+1=>nb y n|_,_=>.skip
def RY(c:Code):Code:=match c with
 |.seq _ (.seq _ (.seq _ (.block _ c)))=>c|_=>.skip
def UQ(yz:Bool)(v x0 x2 x3 x4 x5 x6 B O:v?):Nat->Array v?
 |0=>#[x0,.bool yz,v,x3,x4,x5,x6,B,O]|1=>#[x0,.bool yz,x2,v,x4,x5,x6,B,O]|2=>#[x0,.bool yz,x2,x3,v,x5,x6,B,O]|3=>#[x0,.bool yz,x2,x3,x4,v,x6,B,O]|4=>#[x0,.bool yz,x2,x3,x4,x5,v,B,O]|5=>#[x0,.bool yz,x2,x3,x4,x5,x6,v,O]|_=>#[x0,.bool yz,x2,x3,x4,x5,x6,B,v]
section
variable {Z:mE prog} {w:w?} {T:List Frame} {dd q K:Nat} {lent:Bool} {fn:bW} {tm:Array v?} {os:List OF} {wl:w?} {V:List (Nat×Option (List v?))} {k:List Item}
def P8{tmps k w3}(B:w3.1[s]?=y? (c? #[n? i? v0,n? i? v1,s? v2,.bool v3,s? v4,s? v5,n? i? v6,n? i? v7] 172 (0,0)))(τ)(O:tmps[2]?=y? (n? i? k))(U:tmps[3]?=y? (p? (y? ⟨s,0,x?⟩)))(W:tmps[4]?=y? (.bool yz)) :
  (results f123 tmps).run prog (tp w3 τ)=.ok (.tuple #[n? i? k,.agg #[n? i? v0,n? i? v1,s? v2,.bool v3,s? v4,s? v5,n? i? v6,n? i? v7],.bool yz]) (tp w3 τ):=by
 have B:(tp w3 τ).1[s]?=y? (c? #[n? i? v0,n? i? v1,s? v2,.bool v3,s? v4,s? v5,n? i? v6,n? i? v7] 172 (0,0)):=B;generalize tp w3 τ=w4 at *;have Y:=dq B 0;have f0:=dP B 0;have e1:=dq B 1;have f1:=dP B 1;have e2:=dq B 2;have f2:=dP B 2;have e3:=dq B 3;have f3:=dP B 3;have e4:=dq B 4;have f4:=dP B 4;have e5:=dq B 5;have f5:=dP B 5;have e6:=dq B 6;have f6:=dP B 6;have e7:=dq B 7;have f7:=dP B 7;simp[results,results123,go_sem,Y,e1,e2,e3,e4,e5,e6,e7,O,U,W]
def xG{ops:Array Oper}{i}{rest:List Nat}{o:Oper}{a0 a1 a2 a4 a5 a6 a7 a8 a9 ac ad ae af ag ah ai aj ak al am an ao ap aq ar au av aw ax ay az a3 a' aA aB aC aD aE aF aG aH aI aJ aK aL aM aN aO aP aQ aR aS aT aU aV aW aX aY aZ ba bc bd be bf bg bh bi bj x0 x2 x3 x4 x5 x6 x7 x8:v?}(j:Nat)(hj:j<7)(hi:ops[i]?=y? o)(W:wl.1.size=s+1)(B:wl.1[s]?=y? (c? #[n? i? 0,n? i? 0,s? ⟨#[]⟩,.bool f?,s? ⟨#[]⟩,s? ⟨#[]⟩,n? i? 0,n? i? 0] 172 (0,0)))
  (hn:∀w2:w?,w2.1.size=s+1->(∀r,r<s->w2.1[r]?=wl.1[r]?)->w2.os=wl.os->dk (oe prog Z w T dd q K lent) (⟨fn,fq o.dst tm (.tuple #[n? i? (j:Int),.agg #[n? i? v0,n? i? v1,s? v2,.bool v3,s? v4,s? v5,n? i? v6,n? i? v7],.bool yz]),r? ops rest::k⟩::os) w2 V) :
  dk (oe prog Z w T dd q K lent) (⟨123,#[a0,a1,a2,p? (y? ⟨s,0,x?⟩),a4,a5,a6,a7,a8,a9,ac,ad,ae,af,ag,ah,ai,aj,ak,al,am,an,ao,ap,aq,ar,au,av,aw,ax,ay,az,a3,.tuple (UQ yz (.agg #[n? i? v0,n? i? v1,s? v2,.bool v3,s? v4,s? v5,n? i? v6,n? i? v7]) x0 x2 x3 x4 x5 x6 x7 x8 j),a',aA,aB,aC,aD,aE,aF,aG,aH,aI,aJ,aK,aL,aM,aN,aO,aP,aQ,aR,aS,aT,aU,aV,aW,aX,aY,aZ,ba,bc,bd,be,bf,bg,bh,bi,bj],[.code (nb (RY (eD f123)) j),.inBlock 0]⟩::⟨fn,tm,r? ops (i::rest)::k⟩::os) wl V:=by
 obtain⟨P1,O⟩:∃x,wl.os=x:=⟨_,q?⟩;obtain⟨H0,h0⟩:∃x,wl.1=x:=⟨_,q?⟩;rw[O,h0]at hn;have Y:∀r,r<s->wl.1[r]?=H0[r]?:=λr _=>by rw[h0]
 clear h0;have HC:cg _:=hn;clear hn;rcases(o!:j=0\/j=1\/j=2\/j=3\/j=4\/j=5\/j=6)with rfl|rfl|rfl|rfl|rfl|rfl|rfl
 all_goals
  show dk _ (⟨_,_,[.code (.seq (.region _ _ f?) (.seq (.region _ _ t?) .ret)),.inBlock 0]⟩::_) _ _;dsimp only[UQ];refine dk.seq ?_;refine kR k! q? (.inl i!) λy1 ab U=>?_;rw[<-ab]at W Y B;have O:=U.trans O;clear ab U;have e0:=dq B 0;have f0:=dP B 0;have e1:=dq B 1;have f1:=dP B 1;have e2:=dq B 2;have f2:=dP B 2;have e3:=dq B 3;have f3:=dP B 3;have e4:=dq B 4;have f4:=dP B 4;have e5:=dq B 5;have f5:=dP B 5;have e6:=dq B 6;have f6:=dP B 6;have e7:=dq B 7;have f7:=dP B 7;have HZ:cg _:=A? W (A? Y O);have HG:=B;clear W Y O B;go_wp2;refine iN ?_;clear e0 e1 e2 e3 e4 e5 e6 e7 f0 f1 f2 f3 f4 f5 f6 f7;obtain⟨W,Y,O⟩:=HZ.out;obtain⟨w2,hw2⟩:∃w2,w2=vY y1 s (n? i? v0) (n? i? v1) (s? v2) (.bool v3) (s? v4) (s? v5) (n? i? v6) (n? i? v7):=⟨_,q?⟩;replace W:w2.1.size=s+1:=by rw[hw2,wJ];exact W
  replace Y:∀r,r<s->w2.1[r]?=H0[r]?:=λr hr=>by rw[hw2,AJ _ _ _ _ _ _ _ _ _ o!];exact Y r hr
  have B:w2.1[s]?=y? (c? #[n? i? v0,n? i? v1,s? v2,.bool v3,s? v4,s? v5,n? i? v6,n? i? v7] 172 (0,0)):=by rw[hw2];exact zt HG
  replace O:w2.os=P1:=by rw[hw2,Dj];exact O
  unfold vY at hw2;rw[<-hw2];clear hw2 HZ HG;refine dk.seq ?_;refine kR k! q? (.inl i!) λy1 ab U=>?_;rw[<-ab]at W Y B;have O:=U.trans O;clear ab U;have e0:=dq B 0;have f0:=dP B 0;have e1:=dq B 1;have f1:=dP B 1;have e2:=dq B 2;have f2:=dP B 2;have e3:=dq B 3;have f3:=dP B 3;have e4:=dq B 4;have f4:=dP B 4;have e5:=dq B 5;have f5:=dP B 5;have e6:=dq B 6;have f6:=dP B 6;have e7:=dq B 7;have f7:=dP B 7;have HZ:cg _:=A? W (A? Y O);have HG:=B;clear W Y O B;go_region;refine iN ?_;clear e0 e1 e2 e3 e4 e5 e6 e7 f0 f1 f2 f3 f4 f5 f6 f7;obtain⟨W,Y,O⟩:=HZ.out;obtain⟨w2,hw2⟩:∃w2,w2=vY y1 s (n? i? v0) (n? i? v1) (s? v2) (.bool v3) (s? v4) (s? v5) (n? i? v6) (n? i? v7):=⟨_,q?⟩;replace W:w2.1.size=s+1:=by rw[hw2,wJ];exact W
  replace Y:∀r,r<s->w2.1[r]?=H0[r]?:=λr hr=>by rw[hw2,AJ _ _ _ _ _ _ _ _ _ o!];exact Y r hr
  have B:w2.1[s]?=y? (c? #[n? i? v0,n? i? v1,s? v2,.bool v3,s? v4,s? v5,n? i? v6,n? i? v7] 172 (0,0)):=by rw[hw2];exact zt HG
  replace O:w2.os=P1:=by rw[hw2,Dj];exact O
  unfold vY at hw2;rw[<-hw2];clear hw2 HZ HG;obtain⟨w3,aa⟩:∃w3,w3=w2.drew:=⟨_,q?⟩;replace B:w3.1[s]?=y? (c? #[n? i? v0,n? i? v1,s? v2,.bool v3,s? v4,s? v5,n? i? v6,n? i? v7] 172 (0,0)):=by rw[aa];exact B
  have HC:=HC.out w3 (by rw[aa];exact W) (λr hr=>by rw[aa];exact Y r hr) (by rw[aa];exact O);rw[<-aa];clear aa W Y O;exact dk.back (.inr ⟨_,q?⟩) func123 hi (λτ=>P8 B τ q? q? q?) HC
end
end
section
open Go.Conc Go.RowKit Go.Maps
def CE{v}(h:Qt v):Flat v:=by
 obtain⟨a,b,c,d,e,f,g,h,rfl⟩:=h;refine .agg λi B=>?_;have:=B;match i,this with
 |0,_|1,_|6,_|7,_=>exact .int ..|2,_|4,_|5,_=>exact .string _|3,_=>exact .bool _
def LM:Qt Nh:=⟨0,0,⟨#[]⟩,f?,⟨#[]⟩,⟨#[]⟩,0,0,q?⟩
section
variable {Z:mE prog} {w:w?} {T:List Frame} {dd q K:Nat} {lent:Bool} {fn:bW} {tm:Array v?} {os:List OF} {wl:w?} {V:List (Nat×Option (List v?))} {k:List Item}
def Nd{ops:Array Oper}{i}{rest:List Nat}{o:Oper}{cl:Nat->Option Nat}(b s)(hs:s=wl.1.size)(ac:b<s)(hi:ops[i]?=y? o)(hb:wl.1[b]?=y? (c? (nT cl) 125 (0,0)))
  (lg:∀k r,k<7->cl k=y? r->∃vs,(r,y? vs)∈V) (tJ:∀k k' r,k<7->k'<7->cl k=y? r->cl k'=y? r->k=k') (U:∃k r,k<7/\cl k=y? r) (gH:(V.map Prod.fst).Nodup) (h8:∀r vs,(r,y? vs)∈V->∀v∈vs,Qt v)
  (hv:∀(k' r)v vs(w2:w?),k'<7->cl k'=y? r->(r,y? (v::vs))∈V->w2.1.size=s+1->(∀r,r<s->w2.1[r]?=wl.1[r]?)->w2.os=wl.os->dk (oe prog Z w T dd q K lent) (⟨fn,fq o.dst tm (.tuple #[n? i? k',v,.bool t?]),r? ops rest::k⟩::os) w2 (tR V r vs))
  (he:∀(k' r)(w2:w?),k'<7->cl k'=y? r->(r,y? [])∈V->w2.1.size=s+1->(∀r,r<s->w2.1[r]?=wl.1[r]?)->w2.os=wl.os->dk (oe prog Z w T dd q K lent) (⟨fn,fq o.dst tm (.tuple #[n? i? k',Nh,.bool f?]),r? ops rest::k⟩::os) w2 (vI V r)) :
  dk (oe prog Z w T dd q K lent) (⟨123,#[p? (y? ⟨b,0,x?⟩),cn,cn,cn,cn,cn,cn,cn,cn,cn,cn,cn,cn,cn,cn,cn,cn,cn,cn,cn,cn,cn,cn,cn,cn,cn,cn,cn,cn,cn,cn,cn,cn,cn,cn,cn,cn,cn,cn,cn,cn,cn,cn,cn,cn,cn,cn,cn,cn,cn,cn,cn,cn,cn,cn,cn,cn,cn,cn,cn,cn,cn,cn,cn,cn,cn,cn,cn,cn,cn],[.code (eD f123)]⟩::⟨fn,tm,r? ops (i::rest)::k⟩::os) wl V:=by
 show dk _ (⟨_,_,[.code (.seq (.region 0 _ f?) (.seq (.seq (.region 1 _ f?) (.seq (.region 2 _ f?) (.seq (.region 3 _ f?) (.seq (.region 4 _ f?) (.seq (.region 5 _ f?) (.seq (.region 6 _ f?) (.region 7 _ f?))))))) (.seq (.region 8 _ f?) (.block 0 _))))]⟩::_) _ _
 have HC:cg ((∀(k' r:Nat)v vs(w2:w?),k'<7->cl k'=y? r->(r,y? (v::vs))∈V->w2.1.size=s+1->(∀r,r<s->w2.1[r]?=wl.1[r]?)->w2.os=wl.os->dk (oe prog Z w T dd q K lent) (⟨fn,fq o.dst tm (.tuple #[n? i? k',v,.bool t?]),r? ops rest::k⟩::os) w2 (tR V r vs))/\
  (∀(k' r:Nat)(w2:w?),k'<7->cl k'=y? r->(r,y? [])∈V->w2.1.size=s+1->(∀r,r<s->w2.1[r]?=wl.1[r]?)->w2.os=wl.os->dk (oe prog Z w T dd q K lent) (⟨fn,fq o.dst tm (.tuple #[n? i? k',Nh,.bool f?]),r? ops rest::k⟩::os) w2 (vI V r))/\
  (∀k r,k<7->cl k=y? r->∃vs,(r,y? vs)∈V)/\(∀k k' r,k<7->k'<7->cl k=y? r->cl k'=y? r->k=k')/\(∃k r,k<7/\cl k=y? r)/\(V.map Prod.fst).Nodup/\(∀r vs,(r,y? vs)∈V->∀v∈vs,Qt v)):=⟨hv,he,lg,tJ,U,gH,h8⟩
 have HS:cg (s=wl.1.size/\b<s):=⟨hs,ac⟩;have HB:cg _:=hb;clear hv he lg tJ U gH h8 hs ac hb;refine dk.seq ?_;refine kR k! q? (.inl i!) λW B O=>?_;have HY:cg (W.1=wl.1/\W.os=wl.os):=⟨B,O⟩;clear B O;go_wp2;refine iN ?_;obtain⟨B,O⟩:=HY.out;obtain⟨w3,Y⟩:∃w3,w3=W.alloc (c? #[n? i? 0,n? i? 0,s? ⟨#[]⟩,.bool f?,s? ⟨#[]⟩,s? ⟨#[]⟩,n? i? 0,n? i? 0] 172):=⟨_,q?⟩;have aa:W.1.size=s:=by rw[B];exact HS.1.symm
 have z3:w3.1.size=s+1:=by rw[Y];simp[aa]
 have o3:∀r,r<s->w3.1[r]?=wl.1[r]?:=λr hr=>by rw[Y,jL _ _ (by rw[aa];omega),B]
 have g0:w3.1[s]?=y? (c? #[n? i? 0,n? i? 0,s? ⟨#[]⟩,.bool f?,s? ⟨#[]⟩,s? ⟨#[]⟩,n? i? 0,n? i? 0] 172 (0,0)):=by rw[Y,lB _ _ aa.symm]
 have p3:w3.os=wl.os:=by rw[Y];exact O
 rw[<-Y,aa];clear Y B O aa HY W;have gb:w3.1[b]?=y? (c? (nT cl) 125 (0,0)):=by rw[o3 b HS.2];exact HB
 refine dk.seq ?_;refine kR k! q? (.inl i!) λW B O=>?_;have d0:W.cell? ⟨b,0,x?⟩=y? (.chan (cl 0)):=by rw[dq (by rw[B];exact gb)];rfl
 have d1:W.cell? ⟨b,1,x?⟩=y? (.chan (cl 1)):=by rw[dq (by rw[B];exact gb)];rfl
 have d2:W.cell? ⟨b,2,x?⟩=y? (.chan (cl 2)):=by rw[dq (by rw[B];exact gb)];rfl
 have d3:W.cell? ⟨b,3,x?⟩=y? (.chan (cl 3)):=by rw[dq (by rw[B];exact gb)];rfl
 have d4:W.cell? ⟨b,4,x?⟩=y? (.chan (cl 4)):=by rw[dq (by rw[B];exact gb)];rfl
 have d5:W.cell? ⟨b,5,x?⟩=y? (.chan (cl 5)):=by rw[dq (by rw[B];exact gb)];rfl
 have d6:W.cell? ⟨b,6,x?⟩=y? (.chan (cl 6)):=by rw[dq (by rw[B];exact gb)];rfl
 have HY:cg (W.1=w3.1/\W.os=w3.os):=⟨B,O⟩;have HW:cg (w3.1.size=s+1/\(∀r,r<s->w3.1[r]?=wl.1[r]?)/\w3.1[s]?=y? (c? #[n? i? 0,n? i? 0,s? ⟨#[]⟩,.bool f?,s? ⟨#[]⟩,s? ⟨#[]⟩,n? i? 0,n? i? 0] 172 (0,0))/\w3.os=wl.os):=⟨z3,o3,g0,p3⟩;clear B O z3 o3 g0 p3 gb;go_wp2;refine iN ?_;clear d0 d1 d2 d3 d4 d5 d6;obtain⟨z3,o3,g0,p3⟩:=HW.out;obtain⟨B,O⟩:=HY.out;rw[<-B]at z3 o3 g0;have p3:=O.trans p3;clear B O HY HW;obtain⟨hv,he,lg,tJ,U,gH,h8⟩:=HC.out;refine dk.seq (dk.region ?_);refine dk.select (i:=0) (x0:=8) (x1:=12) (x2:=16) (x3:=20) (x4:=24) (x5:=28) (x6:=32) (z:=Nh) (cl:=cl) q? q? (λad w=>k!) (CE LM) q? q? q? q? q? q? q? lg tJ U gH (λr vs hr v hv=>CE (h8 r vs hr v hv)) ?_ ?_
 .intro k' r v vs ab hr hm;have hn:=λ(w2:w?) a b c=>hv k' r v vs w2 ab hr hm a b c;obtain⟨v0,v1,v2,v3,v4,v5,v6,v7,rfl⟩:=h8 r _ hm v (List.mem_cons_self ..);have HN:cg _:=hn;clear hv he lg tJ U gH h8 HC hn hm HS HB;rcases(o!:k'=0\/k'=1\/k'=2\/k'=3\/k'=4\/k'=5\/k'=6)with rfl|rfl|rfl|rfl|rfl|rfl|rfl
  all_goals
   rw[kh];simp only[yH,goInt];go_simp
   iterate 8 (refine fG ?_;go_simp)
   refine dk.inRegion (dk.block ?_)
   repeat refine dk.nh trivial q? ?_
   refine dk.rN trivial q? ?_;apply xG _ d! hi z3 g0 λw2 a b c=>HN.out w2 a (λr hr=>(b r hr).trans (o3 r hr)) (c.trans p3);exact cn
 intro k' r ab hr hm;have hn:=λ(w2:w?) a b c=>he k' r w2 ab hr hm a b c;have HN:cg _:=hn;clear hv he lg tJ U gH h8 HC hn hm HS HB;rcases(o!:k'=0\/k'=1\/k'=2\/k'=3\/k'=4\/k'=5\/k'=6)with rfl|rfl|rfl|rfl|rfl|rfl|rfl
 all_goals
  rw[kh];simp only[yH,goInt,Nh];go_simp
  iterate 8 (refine fG ?_;go_simp)
  refine dk.inRegion (dk.block ?_)
  repeat refine dk.nh trivial q? ?_
  refine dk.rN trivial q? ?_;apply xG _ d! hi z3 g0 λw2 a b c=>HN.out w2 a (λr hr=>(b r hr).trans (o3 r hr)) (c.trans p3);exact cn
end
end
section
open Go.Conc Go.RowKit Go.Maps
def atKey_mem{L}(B:L.Pairwise (λp q=>p.1≠q.1)){k d}(U:WideAt.IsKeyLit k)(hm:(k,d)∈L)(z:DataW v?):(DataW.map L).atKey k z=d:=by
 unfold DataW.atKey;simp only
 have:L.find? (λp=>p.1.sameKey k)=y? (k,d):=by
  induction L with
  |nil=>cases hm
  |cons a L W=>
   rw[List.pairwise_cons]at B;rw[b0];obtain e|hm:=bs.1 hm
   rw[<-e];simp only[WideAt.sameKey_self U];have O:=B.1 _ hm;rw[sameKey_ne O];exact W B.2 hm
 rw[this]
def QH(e):Flat (kB e).2:=by
 refine .agg λi B=>?_;have:=B;match i,this with
 |0,_=>exact .bool _|1,_|2,_=>exact .string _|3,_|4,_=>exact .int ..
def Q5{x}(B:Flat x.key)(O:Flat x.val)(m):uI m x x:=⟨B.refl m,O.refl m,q?⟩
def LH{es:List MapEntry}(h:∀x∈es,Flat x.key/\Flat x.val)(m):dY (uI m) es es:=by
 induction es with
 |nil=>exact .nil|cons a l B=>exact .cons (Q5 (h a i!).1 (h a i!).2 m) (B λx O=>h x (by simp[O]))
def Rl{es O:List MapEntry}{m}(h:∀x∈es,Flat x.key/\Flat x.val)(W:dY (uI m) es O):O=es:=by
 induction W with
 |nil=>rfl|@cons a b l l' B _ Y=>have U:=h a i!;have e1:=U.1.eq m _ B.key;have e2:=U.2.eq m _ B.val;have e3:=B.born;rw[Y λx hx=>h x (by simp[hx])];cases a;subst e1 e2 e3;rfl
def Hb{w B es}(h:eT w B es):∃ex,w.1[B]?=y? ex/\tC ex es:=by
 obtain⟨D,⟨xs,clock,hb,F,ab,hD⟩,hS⟩:=h
 have Y:∀x∈xs.toList,Flat x.key/\Flat x.val:=by
  intro x hx;obtain⟨y,hy⟩:=F.reads x hx;have jN:=WideElems.rd_key hy;obtain⟨nm,ac,ad⟩:=KG b2 jN
  have ae:y=(.string nm,.held x.val):=by unfold WideElems.rd at hy;rw[jN]at hy;simp only[Option.bind_some,my,Option.map_some,ce]at hy;rw[<-hy,ad]
  refine⟨by rw[ac];exact .string _,?_⟩;have aa:(Lit.string nm,DataW.held _)∈(xs.toList.map (WideElems.rg _ 9 my)).foldr _ []:=mem_sorted.2 (bv.2 ⟨x,hx,by rw[WideElems.rg_of hy,ae]⟩);have af:=(WideShapes.sorted_perm _).symm.pairwise (F.apart (WideMaps.string_law b2)) (λh=>h.symm);have U:=atKey_mem af (k:=.string nm) trivial aa;rw[<-hD]at U;have O:=has_true_of_atKey U;rw[hS.has nm,List.any_eq_true]at O;obtain⟨p,hp,W⟩:=O;have W:=by simpa using W
  have h2:=hS.at_ p hp (.held x.val);rw[W,U]at h2;have h3:=by simpa using h2
  rw[h3];obtain⟨e,_,rfl⟩:=bv.1 hp;exact QH e
 refine⟨.map xs clock,hb,⟨xs,clock,q?⟩,λm=>.map clock (LH Y m),λm o' ho=>?_,λw' B' ag=>?_⟩
 cases ho with
 |@map _ ah _ ha=>have:=Rl Y ha;simp at this;rw[this]
 exact⟨D,⟨xs,clock,ag,F,ab,hD⟩,hS⟩
end
section
open Go.Conc
variable {q:Nat} {b5:Option Nat} {m:Ren} {w:w?}
def VR.flatten{x x'}(h:VR m x x'):∃y,(∀m1,VR m1 y x')/\(Flat x->y=x)/\∀t z,x=.iface t z->∃W,y=.iface t W:=by
 induction h with
 |gN v hv=>exact⟨_,λ_=>.gN v hv,λB=>(by cases B),λ_ _ e=>(by cases e)⟩|bool b=>exact⟨_,λ_=>.bool b,λ_=>rfl,λ_ _ e=>(by cases e)⟩|int k n=>exact⟨_,λ_=>.int k n,λ_=>rfl,λ_ _ e=>(by cases e)⟩|string s=>exact⟨_,λ_=>.string s,λ_=>rfl,λ_ _ e=>(by cases e)⟩|iE=>exact⟨_,λ_=>.iE,λ_=>rfl,λ_ _ e=>(by cases e)⟩|gq l c=>exact⟨_,λ_=>.gq l c,λ_=>rfl,λ_ _ e=>(by cases e)⟩|zero _ _=>exact⟨_,λ_=>.gN _ t!,λB=>(by cases B),λ_ _ e=>(by cases e)⟩|nH=>exact⟨_,λ_=>.nH,λ_=>rfl,λ_ _ e=>(by cases e)⟩|jS=>exact⟨_,λ_=>.jS,λ_=>rfl,λ_ _ e=>(by cases e)⟩|nilFunc=>exact⟨_,λ_=>.nilFunc,λ_=>rfl,λ_ _ e=>(by cases e)⟩|nilIface=>exact⟨_,λ_=>.nilIface,λ_=>rfl,λ_ _ e=>(by cases e)⟩|ptr _=>exact⟨_,λ_=>.gN _ t!,λB=>(by cases B),λ_ _ e=>(by cases e)⟩|slice _ _ _=>exact⟨_,λ_=>.gN _ t!,λB=>(by cases B),λ_ _ e=>(by cases e)⟩|map _=>exact⟨_,λ_=>.gN _ t!,λB=>(by cases B),λ_ _ e=>(by cases e)⟩|gone _=>exact⟨_,λ_=>.gN _ t!,λB=>(by cases B),λ_ _ e=>(by cases e)⟩|chan _=>exact⟨_,λ_=>.gN _ t!,λB=>(by cases B),λ_ _ e=>(by cases e)⟩|iface t _ Y=>obtain⟨y,h1,_,_⟩:=Y;exact⟨.iface t y,λm1=>.iface t (h1 m1),λB=>(by cases B),λ_ _ e=>(by cases e;exact⟨_,q?⟩)⟩
 |tuple _ _ _=>exact⟨_,λ_=>.gN _ t!,λB=>(by cases B),λ_ _ e=>(by cases e)⟩|func B _ _ _ _ _ _=>
  cases B with
  |func f _=>exact⟨_,λ_=>.gN _ t!,λB=>(by cases B),λ_ _ e=>(by cases e)⟩|yield _=>exact⟨_,λ_=>.gN _ t!,λB=>(by cases B),λ_ _ e=>(by cases e)⟩
 |@rY lf n f c O hi hx Y=>have U:∀i(h:i<lf.size),∃y,(∀m1,VR m1 y (f[i]'(O▸h)))/\(Flat lf[i]->y=lf[i])/\∀t z,lf[i]=.iface t z->∃W,y=.iface t W:=λi h=>Y i h (O▸h);refine⟨.func (.method "") (bq λi:_root_.Fin lf.size=>bU (U i.1 i.2)) #[.func (.method n) f c],λm1=>.rY (by simp[O]) (λi h h'=>?_) (λt w hw=>?_),λB=>(by cases B),λ_ _ e=>(by cases e)⟩;simp only[bl];exact(bT (U i (u! h))).1 m1;obtain⟨x,h0⟩:=hx t w hw;obtain⟨hl,e0⟩:=bn.1 h0;obtain⟨z,hz⟩:=(bT (U 0 hl)).2.2 t x e0;refine⟨z,?_⟩;rw[bo (u! hl)];simp only[bl];rw[hz]
 |@agg c c' O hi Y=>
  have U:∀i(h:i<c.size),∃y,(∀m1,VR m1 y (c'[i]'(O▸h)))/\(Flat c[i]->y=c[i])/\∀t z,c[i]=.iface t z->∃W,y=.iface t W:=λi h=>Y i h (O▸h);refine⟨.agg (bq λi:_root_.Fin c.size=>bU (U i.1 i.2)),λm1=>.agg (by simp[O]) λi h h'=>?_,λB=>?_,λ_ _ e=>(by cases e)⟩;simp only[bl];exact(bT (U i (u! h))).1 m1;congr 1;refine Array.ext i! λi h1 h2=>?_;simp only[bl];refine(bT (U i h2)).2.1 ?_
  cases B with
  |agg B=>exact B i h2
def eP.flatten{c O}(h:eP m c O):∃c1,(∀m1,eP m1 c1 O)/\c1.size=c.size/\∀i(B)(U:i<c.size),Flat c[i]->c1[i]=c[i]:=by
 have W:∀i(B:i<c.size),∃y,(∀m1,VR m1 y (O[i]'(h.size▸B)))/\(Flat _->y=c[i]):=λi B=>by obtain⟨y,Y,g2,_⟩:=(h.idx i B _).flatten;exact⟨y,Y,g2⟩
 refine⟨bq λi=>bU (W _ i.2),λm1=>eP.iP (by simp[h.size]) λi B U=>?_,i!,λi B U hf=>?_⟩;simp only[bl];exact(bT (W i _)).1 m1;simp only[bl];exact(bT (W i U)).2 hf
def yx:Obj:=c? #[] 0 (0,0)
def We(o:Obj)(w:w?):w?:={w with heap:=#[yx,yx,yx,yx,yx,o,yx]}
def VB(b5)(q:Nat)(U:∀b,b5=y? b->5<=b):Ren where
 blk:=λr=>if r=5 then b5 else x?
 ch:=λ_=>x?
 loose:=λr=>r=5
 ok:=Qs prog NM Di f?
 gE:=λf=>NM f=t?
 jf:=False
 dead:=λr=>r=6
 dm:=λ_=>q
 tK:=λ_ _=>x?
 lS:=λ_=>x?
 G:=5
 qa:=λr r' h=>by
  split at h
  .rename_i e
   have:=U r' h
   omega
  .cases h
 inj:=λr s t B O=>by
  split at B
  .split at O
   .omega
   .cases O
  .cases B
 xu:=λ_ _ _ h=>by cases h
def U'{Z T}(h5):Rg (oe prog Z w T 6 q 6 f?) (VB b5 q h5):=
 ⟨Ej _ q? q? zZ.symm,id,λ_ _ h=>(by cases h),q?,q?,q?,q?,λr B=>by have:r=5:=B;omega⟩
def TI(Y)(hw:5<=w.1.size){c1 e5}(hb:∀b,b5=y? b->∃U f',w.1[b]?=y? (.cells U e5 f')/\∀m1,eP m1 c1 U) :
  WR (VB b5 q Y) (We (.cells c1 e5 (0,c1.size)) w) w:=by
 have key:∀r r',(VB b5 q Y).blk r=y? r'->r=5/\b5=y? r':=λr r' h=>by
  have h:(if r=5 then b5 else x?)=y? r':=h;split at h;exact⟨a!,h⟩
  cases h
 refine⟨λr r' B=>?_,λr r' c e f U e' f' B W h2 hn=>?_,λr r' c e f U e' f' B W h2 hl o ho=>?_,λ_ _ h=>(by cases h),by show 5<=7;omega,hw,q?,λ_ _ h=>(by cases h),λr r' B hl=>?_,λr B=>?_,λr i v hv=>(by cases hv)⟩;obtain⟨rfl,O⟩:=key r r' B;obtain⟨U,f',g1,g2⟩:=hb r' O;exact⟨_,_,q?,g1,.cells e5 _ f' (g2 _)⟩;obtain⟨rfl,O⟩:=key r r' B;exact absurd q? hn;obtain⟨rfl,O⟩:=key r r' B;have W:y? (Obj.cells c1 e5 (0,c1.size))=y? (.cells c e f):=W;simp only[ce,Obj.cells.injEq]at W;obtain⟨rfl,_,rfl⟩:=W;show 0<=o/\o<c1.size;omega;obtain⟨rfl,O⟩:=key r r' B;exact⟨_,_,_,q?⟩;have:r=6:=B;subst this;exact⟨q?,_,_,q?⟩
end
section
open Go.RowKit Go.Sort
def RO:∀n,Lib.decDigits n=np n:=by
 intro n;induction n using Nat.strongRecOn with
 |ind n B=>
  have e:∀d,d<=9->UInt8.ofNat (48+d)=48+UInt8.ofNat d:=λd O=>by rcases(o!:d=0\/d=1\/d=2\/d=3\/d=4\/d=5\/d=6\/d=7\/d=8\/d=9)with rfl|rfl|rfl|rfl|rfl|rfl|rfl|rfl|rfl|rfl<;>rfl
  by_cases h:n<=9;rw[ze h,Lib.decDigits,dif_pos o!,e n h];rw[wY h,Lib.decDigits,dif_neg o!,B _ o!,e _ o!]
def NU(n:Nat)(U:n<9223372036854775808)(w)(B:Lib.TabIs prog w "internal/strconv.uint64pow10" .u64 Lib.pow10Tab) :
  bZ prog 85 #[n? i? n] w λe w'=>e=e? (s? ⟨(np n).toArray⟩)/\eJ w w':=by
 have h:=Any.strconv_Itoa Qn n o! o! w B;refine h.mono ?_;rintro e w' ⟨rfl,k,os,rfl⟩;refine⟨?_,⟨q?,q?,q?,by simp[grow,World.drewN],λj O=>?_⟩⟩;unfold Lib.itoa;rw[if_neg o!,Int.toNat_natCast,RO];show(w.1++os)[j]?=_;rw[Array.getElem?_append_left O]
def On(e:dD)(w)(B:0<=e.dn)(hI:∀y,eJ w y->bZ prog 85 #[n? i? e.dn] y λen w'=>en=e? (s? ⟨(np e.dn.toNat).toArray⟩)/\eJ y w')(hn:l? e.name<=65536)(ht:l? e.text<=1048576)(hd:(np e.dn.toNat).length<=100) :
  bZ prog 51 #[.agg #[s? ⟨a? e.name⟩,s? ⟨a? e.text⟩,n? i? e.dn,n? i? e.dE]] w λen w'=>en=e? (s? ⟨(jy e).toArray⟩)/\eJ w w':=by
 obtain⟨nm,gn,tx,wt,tg⟩:=e;simp only at B hI hn ht hd⊢;obtain⟨db,O⟩:∃db:ByteArray,db=⟨(np wt.toNat).toArray⟩:=⟨_,q?⟩;obtain⟨nb,U⟩:∃nb:ByteArray,nb=⟨a? nm⟩:=⟨_,q?⟩;obtain⟨W,Y⟩:∃W:ByteArray,W=⟨a? tx⟩:=⟨_,q?⟩;have ad:nb.size<=65536:=by rw[U];show nm.toArray.size<=_;simpa using hn
 have ae:W.size<=1048576:=by rw[Y];show tx.toArray.size<=_;simpa using ht
 have af:db.size<=100:=by rw[O];show(np wt.toNat).toArray.size<=_;simpa using hd
 have k0:¬9223372036854775807<nb.size+1:=o!;have k1:¬9223372036854775807<nb.size+1+db.size:=o!;have k2:¬9223372036854775807<nb.size+1+db.size+1:=o!;have k3:¬9223372036854775807<nb.size+1+db.size+1+W.size:=o!;rw[<-O]at hI;rw[<-U,<-Y];have HI:cg _:=hI;have aa:cg (db=⟨(np wt.toNat).toArray⟩/\nb=⟨a? nm⟩/\W=⟨a? tx⟩):=⟨O,U,Y⟩;clear hI B hn ht hd O U Y;obtain⟨w0,B⟩:∃w0,w0=w.alloc (c? #[s? nb,s? W,n? i? wt,n? i? tg] 96):=⟨_,q?⟩
 have hA:∀j,w0.cell? ⟨w.1.size,j,x?⟩=(#[Value.string nb,s? W,n? i? wt,n? i? tg]:Array v?)[j]?:=λj=>by rw[B,World.cell?_alloc_at _ _ _ _ rfl]
 have ab:cg (eJ w w0):=by rw[B];exact eJ.alloc _ _
 have d0:w0.cell? ⟨w.1.size,0,x?⟩=y? (s? nb):=hA 0;have d1:w0.cell? ⟨w.1.size,1,x?⟩=y? (s? W):=hA 1;have d2:w0.cell? ⟨w.1.size,2,x?⟩=y? (n? i? wt):=hA 2;clear hA;go_enter func51,ntmps51;go_wp2_with fail;rw[<-B];clear B;refine jm k! ?_;refine dx 0 ?_ ?_<|dx 1 ?_ ?_<|dx 2 ?_ ?_<|dx 3 ?_ ?_<|dx 4 ?_ ?_ ?_
 any_goals(intro y hy;have q:=ca hy d0;have q1:=ca hy d2;unfold fL;go_simp;refine⟨eJ.refl _,?_⟩;with_reducible rfl)
 go_simp;refine dx 5 ?_ ?_ ?_;rotate_left
 .intro y hy;unfold fL;go_simp;refine⟨q?,(HI y ((eJ.trans ab hy))).mono ?_⟩;rintro e y2 ⟨rfl,h2⟩;refine⟨_,q?,h2,?_⟩;with_reducible rfl
 go_simp;refine dx 6 ?_ ?_<|dx 7 ?_ ?_<|dx 8 ?_ ?_<|dx 9 ?_ ?_<|dx 10 ?_ ?_<|dx 11 ?_ ?_ ?_
 any_goals(intro y hy;have q:=ca hy d1;unfold fL;go_simp;refine⟨eJ.refl _,?_⟩;with_reducible rfl)
 go_simp;refine pS k! ?_ _;intro y hy;have ac:cg (eJ w y):=eJ.trans ab hy;clear hy;go_simp;go_wp2;go_ret;refine⟨?_,ac⟩;show Ending.returned (s? (nb++⟨#[32]⟩++db++⟨#[32]⟩++W))=_;obtain⟨rfl,rfl,rfl⟩:=aa.out;congr 2;unfold jy;apply ByteArray.ext;simp[ByteArray.data_append]
end
section
open Go.Conc Go.RowKit Go.Maps
variable {A:Ask} {ms:List v?} {cap num:Nat} {w w':w?}
structure SG(w:w?)(num:Nat)(A:Ask)(cap:Nat)(ms:List v?):Prop where
 c0:w.1[5]?=some (.cells #[.chan (some 10)] 167 (0,1))
 c2:w.1[7]?=some (.cells #[.int .i64 num] 3 (0,1))
 c3:w.1[8]?=some (.cells #[.int .i64 A.m,.string A.q,.int .i64 A.t] 94 (0,3))
 ch:w.1[10]?=some (.chan cap ms.toArray false ms.length 0 false)
def SG.stay(h:SG w num A cap ms)(hb:∀k,k=5\/k=7\/k=8\/k=10->w'.1[k]?=w.1[k]?):SG w' num A cap ms:=
 ⟨(hb 5 i!).trans h.c0,(hb 7 i!).trans h.c2,(hb 8 i!).trans h.c3,(hb 10 i!).trans h.ch⟩
def SG.lt(h:SG w num A cap ms):10<w.1.size:=eG h.ch
def SG.wV(h:SG w num A cap ms)(B:kO w w'):SG w' num A cap ms:=by obtain⟨τ,B⟩:=B;have:=h.lt;exact h.stay λk O=>B.block k (by show k<w.1.size;omega)
def SG.ix(h:SG w num A cap ms)(v):SG {w with heap:=w.1.setIfInBounds 10 (.chan cap (ms.toArray.push v) f? (l? ms+1) 0 f?)} num A cap (ms++[v]):=by
 have O:=h.lt;have hb:∀k,k≠10->(w.1.setIfInBounds 10 (.chan cap (ms.toArray.push v) f? (l? ms+1) 0 f?))[k]?=w.1[k]?:=λk B=>by rw[bk (Ne.symm B)]
 refine⟨(hb 5 o!).trans h.c0,(hb 7 o!).trans h.c2,(hb 8 o!).trans h.c3,?_⟩;rw[bp o!];simp
def Rc{q:Nat}{e}(hA:A.Ok)(h:SG w num A cap ms)(hc:l? ms<cap)(he:Told e) :
  bZ prog 118 #[n? i? (q:Int),s? ⟨a? e.name⟩,sw e,p? (y? ⟨5,0,x?⟩),p? (y? ⟨7,0,x?⟩),p? (y? ⟨8,0,x?⟩)] w λen w'=>en=e? (.tuple #[])/\SG w' num A cap (ms++[pg A num (q,e)])/\dp (· = 10) w w':=by
 have HS:cg _:=h
 have HM:cg (∀y:w?,bZ prog 119 #[.agg #[n? i? num,n? i? q],s? ⟨a? e.name⟩,sw e,.agg #[n? i? A.m,s? A.q,n? i? A.t]] y λx w'=>x=e? (pg A num (q,e))/\eJ y w'):=λy=>by refine(EW num q ⟨a? e.name⟩ e.gone ⟨(yy e).toArray⟩ ⟨a? e.text⟩ e.dn e.dE A.m A.t A.q y hA.m hA.t he.2.2 hA.q (by show e.text.toArray.size<=_;have:=he.2.1;simp;omega)).mono ?_;rintro x w' ⟨h1,h2⟩;exact⟨h1,h2⟩
 obtain⟨mv,aa⟩:∃mv,mv=pg A num (q,e):=⟨_,q?⟩;rw[<-aa]at HM⊢;obtain⟨w0,ab⟩:∃w0,w.alloc (c? #[.bool e.gone,s? ⟨(yy e).toArray⟩,s? ⟨a? e.text⟩,n? i? e.dn,n? i? e.dE] 111)=w0:=⟨_,q?⟩;have ac:cg (B? w w0):=by show Below _ _ _;rw[<-ab];exact(bS _ _).alloc (ck _) _
 have W:w0.1[w.1.size]?=y? (c? #[.bool e.gone,s? ⟨(yy e).toArray⟩,s? ⟨a? e.text⟩,n? i? e.dn,n? i? e.dE] 111 (0,0)):=by rw[<-ab];exact heap_alloc_new w _
 have U:cg (SG w0 num A cap ms):=h.stay λk hk=>ac.block k (v! h.lt);have HY:cg (∀y,kO w0 y->y.1[w.1.size]?=y? (c? #[.bool e.gone,s? ⟨(yy e).toArray⟩,s? ⟨a? e.text⟩,n? i? e.dn,n? i? e.dE] 111 (0,0))):=λy ⟨τ,B⟩=>(B.block _ (eG W)).trans W;clear h he hA aa W HS;unfold sw at HM⊢;go_enter func118,ntmps118;go_upto_region 1 with fail;refine jC (Sd:=λa y=>y.tape=w0.tape->pE _ _ _ [8] a y) (last:=8) (tl:=[]) k! ?_ (λa y h ht=>h ht);refine dX 0 ?_ ?_ ?_;rotate_left
 .intro y B;have O:=(U.wV B).c0;have q0:=dq O 0;clear O;unfold fL;go_simp;refine⟨eJ.refl _,?_⟩;with_reducible rfl
 go_simp;refine dX 1 ?_ ?_ ?_;rotate_left
 .intro y B;have O:=(U.wV B).c2;have q0:=dq O 0;clear O;unfold fL;go_simp;refine⟨eJ.refl _,?_⟩;with_reducible rfl
 go_simp;refine dX 2 ?_ ?_<|dX 3 ?_ ?_<|dX 4 ?_ ?_ ?_
 any_goals(intro y B;unfold fL;go_simp;refine⟨eJ.refl _,?_⟩;with_reducible rfl)
 go_simp;refine dX 5 ?_ ?_ ?_;rotate_left
 .intro y B;have O:=HY.out y B;have q0:=dq O;clear O;unfold fL;go_simp;refine⟨eJ.refl _,?_⟩;with_reducible rfl
 go_simp;refine dX 6 ?_ ?_ ?_;rotate_left
 .intro y B;have O:=(U.wV B).c3;have q0:=dq O;clear O;unfold fL;go_simp;refine⟨eJ.refl _,?_⟩;with_reducible rfl
 go_simp;refine dX 7 ?_ ?_ ?_;rotate_left
 .intro y B;unfold fL;go_simp;refine⟨q?,(HM y).mono ?_⟩;rintro e y2 ⟨rfl,h2⟩;refine⟨_,q?,h2,?_⟩;with_reducible rfl
 go_simp;refine qY k! (λt=>Q3 k! _ _) ?_;intro y B ht;have Y:=U.wV B;refine A7 (v:=mv) q? q? q? q? q? q? Y.ch (u! hc) ?_;have ad:cg _:=Y.ix mv
 have HF:cg (dp (· = 10) w {y with heap:=y.1.setIfInBounds 10 (.chan cap (ms.toArray.push mv) f? (l? ms+1) 0 f?)}):=by obtain⟨τ,hx⟩:=B;have hb:=ac.out;refine⟨hx.os.trans hb.os,ht.trans hb.tape,hx.output.trans hb.output,?_,λk hk hn=>?_⟩;show _<=(y.1.setIfInBounds 10 _).size;rw[Array.size_setIfInBounds];exact Nat.le_trans hb.size hx.size;show(y.1.setIfInBounds 10 _)[k]?=_;rw[bk (Ne.symm hn)];exact(hx.block k (Nat.lt_of_lt_of_le hk hb.size)).trans (hb.block k hk)
 clear Y;generalize ({y with heap:=y.1.setIfInBounds 10 (.chan cap (ms.toArray.push mv) f? (l? ms+1) 0 f?)}:w?)=w3 at *;go_end0;exact⟨q?,ad,HF⟩
def Vy(num:Nat)(A:Ask)(cap:Nat):Kr where
 fn:=118
 cp:=#[p? (y? ⟨5,0,x?⟩),p? (y? ⟨7,0,x?⟩),p? (y? ⟨8,0,x?⟩)]
 own k:=k=10
 QL k:=k=5\/k=7\/k=8\/k=10
 T w told:=SG w num A cap (told.map (pg A num))
def Su{mx}(O:A.Ok)(hc:1099511627776<=cap):(Vy num A cap).Ok mx where
 iD:=⟨_,_,func118,q?,k!⟩
 sub _ h:=.inr (.inr (.inr h))
 lt:=by rintro w told k h B;have:=SG.lt h;have B:k=5\/k=7\/k=8\/k=10:=B;omega
 stay h hb:=SG.stay h hb
 tell:=by intro w q told e h _ hl U _;refine(Rc (q:=q) O h (by rw[bw];omega) U).mono ?_;rintro en w' ⟨rfl,W,Y⟩;exact⟨q?,by show SG _ _ _ _ _;rw[List.map_append];exact W,Y⟩
end
section
open Go.Conc Go.RowKit Go.Maps
def Vf(L:List v?)(w:w?):Exit->Act->w?->Prop:=λe a w'=>(e=.normal\/e=.ret)/\a.defers=sH/\(∃cap B s r t,w'.1[10]?=y? (.chan cap B f? s r t)/\B.toList=L)/\dp (· = 10) w w'
def VD{num cap A S ps qs w}(hA:A.Ok)(hc:1099511627776<=cap)(h:SG w num A cap [])(U:w.1[6]?=y? (c? #[s? S] 9 (0,1)))(hS:S.size<=1099511627775)(W:iM S.size S.1.1=y? (ps,qs)) :
  (xj f116).wp prog (Vf ((ps++qs).map (pg A num)) w) ⟨(xe 116 8 4 .skip).tmps,sH⟩ w:=by
 have B:=Pr (Su (num:=num) (mx:=S.size) hA hc) (w:=w) h hS (ck _);rw[W]at B;rw[show(Vy num A cap).v=.func (.func 118) #[] #[p? (y? ⟨5,0,x?⟩),p? (y? ⟨7,0,x?⟩),p? (y? ⟨8,0,x?⟩)]from rfl]at B;have aa:∀(fn:Fn)(first cap:Array v?)(w:w?),(Instr.makeFunc fn first cap).run prog w=.ok (.func fn first cap) w:=λ_ _ _ _=>rfl;have c6:=dq U 0;clear h U W;rw[show(xe 116 8 4 .skip).tmps=#[p? (y? ⟨5,0,x?⟩),p? (y? ⟨6,0,x?⟩),p? (y? ⟨7,0,x?⟩),p? (y? ⟨8,0,x?⟩),.chan (y? 10),cn,cn,cn]from rfl];show Code.wp prog (Code.region 1 _ f?) _ _ _;obtain⟨L,O⟩:∃L,L=(ps++qs).map (pg A num):=⟨_,q?⟩;rw[<-O];have HL:cg _:=O;clear O;go_wp2_with fail;refine B.mono ?_;rintro e w2 ⟨Y,rfl,g2⟩;have HG:cg _:=g2;have HF:cg _:=Y;clear B Y g2;go_wp2;exact⟨.inl q?,q?,⟨_,_,_,_,_,HG.ch,by rw[HL.out]⟩,HF⟩
end
section
open Go.Conc Go.RowKit Go.Maps
abbrev Wv(s:Nat)(S:ByteArray)(num:Nat)(A:Ask):Nat->Array v?:=VI s (s? S) num A
def Ww(S:ByteArray)(num:Nat)(A:Ask):Nat->Array v?|0=>#[.chan (y? 10)]|1=>#[s? S]|2=>#[n? i? num]|_=>O7 A
abbrev Wq:Nat->cb:=VK 9
def NF{Z w T dd q K num s A S ps qs}{U:w?}{os lent}(hA:A.Ok)(hK:K<=s+5)(h5:5<=s)(aa:dd<s)
  (hc:∀i,i<4->U.1[bb s i]?=y? (c? (Wv s S num A i) (Wq i) (0,0))) (hS:S.size<=1099511627775) (hX:iM S.size S.1.1=y? (ps,qs)) :
  Sends (oe prog Z w T dd q K lent) (oe prog Z w T dd q (s+5) lent) 116 (yF (bb s)) os os U (uu U [bb s 0,bb s 1,bb s 2,bb s 3]) (s+3) ((ps++qs).map (pg A num)):=by
 refine He (cm:=Wv s S num A) (cd:=Ww S num A) (te:=Wq) (fz:=λ_=>(0,0)) (M:=x?) (ex:=.map #[] 0) (cap:=1099511627776) UN q? q? d! d! d! UH (λv hv=>?_) ⟨q?,q?,q?,q?,q?,Ej,λm B=>?_,λb=>?_,λi hi=>?_,Qq s,hc,λm B i hi=>?_,q?,q?,λi h1 h4 m mi w' a' B hw ab W=>?_,nofun⟩ λτ=>?_;obtain⟨p,_,rfl⟩:=bv.1 hv;exact GJ A num p;obtain⟨x1,x2,x3⟩:=B.x;refine⟨x1,x2,λr B=>?_⟩;obtain B|B:=B
 have:=x3 r B;omega;simp only[bs,bu,or_false,bb]at B;omega;exact⟨λh=>⟨h,nofun⟩,λh=>h.1⟩;have:=Kz s i;omega;obtain⟨x1,_,_⟩:=B.x;rw[x1];have:=(Kz s i).1;omega;have:i=1\/i=2\/i=3:=o!;obtain rfl|rfl|rfl:=this
 exact Flat.arr (c:=#[s? S]) (λj O=>by
  have:=O;match j,this with
  |0,_=>exact .string _) W
 exact Flat.arr (c:=#[n? _ num]) (λj O=>by
  have:=O;match j,this with
  |0,_=>exact .int ..) W
 exact Flat.arr (c:=O7 A) (λj O=>by
  have:=O;match j,this with
  |0,_=>exact .int ..|1,_=>exact .string _|2,_=>exact .int ..) W
 have Y:SG (tp (uE U (Ww S num A) Wq 1099511627776 (.map #[] 0)) τ) num A _ []:=⟨q?,q?,q?,q?⟩;exact CA (VD hA (ck _) Y q? hS hX) λe a w' ⟨h1,h2,h3,_⟩=>⟨h1,h2,h3,.inl q?⟩
end
section
open Go.Conc Go.RowKit Go.Maps
section
variable {Z:mE prog} {w:w?} {T:List Frame} {dd q K:Nat} {lent:Bool} {fn:bW} {tm:Array v?} {os:List OF} {wl:w?} {V:List (Nat×Option (List v?))} {k:List Item}
def y9(num)(A){S ps qs ops i rest}{o:Oper}(s)(Y:s=wl.1.size)(hi:ops[i]?=y? o)(hA:A.Ok)(hK:K<=s+5)(h5:5<=s)(B:dd<s)(O:∀(r:Nat)a c,wl.1[r]?≠y? (.map a c))
  (U:S.size<=1099511627775) (hX:iM S.size S.1.1=y? (ps,qs)) (hV:∀x∈V,x.1<s)
  (hn:∀w2:w?,w2.1.size=s+5->(∀r,r<s->w2.1[r]?=wl.1[r]?)->(∀(r:Nat)a c,w2.1[r]?≠y? (.map a c))->w2.os=wl.os->dk (oe prog Z w T dd q (s+5) lent) (⟨fn,fq o.dst tm (.chan (y? (s+3))),r? ops rest::k⟩::os) w2 ((s+3,y? ((ps++qs).map (pg A num)))::V)) :
  dk (oe prog Z w T dd q K lent) (⟨79,#[n? i? num,s? S,.agg #[n? i? A.m,s? A.q,n? i? A.t],cn,cn,cn,cn,cn,cn,cn,cn],[.code (eD f79)]⟩::⟨fn,tm,r? ops (i::rest)::k⟩::os) wl V:=by
 exact EP (y? S) num A _ s Y hi O hV (λw6 os W _=>NF (Z:=Z) (w:=w) (T:=T) (q:=q) (lent:=lent) (os:=os) hA hK h5 B W U hX) (λq' h1 h2=>absurd h1 h2) hn
end
end

