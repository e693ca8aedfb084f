import Derived.Test.YtocbogeoffeolaaGreatDoorRefAJ
import Derived.Shelf.SlIter.Sorted
import Derived.Shelf.Strconv.Itoa3
set_option linter.all false
set_option maxHeartbeats 8000000
set_option maxRecDepth 1000000
open List renaming mem_cons->aS,mem_map->aT,map_append->aU,not_mem_nil->aV,mem_cons_of_mem->aW,length_map->aX,find?_cons->aY,mem_cons_self->aZ,map_cons->ba,getElem?_eq_getElem->bc,append_of_mem->bd,nodup_append->be,perm_middle->bf,filter_cons->bh,nodup_cons->bi,mem_filter->bj,setIfInBounds_toArray->bk,length_filter_le->bl,map_congr_left->bm,filter_eq_self->bn,set_cons_zero->bo,set_cons_succ->bp,mem_singleton->bq,length_append->br,find?_eq_none->bs,filter_append->bt,getElem?_map->bu,find?_append->bv,mem_append->bw,map_id->bx
open Array renaming getElem?_setIfInBounds_ne->bz,getElem_ofFn->b0,getElem?_eq_some_iff->b1,getElem?_eq_none->b2,getElem?_eq_getElem->b3,getElem?_setIfInBounds_self_of_lt->b4,getElem?_push->b6,ofFn->b7,ext_getElem?->b8,map->b9
open Go.Proofs.Tryz renaming underlying9->b',underlying0->bA,zeroValue9->bB,zeroValue0->bC,underlying4->bD,zeroValue4->bE,sizeOf9->bF,sizeOf0->bG,isAgg9->bH,isAgg0->bI,underlying229->bJ,underlying184->bK,underlying177->bL,underlying141->bM,underlying129->bN,zeroValue229->bO,zeroValue184->bP,zeroValue177->bQ,zeroValue141->bR,underlying85->bS,sizeOf4->bT,f123->bU,underlying5->bV,underlying3->bW,zeroValue5->bX,zeroValue3->bY,isAgg4->bZ
open Go.RowKit.Below renaming heap_setCell->ca,refl->cb
open Go renaming FuncId->cc,yielded->ce,callsIn_wide->cf,Calls->cg,maxLen->ci,TypeId->cj,wpList->ck,cell_later->cn,results->cq
open Classical renaming choose_spec->cr,choose->cs,byContradiction->ct
open Go.RowKit renaming Hid->cu
open Prod renaming fst->cw,snd->cx
open Option.some renaming injEq->cy,inj->cz
open Go.Region renaming wanted->c8
open Go.World renaming size_alloc->c9,cell?->cA
open Nat renaming le_refl->cB,lt_trans->cC,zero_le->cD
open List.Perm renaming append_left->cE,cons_inv->cF
open Option renaming map_some->cG
open Go renaming undef->cH
namespace Go.Proofs.YtocbogeoffeolaaGreatDoor
open Go.Proofs.Tryz
section
open Go.Shelf
def Dl:Go.Shelf.Ren:=⟨fun|7=>122|10=>163|n=>n,fun|23=>85|26=>9|3=>111|28=>177|0=>0|27=>176|33=>81|4=>4|n=>n,fun|n=>n⟩
theorem Tf:Go.Proofs.SlLaysZ.n7 prog Dl:={
 mixed:=by kernel_rfl
 f7:=⟨f122.name,by decide,func122.trans (congrArg some (by kernel_rfl))⟩,f10:=⟨f163.name,by decide,func163.trans (congrArg some (by kernel_rfl))⟩,t0:=bA,a0:=bI,z0:=bG,v0:=bC,t4:=bD,a4:=bZ,z4:=bT,v4:=bE,t23:=bS,a23:=isAgg85,z23:=sizeOf85,v23:=zeroValue85,t26:=b',a26:=bH,z26:=bF,v26:=bB,t27:=underlying176,a27:=isAgg176,z27:=sizeOf176,v27:=zeroValue176,t28:=bL,a28:=isAgg177,z28:=sizeOf177,v28:=bQ,t33:=underlying81,a33:=isAgg81,z33:=sizeOf81
 v33:=zeroValue81}
def yK:Go.Shelf.Ren:=⟨fun|6=>121|8=>161|9=>162|11=>216|13=>125|12=>217|23=>172|24=>173|14=>243|15=>244|16=>245|17=>246|18=>247|19=>248|20=>249|21=>250|22=>251|25=>271|26=>219|27=>220|28=>272|29=>273|30=>175|31=>279|n=>n,fun|26=>9|28=>177|24=>31|0=>0|3=>3|37=>184|48=>229|50=>141|4=>4|40=>222|39=>221|45=>226|5=>5|9=>9|51=>272|55=>276|57=>292|58=>212|33=>81|n=>n,fun|n=>n⟩
theorem RH:Go.Proofs.SlLaysZ.n6 prog yK:={
 mixed:=by kernel_rfl
 f6:=⟨f121.name,by decide,func121.trans (congrArg some (by kernel_rfl))⟩,f8:=⟨f161.name,by decide,func161.trans (congrArg some (by kernel_rfl))⟩,f11:=⟨f216.name,by decide,func216.trans (congrArg some (by kernel_rfl))⟩,t0:=bA,a0:=bI,z0:=bG,v0:=bC,t24:=underlying31,a24:=isAgg31,z24:=sizeOf31,v24:=zeroValue31,t26:=b',a26:=bH,z26:=bF,v26:=bB,t28:=bL,a28:=isAgg177,z28:=sizeOf177,v28:=bQ
 i26:=by kernel_rfl}
def FX:Go.Shelf.Ren:=⟨fun|6=>83|15=>125|14=>124|28=>172|29=>173|20=>164|21=>165|22=>166|23=>167|24=>168|25=>169|26=>170|27=>171|46=>218|47=>219|48=>220|49=>221|50=>222|57=>252|n=>n,fun|22=>82|24=>96|25=>133|3=>3|39=>184|0=>0|53=>229|55=>141|4=>4|46=>222|45=>221|50=>226|5=>5|9=>9|66=>272|70=>276|76=>292|77=>212|n=>n,fun|n=>n⟩
theorem KM:Go.Proofs.SlLaysF0.n6 prog FX:={
 mixed:=by kernel_rfl
 f6:=⟨f83.name,by decide,func83.trans (congrArg some (by kernel_rfl))⟩,f14:=⟨f124.name,by decide,func124.trans (congrArg some (by kernel_rfl))⟩,f15:=func125.trans (congrArg some (by kernel_rfl)),f20:=⟨f164.name,by decide,func164.trans (congrArg some (by kernel_rfl))⟩,f21:=⟨f165.name,by decide,func165.trans (congrArg some (by kernel_rfl))⟩,f22:=⟨f166.name,by decide,func166.trans (congrArg some (by kernel_rfl))⟩,f23:=⟨f167.name,by decide,func167.trans (congrArg some (by kernel_rfl))⟩,f24:=⟨f168.name,by decide,func168.trans (congrArg some (by kernel_rfl))⟩,f25:=⟨f169.name,by decide,func169.trans (congrArg some (by kernel_rfl))⟩,f26:=⟨f170.name,by decide,func170.trans (congrArg some (by kernel_rfl))⟩,f27:=⟨Tryz.f171.name,by decide,func171.trans (congrArg some (by kernel_rfl))⟩,f28:=func172.trans (congrArg some (by kernel_rfl)),f29:=func173.trans (congrArg some (by kernel_rfl)),f46:=⟨f218.name,by decide,func218.trans (congrArg some (by kernel_rfl))⟩,f47:=func219.trans (congrArg some (by kernel_rfl)),f48:=func220.trans (congrArg some (by kernel_rfl)),f49:=⟨f221.name,by decide,func221.trans (congrArg some (by kernel_rfl))⟩,f50:=⟨f222.name,by decide,func222.trans (congrArg some (by kernel_rfl))⟩,f57:=⟨f252.name,by decide,func252.trans (congrArg some (by kernel_rfl))⟩,t0:=bA,a0:=bI,z0:=bG,v0:=bC,t3:=bW,a3:=isAgg3,z3:=sizeOf3,v3:=bY,t4:=bD,a4:=bZ,z4:=bT,v4:=bE,t5:=bV,a5:=isAgg5,z5:=sizeOf5,v5:=bX,t9:=b',a9:=bH,z9:=bF,v9:=bB,t22:=underlying82,a22:=isAgg82,z22:=sizeOf82,v22:=zeroValue82,t25:=underlying133,a25:=isAgg133,z25:=sizeOf133,v25:=zeroValue133,t39:=bK,a39:=isAgg184,z39:=sizeOf184,v39:=bP,t45:=underlying221,a45:=isAgg221,z45:=sizeOf221,v45:=zeroValue221,t46:=underlying222,a46:=isAgg222,z46:=sizeOf222,v46:=zeroValue222,t50:=underlying226,a50:=isAgg226,z50:=sizeOf226,v50:=zeroValue226,t53:=bJ,a53:=isAgg229,z53:=sizeOf229,v53:=bO,t55:=bM,a55:=isAgg141,z55:=sizeOf141,v55:=bR,t66:=underlying272,a66:=isAgg272,z66:=sizeOf272,v66:=zeroValue272,t70:=underlying276,a70:=isAgg276,z70:=sizeOf276,v70:=zeroValue276,t76:=underlying292,a76:=isAgg292,z76:=sizeOf292,v76:=zeroValue292,t77:=underlying212,a77:=isAgg212,z77:=sizeOf212
 v77:=zeroValue212}
def Ej:Go.Shelf.Ren:=⟨fun|171=>85|243=>129|246=>176|283=>223|284=>224|285=>225|286=>226|129=>173|317=>253|318=>254|319=>255|320=>256|337=>274|338=>275|n=>n,fun|3=>3|9=>9|2=>2|4=>4|171=>278|0=>0|53=>141|37=>60|5=>5|173=>280|212=>295|51=>229|20=>20|213=>296|46=>184|232=>312|233=>313|n=>n,fun|17=>2|18=>3|19=>4|n=>n⟩
theorem P7:Go.Proofs.LaysM.n171 prog Ej:={
 mixed:=by kernel_rfl
 f129:=func173.trans (congrArg some (by kernel_rfl)),f171:=func85.trans (congrArg some (by kernel_rfl)),f243:=func129.trans (congrArg some (by kernel_rfl)),f246:=func176.trans (congrArg some (by kernel_rfl)),f283:=func223.trans (congrArg some (by kernel_rfl)),f284:=func224.trans (congrArg some (by kernel_rfl)),f285:=func225.trans (congrArg some (by kernel_rfl)),f286:=func226.trans (congrArg some (by kernel_rfl)),f317:=func253.trans (congrArg some (by kernel_rfl)),f318:=func254.trans (congrArg some (by kernel_rfl)),f319:=func255.trans (congrArg some (by kernel_rfl)),f320:=func256.trans (congrArg some (by kernel_rfl)),f337:=func274.trans (congrArg some (by kernel_rfl)),f338:=func275.trans (congrArg some (by kernel_rfl)),t0:=bA,a0:=bI,z0:=bG,v0:=bC,t2:=underlying2,a2:=isAgg2,z2:=sizeOf2,v2:=zeroValue2,t3:=bW,a3:=isAgg3,z3:=sizeOf3,v3:=bY,t4:=bD,a4:=bZ,z4:=bT,v4:=bE,t5:=bV,a5:=isAgg5,z5:=sizeOf5,v5:=bX,t9:=b',a9:=bH,z9:=bF,v9:=bB,t20:=underlying20,a20:=isAgg20,z20:=sizeOf20,v20:=zeroValue20,t37:=underlying60,a37:=isAgg60,z37:=sizeOf60,v37:=zeroValue60,t46:=bK,a46:=isAgg184,z46:=sizeOf184,v46:=bP,t51:=bJ,a51:=isAgg229,z51:=sizeOf229,v51:=bO,t53:=bM,a53:=isAgg141,z53:=sizeOf141,v53:=bR,t171:=underlying278,a171:=isAgg278,z171:=sizeOf278,v171:=zeroValue278,t173:=underlying280,a173:=isAgg280,z173:=sizeOf280,v173:=zeroValue280,t212:=underlying295,a212:=isAgg295,z212:=sizeOf295,v212:=zeroValue295,t213:=underlying296,a213:=isAgg296,z213:=sizeOf296,t232:=underlying312,a232:=isAgg312,z232:=sizeOf312,v232:=zeroValue312,t233:=underlying313,a233:=isAgg313,z233:=sizeOf313,v233:=zeroValue313,g17:=by kernel_rfl
 g18:=by kernel_rfl
 g19:=by kernel_rfl
 i0:=by kernel_rfl
 i2:=by kernel_rfl
 i3:=by kernel_rfl
 i4:=by kernel_rfl
 i5:=by kernel_rfl
 i9:=by kernel_rfl
 i20:=by kernel_rfl
 i37:=by kernel_rfl
 i46:=by kernel_rfl
 i51:=by kernel_rfl
 i53:=by kernel_rfl
 i171:=by kernel_rfl
 i173:=by kernel_rfl
 i212:=by kernel_rfl
 i232:=by kernel_rfl
 i233:=by kernel_rfl
 m17:=by kernel_rfl
 m18:=by kernel_rfl
 m19:=by kernel_rfl}
end
section
open Go.RowKit Go.Maps Go.Sort Go.Shelf
theorem Qr(m:Nat):AnyZ.SortsIn prog yK Fence.wide m:=
 ⟨λblk off cap ss W Y O U=>cf.2 (Any.slices_Sort_string z8 blk off cap ss W Y O U),
  λp cap W=>cf.2 (Any.slices_Sort_string_none z8 p cap W)⟩
theorem Q'(B:Nat)(w:World):cg prog 122 #[.map (some B)] w λe w'=>e=.returned (.func (.func 163) #[] #[.pointer (some ⟨w.heap.size,0,none⟩)])/\w'=w.alloc (.cells #[.map (some B)] 85):=
 cf.1 (AnyZ.keys_in Tf _ 5 trivial rfl _ w)
theorem I7(B:Nat)(l:List (Wd×Value))(w:World)(h:gT prog 9 w B l)(hl:l.length<=100000) :
  cg prog 121 #[.func (.func 163) #[] #[.pointer (some ⟨w.heap.size,0,none⟩)]] (w.alloc (.cells #[.map (some B)] 85)) λe w'=>∃v,e=.returned v/\
   w'.ownsRow (w.heap.size+1) 9 1 v l.length (gr ((l.map cw).mergeSort λx y=>decide (x<=y)))/\Below (w.heap.size+1) (w.alloc (.cells #[.map (some B)] 85)) w':=by
 obtain⟨D,O,Y⟩:=h;have ae:=O.lt
 have aa:SeqGives Fence.wide 2 _ _ #[.pointer (some ⟨w.heap.size,0,none⟩)] encStr _ _ (w.alloc (.cells #[.map (some B)] 85)):=
  AnyZ.keys_gives (ρ:=Dl) {Tf with} _ _ trivial rfl (by omega) _ B _ D _ (by simp) (by simp) (by
   obtain⟨es,clock,hb,Ft,Y,hD⟩:=O
   exact⟨es,clock,(Below.heap_alloc _ _ B ae).trans hb,Ft,Y,hD⟩)
 have hc:=cf.1 (AnyZ.sorted_in RH _ 5 trivial trivial trivial trivial rfl (by omega) (Qr _) (enters_of func162 (by kernel_rfl) rfl) _ _ trivial (enters_of func163 (by kernel_rfl) rfl) _ _ (by rw[Y.size]; unfold ci; omega) (by rw[Y.size]; omega) _ aa);refine hc.mono ?_;rintro e w' ⟨v,ss,rfl,hp,U,_,hb⟩
 have ab:Collected D (λ_=>false) _:=⟨Y.nodup,λx=>by
  rw[Y.has x]
  simp⟩
 have ac:=hp.trans (ab.perm O (string_keyed (by kernel_rfl)) (by kernel_rfl) (λ_=>rfl)).symm;have ad:ss.length=l.length:=by rw[ac.length_eq]; simp
 rw[c9]at U hb;refine⟨v,rfl,?_,hb⟩;rw[ad,mergeSort_of_perm ac]at U;exact U
end
section
open Go.Conc Go.RowKit Go.Maps
variable {es:List gu} {ms:List Value} {cap num:Nat} {w w':World}
structure Ask where
 m:Nat
 q:ByteArray
 t:Nat
structure Ask.Ok(A:Ask):Prop where
 m:A.m<=3
 t:A.t<256
 q:A.q.size<=1048576
def Ask.has(A:Ask)(e:gu):Bool:=!e.gone&&(sk A.t e.gK.toNat&&ns A.m A.q.data.toList (ir e.text))
def bytes(l:Wd):ByteArray:=⟨l.toArray⟩
def nZ(A:Ask)(k:Nat)(p:Nat×gu):Value:=if A.has p.2=true then Cg k p.1 (bytes p.2.name) true (bytes (wP p.2)) (bytes p.2.text) p.2.gw p.2.gK else Cg k p.1 (bytes p.2.name) false Q5 Q5 0 0
def sU(es:List gu):List gu:=es.mergeSort λa b=>decide (a.name<=b.name)
def jz(es:List gu):List (Nat×gu):=(sU es).zipIdx.map λp=>(p.2,p.1)
theorem ql(es:List gu):(sU es).Perm es:=List.mergeSort_perm ..
theorem FG(es:List gu):(sU es).map gu.name=(es.map gu.name).mergeSort λx y=>decide (x<=y):=List.map_mergeSort λ_ _ _ _=>rfl
theorem tQ(es:List gu)(k:Nat):(jz es)[k]?=((sU es)[k]?).map λe=>(k,e):=by
 simp[jz,List.getElem?_zipIdx];cases(sU es)[k]?<;>rfl
theorem Hq(es:List gu):(jz es).length=es.length:=by simp[jz,(ql es).length_eq]
theorem I1{k:Nat}(O:k<es.length):∃e,(sU es)[k]?=some e/\e∈es/\((es.map gu.name).mergeSort λx y=>decide (x<=y))[k]?=some e.name:=by
 have h:k<(sU es).length:=by rw[(ql es).length_eq]; exact O
 refine⟨(sU es)[k],bc h,(ql es).mem_iff.1 (List.getElem_mem h),?_⟩;rw[<-FG,bu,bc h];rfl
theorem Nf(O:(es.map gu.name).Nodup){e:gu}(U:e∈es)(z:Value):pf (es.map lR) e.name z=tk e:=by
 have:(es.map lR).find? (λp=>p.1==e.name)=some (lR e):=by
  induction es with
  |nil=>cases U
  |cons x es ih=>
   rw[ba,bi]at O;rw[ba,aY];by_cases Y:x.name=e.name
   .rcases aS.1 U with rfl|h
    .simp[lR]
    .exact absurd (List.mem_map_of_mem h) (Y▸O.1)
   .have:((lR x).1==e.name)=false:=by simpa[lR]using Y
    rw[this];rcases aS.1 U with rfl|h
    .exact absurd rfl Y
    .exact ih O.2 h
 unfold pf;rw[this];rfl
structure SW(w:World)(num:Nat)(es:List gu)(A:Ask)(cap:Nat)(ms:List Value):Prop where
 c0:w.cell? ⟨5,0,none⟩=some (.chan (some 10))
 c1:w.cell? ⟨6,0,none⟩=some (.map (some 11))
 c2:w.cell? ⟨7,0,none⟩=some (.int .i64 num)
 c3:w.cell? ⟨8,0,none⟩=some (.int .i64 A.m)
 c4:w.cell? ⟨8,1,none⟩=some (.string A.q)
 c5:w.cell? ⟨8,2,none⟩=some (.int .i64 A.t)
 ch:w.heap[10]?=some (.chan cap ms.toArray false ms.length 0 false)
 sm:iu w 11 es
theorem SW.lt{A:Ask}(h:SW w num es A cap ms):11<w.heap.size:=h.sm.lt
theorem SW.ext{A:Ask}(h:SW w num es A cap ms)(O:iT w w'):SW w' num es A cap ms:=by
 have U:=h.lt;exact⟨(O.cell (p:=⟨5,0,none⟩) (by show(5)<_; omega)).trans h.c0,(O.cell (p:=⟨6,0,none⟩) (by show(6)<_; omega)).trans h.c1,(O.cell (p:=⟨7,0,none⟩) (by show(7)<_; omega)).trans h.c2,(O.cell (p:=⟨8,0,none⟩) (by show(8)<_; omega)).trans h.c3,(O.cell (p:=⟨8,1,none⟩) (by show(8)<_; omega)).trans h.c4,(O.cell (p:=⟨8,2,none⟩) (by show(8)<_; omega)).trans h.c5,(O.block 10 (by omega)).trans h.ch,h.sm.below O⟩
theorem SW.tp{A:Ask}(h:SW w num es A cap ms)(τ:Tape):SW (tp w τ) num es A cap ms:=by
 obtain⟨O,U,Y,h4,h5,h6,h7,D,h8,h9⟩:=h;exact⟨O,U,Y,h4,h5,h6,h7,D,h8,h9⟩
theorem SW.xI{A:Ask}(h:SW w num es A cap ms)(O:nV w w'):SW w' num es A cap ms:=by
 obtain⟨τ,O⟩:=O;exact(h.tp τ).ext O
theorem SW.jU{A:Ask}(h:SW w num es A cap ms)(v:Value):SW {w with heap:=w.heap.setIfInBounds 10 (.chan cap (ms.toArray.push v) false (ms.length+1) 0 false)} num es A cap (ms++[v]):=by
 have Y:=h.lt;have hb:∀k,k≠10->(w.heap.setIfInBounds 10 (.chan cap (ms.toArray.push v) false (ms.length+1) 0 false))[k]?=w.heap[k]?:=λk U=>by rw[bz (Ne.symm U)]
 have O:∀(k o:Nat),k≠10->cA {w with heap:=w.heap.setIfInBounds 10 (.chan cap (ms.toArray.push v) false (ms.length+1) 0 false)} ⟨k,o,none⟩=w.cell? ⟨k,o,none⟩:=λk o U=>by
  simp only[cA,hb k U]
 refine⟨(O 5 0 (by omega)).trans h.c0,(O 6 0 (by omega)).trans h.c1,(O 7 0 (by omega)).trans h.c2,(O 8 0 (by omega)).trans h.c3,(O 8 1 (by omega)).trans h.c4,(O 8 2 (by omega)).trans h.c5,?_,h.sm.stay (hb 11 (by omega))⟩;rw[b4 (by omega)];simp
end
section
open Go.Conc Go.RowKit Go.Maps
def tE:List Deferred:=[⟨.collected 9,#[.chan (some 10)]⟩]
theorem D4{f:cc}{tm:Array Value}{rest:Code}{w:World}{L:List Value}{Kp:World->Prop}{Q:Exit->Act->World->Prop}(h:rest.wp prog Q ⟨tm,tE⟩ w)
  (hQ:∀e a w',Q e a w'->(e=.normal\/e=.ret)/\a.defers=tE/\(∃cap Y s r t,w'.heap[10]?=some (.chan cap Y false s r t)/\Y.toList=L)/\Kp w') :
  ∃n O,runN prog n (lone ⟨f,tm,[.code rest],tE,.run,.normal,none⟩ [door prog] w)=.next (LS.m O)/\Og prog f L Kp O:=by
 obtain⟨e,a,w',hq,U⟩:=h ⟨f,#[],[],[],.run,.normal,none⟩ [] _;obtain⟨he,hd,hh,hk⟩:=hQ e a w' hq
 have hr:∃td n,runN prog n (lone ⟨f,tm,[.code rest],tE,.run,.normal,none⟩ [door prog] w)=.next (lone ⟨f,a.tmps,td,a.defers,.returning,.normal,none⟩ [door prog] w'):=by
  rcases he with rfl|rfl
  .obtain⟨n,hn⟩:=(show Steps .. from U).trans (.one step_end);exact⟨[],n,hn⟩
  .obtain⟨td,n,hn⟩:=U;exact⟨td,n,hn⟩
 obtain⟨td,n,hn⟩:=hr;exact⟨n,⟨⟨f,a.tmps,td,a.defers,.returning,.normal,none⟩,[door _],w'⟩,hn,rfl,rfl,hd,rfl,hh,hk⟩
def Vh(L:List Value)(o:Option Obj):Exit->Act->World->Prop:=λe a w'=>(e=.normal\/e=.ret)/\a.defers=tE/\(∃cap O s r t,w'.heap[10]?=some (.chan cap O false s r t)/\O.toList=L)/\w'.heap[11]?=o
theorem M9{w w':World}{base e sz n:Nat}{v:Value}{xs:List Value}(h:w.ownsRow base e sz v n xs)(hb:∀g,base<=g->g<w.heap.size->w'.heap[g]?=w.heap[g]?):w'.ownsRow base e sz v n xs:=by
 obtain⟨h0,O⟩:=h;refine⟨h0,?_⟩;rcases O with O|⟨g,cap,U,h2,Y,h4,h5⟩
 .exact .inl O
 .exact .inr ⟨g,cap,U,h2,Y,(hb g Y (b1.1 h4).1).trans h4,h5⟩
theorem Br{w y:World}(h:nV w y)(g:Nat)(O:g<w.heap.size):y.heap[g]?=w.heap[g]?:=by
 obtain⟨τ,h⟩:=h;exact h.block g O
theorem U7(num:Nat)(es:List gu)(A:Ask)(hA:A.Ok)(cap:Nat)(w:World)(h:SW w num es A cap [])(ak:es.length<=cap)(hl:es.length<=100000)(al:∀e∈es,e.name.length<=ci/\e.text.length<=1048576/\(e.gone=false->0<=e.gK/\e.gK<=255))(aI:num<=1000) :
  (xD f120).wp prog (Vh ((jz es).map (nZ A num)) (w.heap[11]?)) ⟨(xc 120 27 6 .skip).tmps,tE⟩ w:=by
 have HS:cu (SW _ _ _ _ _ _):=h;have c1:=h.c1;obtain⟨D,hD⟩:∃D,D=(jz es).map (nZ A num):=⟨_,rfl⟩;have HD:cu (D=(jz es).map (nZ A num)):=hD;rw[<-hD];clear hD;have aa:=I7 11 (es.map lR) w h.sm (by simpa using hl);have HK:cu (∀y,y=w->cg prog 122 #[.map (some 11)] y λe w'=>e=.returned (.func (.func 163) #[] #[.pointer (some ⟨w.heap.size,0,none⟩)])/\w'=w.alloc (.cells #[.map (some 11)] 85)):=λy U=>by subst U; exact Q' 11 _
 rw[show(xc 120 27 6 .skip).tmps=#[.pointer (some ⟨5,0,none⟩),.pointer (some ⟨6,0,none⟩),.pointer (some ⟨7,0,none⟩),.pointer (some ⟨8,0,none⟩),cH,cH,.chan (some 10),cH,cH,cH,cH,cH,cH,cH,cH,cH,cH,cH,cH,cH,cH,cH,cH,cH,cH,cH,cH]from rfl];show Code.wp prog (Code.seq (Code.region 1 _ false) (Code.block 0 (Code.loop _))) _ _ _;obtain⟨N,hN⟩:∃N,N=(es.map gu.name).mergeSort λx y=>decide (x<=y):=⟨_,rfl⟩;have am:(es.map lR).map cw=es.map gu.name:=by simp[lR]
 rw[am,<-hN,aX]at aa;have ab:es.length=N.length:=by rw[hN]; simp
 rw[ab]at aa ak hl;have an:=aa;have HN:cu (N=(es.map gu.name).mergeSort λx y=>decide (x<=y)):=hN;have ao:cu (es.length=N.length):=ab;have aD:cu (∀e∈es,e.name.length<=ci/\e.text.length<=1048576/\(e.gone=false->0<=e.gK/\e.gK<=255)):=al;have aE:=h.lt;clear aa hN ab am al h;go_wp2_with (go_at_call 122; refine(HK.out _ rfl).mono ?_; rintro e y ⟨rfl,rfl⟩);refine an.mono ?_;rintro e y ⟨v,rfl,Y,hb⟩;obtain⟨av,cv,rfl,aJ⟩:=gU Y
 have HX:cu (iT w y):=by
  show Below _ _ _;exact((cb _ _).alloc (cB _) _).trans (Below.mono hb (by omega))
 have HR:cu (y.ownsRow 12 9 1 (.slice av N.length cv) N.length (gr N)):=ownsRow_base_a Y (by omega);clear Y hb HK an;have HS1:cu (SW y num es A cap []):=HS.out.ext HX.out;have HK1:cu (y.heap[11]?=w.heap[11]?):=HX.out.block 11 aE;clear HX HS c1;go_wp2_with fail;go_loopw [11] (λi wr=>∃k:Nat,k<=N.length/\i=.int .i64 k/\SW wr num es A cap (D.take k)/\wr.ownsRow 12 9 1 (.slice av N.length cv) N.length (gr N)/\wr.heap[11]?=w.heap[11]?) (λi _=>N.length-(intOf i).toNat)
 case atStart=>exact⟨0,cD _,rfl,HS1.out,HR.out,HK1.out⟩
 case round=>
  obtain⟨k,hk,rfl,ap,aq,ar⟩:=hrel;have O:cu (SW _ _ _ _ _ _):=ap;have ac:cu (wr.ownsRow 12 9 1 (.slice av N.length cv) N.length (gr N)):=aq;have ad:cu (wr.heap[11]?=w.heap[11]?):=ar;clear ap aq ar HS1 HR HK1;have au:cu (D.length=N.length):=by show _=_; rw[HD.out,aX,Hq,ao.out]
  by_cases hlt:k<N.length
  .obtain⟨bg,og,rfl,ae⟩:=lJ ac.out k _ (kh N k hlt);go_upto_region 4 with fail;obtain⟨e,aw,af,ag⟩:=I1 (es:=es) (k:=k) (by rw[ao.out]; exact hlt)
   have ax:N[k]=e.name:=by
    rw[<-HN.out,bc hlt,cy]at ag;exact ag
   rw[ax];obtain⟨ay,az,a0⟩:=aD.out e af
   have HM:cu (∀y:World,cg prog 119 #[.agg #[.int .i64 num,.int .i64 k],.string ⟨e.name.toArray⟩,tk e,.agg #[.int .i64 A.m,.string A.q,.int .i64 A.t]] y λx w'=>x=.returned (nZ A num (k,e))/\iT y w'):=λy=>by
    refine(Ip num k ⟨e.name.toArray⟩ e.gone ⟨(wP e).toArray⟩ ⟨e.text.toArray⟩ e.gw e.gK A.m A.t A.q y hA.m hA.t a0 hA.q (by show e.text.toArray.size<=_; simpa using az)).mono ?_;rintro x w' ⟨h1,h2⟩;exact⟨h1,h2⟩
   have ah:cu (∀y,SW y num es A cap (D.take k)->(Instr.lookup 85 (.map (some 11)) (.string ⟨e.name.toArray⟩) false).run prog y=.ok (tk e) y):=λy U=>by
    rw[(gT.look U.sm b' bS (Lo y) e.name ay).1,Nf (by have:=U.sm.nodup; simpa[lR]using this) af]
   have a5:D[k]?=some (nZ A num (k,e)):=by rw[HD.out,bu,tQ,aw]; rfl
   have HT:cu (D.take (k+1)=D.take k++[nZ A num (k,e)]):=by
    obtain⟨aF,aG⟩:=List.getElem?_eq_some_iff.1 a5;show _=_;rw[List.take_succ_eq_append_getElem aF,aG]
   obtain⟨sv,a'⟩:∃sv,sv=tk e:=⟨_,rfl⟩;obtain⟨mv,aA⟩:∃mv,mv=nZ A num (k,e):=⟨_,rfl⟩;rw[<-a']at HM ah;rw[<-aA]at HM HT;clear a' aA ax ay az a0 aw af ag a5 ae;refine jI (Sd:=λa y=>pj _ _ _ [10] a y) (last:=10) (tl:=[]) (by kernel_rfl) ?_ (λa y h _=>h);refine gI 0 ?_ ?_<|gI 1 ?_ ?_<|gI 2 ?_ ?_<|gI 3 ?_ ?_<|gI 4 ?_ ?_<|gI 5 ?_ ?_<|gI 6 ?_ ?_<|gI 7 ?_ ?_<|gI 8 ?_ ?_ ?_
   any_goals(intro y U; have q:=(O.out.xI U).c0; have q1:=(O.out.xI U).c2; have q2:=(O.out.xI U).c1; have q3:=ah.out y (O.out.xI U); have q4:=(O.out.xI U).c3; have q5:=(O.out.xI U).c4; have q6:=(O.out.xI U).c5; unfold jC; go_simp; refine⟨iT.refl _,?_⟩; with_reducible rfl)
   go_simp;refine gI 9 ?_ ?_ ?_;rotate_left
   .intro y U; unfold jC; go_simp; refine⟨rfl,(HM.out y).mono ?_⟩; rintro e y2 ⟨rfl,h2⟩; refine⟨_,rfl,h2,?_⟩; with_reducible rfl
   go_simp;refine pn (by kernel_rfl) (λt=>EM (by kernel_rfl) _ _) ?_;intro y U;have ai:=O.out.xI U;have aH:=au.out;refine AG (v:=mv) rfl rfl rfl rfl rfl rfl ai.ch (by simp; omega) ?_;have aj:=ai.jU mv;rw[<-HT.out]at aj
   have aB:=M9 (w':={y with heap:=y.heap.setIfInBounds 10 (.chan cap ((D.take k).toArray.push mv) false ((D.take k).length+1) 0 false)}) ac.out (λg h1 h2=>by
    show(y.heap.setIfInBounds 10 _)[g]?=_;rw[bz (by omega)]
    exact Br U g h2)
   have aC:({y with heap:=y.heap.setIfInBounds 10 (.chan cap ((D.take k).toArray.push mv) false ((D.take k).length+1) 0 false)}:World).heap[11]?=w.heap[11]?:=by
    show(y.heap.setIfInBounds 10 _)[11]?=_;rw[bz (by omega),Br U 11 O.out.lt];exact ad.out
   generalize ({y with heap:=y.heap.setIfInBounds 10 (.chan cap ((D.take k).toArray.push mv) false ((D.take k).length+1) 0 false)}:World)=w3 at *;have HS4:cu (SW _ _ _ _ _ _):=aj;have HR4:cu (w3.ownsRow 12 9 1 (.slice (some ⟨bg,og,none⟩) N.length cv) N.length (gr N)):=aB;have HK4:cu (w3.heap[11]?=w.heap[11]?):=aC;clear aj aB aC U ai aH HM ah HT O ac ad;go_wp2;go_roundw
   case rel=>exact⟨k+1,hlt,by simp,HS4.out,HR4.out,HK4.out⟩
   case measure=>simp[intOf]; omega
  .obtain rfl:k=N.length:=by omega
   go_wp2;exact⟨.inl rfl,rfl,⟨_,_,_,_,_,O.out.ch,by rw[List.toList_toArray,<-au.out,List.take_length]⟩,ad.out⟩
end
section
open Go.Conc Go.RowKit Go.Maps
variable {ops:Array Oper} {c x y:Code} {rest:List Nat} {i:Nat} {o:Oper} {v:Value}
def We(dd q K:Nat)(m:Ren):Prop:=(m.dead=λr=>r=dd)/\m.dm dd=q/\∀r,m.loose r->r<K
def q8(P:Program)(Z:lQ P)(w:World)(T:List Frame)(dd q K:Nat)(lent:Bool):Env P where
 Z:=Z
 jl:=λb=>b<w.heap.size/\(lent=true->b≠q)
 w0:=w
 T:=T
 gl:=λg=>DQ g=true
 st:=false
 je:=λf=>Oa f=true
 ok:=Ou P Oa DQ false
 X:=We dd q K
 le:=λm O h ⟨U,Y,h3⟩=>⟨h.dead.trans U,by rw[h.dm]; exact Y,λr hr=>h3 r (h.less r hr)⟩
theorem Fl{Z:lQ prog}{w:World}{T:List Frame}{dd q K:Nat}{lent:Bool}(m:Ren)(O:m.ok=(q8 prog Z w T dd q K lent).ok)(U:m.je=(q8 prog Z w T dd q K lent).je)(Y:m.G=prog.globals.size):nW prog m (q8 prog Z w T dd q K lent).gl (q8 prog Z w T dd q K lent).st:=UX O U (Y.trans zP)
section
variable {P:Program} {E:Env P} {fn:cc} {tm:Array Value} {os:List OF} {wl:World} {V:List (Nat×Option (List Value))} {k:List Item}
theorem gp.tw(τ:Nat->Question->Nat)(h:gp E os wl V):gp E os (tp wl τ) V:=gp.tape (τ:=wl.tape) h
def GB(E:Env P)(fn:cc)(k:List Item)(os:List OF)(V:List (Nat×Option (List Value))):Exit->Act->World->Prop:=λe a w'=>a.defers=[]/\∃k',((e=.normal/\k'=k)\/∃id,e=.exit id/\exitTo id k=some k')/\gp E (⟨fn,a.tmps,k'⟩::os) w' V
theorem gp.GY(O:jn E.ok c)(U:k.all mJ=true)(Y:xv E os)(h:∀τ,Ch τ wl->c.wp P (GB E fn k os V) ⟨tm,[]⟩ (tp wl τ)):gp E (⟨fn,tm,.code c::k⟩::os) wl V:=gp.code O U Y h λ_ _ _ h=>h
theorem gp.Tx(hi:ops[i]?=some o)(U:c8 o (ce ops tm)=true)(Y:OkOp P E.je E.gl E.st o.op)
  (O:∀τ,jC P o ⟨tm,[]⟩ (tp wl τ) (λv y=>gp E (⟨fn,(Act.put ⟨tm,[]⟩ o.dst v).tmps,.inRegion ops rest::k⟩::os) y V)):gp E (⟨fn,tm,.inRegion ops (i::rest)::k⟩::os) wl V:=by
 refine gp.any hi U Y λτ=>?_;have:=O τ;refine l6.mono (λv y h=>?_) this;rw[wO]at h;exact h
def Same(y O:World):Prop:=O=y
theorem gp.pu(hi:ops[i]?=some o)(O:c8 o (ce ops tm)=true)(U:OkOp P E.je E.gl E.st o.op)(Y:∀y,jC P o ⟨tm,[]⟩ y λu y'=>Same y y'/\u=v)
  (h:gp E (⟨fn,(Act.put ⟨tm,[]⟩ o.dst v).tmps,.inRegion ops rest::k⟩::os) wl V):gp E (⟨fn,tm,.inRegion ops (i::rest)::k⟩::os) wl V:=
 gp.Tx hi O U λτ=>(Y _).mono λ_ _ hh=>by
  obtain⟨rfl,rfl⟩:=hh;exact gp.tw τ h
end
section
variable {Z:lQ prog} {w:World} {T:List Frame} {dd q K:Nat} {lent:Bool} {fn:cc} {tm:Array Value} {os:List OF} {wl:World} {V:List (Nat×Option (List Value))} {k:List Item}
theorem Uv(hi:ops[i]?=some o)(U:c8 o (ce ops tm)=true)(Y:Fx prog Oa DQ false o.op=true)
  (O:∀τ,jC prog o ⟨tm,[]⟩ (tp wl τ) (λv y=>gp (q8 prog Z w T dd q K lent) (⟨fn,(Act.put ⟨tm,[]⟩ o.dst v).tmps,.inRegion ops rest::k⟩::os) y V)):gp (q8 prog Z w T dd q K lent) (⟨fn,tm,.inRegion ops (i::rest)::k⟩::os) wl V:=
 gp.Tx hi U (xK Y) O
theorem iS(h:gp (q8 prog Z w T dd q K lent) (⟨fn,(Act.put ⟨tm,[]⟩ o.dst v).tmps,.inRegion ops rest::k⟩::os) wl V)(hi:ops[i]?=some o:=by rfl)(U:∀y:World,jC prog o ⟨tm,[]⟩ y (λu Y=>Same y Y/\u=v):=by intro y; unfold jC; go_simp; refine⟨rfl,?_⟩; with_reducible rfl)
  (O:c8 o (ce ops tm)=true:=by rfl) (ho:Fx prog Oa DQ false o.op=true:=by kernel_rfl):gp (q8 prog Z w T dd q K lent) (⟨fn,tm,.inRegion ops (i::rest)::k⟩::os) wl V:=gp.pu hi O (xK ho) U h
theorem oB(hi:ops[i]?=some o)(U:c8 o (ce ops tm)=true)(ho:Fx prog Oa DQ false o.op=true)
  (O:∀Y:World,Y.heap=wl.heap->Y.os=wl.os->jC prog o ⟨tm,[]⟩ Y (λv y=>gp (q8 prog Z w T dd q K lent) (⟨fn,(Act.put ⟨tm,[]⟩ o.dst v).tmps,.inRegion ops rest::k⟩::os) y V)):gp (q8 prog Z w T dd q K lent) (⟨fn,tm,.inRegion ops (i::rest)::k⟩::os) wl V:=
 Uv hi U ho λτ=>O _ rfl rfl
theorem li(O:my (λo=>Fx prog Oa DQ false o.op) c=true)(Y:k.all mJ=true)(hf:xv (q8 prog Z w T dd q K lent) os)(h:∀U:World,U.heap=wl.heap->U.os=wl.os->c.wp prog (GB (q8 prog Z w T dd q K lent) fn k os V) ⟨tm,[]⟩ U):gp (q8 prog Z w T dd q K lent) (⟨fn,tm,.code c::k⟩::os) wl V:=
 gp.GY (pN O) Y hf λτ _=>h _ rfl rfl
theorem gp.xW{P:Program}{E:Env P}{c:Operand}(O:xq c)(e:ll tm c=.bool true)(h:gp E (⟨fn,tm,.code x::k⟩::os) wl V):gp E (⟨fn,tm,.code (.cond c x y)::k⟩::os) wl V:=gp.cond O e h
theorem gp.qv{P:Program}{E:Env P}{c:Operand}(O:xq c)(e:ll tm c=.bool false)(h:gp E (⟨fn,tm,.code y::k⟩::os) wl V):gp E (⟨fn,tm,.code (.cond c x y)::k⟩::os) wl V:=gp.cond O e h
theorem jf(d:Option Tmp)(tm:Array Value)(v:Value):iF d tm v=(Act.put ⟨tm,[]⟩ d v).tmps:=by rw[wO]
theorem iA{P:Program}{E:Env P}{tmps:Array Value}{w':World}(h:gp E (⟨fn,tmps,k⟩::os) w' V):GB E fn k os V .normal ⟨tmps,[]⟩ w':=⟨rfl,k,.inl ⟨rfl,rfl⟩,h⟩
end
section
open Go.Conc Go.RowKit Go.Maps
structure tT(ex:Obj)(es:List gu):Prop where
 isMap:∃a c,ex=.map a c
 V7:∀m:Ren,OR m ex ex
 inv:∀(m:Ren)o',OR m ex o'->o'=ex
 say:∀(w:World)(B:Nat),w.heap[B]?=some ex->iu w B es
def bb(s:Nat):Nat->Nat|0=>s+4|1=>s+1|2=>s|_=>s+2
def NB(A:Ask):Array Value:=#[.int .i64 A.m,.string A.q,.int .i64 A.t]
def Vr(s dd num:Nat)(A:Ask):Nat->Array Value|0=>#[.chan (some (s+3))]|1=>#[.map (some dd)]|2=>#[.int .i64 num]|_=>NB A
def VO(num:Nat)(A:Ask):Nat->Array Value|0=>#[.chan (some 10)]|1=>#[.map (some 11)]|2=>#[.int .i64 num]|_=>NB A
def Vt:Nat->cj|0=>167|1=>85|2=>3|_=>94
theorem LH(s i:Nat):s<=bb s i/\bb s i<s+5:=by
 unfold bb;split<;>omega
theorem Qi(s:Nat):∀i j,i<4->j<4->bb s i=bb s j->i=j:=by
 intro i j hi O h;have:i=0\/i=1\/i=2\/i=3:=by omega
 have:j=0\/j=1\/j=2\/j=3:=by omega
 rcases ‹i=0\/_› with rfl|rfl|rfl|rfl<;>rcases ‹j=0\/_› with rfl|rfl|rfl|rfl<;>simp[bb]at h⊢
theorem Flat.arr{c:Array Value}(h:∀i(hi:i<c.size),Flat c[i]){m mi:Ren}{O:Array Value}(U:io m c O):io mi c O:=by
 have:O=c:=by
  apply b8;intro i;by_cases hi:i<c.size
  .obtain⟨Y,h1,h2⟩:=U.get (b3 hi);rw[h1,(h i hi).eq m Y h2,b3 hi]
  .rw[b2 (by rw[<-U.size]; omega),b2 (by omega)]
 subst this;exact io.kE rfl λi hi _=>(h i hi).refl mi
theorem Hg(A:Ask)(k:Nat)(p:Nat×gu):Flat (nZ A k p):=by
 unfold nZ;split
 .refine .agg λi hi=>?_;have:=hi
  match i,this with
  |0,_|1,_|6,_|7,_=>exact .int ..
  |2,_|4,_|5,_=>exact .string _
  |3,_=>exact .bool _
 .refine .agg λi hi=>?_;have:=hi
  match i,this with
  |0,_|1,_|6,_|7,_=>exact .int ..
  |2,_|4,_|5,_=>exact .string _
  |3,_=>exact .bool _
theorem MS{Z:lQ prog}{w:World}{T:List Frame}{dd q K num s:Nat}{A:Ask}{es:List gu}{ex:Obj}{w6:World}{os:List OF}(hA:A.Ok)(hK:K<=s+5)(h5:5<=s)(ag:dd<s)
  (hc:∀i,i<4->w6.heap[bb s i]?=some (.cells (Vr s dd num A i) (Vt i) (0,0))) (aa:5<=q) (hq:q<w.heap.size) (ab:w.heap[q]?=some ex) (hM:tT ex es) (ac:∀(m:Ren)(r:Nat)(o:Obj),w6.heap[r]?=some o->¬OR m o ex)
  (hl:es.length<=100000) (ad:∀e∈es,e.name.length<=ci/\e.text.length<=1048576/\(e.gone=false->0<=e.gK/\e.gK<=255)) (Y:num<=1000) :
  Sends (q8 prog Z w T dd q K false) (q8 prog Z w T dd q (s+5) true) 120 (zt (bb s)) os os w6 (uR w6 [bb s 0,bb s 1,bb s 2,bb s 3]) (s+3) ((jz es).map (nZ A num)):=by
 refine Hx (cm:=Vr s dd num A) (cd:=VO num A) (te:=Vt) (fz:=λ_=>(0,0)) (M:=some q) (ex:=ex) (cap:=es.length) Vc rfl rfl (by decide) (by decide) (by decide) UN (λv hv=>?_) ⟨rfl,rfl,rfl,rfl,rfl,Fl,λm O=>?_,λb=>?_,λi hi=>?_,Qi s,hc,λm O i hi=>?_,rfl,rfl,λi U h4 m mi w' a' O hw ae ha=>?_,λb hb=>?_⟩ λτ=>?_
 .obtain⟨p,_,rfl⟩:=aT.1 hv;exact Hg A num p
 .obtain⟨x1,x2,x3⟩:=O.x;refine⟨x1,x2,λr O=>?_⟩;rcases O with O|O
  .have:=x3 r O; omega
  .simp only[aS,aV,or_false,bb]at O;omega
 .simp only[q8,ne_eq,cy];constructor
  .rintro⟨U,h2⟩; exact⟨⟨U,λh=>by cases h⟩,λe=>h2 trivial e.symm⟩
  .rintro⟨⟨U,_⟩,h2⟩; exact⟨U,λ_ e=>h2 e.symm⟩
 .have:=LH s i; omega
 .obtain⟨x1,_,_⟩:=O.x;rw[x1];have:=(LH s i).1;show ¬(bb s i=dd);omega
 .obtain⟨x1,x2,_⟩:=O.x;have:i=1\/i=2\/i=3:=by omega
  rcases this with rfl|rfl|rfl
  .have hz:=ha.size;obtain⟨v',e1,e2⟩:=ha.get (show(Vr s dd num A 1)[0]?=some (.map (some dd))from rfl)
   have hv:v'=.map (some q):=by
    cases e2 with
    |gone hd=>rw[x2]
    |map hb=>
     rw[(hw.dead dd (by rw[x1])).1]at hb;cases hb
   subst hv
   have:a'=#[.map (some q)]:=by
    apply b8;intro j
    match j with
    |0=>rw[e1]; rfl
    |j+1=>rw[b2 (by rw[<-hz]; show 1<=j+1; omega),b2 (by show 1<=j+1; omega)]
   subst this;exact io.one (.map (ae q rfl))
  .exact Flat.arr (c:=#[.int _ num]) (λj hj=>by
    have:=hj
    match j,this with
    |0,_=>exact .int ..) ha
  .exact Flat.arr (c:=NB A) (λj hj=>by
    have:=hj
    match j,this with
    |0,_=>exact .int ..
    |1,_=>exact .string _
    |2,_=>exact .int ..) ha
 .cases hb;obtain⟨a,c,e⟩:=hM.isMap;exact⟨aa,⟨hq,nofun⟩,ab,hM.V7,hM.inv,λa' e' f' h=>(by rw[h]at e; cases e),ac⟩
 .have af:SW (tp (uV w6 (VO num A) Vt es.length ex) τ) num es A es.length []:=by
   refine⟨rfl,rfl,rfl,rfl,rfl,rfl,rfl,hM.say _ _ rfl⟩
  exact D4 (U7 num es A hA _ _ af (cB _) hl ad Y) λe a w' ⟨U,h2,h3,h4⟩=>⟨U,h2,h3,.inr (h4.trans rfl)⟩
end
section
open Go.Conc Go.RowKit Go.Maps
variable {ops:Array Oper} {rest:List Nat} {o:Oper} {P:Program} {E:Env P}
def ic(f:Func):Code:=match f.body with
 |some c=>c
 |none=>.skip
theorem gp.CV{fn:cc}{tm:Array Value}{os:List OF}{wl:World}{V:List (Nat×Option (List Value))}{k:List Item}{i:Nat}(hi:ops[i]?=some o)(O:c8 o (ce ops tm)=true)
  (U:∀(Y:Array Value)(w:World),(execOp (ll Y) o).runT P w #[]=(.ok (.value (.chan (some w.heap.size))) {w with heap:=w.heap.push (.chan 0 #[] false 0 0 false)},#[]))
  (h:gp E (⟨fn,(Act.put ⟨tm,[]⟩ o.dst (.chan (some wl.heap.size))).tmps,.inRegion ops rest::k⟩::os) {wl with heap:=wl.heap.push lS} ((wl.heap.size,none)::V)):gp E (⟨fn,tm,.inRegion ops (i::rest)::k⟩::os) wl V:=
 gp.makeChan hi O U (by rw[wO]at h; exact h)
section
variable {Z:lQ prog} {w:World} {T:List Frame} {dd q K:Nat} {lent:Bool} {fn:cc} {tm:Array Value} {os:List OF} {wl:World} {V:List (Nat×Option (List Value))} {k:List Item}
theorem NM{m:Ren}{Pd:Nat->Prop}{ρ:Nat->iw}{gs:Array Goroutine}{w':World}{t:Trace}{q:Nat}{a:Array MapEntry}{c:Nat}(hq:E.jl q)(hw:E.w0.heap[q]?=some (.map a c))(O:Co P E.jl E.w0 Pd ρ m wl gs w' t)(j:Nat)(Y:Ren)(r':Nat)(hr:(ρ j).pA=some Y):Y.blk r'≠some q:=by
 intro hb;have hl:=O.ff j Y hr r' q hb hq;obtain⟨aa,U⟩:=O.wr hr;obtain⟨c1,e1,f1,hc⟩:=U.lk r' q hb hl;obtain⟨o,o',h1,h2,h3⟩:=U.obj r' q hb;rw[(O.fix q hq).2,hw]at h2;cases h2;rw[hc]at h1;cases h1;cases h3
theorem zO(num:Nat)(A:Ask)(es:List gu)(ex:Obj){i:Nat}(s:Nat)(hs:s=wl.heap.size)(hi:ops[i]?=some o)(hA:A.Ok)(hK:K<=s+5)(h5:5<=s)(al:dd<s)(am:5<=q)(hq:q<w.heap.size)(ah:w.heap[q]?=some ex)(hM:tT ex es)(an:∀(r:Nat)a c,wl.heap[r]?≠some (.map a c))
  (hl:es.length<=100000) (ao:∀e∈es,e.name.length<=ci/\e.text.length<=1048576/\(e.gone=false->0<=e.gK/\e.gK<=255)) (ai:num<=1000) (hV:∀x∈V,x.1<s)
  (hn:∀w2:World,w2.heap.size=s+5->(∀r,r<s->w2.heap[r]?=wl.heap[r]?)->(∀(r:Nat)a c,w2.heap[r]?≠some (.map a c))->w2.os=wl.os->gp (q8 prog Z w T dd q (s+5) true) (⟨fn,iF o.dst tm (.chan (some (s+3))),.inRegion ops rest::k⟩::os) w2 ((s+3,some ((jz es).map (nZ A num)))::V)) :
  gp (q8 prog Z w T dd q K false) (⟨80,#[.int .i64 num,.map (some dd),.agg #[.int .i64 A.m,.string A.q,.int .i64 A.t],cH,cH,cH,cH,cH,cH,cH,cH],[.code (ic f80)]⟩::⟨fn,tm,.inRegion ops (i::rest)::k⟩::os) wl V:=by
 show gp _ (⟨_,_,[.code (.seq (.region 0 _ false) (.seq (.region 1 _ false) (.seq (.region 2 _ false) (.seq (.region 3 _ false) .ret))))]⟩::_) _ _;refine gp.seq ?_;have HS:cu (s=wl.heap.size):=hs;clear hs;refine li (by kernel_rfl) rfl (.inl (by simp)) λy0 O U=>?_;have HY:cu (y0.heap=wl.heap/\y0.os=wl.os):=⟨O,U⟩;clear O U;go_wp2;refine iA ?_;obtain⟨O,U⟩:=HY.out;obtain⟨w3,aa⟩:∃w3,w3=(((y0.alloc (.cells #[.int .i64 num] 3)).alloc (.cells #[.map (some dd)] 85)).alloc (.cells #[.int .i64 A.m,.string A.q,.int .i64 A.t] 94)):=⟨_,rfl⟩;have Y:y0.heap.size=s:=by rw[O]; exact HS.out.symm
 have z3:w3.heap.size=s+3:=by rw[aa]; simp[Y]
 have o3:∀r,r<s->w3.heap[r]?=wl.heap[r]?:=λr hr=>by
  rw[aa,jD _ _ (by simp[Y]; omega),jD _ _ (by simp[Y]; omega),jD _ _ (by rw[Y]; omega),O]
 have g0:w3.heap[s]?=some (.cells #[.int .i64 num] 3 (0,0)):=by rw[aa,jD _ _ (by simp only[c9,Y]; omega),jD _ _ (by simp only[c9,Y]; omega),kV _ _ Y.symm]
 have g1:w3.heap[s+1]?=some (.cells #[.map (some dd)] 85 (0,0)):=by rw[aa,jD _ _ (by simp[Y]),kV _ _ (by simp[Y])]
 have g2:w3.heap[s+2]?=some (.cells #[.int .i64 A.m,.string A.q,.int .i64 A.t] 94 (0,0)):=by rw[aa,kV _ _ (by simp[Y])]
 have p3:w3.os=wl.os:=by rw[aa]; exact U
 rw[<-aa,Y];clear aa O U Y HY y0;refine gp.seq (gp.region ?_);refine gp.CV (i:=0) rfl rfl (λar w=>by kernel_rfl) ?_;rw[z3];obtain⟨w4,ac⟩:∃w4:World,w4={w3 with heap:=w3.heap.push lS}:=⟨_,rfl⟩;have z4:w4.heap.size=s+4:=by rw[ac]; simp[z3]
 have o4:∀r,r<s+3->w4.heap[r]?=w3.heap[r]?:=λr hr=>by rw[ac]; show(w3.heap.push _)[r]?=_; rw[b6,if_neg (by omega)]
 have g3:w4.heap[s+3]?=some lS:=by rw[ac]; show(w3.heap.push _)[s+3]?=_; rw[<-z3]; simp
 have p4:w4.os=wl.os:=by rw[ac]; exact p3
 rw[<-ac];clear ac;have aj:s+1+1=s+2:=rfl;rw[aj];clear aj;go_simp;refine oB rfl (by rfl) (by kernel_rfl) λy0 O U=>?_;have HY:cu (y0.heap=w4.heap/\y0.os=w4.os):=⟨O,U⟩;clear O U;unfold jC;go_simp;simp only[l6];obtain⟨O,U⟩:=HY.out;obtain⟨w5,ad⟩:∃w5,w5=y0.alloc (.cells #[.chan none] 167):=⟨_,rfl⟩;have z5:w5.heap.size=s+5:=by rw[ad]; simp[O,z4]
 have o5:∀r,r<s+4->w5.heap[r]?=w4.heap[r]?:=λr hr=>by rw[ad,jD _ _ (by rw[O,z4]; exact hr),O]
 have g4:w5.heap[s+4]?=some (.cells #[.chan none] 167 (0,0)):=by rw[ad,kV _ _ (by rw[O,z4])]
 have p5:w5.os=wl.os:=by rw[ad]; exact U.trans p4
 rw[<-ad,O,z4];clear ad O U HY y0;refine oB rfl (by rfl) (by kernel_rfl) λy0 O U=>?_;have c4:y0.cell? ⟨s+4,0,none⟩=some (.chan none):=by rw[gq (by rw[O]; exact g4)]; rfl
 have f4:y0.frozen? ⟨s+4,0,none⟩=false:=gP (by rw[O]; exact g4) 0;have HY:cu (y0.heap=w5.heap/\y0.os=w5.os):=⟨O,U⟩;clear O U;unfold jC;go_simp;simp only[l6];obtain⟨O,U⟩:=HY.out;obtain⟨w6,ae⟩:∃w6,w6=y0.setCell ⟨s+4,0,none⟩ (.chan (some (s+3))):=⟨_,rfl⟩;have z6:w6.heap.size=s+5:=by rw[ae]; simp[O,z5]
 have o6:∀r,r≠s+4->w6.heap[r]?=w5.heap[r]?:=λr hr=>by rw[ae,ca _ _ _ _ hr,O]
 have g6:w6.heap[s+4]?=some (.cells #[.chan (some (s+3))] 167 (0,0)):=by rw[ae]; exact heap_setCell_box_a _ (by rw[O]; exact g4)
 have p6:w6.os=wl.os:=by rw[ae]; exact U.trans p5
 rw[<-ae];clear ae O U HY c4 f4 y0;refine gp.inRegion (gp.seq (gp.region ?_));have k0:w6.heap[s]?=some (.cells #[.int .i64 num] 3 (0,0)):=by rw[o6 _ (by omega),o5 _ (by omega),o4 _ (by omega)]; exact g0
 have k1:w6.heap[s+1]?=some (.cells #[.map (some dd)] 85 (0,0)):=by rw[o6 _ (by omega),o5 _ (by omega),o4 _ (by omega)]; exact g1
 have k2:w6.heap[s+2]?=some (.cells #[.int .i64 A.m,.string A.q,.int .i64 A.t] 94 (0,0)):=by rw[o6 _ (by omega),o5 _ (by omega),o4 _ (by omega)]; exact g2
 have k3:w6.heap[s+3]?=some lS:=by rw[o6 _ (by omega),o5 _ (by omega)]; exact g3
 have ko:∀r,r<s->w6.heap[r]?=wl.heap[r]?:=λr hr=>by rw[o6 _ (by omega),o5 _ (by omega),o4 _ (by omega),o3 _ hr]
 clear g0 g1 g2 g3 g4 o3 o4 o5 o6 z3 z4 z5 p3 p4 p5
 have ak:∀j,j<4->w6.heap[bb s j]?=some (.cells (Vr s dd num A j) (Vt j) (0,0)):=by
  intro j hj
  match j,hj with
  |0,_=>exact g6
  |1,_=>exact k1
  |2,_=>exact k0
  |3,_=>exact k2
 have af:∀(r:Nat)a c,w6.heap[r]?≠some (.map a c):=by
  intro r a c h;by_cases h1:r<s
  .rw[ko r h1]at h; exact an r a c h
  .have h2:=(b1.1 h).1;rw[z6]at h2;have:r=s\/r=s+1\/r=s+2\/r=s+3\/r=s+4:=by omega
   rcases this with rfl|rfl|rfl|rfl|rfl
   .rw[k0]at h; cases h
   .rw[k1]at h; cases h
   .rw[k2]at h; cases h
   .rw[k3]at h; cases h
   .rw[g6]at h; cases h
 obtain⟨au,av,ag⟩:=hM.isMap
 have hS:=λos=>MS (Z:=Z) (T:=T) (os:=os) hA hK h5 al ak am hq ah hM (λm r o h1 h2=>by
  rw[ag]at h2;cases h2
  exact af _ _ _ h1) hl ao ai
 refine gp.go (i:=0) (j:=1) (f:=120) (q:=9) (rc:=s+3) (E₂:=q8 prog Z w T dd q (s+5) true) (wl₂:=uR w6 [bb s 0,bb s 1,bb s 2,bb s 3]) (L:=(jz es).map (nZ A num)) (os₂:=?os2) (V₂:=(s+3,some ((jz es).map (nZ A num)))::V) rfl rfl rfl rfl rfl rfl rfl rfl ?hcx ?hq ?hS ?h1 ?h2 ?h3 ?h4 ?h5 ?h6
 case hS=>
  have e:b9 (ll #[Value.int IntKind.i64 ↑num,Value.map (some dd),Value.agg #[Value.int IntKind.i64 ↑A.m,Value.string A.q,Value.int IntKind.i64 ↑A.t],Value.pointer (some {block:=s,off:=0}),Value.pointer (some {block:=s+1,off:=0}),Value.pointer (some {block:=s+2,off:=0}),Value.chan none,Value.pointer (some {block:=s+4,off:=0}),Value.chan (some (s+3)),cH,cH]) #[Operand.tmp 7,Operand.tmp 4,Operand.tmp 3,Operand.tmp 5]=zt (bb s):=by kernel_rfl
  rw[e];exact hS _
 .intro x hx;simp only[aS,aV,or_false]at hx;rcases hx with rfl|rfl|rfl|rfl<;>trivial
 .show 9<11;decide
 .intro q' h1 h2 m Pd ρ gs w' t aw ap ax j m' r' hr;have:q'=q:=ct λaq=>h2 ⟨h1.1,λ_=>aq⟩;subst this;exact NM h1 (ah.trans (by rw[ag])) ap j m' r' hr
 .simp
 .intro x hx;rcases aS.1 hx with rfl|hx
  .exact .inl rfl
  .refine .inr ⟨aW _ hx,λe=>?_⟩;have:=hV x hx;rw[e]at this;exact absurd this (by show ¬(s+3<s); omega)
 .simp
 .intro r vs hr;rcases aS.1 hr with hr|hr
  .cases hr
  .exact aW _ hr
 .obtain⟨w7,ab⟩:∃w7,w7=uR w6 [bb s 0,bb s 1,bb s 2,bb s 3]:=⟨_,rfl⟩;have z7:w7.heap.size=s+5:=by rw[ab,vQ]; exact z6
  have o7:∀r,r<s->w7.heap[r]?=wl.heap[r]?:=λr hr=>by
   rw[ab,sF _ (by simp only[aS,aV,or_false,bb]; omega)];exact ko r hr
  have g7:w7.heap[s+4]?=some (.cells #[.chan (some (s+3))] 167 (0,1)):=by
   rw[ab];exact BH w6 (by simp[bb]) g6
  have m7:∀(r:Nat)a c,w7.heap[r]?≠some (.map a c):=by
   intro r a c h;rw[ab,zF]at h
   cases he:w6.heap[r]? with
   |none=>rw[he]at h; cases h
   |some o=>
    rw[he]at h;simp only[cG,cy]at h;split at h
    .cases o<;>simp[PK]at h;exact af _ _ _ he
    .exact af r a c (by rw[he,h])
  have p7:w7.os=wl.os:=by rw[ab]; exact p6
  rw[<-ab];clear ab hS ak af k0 k1 k2 k3 ko g6 z6 p6;refine gp.inRegion (gp.seq ?_);refine li (by kernel_rfl) rfl (.inl (by simp)) λy0 O U=>?_;have c7:y0.cell? ⟨s+4,0,none⟩=some (.chan (some (s+3))):=by rw[gq (by rw[O]; exact g7)]; rfl
  have HY:cu (y0.heap=w7.heap/\y0.os=w7.os):=⟨O,U⟩;clear O U;simp only[bk,bp,bo];go_wp2;refine iA ?_;obtain⟨O,U⟩:=HY.out;refine gp.back (v:=.chan (some (s+3))) (.inr ⟨_,rfl⟩) func80 hi (λτ=>?_) (hn y0 (by rw[O]; exact z7) (λr hr=>by rw[O]; exact o7 r hr) (λr a c=>by rw[O]; exact m7 r a c) (U.trans p7));kernel_rfl
end
end
section
open Go.Conc Go.RowKit Go.Maps
variable {yW v3:Bool} {v2 v4 v5:ByteArray} {v0 v1 v6 v7:Int} {s:Nat}
def Nw:Value:=.agg #[.int .i64 0,.int .i64 0,.string ⟨#[]⟩,.bool false,.string ⟨#[]⟩,.string ⟨#[]⟩,.int .i64 0,.int .i64 0]
def oY(cl:Nat->Option Nat):Array Value:=#[.chan (cl 0),.chan (cl 1),.chan (cl 2),.chan (cl 3),.chan (cl 4),.chan (cl 5),.chan (cl 6)]
def QA(v:Value):Prop:=∃(a b:Int)(c:ByteArray)(d:Bool)(e f:ByteArray)(g h:Int),v=.agg #[.int .i64 a,.int .i64 b,.string c,.bool d,.string e,.string f,.int .i64 g,.int .i64 h]
def wJ(w:World)(s:Nat)(v0 v1 v2 v3 v4 v5 v6 v7:Value):World:=(((((((w.setCell ⟨s,0,none⟩ v0).setCell ⟨s,1,none⟩ v1).setCell ⟨s,2,none⟩ v2).setCell ⟨s,3,none⟩ v3).setCell ⟨s,4,none⟩ v4).setCell ⟨s,5,none⟩ v5).setCell ⟨s,6,none⟩ v6).setCell ⟨s,7,none⟩ v7
theorem Ak{w:World}{v0 v1 v2 v3 v4 v5 v6 v7 O U Y u3 u4 u5 u6 u7:Value}{t:cj}{f:Nat×Nat}(h:w.heap[s]?=some (.cells #[O,U,Y,u3,u4,u5,u6,u7] t f)):(wJ w s v0 v1 v2 v3 v4 v5 v6 v7).heap[s]?=some (.cells #[v0,v1,v2,v3,v4,v5,v6,v7] t f):=by
 unfold wJ;rw[heap_set (heap_set (heap_set (heap_set (heap_set (heap_set (heap_set (heap_set h 0 v0) 1 v1) 2 v2) 3 v3) 4 v4) 5 v5) 6 v6) 7 v7];rfl
theorem zK(w:World){r:Nat}(v0 v1 v2 v3 v4 v5 v6 v7:Value)(h:r≠s):(wJ w s v0 v1 v2 v3 v4 v5 v6 v7).heap[r]?=w.heap[r]?:=by
 unfold wJ;rw[ca _ _ _ _ h,ca _ _ _ _ h,ca _ _ _ _ h,ca _ _ _ _ h,ca _ _ _ _ h,ca _ _ _ _ h,ca _ _ _ _ h,ca _ _ _ _ h]
theorem xN(w:World)(s:Nat)(v0 v1 v2 v3 v4 v5 v6 v7:Value):(wJ w s v0 v1 v2 v3 v4 v5 v6 v7).heap.size=w.heap.size:=by
 unfold wJ;simp
theorem s9(w:World)(p:Addr)(v:Value):(w.setCell p v).os=w.os:=by
 unfold World.setCell;split <;>(try split) <;>(try split)<;>rfl
theorem DT(w:World)(s:Nat)(v0 v1 v2 v3 v4 v5 v6 v7:Value):(wJ w s v0 v1 v2 v3 v4 v5 v6 v7).os=w.os:=by
 unfold wJ;simp only[s9]
def nb:Code->Nat->Code
 |.cond _ x _,0=>x
 |.cond _ _ y,n+1=>nb y n
 |_,_=>.skip
def QV(c:Code):Code:=match c with
 |.seq _ (.seq _ (.seq _ (.block _ c)))=>c
 |_=>.skip
def UL(yW:Bool)(v x0 x2 x3 x4 x5 x6 O U:Value):Nat->Array Value
 |0=>#[x0,.bool yW,v,x3,x4,x5,x6,O,U]
 |1=>#[x0,.bool yW,x2,v,x4,x5,x6,O,U]
 |2=>#[x0,.bool yW,x2,x3,v,x5,x6,O,U]
 |3=>#[x0,.bool yW,x2,x3,x4,v,x6,O,U]
 |4=>#[x0,.bool yW,x2,x3,x4,x5,v,O,U]
 |5=>#[x0,.bool yW,x2,x3,x4,x5,x6,v,U]
 |_=>#[x0,.bool yW,x2,x3,x4,x5,x6,O,v]
section
variable {Z:lQ prog} {w:World} {T:List Frame} {dd q K:Nat} {lent:Bool} {fn:cc} {tm:Array Value} {os:List OF} {wl:World} {V:List (Nat×Option (List Value))} {k:List Item}
theorem Pr{tmps:Array Value}{k:Int}{w3:World}(g1:w3.heap[s]?=some (.cells #[.int .i64 v0,.int .i64 v1,.string v2,.bool v3,.string v4,.string v5,.int .i64 v6,.int .i64 v7] 172 (0,0)))(τ)(O:tmps[2]?=some (.int .i64 k))(U:tmps[3]?=some (.pointer (some ⟨s,0,none⟩)))(Y:tmps[4]?=some (.bool yW)) :
  (cq bU tmps).run prog (tp w3 τ)=.ok (.tuple #[.int .i64 k,.agg #[.int .i64 v0,.int .i64 v1,.string v2,.bool v3,.string v4,.string v5,.int .i64 v6,.int .i64 v7],.bool yW]) (tp w3 τ):=by
 have g1:(tp w3 τ).heap[s]?=some (.cells #[.int .i64 v0,.int .i64 v1,.string v2,.bool v3,.string v4,.string v5,.int .i64 v6,.int .i64 v7] 172 (0,0)):=g1;generalize tp w3 τ=w4 at *;have e0:w4.cell? ⟨s,0,none⟩=some (.int .i64 v0):=by rw[gq g1]; rfl
 have f0:w4.frozen? ⟨s,0,none⟩=false:=gP g1 0;have e1:w4.cell? ⟨s,1,none⟩=some (.int .i64 v1):=by rw[gq g1]; rfl
 have f1:w4.frozen? ⟨s,1,none⟩=false:=gP g1 1;have e2:w4.cell? ⟨s,2,none⟩=some (.string v2):=by rw[gq g1]; rfl
 have f2:w4.frozen? ⟨s,2,none⟩=false:=gP g1 2;have e3:w4.cell? ⟨s,3,none⟩=some (.bool v3):=by rw[gq g1]; rfl
 have f3:w4.frozen? ⟨s,3,none⟩=false:=gP g1 3;have e4:w4.cell? ⟨s,4,none⟩=some (.string v4):=by rw[gq g1]; rfl
 have f4:w4.frozen? ⟨s,4,none⟩=false:=gP g1 4;have e5:w4.cell? ⟨s,5,none⟩=some (.string v5):=by rw[gq g1]; rfl
 have f5:w4.frozen? ⟨s,5,none⟩=false:=gP g1 5;have e6:w4.cell? ⟨s,6,none⟩=some (.int .i64 v6):=by rw[gq g1]; rfl
 have f6:w4.frozen? ⟨s,6,none⟩=false:=gP g1 6;have e7:w4.cell? ⟨s,7,none⟩=some (.int .i64 v7):=by rw[gq g1]; rfl
 have f7:w4.frozen? ⟨s,7,none⟩=false:=gP g1 7;simp[cq,results123,go_sem,e0,e1,e2,e3,e4,e5,e6,e7,O,U,Y]
theorem y8{ops:Array Oper}{i:Nat}{rest:List Nat}{o:Oper}{a0 a1 a2 a4 a5 a6 a7 a8 a9 a10 a11 a12 ac ad a15 a16 a17 a18 a19 a20 a21 a22 a23 a24 a25 a26 a27 a28 a29 ae af ag ah ai aj ak al am an ao ap aq ar au av aw ax ay az a' aA aB aC aD aE aF aG aH aI aJ aK aL aM aN aO aP aQ aR x0 x2 x3 x4 x5 x6 x7 x8:Value}(j:Nat)(hj:j<7)(hi:ops[i]?=some o)(z1:wl.heap.size=s+1)(g1:wl.heap[s]?=some (.cells #[.int .i64 0,.int .i64 0,.string ⟨#[]⟩,.bool false,.string ⟨#[]⟩,.string ⟨#[]⟩,.int .i64 0,.int .i64 0] 172 (0,0)))
  (hn:∀w2:World,w2.heap.size=s+1->(∀r,r<s->w2.heap[r]?=wl.heap[r]?)->w2.os=wl.os->gp (q8 prog Z w T dd q K lent) (⟨fn,iF o.dst tm (.tuple #[.int .i64 (j:Int),.agg #[.int .i64 v0,.int .i64 v1,.string v2,.bool v3,.string v4,.string v5,.int .i64 v6,.int .i64 v7],.bool yW]),.inRegion ops rest::k⟩::os) w2 V) :
  gp (q8 prog Z w T dd q K lent) (⟨123,#[a0,a1,a2,.pointer (some ⟨s,0,none⟩),a4,a5,a6,a7,a8,a9,a10,a11,a12,ac,ad,a15,a16,a17,a18,a19,a20,a21,a22,a23,a24,a25,a26,a27,a28,a29,ae,af,ag,.tuple (UL yW (.agg #[.int .i64 v0,.int .i64 v1,.string v2,.bool v3,.string v4,.string v5,.int .i64 v6,.int .i64 v7]) x0 x2 x3 x4 x5 x6 x7 x8 j),ah,ai,aj,ak,al,am,an,ao,ap,aq,ar,au,av,aw,ax,ay,az,a',aA,aB,aC,aD,aE,aF,aG,aH,aI,aJ,aK,aL,aM,aN,aO,aP,aQ,aR],[.code (nb (QV (ic bU)) j),.inBlock 0]⟩::⟨fn,tm,.inRegion ops (i::rest)::k⟩::os) wl V:=by
 obtain⟨P1,U⟩:∃x,wl.os=x:=⟨_,rfl⟩;obtain⟨H0,h0⟩:∃x,wl.heap=x:=⟨_,rfl⟩;rw[U,h0]at hn;have o1:∀r,r<s->wl.heap[r]?=H0[r]?:=λr _=>by rw[h0]
 clear h0;have HC:cu _:=hn;clear hn;rcases(by omega:j=0\/j=1\/j=2\/j=3\/j=4\/j=5\/j=6)with rfl|rfl|rfl|rfl|rfl|rfl|rfl
 all_goals
  show gp _ (⟨_,_,[.code (.seq (.region _ _ false) (.seq (.region _ _ true) .ret)),.inBlock 0]⟩::_) _ _;dsimp only[UL];refine gp.seq ?_;refine li (by kernel_rfl) rfl (.inl (by simp)) λO ab Y=>?_;rw[<-ab]at z1 o1 g1;have U:=Y.trans U;clear ab Y;have e0:O.cell? ⟨s,0,none⟩=some (.int .i64 0):=by rw[gq g1]; rfl
  have f0:O.frozen? ⟨s,0,none⟩=false:=gP g1 0;have e1:O.cell? ⟨s,1,none⟩=some (.int .i64 0):=by rw[gq g1]; rfl
  have f1:O.frozen? ⟨s,1,none⟩=false:=gP g1 1;have e2:O.cell? ⟨s,2,none⟩=some (.string ⟨#[]⟩):=by rw[gq g1]; rfl
  have f2:O.frozen? ⟨s,2,none⟩=false:=gP g1 2;have e3:O.cell? ⟨s,3,none⟩=some (.bool false):=by rw[gq g1]; rfl
  have f3:O.frozen? ⟨s,3,none⟩=false:=gP g1 3;have e4:O.cell? ⟨s,4,none⟩=some (.string ⟨#[]⟩):=by rw[gq g1]; rfl
  have f4:O.frozen? ⟨s,4,none⟩=false:=gP g1 4;have e5:O.cell? ⟨s,5,none⟩=some (.string ⟨#[]⟩):=by rw[gq g1]; rfl
  have f5:O.frozen? ⟨s,5,none⟩=false:=gP g1 5;have e6:O.cell? ⟨s,6,none⟩=some (.int .i64 0):=by rw[gq g1]; rfl
  have f6:O.frozen? ⟨s,6,none⟩=false:=gP g1 6;have e7:O.cell? ⟨s,7,none⟩=some (.int .i64 0):=by rw[gq g1]; rfl
  have f7:O.frozen? ⟨s,7,none⟩=false:=gP g1 7;have HZ:cu _:=And.intro z1 (And.intro o1 U);have HG:=g1;clear z1 o1 U g1;go_wp2;refine iA ?_;clear e0 e1 e2 e3 e4 e5 e6 e7 f0 f1 f2 f3 f4 f5 f6 f7;obtain⟨z1,o1,U⟩:=HZ.out;obtain⟨w2,hw2⟩:∃w2,w2=wJ O s (.int .i64 v0) (.int .i64 v1) (.string v2) (.bool v3) (.string v4) (.string v5) (.int .i64 v6) (.int .i64 v7):=⟨_,rfl⟩;replace z1:w2.heap.size=s+1:=by rw[hw2,xN]; exact z1
  replace o1:∀r,r<s->w2.heap[r]?=H0[r]?:=λr hr=>by rw[hw2,zK _ _ _ _ _ _ _ _ _ (by omega)]; exact o1 r hr
  have g1:w2.heap[s]?=some (.cells #[.int .i64 v0,.int .i64 v1,.string v2,.bool v3,.string v4,.string v5,.int .i64 v6,.int .i64 v7] 172 (0,0)):=by rw[hw2]; exact Ak HG
  replace U:w2.os=P1:=by rw[hw2,DT]; exact U
  unfold wJ at hw2;rw[<-hw2];clear hw2 HZ HG;refine gp.seq ?_;refine li (by kernel_rfl) rfl (.inl (by simp)) λO ab Y=>?_;rw[<-ab]at z1 o1 g1;have U:=Y.trans U;clear ab Y;have e0:O.cell? ⟨s,0,none⟩=some (.int .i64 v0):=by rw[gq g1]; rfl
  have f0:O.frozen? ⟨s,0,none⟩=false:=gP g1 0;have e1:O.cell? ⟨s,1,none⟩=some (.int .i64 v1):=by rw[gq g1]; rfl
  have f1:O.frozen? ⟨s,1,none⟩=false:=gP g1 1;have e2:O.cell? ⟨s,2,none⟩=some (.string v2):=by rw[gq g1]; rfl
  have f2:O.frozen? ⟨s,2,none⟩=false:=gP g1 2;have e3:O.cell? ⟨s,3,none⟩=some (.bool v3):=by rw[gq g1]; rfl
  have f3:O.frozen? ⟨s,3,none⟩=false:=gP g1 3;have e4:O.cell? ⟨s,4,none⟩=some (.string v4):=by rw[gq g1]; rfl
  have f4:O.frozen? ⟨s,4,none⟩=false:=gP g1 4;have e5:O.cell? ⟨s,5,none⟩=some (.string v5):=by rw[gq g1]; rfl
  have f5:O.frozen? ⟨s,5,none⟩=false:=gP g1 5;have e6:O.cell? ⟨s,6,none⟩=some (.int .i64 v6):=by rw[gq g1]; rfl
  have f6:O.frozen? ⟨s,6,none⟩=false:=gP g1 6;have e7:O.cell? ⟨s,7,none⟩=some (.int .i64 v7):=by rw[gq g1]; rfl
  have f7:O.frozen? ⟨s,7,none⟩=false:=gP g1 7;have HZ:cu _:=And.intro z1 (And.intro o1 U);have HG:=g1;clear z1 o1 U g1;go_region;refine iA ?_;clear e0 e1 e2 e3 e4 e5 e6 e7 f0 f1 f2 f3 f4 f5 f6 f7;obtain⟨z1,o1,U⟩:=HZ.out;obtain⟨w2,hw2⟩:∃w2,w2=wJ O s (.int .i64 v0) (.int .i64 v1) (.string v2) (.bool v3) (.string v4) (.string v5) (.int .i64 v6) (.int .i64 v7):=⟨_,rfl⟩;replace z1:w2.heap.size=s+1:=by rw[hw2,xN]; exact z1
  replace o1:∀r,r<s->w2.heap[r]?=H0[r]?:=λr hr=>by rw[hw2,zK _ _ _ _ _ _ _ _ _ (by omega)]; exact o1 r hr
  have g1:w2.heap[s]?=some (.cells #[.int .i64 v0,.int .i64 v1,.string v2,.bool v3,.string v4,.string v5,.int .i64 v6,.int .i64 v7] 172 (0,0)):=by rw[hw2]; exact Ak HG
  replace U:w2.os=P1:=by rw[hw2,DT]; exact U
  unfold wJ at hw2;rw[<-hw2];clear hw2 HZ HG;obtain⟨w3,aa⟩:∃w3,w3=w2.drew:=⟨_,rfl⟩;replace g1:w3.heap[s]?=some (.cells #[.int .i64 v0,.int .i64 v1,.string v2,.bool v3,.string v4,.string v5,.int .i64 v6,.int .i64 v7] 172 (0,0)):=by rw[aa]; exact g1
  have HC:=HC.out w3 (by rw[aa]; exact z1) (λr hr=>by rw[aa]; exact o1 r hr) (by rw[aa]; exact U);rw[<-aa];clear aa z1 o1 U;exact gp.back (.inr ⟨_,rfl⟩) func123 hi (λτ=>Pr g1 τ rfl rfl rfl) HC
end
end
section
open Go.Conc Go.RowKit Go.Maps
theorem Dv{v:Value}(h:QA v):Flat v:=by
 obtain⟨a,b,c,d,e,f,g,h,rfl⟩:=h;refine .agg λi hi=>?_;have:=hi
 match i,this with
 |0,_|1,_|6,_|7,_=>exact .int ..
 |2,_|4,_|5,_=>exact .string _
 |3,_=>exact .bool _
theorem NC:QA Nw:=⟨0,0,⟨#[]⟩,false,⟨#[]⟩,⟨#[]⟩,0,0,rfl⟩
section
variable {Z:lQ prog} {w:World} {T:List Frame} {dd q K:Nat} {lent:Bool} {fn:cc} {tm:Array Value} {os:List OF} {wl:World} {V:List (Nat×Option (List Value))} {k:List Item}
theorem MN{ops:Array Oper}{i:Nat}{rest:List Nat}{o:Oper}{cl:Nat->Option Nat}(b s:Nat)(hs:s=wl.heap.size)(ad:b<s)(hi:ops[i]?=some o)(hb:wl.heap[b]?=some (.cells (oY cl) 125 (0,0)))
  (mP:∀k r,k<7->cl k=some r->∃vs,(r,some vs)∈V) (uw:∀k k' r,k<7->k'<7->cl k=some r->cl k'=some r->k=k') (Y:∃k r,k<7/\cl k=some r) (jo:(V.map cw).Nodup) (h8:∀r vs,(r,some vs)∈V->∀v∈vs,QA v)
  (hv:∀(k' r:Nat)v vs(w2:World),k'<7->cl k'=some r->(r,some (v::vs))∈V->w2.heap.size=s+1->(∀r,r<s->w2.heap[r]?=wl.heap[r]?)->w2.os=wl.os->gp (q8 prog Z w T dd q K lent) (⟨fn,iF o.dst tm (.tuple #[.int .i64 k',v,.bool true]),.inRegion ops rest::k⟩::os) w2 (ux V r vs))
  (he:∀(k' r:Nat)(w2:World),k'<7->cl k'=some r->(r,some [])∈V->w2.heap.size=s+1->(∀r,r<s->w2.heap[r]?=wl.heap[r]?)->w2.os=wl.os->gp (q8 prog Z w T dd q K lent) (⟨fn,iF o.dst tm (.tuple #[.int .i64 k',Nw,.bool false]),.inRegion ops rest::k⟩::os) w2 (vU V r)) :
  gp (q8 prog Z w T dd q K lent) (⟨123,#[.pointer (some ⟨b,0,none⟩),cH,cH,cH,cH,cH,cH,cH,cH,cH,cH,cH,cH,cH,cH,cH,cH,cH,cH,cH,cH,cH,cH,cH,cH,cH,cH,cH,cH,cH,cH,cH,cH,cH,cH,cH,cH,cH,cH,cH,cH,cH,cH,cH,cH,cH,cH,cH,cH,cH,cH,cH,cH,cH,cH,cH,cH,cH,cH,cH,cH,cH,cH,cH,cH,cH,cH,cH,cH,cH],[.code (ic bU)]⟩::⟨fn,tm,.inRegion ops (i::rest)::k⟩::os) wl V:=by
 show gp _ (⟨_,_,[.code (.seq (.region 0 _ false) (.seq (.seq (.region 1 _ false) (.seq (.region 2 _ false) (.seq (.region 3 _ false) (.seq (.region 4 _ false) (.seq (.region 5 _ false) (.seq (.region 6 _ false) (.region 7 _ false))))))) (.seq (.region 8 _ false) (.block 0 _))))]⟩::_) _ _
 have HC:cu ((∀(k' r:Nat)v vs(w2:World),k'<7->cl k'=some r->(r,some (v::vs))∈V->w2.heap.size=s+1->(∀r,r<s->w2.heap[r]?=wl.heap[r]?)->w2.os=wl.os->gp (q8 prog Z w T dd q K lent) (⟨fn,iF o.dst tm (.tuple #[.int .i64 k',v,.bool true]),.inRegion ops rest::k⟩::os) w2 (ux V r vs))/\
  (∀(k' r:Nat)(w2:World),k'<7->cl k'=some r->(r,some [])∈V->w2.heap.size=s+1->(∀r,r<s->w2.heap[r]?=wl.heap[r]?)->w2.os=wl.os->gp (q8 prog Z w T dd q K lent) (⟨fn,iF o.dst tm (.tuple #[.int .i64 k',Nw,.bool false]),.inRegion ops rest::k⟩::os) w2 (vU V r))/\
  (∀k r,k<7->cl k=some r->∃vs,(r,some vs)∈V)/\(∀k k' r,k<7->k'<7->cl k=some r->cl k'=some r->k=k')/\(∃k r,k<7/\cl k=some r)/\(V.map cw).Nodup/\(∀r vs,(r,some vs)∈V->∀v∈vs,QA v)):=⟨hv,he,mP,uw,Y,jo,h8⟩
 have HS:cu (s=wl.heap.size/\b<s):=⟨hs,ad⟩;have HB:cu (wl.heap[b]?=some (.cells (oY cl) 125 (0,0))):=hb;clear hv he mP uw Y jo h8 hs ad hb;refine gp.seq ?_;refine li (by kernel_rfl) rfl (.inl (by simp)) λy0 O U=>?_;have HY:cu (y0.heap=wl.heap/\y0.os=wl.os):=⟨O,U⟩;clear O U;go_wp2;refine iA ?_;obtain⟨O,U⟩:=HY.out;obtain⟨w3,aa⟩:∃w3,w3=y0.alloc (.cells #[.int .i64 0,.int .i64 0,.string ⟨#[]⟩,.bool false,.string ⟨#[]⟩,.string ⟨#[]⟩,.int .i64 0,.int .i64 0] 172):=⟨_,rfl⟩;have ab:y0.heap.size=s:=by rw[O]; exact HS.out.1.symm
 have z3:w3.heap.size=s+1:=by rw[aa]; simp[ab]
 have o3:∀r,r<s->w3.heap[r]?=wl.heap[r]?:=λr hr=>by
  rw[aa,jD _ _ (by rw[ab]; omega),O]
 have g0:w3.heap[s]?=some (.cells #[.int .i64 0,.int .i64 0,.string ⟨#[]⟩,.bool false,.string ⟨#[]⟩,.string ⟨#[]⟩,.int .i64 0,.int .i64 0] 172 (0,0)):=by rw[aa,kV _ _ ab.symm]
 have p3:w3.os=wl.os:=by rw[aa]; exact U
 rw[<-aa,ab];clear aa O U ab HY y0;have gb:w3.heap[b]?=some (.cells (oY cl) 125 (0,0)):=by rw[o3 b HS.out.2]; exact HB.out
 refine gp.seq ?_;refine li (by kernel_rfl) rfl (.inl (by simp)) λy0 O U=>?_;have d0:y0.cell? ⟨b,0,none⟩=some (.chan (cl 0)):=by rw[gq (by rw[O]; exact gb)]; rfl
 have d1:y0.cell? ⟨b,1,none⟩=some (.chan (cl 1)):=by rw[gq (by rw[O]; exact gb)]; rfl
 have d2:y0.cell? ⟨b,2,none⟩=some (.chan (cl 2)):=by rw[gq (by rw[O]; exact gb)]; rfl
 have d3:y0.cell? ⟨b,3,none⟩=some (.chan (cl 3)):=by rw[gq (by rw[O]; exact gb)]; rfl
 have d4:y0.cell? ⟨b,4,none⟩=some (.chan (cl 4)):=by rw[gq (by rw[O]; exact gb)]; rfl
 have d5:y0.cell? ⟨b,5,none⟩=some (.chan (cl 5)):=by rw[gq (by rw[O]; exact gb)]; rfl
 have d6:y0.cell? ⟨b,6,none⟩=some (.chan (cl 6)):=by rw[gq (by rw[O]; exact gb)]; rfl
 have HY:cu (y0.heap=w3.heap/\y0.os=w3.os):=⟨O,U⟩;have HW:cu (w3.heap.size=s+1/\(∀r,r<s->w3.heap[r]?=wl.heap[r]?)/\w3.heap[s]?=some (.cells #[.int .i64 0,.int .i64 0,.string ⟨#[]⟩,.bool false,.string ⟨#[]⟩,.string ⟨#[]⟩,.int .i64 0,.int .i64 0] 172 (0,0))/\w3.os=wl.os):=⟨z3,o3,g0,p3⟩;clear O U z3 o3 g0 p3 gb;go_wp2;refine iA ?_;clear d0 d1 d2 d3 d4 d5 d6;obtain⟨z3,o3,g0,p3⟩:=HW.out;obtain⟨O,U⟩:=HY.out;rw[<-O]at z3 o3 g0;have p3:=U.trans p3;clear O U HY HW;obtain⟨hv,he,mP,uw,Y,jo,h8⟩:=HC.out;refine gp.seq (gp.region ?_);refine gp.select (i:=0) (x0:=8) (x1:=12) (x2:=16) (x3:=20) (x4:=24) (x5:=28) (x6:=32) (z:=Nw) (cl:=cl) rfl rfl (λae w=>by kernel_rfl) (Dv NC) rfl rfl rfl rfl rfl rfl rfl mP uw Y jo (λr vs hr v hv=>Dv (h8 r vs hr v hv)) ?_ ?_
 .intro k' r v vs ac hr hm;have hn:=λ(w2:World) a b c=>hv k' r v vs w2 ac hr hm a b c;obtain⟨v0,v1,v2,v3,v4,v5,v6,v7,rfl⟩:=h8 r _ hm v (aZ ..);have HN:cu _:=hn;clear hv he mP uw Y jo h8 HC hn hm HS HB;rcases(by omega:k'=0\/k'=1\/k'=2\/k'=3\/k'=4\/k'=5\/k'=6)with rfl|rfl|rfl|rfl|rfl|rfl|rfl
  all_goals
   rw[jf];simp only[yQ,goInt];go_simp
   iterate 8 (refine iS ?_; go_simp)
   refine gp.inRegion (gp.block ?_)
   repeat refine gp.qv trivial rfl ?_
   refine gp.xW trivial rfl ?_;apply y8 _ (by decide) hi z3 g0 λw2 a b c=>HN.out w2 a (λr hr=>(b r hr).trans (o3 r hr)) (c.trans p3);exact cH
 .intro k' r ac hr hm;have hn:=λ(w2:World) a b c=>he k' r w2 ac hr hm a b c;have HN:cu _:=hn;clear hv he mP uw Y jo h8 HC hn hm HS HB;rcases(by omega:k'=0\/k'=1\/k'=2\/k'=3\/k'=4\/k'=5\/k'=6)with rfl|rfl|rfl|rfl|rfl|rfl|rfl
  all_goals
   rw[jf];simp only[yQ,goInt,Nw];go_simp
   iterate 8 (refine iS ?_; go_simp)
   refine gp.inRegion (gp.block ?_)
   repeat refine gp.qv trivial rfl ?_
   refine gp.xW trivial rfl ?_;apply y8 _ (by decide) hi z3 g0 λw2 a b c=>HN.out w2 a (λr hr=>(b r hr).trans (o3 r hr)) (c.trans p3);exact cH
end
end
section
open Go.Conc Go.RowKit Go.Maps
variable {vs:List Value} {k' r:Nat} {a:Option (List Value)} {v:Value} {w2:World}
abbrev Vs:=List (Nat×Option (List Value))
def uz(V:Vs):List Value:=V.flatMap λx=>x.2.getD []
theorem Kx{X Y:Vs}(h:((X++(r,a)::Y).map cw).Nodup):ux (X++(r,a)::Y) r vs=X++(r,some vs)::Y:=by
 rw[aU,ba,be,bi]at h;obtain⟨h1,⟨U,h3⟩,h4⟩:=h;unfold ux;rw[aU,ba,if_pos rfl];congr 1
 .conv=>rhs; rw[<-bx X]
  refine bm λx O=>?_;rw[if_neg λe=>h4 _ (aT.2 ⟨x,O,rfl⟩) r (by simp) e];rfl
 .congr 1;conv=>rhs; rw[<-bx Y]
  refine bm λx O=>?_;rw[if_neg λe=>U (aT.2 ⟨x,O,e⟩)];rfl
theorem IM{X Y:Vs}(h:((X++(r,a)::Y).map cw).Nodup):vU (X++(r,a)::Y) r=X++Y:=by
 rw[aU,ba,be,bi]at h;obtain⟨h1,⟨U,h3⟩,h4⟩:=h;unfold vU;rw[bt,bh,if_neg (by simp)];congr 1
 .rw[bn];intro x O;simpa using λe=>h4 _ (aT.2 ⟨x,O,rfl⟩) r (by simp) e
 .rw[bn];intro x O;simpa using λe=>U (aT.2 ⟨x,O,e⟩)
theorem uh{V:Vs}(U:(V.map cw).Nodup)(h:(r,some (v::vs))∈V):(uz V).Perm (v::uz (ux V r vs))/\(ux V r vs).length=V.length/\(ux V r vs).map cw=V.map cw/\∀x∈ux V r vs,x∈V\/x=(r,some vs):=by
 obtain⟨X,Y,rfl⟩:=bd h;rw[Kx U];refine⟨?_,by simp,by simp,?_⟩
 .unfold uz;simp only[List.flatMap_append,List.flatMap_cons,Option.getD_some,List.cons_append];exact bf
 .intro x O;simp only[bw,aS]at O⊢;rcases O with h|h|h
  .exact .inl (.inl h)
  .exact .inr h
  .exact .inl (.inr (.inr h))
theorem Bq{V:Vs}(U:(V.map cw).Nodup)(h:(r,some [])∈V):(uz V).Perm (uz (vU V r))/\(vU V r).length+1=V.length/\((vU V r).map cw).Nodup/\∀x∈vU V r,x∈V/\x.1≠r:=by
 obtain⟨X,Y,rfl⟩:=bd h;have O:=IM U;refine⟨?_,?_,?_,?_⟩
 .rw[O];unfold uz;simp
 .rw[O];simp;omega
 .rw[O];refine U.sublist (List.Sublist.map _ ?_);exact List.Sublist.append_left (List.sublist_cons_self ..) X
 .intro x hx;have:=bj.1 hx;exact⟨this.1,by simpa using this.2⟩
def Met(v:Value):Prop:=∃(a b:Nat)(c:ByteArray)(d:Bool)(e f:ByteArray)(g h:Int),a<4611686018427387904/\b<4611686018427387904/\v=.agg #[.int .i64 (a:Int),.int .i64 (b:Int),.string c,.bool d,.string e,.string f,.int .i64 g,.int .i64 h]
theorem Met.VC(h:Met v):QA v:=by
 obtain⟨a,b,c,d,e,f,g,h,_,_,rfl⟩:=h;exact⟨a,b,c,d,e,f,g,h,rfl⟩
def Ob:Value->Value
 |.agg a=>.agg #[a.getD 0 cH,a.getD 1 cH]
 |v=>v
theorem Met.key(h:Met v):∃O,keyOf prog 170 (Ob v)=some O:=by
 obtain⟨a,b,c,d,e,f,g,h,U,hb,rfl⟩:=h;exact Tu a b U hb
structure vn(M0:List Value)(H0:Array Obj)(P0:Os)(b mb:Nat)(cl:Nat->Option Nat)(l:List (Value×Value))(V:Vs)(wl:World):Prop where
 hb:wl.heap[b]?=some (.cells (oY cl) 125 (0,0))
 BS:b<mb
 hm:lB prog 170 wl mb l
 mP:∀k r,k<7->cl k=some r->∃vs,(r,some vs)∈V
 ji:∀x∈V,∃k vs,k<7/\cl k=some x.1/\x.2=some vs
 uw:∀k k' r,k<7->k'<7->cl k=some r->cl k'=some r->k=k'
 jo:(V.map cw).Nodup
 iC:(l.map cx++uz V).Perm M0
 jX:∀p∈l,p.1=Ob p.2
 old:∀r,r<mb->r≠b->wl.heap[r]?=H0[r]?
 os:wl.os=P0
structure O3(M0:List Value):Prop where
 met:∀v∈M0,Met v
 nodup:(M0.map Ob).Nodup
 len:M0.length<ci
variable {M0:List Value} {H0:Array Obj} {P0:Os} {b mb:Nat} {cl:Nat->Option Nat} {l:List (Value×Value)} {V:Vs} {wl:World}
theorem vn.h8(G:O3 M0)(I:vn M0 H0 P0 b mb cl l V wl):∀r vs,(r,some vs)∈V->∀v∈vs,Met v:=λr vs h v O=>G.met v (I.iC.mem_iff.1 (List.mem_append_right _ (List.mem_flatMap.2 ⟨_,h,O⟩)))
theorem vn.U'(I:vn M0 H0 P0 b mb cl l V wl)(h:V≠[]):∃k r,k<7/\cl k=some r:=by
 cases V with
 |nil=>exact absurd rfl h
 |cons x V=>
  obtain⟨k,vs,O,U,_⟩:=I.ji x (by simp);exact⟨k,x.1,O,U⟩
theorem vn.fresh(G:O3 M0)(I:vn M0 H0 P0 b mb cl l V wl)(h:(r,some (v::vs))∈V):(∀p∈l,p.1≠Ob v)/\l.length<ci:=by
 obtain⟨Y,_⟩:=uh I.jo h;have U:=((I.iC.symm.trans (cE _ Y)).map Ob).nodup_iff.1 G.nodup;constructor
 .intro p O e;rw[aU,be]at U;exact U.2.2 _ (aT.2 ⟨p.2,aT.2 ⟨p,O,rfl⟩,rfl⟩) _ (by simp) ((I.jX p O).symm.trans e)
 .have:=I.iC.length_eq;have h2:=G.len;simp only[br,aX]at this;omega
theorem vn.take(I:vn M0 H0 P0 b mb cl l V wl)(h:(r,some (v::vs))∈V)(hm:lB prog 170 w2 mb (l++[(Ob v,v)]))(hold:∀r,r<mb->w2.heap[r]?=wl.heap[r]?)(ab:w2.os=wl.os) :
  vn M0 H0 P0 b mb cl (l++[(Ob v,v)]) (ux V r vs) w2:=by
 obtain⟨hp,h1,h2,h3⟩:=uh I.jo h
 have O:∀r' vs',(r',some vs')∈V->∃U,(r',some U)∈ux V r vs:=λr' vs' Y=>by
  by_cases e:r'=r
  .subst e;exact⟨vs,aT.2 ⟨_,h,if_pos rfl⟩⟩
  .exact⟨vs',aT.2 ⟨_,Y,if_neg e⟩⟩
 refine⟨(hold b I.BS).trans I.hb,I.BS,hm,λk r' hk hr=>?_,λx hx=>?_,I.uw,by rw[h2]; exact I.jo,?_,?_,λr' aa ac=>(hold r' aa).trans (I.old r' aa ac),ab.trans I.os⟩
 .obtain⟨vs',Y⟩:=I.mP k r' hk hr;exact O r' vs' Y
 .rcases h3 x hx with Y|rfl
  .exact I.ji x Y
  .obtain⟨k,vs',a,b,_⟩:=I.ji _ h;exact⟨k,vs,a,b,rfl⟩
 .refine List.Perm.trans ?_ I.iC;rw[aU,List.append_assoc];exact cE _ hp.symm
 .intro p hp;rcases bw.1 hp with h|h
  .exact I.jX p h
  .simp only[bq]at h;subst h;rfl
def xQ(cl:Nat->Option Nat)(k':Nat):Nat->Option Nat:=λk=>if k=k' then none else cl k
theorem QX(h:k'<7):(oY cl).set! k' (.chan none)=oY (xQ cl k'):=by
 rcases(by omega:k'=0\/k'=1\/k'=2\/k'=3\/k'=4\/k'=5\/k'=6)with rfl|rfl|rfl|rfl|rfl|rfl|rfl<;>rfl
theorem vn.ends(I:vn M0 H0 P0 b mb cl l V wl)(ab:k'<7)(hr:cl k'=some r)(h:(r,some [])∈V)(hb:w2.heap[b]?=some (.cells (oY (xQ cl k')) 125 (0,0)))(hm:lB prog 170 w2 mb l)(hold:∀r,r<mb->r≠b->w2.heap[r]?=wl.heap[r]?)(ac:w2.os=wl.os) :
  vn M0 H0 P0 b mb (xQ cl k') l (vU V r) w2:=by
 obtain⟨hp,h1,h2,h3⟩:=Bq I.jo h
 have U:∀k r',xQ cl k' k=some r'->k≠k'/\cl k=some r':=λk r' e=>by
  unfold xQ at e;split at e
  .cases e
  .exact⟨by assumption,e⟩
 refine⟨hb,I.BS,hm,λk Y hk e=>?_,λx hx=>?_,λk k2 Y a b e1 e2=>I.uw k k2 Y a b (U _ _ e1).2 (U _ _ e2).2,h2,?_,I.jX,λr' aa O=>(hold r' aa O).trans (I.old r' aa O),ac.trans I.os⟩
 .obtain⟨O,e⟩:=U _ _ e;obtain⟨vs,h'⟩:=I.mP k Y hk e;have:Y≠r:=λe2=>O (I.uw k k' Y hk ab e (e2▸hr));exact⟨vs,bj.2 ⟨h',by simpa using this⟩⟩
 .obtain⟨ad,O⟩:=h3 x hx;obtain⟨k,vs,a,b,c⟩:=I.ji x ad;refine⟨k,vs,a,?_,c⟩;have:k≠k':=λe=>O (by rw[e,hr]at b; exact(cz b).symm);unfold xQ;rw[if_neg this];exact b
 .exact(cE _ hp.symm).trans I.iC
end
section
open Go.Conc Go.RowKit Go.Maps
variable {ops:Array Oper} {d:Code} {n:Int} {kk:List Item} {rest:List Nat} {cl:Nat->Option Nat} {o:Oper} {a10 a11 a12 a15 a16 a17 a18 a19 a2 a20 a21 a22 a23 a24 a25 a26 a27 a28 a29 a3 a4 a6 a7 a8 a9:Value}
def Iu(c:Code):Code:=match c with
 |.seq _ (.seq _ (.seq (.block _ (.loop x)) _))=>x
 |_=>.skip
def UG(c:Code):Code:=match c with
 |.seq _ (.seq _ (.seq _ y))=>y
 |_=>.skip
theorem MD:bU.name≠ "runtime.NumGoroutine":=by
 decide
section
variable {P:Program} {E:Env P} {fn:cc} {tm:Array Value} {os:List OF} {wl:World} {V:List (Nat×Option (List Value))} {k:List Item}
theorem oz{x:Item}(h:∀kk,cu (kk=k)->gp E (⟨fn,tm,x::kk⟩::os) wl V):gp E (⟨fn,tm,x::k⟩::os) wl V:=h k rfl
theorem gp.sc{c:Code}(h:∀kk,cu (kk=.code d::k)->gp E (⟨fn,tm,.code c::kk⟩::os) wl V):gp E (⟨fn,tm,.code (.seq c d)::k⟩::os) wl V:=gp.seq (h _ rfl)
theorem gp.sr{id:Nat}(h:∀kk,cu (kk=.code d::k)->gp E (⟨fn,tm,.inRegion ops (List.range ops.size)::kk⟩::os) wl V):gp E (⟨fn,tm,.code (.seq (.region id ops false) d)::k⟩::os) wl V:=gp.seq (gp.region (h _ rfl))
theorem gp.ie(O:cu (kk=k))(h:gp E (⟨fn,tm,k⟩::os) wl V):gp E (⟨fn,tm,.inRegion ops []::kk⟩::os) wl V:=by
 rw[O.out];exact gp.inRegion h
theorem gp.qj{i:Nat}{f:cc}{jQ:Func}{c:Code}{xs:Array Operand}{ts:Array cj}(Y:Array Value)(hi:ops[i]?=some o)(O:c8 o (ce ops tm)=true)(hf:P.funcs[f]?=some jQ)(hb:jQ.body=some c)(hn:jQ.name≠ "runtime.NumGoroutine") (ho:o.op=.call {callee:=.value (.func f),args:=xs,argTypes:=ts}) (U:∀x∈xs.toList,gR E.je E.gl x)
  (ha:xs.map (ll tm)++Array.replicate (jQ.ntmps-xs.size) cH=Y) (h:gp E (⟨f,Y,[.code c]⟩::⟨fn,tm,.inRegion ops (i::rest)::k⟩::os) wl V):gp E (⟨fn,tm,.inRegion ops (i::rest)::k⟩::os) wl V:=
 gp.outer hi O hf hb hn ho U (by rw[ha]; exact h)
end
section
variable {Z:lQ prog} {w:World} {T:List Frame} {dd q K:Nat} {lent:Bool} {fn:cc} {tm:Array Value} {os:List OF} {k:List Item} {M0:List Value} {H0:Array Obj} {P0:Os} {b mb:Nat}
def Tw(Z:lQ prog)(w:World)(T:List Frame)(dd q K:Nat)(lent:Bool)(M0:List Value)(H0:Array Obj)(P0:Os)(b mb:Nat)(f:Value->List OF):Prop:=∀(w2:World)(l:List (Value×Value)),(l.map cx).Perm M0->(∀p∈l,p.1=Ob p.2)->lB prog 170 w2 mb l->(∀r,r<mb->r≠b->w2.heap[r]?=H0[r]?)->w2.os=P0->gp (q8 prog Z w T dd q K lent) (f (.map (some mb))) w2 []
def VZ(c:Code):Array Oper:=match c with
 |.seq _ (.block _ (.seq (.region _ ops _) _))=>ops
 |_=>#[]
theorem BC{yW:Bool}{V:Vs}{wl:World}{ac:List OF}{s:Nat}{k':Int}{v0 v1:Int}{v2:ByteArray}{v3:Bool}{v4 v5:ByteArray}{v6 v7:Int}(z:wl.heap.size=s)
  (hn:∀w2:World,w2.heap.size=s+1->(∀r,r<s->w2.heap[r]?=wl.heap[r]?)->w2.heap[s]?=some (.cells #[.int .i64 v0,.int .i64 v1,.string v2,.bool v3,.string v4,.string v5,.int .i64 v6,.int .i64 v7] 172 (0,0))->w2.os=wl.os->gp (q8 prog Z w T dd q K lent) (⟨82,#[.pointer (some ⟨b,0,none⟩),.int .i64 n,a2,a3,a4,.map (some mb),.int .i64 k',.pointer (some ⟨s,0,none⟩),.bool yW,a9,a10,a11,.tuple #[.int .i64 k',.agg #[.int .i64 v0,.int .i64 v1,.string v2,.bool v3,.string v4,.string v5,.int .i64 v6,.int .i64 v7],.bool yW],.pointer (some ⟨b,0,none⟩),.tuple #[.int .i64 k',.agg #[.int .i64 v0,.int .i64 v1,.string v2,.bool v3,.string v4,.string v5,.int .i64 v6,.int .i64 v7],.bool yW],.int .i64 k',.agg #[.int .i64 v0,.int .i64 v1,.string v2,.bool v3,.string v4,.string v5,.int .i64 v6,.int .i64 v7],.bool yW,a18,a19,a20,a21,a22,a23,a24,a25,a26,a27,a28,a29],kk⟩::ac) w2 V) :
  gp (q8 prog Z w T dd q K lent) (⟨82,#[.pointer (some ⟨b,0,none⟩),.int .i64 n,a2,a3,a4,.map (some mb),a6,a7,a8,a9,a10,a11,a12,.pointer (some ⟨b,0,none⟩),.tuple #[.int .i64 k',.agg #[.int .i64 v0,.int .i64 v1,.string v2,.bool v3,.string v4,.string v5,.int .i64 v6,.int .i64 v7],.bool yW],a15,a16,a17,a18,a19,a20,a21,a22,a23,a24,a25,a26,a27,a28,a29],.inRegion (VZ (Iu (ic f82))) [2,3,4,5,6,7,8,9]::kk⟩::ac) wl V:=by
 have HN:cu _:=hn;clear hn;have HZ:cu (wl.heap.size=s):=z;clear z;show gp _ (⟨_,_,.inRegion #[_,_,_,_,_,_,_,_,_,_] _::_⟩::_) _ _
 (iterate 4 (refine iS ?_; go_simp));refine oB rfl (by rfl) (by kernel_rfl) λO Y U=>?_;have HY:cu (O.heap=wl.heap/\O.os=wl.os):=⟨Y,U⟩;clear Y U;unfold jC;go_simp;simp only[l6];obtain⟨Y,U⟩:=HY.out;obtain⟨w5,aa⟩:∃w5,w5=O.alloc (.cells #[.int .i64 0,.int .i64 0,.string ⟨#[]⟩,.bool false,.string ⟨#[]⟩,.string ⟨#[]⟩,.int .i64 0,.int .i64 0] 172):=⟨_,rfl⟩;have ab:O.heap.size=s:=by rw[Y]; exact HZ.out
 have z5:w5.heap.size=s+1:=by rw[aa]; simp[ab]
 have o5:∀r,r<s->w5.heap[r]?=wl.heap[r]?:=λr hr=>by rw[aa,jD _ _ (by rw[ab]; exact hr),Y]
 have g5:w5.heap[s]?=some (.cells #[.int .i64 0,.int .i64 0,.string ⟨#[]⟩,.bool false,.string ⟨#[]⟩,.string ⟨#[]⟩,.int .i64 0,.int .i64 0] 172 (0,0)):=by rw[aa,kV _ _ ab.symm]
 have p5:w5.os=wl.os:=by rw[aa]; exact U
 rw[<-aa,ab];clear aa Y U HY ab O;have HW:cu (w5.heap.size=s+1/\(∀r,r<s->w5.heap[r]?=wl.heap[r]?)/\w5.heap[s]?=some (.cells #[.int .i64 0,.int .i64 0,.string ⟨#[]⟩,.bool false,.string ⟨#[]⟩,.string ⟨#[]⟩,.int .i64 0,.int .i64 0] 172 (0,0))/\w5.os=wl.os):=⟨z5,o5,g5,p5⟩;clear z5 o5 g5 p5
 (refine iS ?_; go_simp);refine oB rfl (by rfl) (by kernel_rfl) λO Y U=>?_;obtain⟨z5,o5,g5,p5⟩:=HW.out;rw[<-Y]at z5 o5 g5;have p5:=U.trans p5;have g1:=g5;clear Y U HW g5;have e0:O.cell? ⟨s,0,none⟩=some (.int .i64 0):=by rw[gq g1]; rfl
 have f0:O.frozen? ⟨s,0,none⟩=false:=gP g1 0;have e1:O.cell? ⟨s,1,none⟩=some (.int .i64 0):=by rw[gq g1]; rfl
 have f1:O.frozen? ⟨s,1,none⟩=false:=gP g1 1;have e2:O.cell? ⟨s,2,none⟩=some (.string ⟨#[]⟩):=by rw[gq g1]; rfl
 have f2:O.frozen? ⟨s,2,none⟩=false:=gP g1 2;have e3:O.cell? ⟨s,3,none⟩=some (.bool false):=by rw[gq g1]; rfl
 have f3:O.frozen? ⟨s,3,none⟩=false:=gP g1 3;have e4:O.cell? ⟨s,4,none⟩=some (.string ⟨#[]⟩):=by rw[gq g1]; rfl
 have f4:O.frozen? ⟨s,4,none⟩=false:=gP g1 4;have e5:O.cell? ⟨s,5,none⟩=some (.string ⟨#[]⟩):=by rw[gq g1]; rfl
 have f5:O.frozen? ⟨s,5,none⟩=false:=gP g1 5;have e6:O.cell? ⟨s,6,none⟩=some (.int .i64 0):=by rw[gq g1]; rfl
 have f6:O.frozen? ⟨s,6,none⟩=false:=gP g1 6;have e7:O.cell? ⟨s,7,none⟩=some (.int .i64 0):=by rw[gq g1]; rfl
 have f7:O.frozen? ⟨s,7,none⟩=false:=gP g1 7;have HY:cu (O.heap.size=s+1/\(∀r,r<s->O.heap[r]?=wl.heap[r]?)/\O.os=wl.os):=⟨z5,o5,p5⟩;have HG:cu _:=g1;clear z5 o5 p5 g1;unfold jC;go_simp;simp only[l6];clear e0 e1 e2 e3 e4 e5 e6 e7 f0 f1 f2 f3 f4 f5 f6 f7;obtain⟨z5,o5,p5⟩:=HY.out;obtain⟨w2,hw2⟩:∃w2,w2=wJ O s (.int .i64 v0) (.int .i64 v1) (.string v2) (.bool v3) (.string v4) (.string v5) (.int .i64 v6) (.int .i64 v7):=⟨_,rfl⟩;have z1:w2.heap.size=s+1:=by rw[hw2,xN]; exact z5
 have o1:∀r,r<s->w2.heap[r]?=wl.heap[r]?:=λr hr=>by rw[hw2,zK _ _ _ _ _ _ _ _ _ (by omega)]; exact o5 r hr
 have g1:w2.heap[s]?=some (.cells #[.int .i64 v0,.int .i64 v1,.string v2,.bool v3,.string v4,.string v5,.int .i64 v6,.int .i64 v7] 172 (0,0)):=by rw[hw2]; exact Ak HG.out
 have p1:w2.os=wl.os:=by rw[hw2,DT]; exact p5
 unfold wJ at hw2;rw[<-hw2];clear hw2 HG HY z5 o5 p5;have HN:=HN.out w2 z1 o1 g1 p1;have HN:cu _:=HN;clear z1 o1 g1 p1
 (refine iS ?_; go_simp);exact gp.inRegion HN.out
set_option linter.unusedVariables false in
theorem yx{i:Nat}{wl:World}{V:Vs}{l:List (Value×Value)}{Y aa:Value}(I:vn M0 H0 P0 b mb cl l V wl)(hV:V=[])(hn:n=V.length)(hi:ops[i]?=some o)(O:Tw Z w T dd q K lent M0 H0 P0 b mb λv=>⟨fn,iF o.dst tm v,.inRegion ops rest::k⟩::os) :
  gp (q8 prog Z w T dd q K lent) (⟨82,#[.pointer (some ⟨b,0,none⟩),.int .i64 n,a2,a3,a4,.map (some mb),a6,a7,a8,a9,a10,a11,a12,Y,aa,a15,a16,a17,a18,a19,a20,a21,a22,a23,a24,a25,a26,a27,a28,a29],[.code (Iu (ic f82)),.inLoop (Iu (ic f82)),.inBlock 0,.code (UG (ic f82))]⟩::⟨fn,tm,.inRegion ops (i::rest)::k⟩::os) wl V:=by
 subst hV;have hp:¬(0<n):=by rw[hn]; simp
 have HN:cu (n=0):=hn;clear hn;have U:cu _:=I;have HE:cu _:=O;clear I O;show gp _ (⟨_,_,[.code (.seq (.seq _ _) _),.inLoop _,.inBlock 0,.code _]⟩::_) ..;refine gp.sc λkk HK=>?_;refine gp.seq (gp.region ?_)
 (iterate 2 (refine iS ?_; go_simp));refine gp.inRegion ?_;refine gp.qv trivial rfl ?_;rw[HK.out];refine gp.exit (k':=[.code _]) rfl ?_;refine gp.seq (gp.region ?_)
 (iterate 2 (refine iS ?_; go_simp));refine gp.inRegion ?_;refine gp.back (v:=.map (some mb)) (.inr ⟨_,rfl⟩) func82 hi (λτ=>by simp[cq,results82,go_sem]) ?_;have hp:=U.out.iC;simp only[uz,List.flatMap_nil,List.append_nil]at hp;exact HE.out wl l hp U.out.jX U.out.hm U.out.old U.out.os
set_option linter.unusedVariables false in
theorem Gp{i:Nat}(G:O3 M0)(hi:ops[i]?=some o)(ad:Tw Z w T dd q K lent M0 H0 P0 b mb λv=>⟨fn,iF o.dst tm v,.inRegion ops rest::k⟩::os) :
  ∀(N:Nat)(wl:World)(V:Vs)(cl:Nat->Option Nat)(l:List (Value×Value))(a2 a3 a4 a6 a7 a8 a9 a10 a11 a12 ak al a15 a16 a17 a18 a19 a20 a21 a22 a23 a24 a25 a26 a27 a28 a29:Value)(n:Int),(uz V).length+V.length<=N->n=V.length->V.length<=1000->vn M0 H0 P0 b mb cl l V wl->
  gp (q8 prog Z w T dd q K lent) (⟨82,#[.pointer (some ⟨b,0,none⟩),.int .i64 n,a2,a3,a4,.map (some mb),a6,a7,a8,a9,a10,a11,a12,ak,al,a15,a16,a17,a18,a19,a20,a21,a22,a23,a24,a25,a26,a27,a28,a29],[.code (Iu (ic f82)),.inLoop (Iu (ic f82)),.inBlock 0,.code (UG (ic f82))]⟩::⟨fn,tm,.inRegion ops (i::rest)::k⟩::os) wl V:=by
 intro N
 induction N with
 |zero=>
  intro wl V cl l a2 a3 a4 a6 a7 a8 a9 a10 a11 a12 ak al a15 a16 a17 a18 a19 a20 a21 a22 a23 a24 a25 a26 a27 a28 a29 n hN hn hB I;have hV:V=[]:=List.eq_nil_of_length_eq_zero (by omega);exact yx I hV hn hi ad
 |succ N ih=>
  intro wl V cl l a2 a3 a4 a6 a7 a8 a9 a10 a11 a12 ak al a15 a16 a17 a18 a19 a20 a21 a22 a23 a24 a25 a26 a27 a28 a29 n hN hn hB I;by_cases hV:V=[]
  .exact yx I hV hn hi ad
  have hp:0<n:=by rw[hn]; exact Int.natCast_pos.2 (List.length_pos_iff.2 hV)
  have HI:cu ((uz V).length+V.length<=N+1/\n=V.length/\vn M0 H0 P0 b mb cl l V wl/\V≠[]/\0<n/\V.length<=1000):=⟨hN,hn,I,hV,hp,hB⟩;have IH:cu _:=ih;have HE:cu _:=ad;clear hN hn I hV ih ad hB;show gp _ (⟨_,_,[.code (.seq (.seq (.region 2 _ false) (.cond _ .skip (.exit 0))) (.block 1 (.seq (.region 3 _ false) (.seq (.seq (.region 4 _ false) (.cond _ (.seq (.region 5 _ false) (.exit 1)) .skip)) (.seq (.region 6 _ false) (.region 7 _ false)))))),.inLoop _,.inBlock 0,_]⟩::_) _ _;refine gp.sc λkk U=>?_;refine gp.seq (gp.region ?_)
  (iterate 2 (refine iS ?_; go_simp));refine gp.inRegion ?_;refine gp.xW trivial rfl (gp.skip ?_);clear hp;rw[U.out];clear U kk;refine gp.block (gp.sr λkk U=>?_)
  (refine iS ?_; go_simp);obtain⟨hN,hn,I,hV,hp,hB⟩:=HI.out;refine gp.qj #[.pointer (some ⟨b,0,none⟩),cH,cH,cH,cH,cH,cH,cH,cH,cH,cH,cH,cH,cH,cH,cH,cH,cH,cH,cH,cH,cH,cH,cH,cH,cH,cH,cH,cH,cH,cH,cH,cH,cH,cH,cH,cH,cH,cH,cH,cH,cH,cH,cH,cH,cH,cH,cH,cH,cH,cH,cH,cH,cH,cH,cH,cH,cH,cH,cH,cH,cH,cH,cH,cH,cH,cH,cH,cH,cH] (i:=1) (jQ:=bU) (c:=ic bU) rfl rfl func123 (by kernel_rfl) MD rfl (by simp[gR]) (by kernel_rfl) ?_;refine MN b wl.heap.size rfl (cC I.BS I.hm.lt) rfl I.hb I.mP I.uw (I.U' hV) I.jo (λr vs h v hv=>(I.h8 G r vs h v hv).VC) ?_ ?_
  .intro k' r v vs w2 am hr hm z2 o2 p2;obtain⟨v0,v1,v2,v3,v4,v5,v6,v7,ha,hb,hv⟩:=I.h8 G r _ hm v (aZ ..);obtain⟨kl,af⟩:=(I.h8 G r _ hm v (aZ ..)).key;obtain⟨ag,ah⟩:=I.fresh G hm;have hT:=λ(w3:World) a b c=>I.take hm (w2:=w3) a b c;have hL:=(uh I.jo hm).1.length_eq;have ab:=(uh I.jo hm).2.1;have ai:lB prog 170 w2 mb l:=I.hm.stay (o2 mb I.hm.lt);have ac:=I.hm.lt;have BS:=I.BS;subst hv;obtain⟨s,hs⟩:∃s,s=wl.heap.size+1:=⟨_,rfl⟩;rw[<-hs]at z2;have ac:mb<s:=by omega
   clear hs;have HA:cu _:=(And.intro hT (And.intro hL (And.intro ab (And.intro af (And.intro ag (And.intro ah (And.intro o2 (And.intro p2 (And.intro ac BS)))))))));have HM:cu (lB _ _ _ _ _):=ai;clear hT hL ab af ag ah o2 p2 hm hr I ai BS ac hn hp hV hN hB;rw[jf];go_simp;refine BC z2 λw3 z3 o3 g3 p3=>?_;have HW:cu _:=And.intro z3 (And.intro o3 p3);have HG:cu _:=g3;clear z3 o3 p3 g3 z2;rw[U.out];refine gp.seq (gp.seq ?_);clear U kk;refine oz λkk U=>?_;refine gp.region ?_
   (refine iS ?_; go_simp);refine gp.ie U ?_;clear U kk;refine gp.xW trivial rfl (gp.sc λkk U=>?_);refine li (by kernel_rfl) (by rw[U.out]; rfl) (.inl (by simp)) λO Y aa=>?_;have g1:=HG.out;rw[<-Y]at g1;have e0:O.cell? ⟨s,0,none⟩=some (.int .i64 (v0:Int)):=by rw[gq g1]; rfl
   have f0:O.frozen? ⟨s,0,none⟩=false:=gP g1 0;have e1:O.cell? ⟨s,1,none⟩=some (.int .i64 (v1:Int)):=by rw[gq g1]; rfl
   have f1:O.frozen? ⟨s,1,none⟩=false:=gP g1 1;have e2:O.cell? ⟨s,2,none⟩=some (.string v2):=by rw[gq g1]; rfl
   have f2:O.frozen? ⟨s,2,none⟩=false:=gP g1 2;have e3:O.cell? ⟨s,3,none⟩=some (.bool v3):=by rw[gq g1]; rfl
   have f3:O.frozen? ⟨s,3,none⟩=false:=gP g1 3;have e4:O.cell? ⟨s,4,none⟩=some (.string v4):=by rw[gq g1]; rfl
   have f4:O.frozen? ⟨s,4,none⟩=false:=gP g1 4;have e5:O.cell? ⟨s,5,none⟩=some (.string v5):=by rw[gq g1]; rfl
   have f5:O.frozen? ⟨s,5,none⟩=false:=gP g1 5;have e6:O.cell? ⟨s,6,none⟩=some (.int .i64 v6):=by rw[gq g1]; rfl
   have f6:O.frozen? ⟨s,6,none⟩=false:=gP g1 6;have e7:O.cell? ⟨s,7,none⟩=some (.int .i64 v7):=by rw[gq g1]; rfl
   have f7:O.frozen? ⟨s,7,none⟩=false:=gP g1 7;have an:lB prog 170 O mb l:=HM.out.stay (by rw[Y]; exact HW.out.2.1 mb HA.out.2.2.2.2.2.2.2.2.1);have af:=HA.out.2.2.2.1;have ag:=HA.out.2.2.2.2.1;have ah:=HA.out.2.2.2.2.2.1;have HY:cu (O.heap=w3.heap/\O.os=w3.os):=⟨Y,aa⟩;have H1:cu _:=an;have H2:cu _:=af;have H3:cu _:=ag;have H4:cu _:=ah;clear Y aa g1 an af ag ah;go_wp2_with (first|(at_mapUpdate; refine I5 _ rfl _ _ _ 129 rfl 172 Ew bN rfl H1.out H4.out H2.out H3.out rfl _ rfl ?_; intro w4 au ao aw));refine iA ?_;rw[U.out];clear U e0 e1 e2 e3 e4 e5 e6 e7 f0 f1 f2 f3 f4 f5 f6 f7;refine gp.exit (k':=[.inLoop _,.inBlock 0,.code _]) rfl (gp.inLoop ?_);obtain⟨hT,hL,ab,af,ag,ah,o2,p2,ac,BS⟩:=HA.out;obtain⟨hN,hn,I,hV,hp,hB⟩:=HI.out;obtain⟨Y,aa⟩:=HY.out;obtain⟨z3,o3,p3⟩:=HW.out;refine IH.out w4 (ux V r vs) cl _ _ _ _ _ _ _ _ _ _ _ _ _ _ _ _ _ _ _ _ _ _ _ _ _ _ _ _ n ?_ ?_ (by rw[ab]; exact hB) (hT w4 au (λr' ap=>?_) ?_)
   .simp only[List.length_cons]at hL;rw[ab];omega
   .rw[ab]; exact hn
   .rw[ao.block r' (by rw[Y,z3]; omega) (by simp; omega),Y,o3 r' (by omega),o2 r' (cC ap I.hm.lt)]
   .rw[ao.os,aa,p3,p2]
  .intro k' r w2 am hr hm z2 o2 p2;have hE:=λ(w3:World) a b c d=>I.ends am hr hm (w2:=w3) a b c d;have hL:=(Bq I.jo hm).1.length_eq;have ab:=(Bq I.jo hm).2.1;have ai:lB prog 170 w2 mb l:=I.hm.stay (o2 mb I.hm.lt);have ac:=I.hm.lt;have BS:=I.BS;have aq:w2.heap[b]?=some (.cells (oY cl) 125 (0,0)):=(o2 b (by omega)).trans I.hb;obtain⟨s,hs⟩:∃s,s=wl.heap.size+1:=⟨_,rfl⟩;rw[<-hs]at z2;have ae:mb<s:=by omega
   clear hs;have HA:cu _:=And.intro hE (And.intro hL (And.intro ab (And.intro o2 (And.intro p2 (And.intro ae (And.intro BS ac))))));have HM:cu (lB _ _ _ _ _):=ai;have HB:cu (w2.heap[b]?=some (.cells (oY cl) 125 (0,0))):=aq;clear hE hL ab o2 p2 hm hr I ai BS ac ae hn hp hV hN hB aq;rw[jf];simp only[Nw];go_simp;refine BC z2 λw3 z3 o3 g3 p3=>?_;have HW:cu _:=And.intro z3 (And.intro o3 p3);clear z3 o3 p3 g3 z2;rw[U.out];refine gp.seq (gp.seq ?_);clear U kk;refine oz λkk U=>?_;refine gp.region ?_
   (refine iS ?_; go_simp);refine gp.ie U ?_;clear U kk;refine gp.qv trivial rfl (gp.skip (gp.sc λkk U=>?_));refine li (by kernel_rfl) (by rw[U.out]; rfl) (.inl (by simp)) λO Y aa=>?_;have gb:O.heap[b]?=some (.cells (oY cl) 125 (0,0)):=by rw[Y,HW.out.2.1 b (by have:=HA.out; omega)]; exact HB.out
   have e0:O.cell? ⟨b,k',none⟩=some (.chan (cl k')):=by
    rw[gq gb];rcases(by omega:k'=0\/k'=1\/k'=2\/k'=3\/k'=4\/k'=5\/k'=6)with rfl|rfl|rfl|rfl|rfl|rfl|rfl<;>rfl
   have f0:O.frozen? ⟨b,k',none⟩=false:=gP gb k';have HY:cu (O.heap=w3.heap/\O.os=w3.os):=⟨Y,aa⟩;have HG:cu _:=gb;clear Y aa gb;go_wp2;refine iA ?_;clear e0 f0;obtain⟨w4,aj⟩:∃w4,w4=O.setCell ⟨b,k',none⟩ (.chan none):=⟨_,rfl⟩;have g4:w4.heap[b]?=some (.cells (oY (xQ cl k')) 125 (0,0)):=by rw[aj,heap_set HG.out k' (.chan none),<-QX am]; simp only[Array.set!_eq_setIfInBounds]
   have o4:∀r,r≠b->w4.heap[r]?=w3.heap[r]?:=λr hr=>by rw[aj,ca _ _ _ _ hr,HY.out.1]
   have p4:w4.os=w3.os:=by rw[aj,s9]; exact HY.out.2
   rw[<-aj];clear aj HG HY O;have HG:cu _:=And.intro g4 (And.intro o4 p4);clear g4 o4 p4;rw[U.out];clear U kk;refine oz λkk U=>?_;refine gp.region ?_;have h1 : -9223372036854775808<=n-1:=by have:=HI.out.2.2.2.2.1; omega
   have h2:n-1<=9223372036854775807:=by have:=HI.out.2.1; have:=HI.out.2.2.2.2.2; omega
   (iterate 3 (refine iS ?_; go_simp));refine gp.ie U ?_;have ar:IntKind.i64.wrap (n-1)=n-1:=by simp only[IntKind.wrap_i64]; omega
   rw[ar];clear U h1 h2 ar;refine gp.inBlock (gp.inLoop ?_);obtain⟨hE,hL,ab,o2,p2,ae,BS,ac⟩:=HA.out;obtain⟨hN,hn,I,hV,hp,hB⟩:=HI.out;obtain⟨g4,o4,p4⟩:=HG.out;obtain⟨z3,o3,p3⟩:=HW.out;refine IH.out w4 (vU V r) (xQ cl k') l _ _ _ _ _ _ _ _ _ _ _ _ _ _ _ _ _ _ _ _ _ _ _ _ _ _ _ (n-1) ?_ ?_ (by omega) (hE w4 g4 (HM.out.stay ?_) (λr' ap av=>?_) ?_)
   .omega
   .rw[hn]; omega
   .rw[o4 mb (by omega),o3 mb ae]
   .rw[o4 r' av,o3 r' (by omega),o2 r' (by omega)]
   .rw[p4,p3,p2]
theorem GJ{i:Nat}{wl:World}{V:Vs}(hi:ops[i]?=some o)(G:O3 M0)(Y:mb=wl.heap.size)(BS:b<mb)
  (hb:wl.heap[b]?=some (.cells (oY cl) 125 (0,0))) (mP:∀k r,k<7->cl k=some r->∃vs,(r,some vs)∈V) (ji:∀x∈V,∃k vs,k<7/\cl k=some x.1/\x.2=some vs) (uw:∀k k' r,k<7->k'<7->cl k=some r->cl k'=some r->k=k') (jo:(V.map cw).Nodup) (hB:V.length<=1000) (hM:uz V=M0)
  (ab:Tw Z w T dd q K lent M0 wl.heap wl.os b mb λv=>⟨fn,iF o.dst tm v,.inRegion ops rest::k⟩::os) :
  gp (q8 prog Z w T dd q K lent) (⟨82,#[.pointer (some ⟨b,0,none⟩),.int .i64 (V.length:Int),cH,cH,cH,cH,cH,cH,cH,cH,cH,cH,cH,cH,cH,cH,cH,cH,cH,cH,cH,cH,cH,cH,cH,cH,cH,cH,cH,cH],[.code (ic f82)]⟩::⟨fn,tm,.inRegion ops (i::rest)::k⟩::os) wl V:=by
 have HL:=Gp G hi ab;obtain⟨n,hn⟩:∃n:Int,n=V.length:=⟨_,rfl⟩;have HA:cu _:=And.intro hb (And.intro mP (And.intro ji (And.intro uw (And.intro jo (And.intro hB (And.intro hM (And.intro Y (And.intro BS hn))))))));have HL:cu _:=HL;rw[<-hn];clear hb mP ji uw jo hB hM Y ab hn BS;refine gp.sr λkk HK=>?_
 (refine iS ?_; go_simp);refine gp.ie HK ?_;refine gp.sc λkk HK=>?_;refine li (by kernel_rfl) (by rw[HK.out]; rfl) (.inl (by simp)) λy0 U O=>?_;have HY:cu (y0.heap=wl.heap/\y0.os=wl.os):=⟨U,O⟩;clear U O;have ad:=@run_makeMap prog;go_wp2;refine iA ?_;rw[HK.out];obtain⟨hb,mP,ji,uw,jo,hB,hM,Y,BS,hn⟩:=HA.out;obtain⟨U,O⟩:=HY.out;have hz:y0.heap.size=mb:=by rw[U,Y]
 obtain⟨w2,aa⟩:∃w2,w2=y0.alloc (.map #[] 0):=⟨_,rfl⟩;have ac:lB prog 170 w2 mb []:=by rw[aa,<-hz]; exact lB.made y0
 have o2:∀r,r<mb->w2.heap[r]?=wl.heap[r]?:=λr hr=>by rw[aa,jD _ _ (by rw[hz]; exact hr),U]
 have p2:w2.os=wl.os:=by rw[aa]; exact O
 rw[<-aa,hz];refine gp.seq (gp.block (gp.loop ?_));exact HL.out _ w2 V cl [] _ _ _ _ _ _ _ _ _ _ _ _ _ _ _ _ _ _ _ _ _ _ _ _ _ _ _ n (cB _) hn hB ⟨(o2 b BS).trans hb,BS,ac,mP,ji,uw,jo,by rw[hM]; exact .refl _,nofun,λr hr _=>o2 r hr,p2⟩
end
end
section
open Go.RowKit Go.Maps
structure oD where
 yX:Nat
 at':Nat
 name:Wd
 wanted:Bool
 n2:Wd
 tx:Wd
 wt:Int
 tg:Int
def oD.val(m:oD):Value:=.agg #[.int .i64 (m.yX:Int),.int .i64 (m.at':Int),.string ⟨m.name.toArray⟩,.bool m.wanted,.string ⟨m.n2.toArray⟩,.string ⟨m.tx.toArray⟩,.int .i64 m.wt,.int .i64 m.tg]
def oD.kv(m:oD):Value×Value:=(QS m.yX m.at',m.val)
def oD.Oe(m:oD):gu:=⟨m.n2,false,m.tx,m.wt,m.tg⟩
def iO:List oD->Wd->Nat
 |[],_=>0
 |m::l,x=>if m.name=x then max m.yX (iO l x)else iO l x
theorem xU{l m:List oD}(h:l.Perm m)(x:Wd):iO l x=iO m x:=by
 induction h with
 |nil=>rfl
 |cons a _ O=>simp only[iO,O]
 |swap a b l=>
  simp only[iO];split<;>split<;>omega
 |trans _ _ U Y=>rw[U,Y]
theorem GQ(l:List oD)(m:oD)(x:Wd):iO (l++[m]) x=if m.name=x then max (iO l x) m.yX else iO l x:=by
 rw[xU (List.perm_append_comm (l₁:=l) (l₂:=[m]))];show(if m.name=x then max _ (iO l x)else iO l x)=_;split
 .rw[Nat.max_comm]
 .rfl
theorem wZ{n:Nat}:∀(l:List oD)(x:Wd),(∀m∈l,m.yX<=n)->iO l x<=n
 |[],_,_=>cD _
 |m::l,x,h=>by
  have O:=h m (by simp)
  have U:=wZ l x (λm hm=>h m (by simp[hm]));simp only[iO];split<;>omega
def ib(all l:List oD):List gu:=(l.filter λm=>m.wanted&&m.yX==iO all m.name).map oD.Oe
theorem FP(all l:List oD)(m:oD):ib all (l++[m])=ib all l++(if(m.wanted&&m.yX==iO all m.name)=true then [m.Oe]else []):=by
 unfold ib;rw[bt,aU];rw[bh];split<;>rfl
theorem Dr(all l:List oD):(ib all l).length<=l.length:=by unfold ib; rw[aX]; exact bl ..
theorem Hi{all l m:List oD}(h:l.Perm m):(ib all l).Perm (ib all m):=(h.filter _).map _
def oZ(e:gu):List Value:=[.string ⟨e.name.toArray⟩,.string ⟨e.text.toArray⟩,.int .i64 e.gw,.int .i64 e.gK]
def kP(es:List gu):List Value:=es.flatMap oZ
theorem Jd(es:List gu)(x:gu):kP (es++[x])=kP es++oZ x:=by simp[kP]
theorem DF:∀(ws:List gu)(i c:Nat)(h:i<ws.length),c<4->(kP ws)[i*4+c]?=(oZ ws[i])[c]?:=by
 intro ws
 induction ws with
 |nil=>intro i c h; simp at h
 |cons a l O=>
  intro i c h U;have e:kP (a::l)=oZ a++kP l:=by simp[kP]
  rw[e]
  cases i with
  |zero=>rw[List.getElem?_append_left (by simp[oZ]; omega)]; simp
  |succ i=>
   rw[List.getElem?_append_right (by simp[oZ]; omega)];have Y:(oZ a).length=4:=rfl;rw[Y,show(i+1)*4+c-4=i*4+c by omega,O i c (by simpa using h) U];simp
theorem Gu(x:gu):∀v∈oZ x,v.oneCell'=true:=by
 intro v O;simp[oZ]at O;rcases O with rfl|rfl|rfl|rfl<;>rfl
theorem Nt(l:List (Wd×Value)){x y:Wd}(e:y≠x):(l.filter λp=>p.1 != x).find? (λp=>p.1==y)=l.find? (λp=>p.1==y):=by
 induction l with
 |nil=>rfl
 |cons p l U=>
  rw[bh];by_cases O:p.1=x
  .rw[if_neg (by simpa using O),aY];have:(p.1==y)=false:=by simpa[O]using λh=>e h.symm
   rw[this];exact U
  .rw[if_pos (by simpa using O),aY,aY];split
   .rfl
   .exact U
theorem Nn(l:List (Wd×Value))(x y:Wd)(v z:Value):pf (tA l x v) y z=if y=x then v else pf l y z:=by
 by_cases e:y=x
 .subst e;unfold pf tA
  have:(l.filter λp=>p.1 != y).find? (λp=>p.1==y)=none:=by
   rw[bs];intro p O;have:=(bj.1 O).2;simpa using this
  rw[bv,this];simp
 .rw[if_neg e];unfold pf tA
  have U:([(x,v)]).find? (λp=>p.1==y)=none:=by
   rw[bs];intro p O;simp only[bq]at O;subst O;simpa using λh=>e h.symm
  rw[bv,U,Option.or_none,Nt l e]
theorem OV(l:List (Wd×Value))(x:Wd)(v:Value):(tA l x v).length<=l.length+1:=by
 unfold tA;rw[br,List.length_singleton];have:=bl (λp=>p.1 != x) l;omega
theorem jB.Vg{P:Program}{k:cj}{w:World}{B r:Nat}{l rest O:List (Value×Value)}(h:jB P k w B r l rest)(U:rest.Perm O):jB P k w B r l O:=by
 obtain⟨a,b,D,left,cnt,Y,h2,h3⟩:=h;exact⟨(U.map _).nodup_iff.1 a,λp hm=>b p (U.mem_iff.2 hm),D,left,cnt,Y,h2,λkey kl hk=>(h3 key kl hk).trans ⟨λ⟨p,x,y⟩=>⟨p,U.mem_iff.1 x,y⟩,λ⟨p,x,y⟩=>⟨p,U.mem_iff.2 x,y⟩⟩⟩
theorem Cu{U O:Type}(f:U->O){l:List U}{p:O}{t:List O}(h:(l.map f).Perm (p::t)):∃m Y,l.Perm (m::Y)/\p=f m/\t.Perm (Y.map f):=by
 obtain⟨m,hm,e⟩:=aT.1 (h.mem_iff.2 (aZ ..));obtain⟨a,b,rfl⟩:=bd hm;refine⟨m,a++b,bf,e.symm,?_⟩
 have h1:((a++m::b).map f).Perm (f m::(a++b).map f):=by
  exact bf.map f
 rw[<-e]at h;exact(cF (h.symm.trans h1))
abbrev KJ(w:World)(B:Nat)(ms:List oD):Prop:=lB prog 170 w B (ms.map oD.kv)
abbrev oA(w:World)(B r:Nat)(ms O:List oD):Prop:=jB prog 170 w B r (ms.map oD.kv) (O.map oD.kv)
section
variable {B:Nat} {ms:List oD} (w:World) {ops:Array Oper} {rest:List Oper} {o:Oper} {a:Act} {Q:Exit->Act->World->Prop}
theorem uI(U:o.guard=none)(m:Operand)(O:o.op=Op.range 129 m)(hm:a.eval m=.map (some B))(h:KJ w B ms)
  (Y:∀w',oA w' B w.heap.size ms ms->w.grownBy w' none->w'.heap.size=w.heap.size+1->ck prog ops Q rest (a.put o.dst (.pointer (some ⟨w.heap.size,0,none⟩))) w') :
  ck prog ops Q (o::rest) a w:=
 Cy w U m _ O _ Ew bN hm h Y
theorem wD(hg:o.guard=none)(it:Operand)(aa:o.op=Op.next it false)(r:Nat)(U:List oD)(ab:a.eval it=.pointer (some ⟨r,0,none⟩))(h:oA w B r ms U)
  (Y:U=[]->ck prog ops Q rest (a.put o.dst (.tuple #[.bool false])) w)
  (hMore:∀(m:oD)(O:List oD)(w':World),U.Perm (m::O)->oA w' B r ms O->w'.rangeLeft B r<w.rangeLeft B r->w.grownBy w' (some r)->w'.heap.size=w.heap.size->(Instr.entry (.pointer (some ⟨r,0,none⟩))).run prog w'=.ok (.tuple #[QS m.yX m.at',m.val]) w'->
    ck prog ops Q rest (a.put o.dst (.tuple #[.bool true,QS m.yX m.at',m.val])) w') :
  ck prog ops Q (o::rest) a w:=by
 refine Ed w hg it aa Ew r _ ab h (λh0=>Y (by simpa using h0)) ?_;intro p ac w' hp hr ad ae hs he;obtain⟨m,l',h1,rfl,h2⟩:=Cu _ hp;exact hMore m l' w' h1 (hr.Vg h2) ad ae hs he
end
end
section
open Go.Conc Go.RowKit Go.Maps
theorem atKey_mem{L:List (Lit×DataW Value)}(O:L.Pairwise (λp q=>p.1≠q.1)){k:Lit}{d:DataW Value}(Y:WideAt.IsKeyLit k)(hm:(k,d)∈L)(z:DataW Value):(DataW.map L).atKey k z=d:=by
 unfold DataW.atKey;simp only
 have:L.find? (λp=>p.1.sameKey k)=some (k,d):=by
  induction L with
  |nil=>cases hm
  |cons a L ih=>
   rw[List.pairwise_cons]at O;rw[aY];rcases aS.1 hm with e|hm
   .rw[<-e];simp only[WideAt.sameKey_self Y]
   .have U:=O.1 _ hm;rw[sameKey_ne U];exact ih O.2 hm
 rw[this]
theorem O8(e:gu):Flat (lR e).2:=by
 refine .agg λi hi=>?_;have:=hi
 match i,this with
 |0,_=>exact .bool _
 |1,_|2,_=>exact .string _
 |3,_|4,_=>exact .int ..
theorem OK{x:MapEntry}(O:Flat x.key)(U:Flat x.val)(m:Ren):vm m x x:=⟨O.refl m,U.refl m,rfl⟩
theorem LZ{es:List MapEntry}(h:∀x∈es,Flat x.key/\Flat x.val)(m:Ren):gW (vm m) es es:=by
 induction es with
 |nil=>exact .nil
 |cons a l O=>exact .cons (OK (h a (by simp)).1 (h a (by simp)).2 m) (O λx U=>h x (by simp[U]))
theorem SB{es U:List MapEntry}{m:Ren}(h:∀x∈es,Flat x.key/\Flat x.val)(ha:gW (vm m) es U):U=es:=by
 induction ha with
 |nil=>rfl
 |@cons a b l l' O _ ih=>
  have Y:=h a (by simp);have e1:=Y.1.eq m _ O.key;have e2:=Y.2.eq m _ O.val;have e3:=O.born;rw[ih λx hx=>h x (by simp[hx])];cases a;subst e1 e2 e3;rfl
theorem IF{w:World}{B:Nat}{es:List gu}(h:iu w B es):∃ex,w.heap[B]?=some ex/\tT ex es:=by
 obtain⟨D,⟨xs,clock,hb,F,ac,hD⟩,hS⟩:=h
 have aa:∀x∈xs.toList,Flat x.key/\Flat x.val:=by
  intro x hx;obtain⟨y,hy⟩:=F.reads x hx;have jX:=WideElems.rd_key hy;obtain⟨nm,ad,ae⟩:=Lm b' jX
  have af:y=(.string nm,.held x.val):=by
   unfold WideElems.rd at hy;rw[jX]at hy;simp only[Option.bind_some,nQ,cG,cy]at hy;rw[<-hy,ae]
  refine⟨by rw[ad]; exact .string _,?_⟩;have ab:(Lit.string nm,DataW.held _)∈(xs.toList.map (WideElems.rg _ 9 nQ)).foldr _ []:=mem_sorted.2 (aT.2 ⟨x,hx,by rw[WideElems.rg_of hy,af]⟩);have ag:=(WideShapes.sorted_perm _).symm.pairwise (F.apart (WideMaps.string_law b')) (λh=>h.symm);have U:=atKey_mem ag (k:=.string nm) trivial ab;rw[<-hD]at U;have O:=has_true_of_atKey U;rw[hS.has nm,List.any_eq_true]at O;obtain⟨p,hp,Y⟩:=O;have Y:=by simpa using Y
  have h2:=hS.at_ p hp (.held x.val);rw[Y,U]at h2;have h3:=by simpa using h2
  rw[h3];obtain⟨e,_,rfl⟩:=aT.1 hp;exact O8 e
 refine⟨.map xs clock,hb,⟨xs,clock,rfl⟩,λm=>.map clock (LZ aa m),λm o' ho=>?_,λw' B' ah=>?_⟩
 .cases ho with
  |@map _ ai _ ha=>
   have:=SB aa ha;simp at this; rw[this]
 .exact⟨D,⟨xs,clock,ah,F,ac,hD⟩,hS⟩
end
section
open Go.Conc
variable {q:Nat} {b5:Option Nat} {m:Ren} {w:World}
theorem VR.flatten{x x':Value}(h:VR m x x'):∃y,(∀U,VR U y x')/\(Flat x->y=x)/\∀t z,x=.iface t z->∃z',y=.iface t z':=by
 induction h with
 |jw v hv=>exact⟨_,λ_=>.jw v hv,λO=>(by cases O),λ_ _ e=>(by cases e)⟩
 |bool b=>exact⟨_,λ_=>.bool b,λ_=>rfl,λ_ _ e=>(by cases e)⟩
 |int k n=>exact⟨_,λ_=>.int k n,λ_=>rfl,λ_ _ e=>(by cases e)⟩
 |string s=>exact⟨_,λ_=>.string s,λ_=>rfl,λ_ _ e=>(by cases e)⟩
 |jY=>exact⟨_,λ_=>.jY,nofun,λ_ _ e=>(by cases e)⟩
 |jg l c=>exact⟨_,λ_=>.jg l c,nofun,λ_ _ e=>(by cases e)⟩
 |oV=>exact⟨_,λ_=>.oV,nofun,λ_ _ e=>(by cases e)⟩
 |lF=>exact⟨_,λ_=>.lF,nofun,λ_ _ e=>(by cases e)⟩
 |nilFunc=>exact⟨_,λ_=>.nilFunc,nofun,λ_ _ e=>(by cases e)⟩
 |nilIface=>exact⟨_,λ_=>.nilIface,nofun,λ_ _ e=>(by cases e)⟩
 |ptr _=>exact⟨_,λ_=>.jw _ trivial,λO=>(by cases O),λ_ _ e=>(by cases e)⟩
 |slice _ _ _=>exact⟨_,λ_=>.jw _ trivial,λO=>(by cases O),λ_ _ e=>(by cases e)⟩
 |map _=>exact⟨_,λ_=>.jw _ trivial,λO=>(by cases O),λ_ _ e=>(by cases e)⟩
 |gone _=>exact⟨_,λ_=>.jw _ trivial,λO=>(by cases O),λ_ _ e=>(by cases e)⟩
 |chan _=>exact⟨_,λ_=>.jw _ trivial,λO=>(by cases O),λ_ _ e=>(by cases e)⟩
 |iface t _ ih=>
  obtain⟨y,h1,_,_⟩:=ih;exact⟨.iface t y,λU=>.iface t (h1 U),λO=>(by cases O),λ_ _ e=>(by cases e; exact⟨_,rfl⟩)⟩
 |tuple _ _ _=>exact⟨_,λ_=>.jw _ trivial,λO=>(by cases O),λ_ _ e=>(by cases e)⟩
 |func O _ _ _ _ _ _=>
  cases O with
  |func f _=>exact⟨_,λ_=>.jw _ trivial,λO=>(by cases O),λ_ _ e=>(by cases e)⟩
  |yield _=>exact⟨_,λ_=>.jw _ trivial,λO=>(by cases O),λ_ _ e=>(by cases e)⟩
 |@sV lf n f c hs hi hx ih=>
  have Y:∀i(h:i<lf.size),∃y,(∀U,VR U y (f[i]'(hs▸h)))/\(Flat _->y=lf[i])/\∀t z,lf[i]=.iface t z->∃z',y=.iface t z':=λi h=>ih i h _;refine⟨.func _ (b7 λi=>cs (Y _ i.2)) _,λU=>.sV (by simp[hs]) (λi h h'=>?_) (λt w hw=>?_),λO=>(by cases O),λ_ _ e=>(by cases e)⟩
  .simp only[b0];exact(cr (Y i _)).1 U
  .obtain⟨x,h0⟩:=hx t w hw;obtain⟨hl,e0⟩:=b1.1 h0;obtain⟨z,hz⟩:=(cr (Y 0 hl)).2.2 t x e0;refine⟨z,?_⟩;rw[b3 (by simpa using hl)];simp only[b0];rw[hz]
 |@agg c c' hs hi ih=>
  have Y:∀i(h:i<c.size),∃y,(∀U,VR U y (c'[i]'(hs▸h)))/\(Flat _->y=c[i])/\∀t z,c[i]=.iface t z->∃z',y=.iface t z':=λi h=>ih i h _;refine⟨.agg (b7 λi=>cs (Y _ i.2)),λU=>.agg (by simp[hs]) λi h h'=>?_,λO=>?_,λ_ _ e=>(by cases e)⟩
  .simp only[b0];exact(cr (Y i _)).1 U
  .congr 1;refine Array.ext (by simp) λi h1 h2=>?_;simp only[b0];refine(cr (Y i h2)).2.1 ?_
   cases O with
   |agg O=>exact O i h2
theorem io.flatten{c Y:Array Value}(h:io m c Y):∃c1,(∀U,io U c1 Y)/\c1.size=c.size/\∀i(O:i<c1.size)(h2:i<c.size),Flat c[i]->c1[i]=c[i]:=by
 have hc:∀i(O:i<c.size),∃y,(∀U,VR U y (Y[i]'(h.size▸O)))/\(Flat _->y=c[i]):=λi O=>by
  obtain⟨y,g1,g2,_⟩:=(h.idx i O _).flatten;exact⟨y,g1,g2⟩
 refine⟨b7 λi=>cs (hc _ i.2),λU=>io.kE (by simp[h.size]) λi O h2=>?_,by simp,λi O h2 hf=>?_⟩
 .simp only[b0];exact(cr (hc i _)).1 U
 .simp only[b0];exact(cr (hc i h2)).2 hf
def zm:Obj:=.cells #[] 0 (0,0)
def V1(o:Obj)(w:World):World:={w with heap:=#[zm,zm,zm,zm,zm,o,zm]}
def U8(b5:Option Nat)(q:Nat)(Y:∀b,b5=some b->5<=b):Ren where
 blk:=λr=>if r=5 then b5 else none
 ch:=λ_=>none
 loose:=λr=>r=5
 ok:=Ou prog Oa DQ false
 je:=λf=>Oa f=true
 kK:=False
 dead:=λr=>r=6
 dm:=λ_=>q
 ur:=λ_ _=>none
 n5:=λ_=>none
 G:=5
 qT:=λr r' h=>by
  split at h
  .rename_i e
   have:=Y r' h
   omega
  .cases h
 inj:=λr s t O U=>by
  split at O
  .split at U
   .omega
   .cases U
  .cases O
 xH:=λ_ _ _ h=>by cases h
theorem TZ{Z:lQ prog}{T:List Frame}(O:∀b,b5=some b->5<=b):Rg (q8 prog Z w T 6 q 6 false) (U8 b5 q O):=
 ⟨Fl _ rfl rfl zP.symm,id,λ_ _ h=>(by cases h),rfl,rfl,rfl,rfl,λr U=>by have:r=5:=U; omega⟩
theorem T1(h5:∀b,b5=some b->5<=b)(hw:5<=w.heap.size){c1:Array Value}{e5:cj}(hb:∀b,b5=some b->∃Y f',w.heap[b]?=some (.cells Y e5 f')/\∀m1,io m1 c1 Y) :
  WR (U8 b5 q h5) (V1 (.cells c1 e5 (0,c1.size)) w) w:=by
 have key:∀r r',(U8 b5 q h5).blk r=some r'->r=5/\b5=some r':=λr r' h=>by
  have h:(if r=5 then b5 else none)=some r':=h;split at h
  .exact⟨by assumption,h⟩
  .cases h
 refine⟨λr r' O=>?_,λr r' c e f Y e' f' O h1 h2 hn=>?_,λr r' c e f Y e' f' O h1 h2 hl o ho=>?_,λ_ _ h=>(by cases h),by show 5<=7; omega,hw,rfl,λ_ _ h=>(by cases h),λr r' O hl=>?_,λr O=>?_,λr i v hv=>(by cases hv)⟩
 .obtain⟨rfl,U⟩:=key r r' O;obtain⟨Y,f',g1,g2⟩:=hb r' U;exact⟨_,_,rfl,g1,.cells e5 _ f' (g2 _)⟩
 .obtain⟨rfl,U⟩:=key r r' O;exact absurd rfl hn
 .obtain⟨rfl,U⟩:=key r r' O;obtain⟨rfl,_,rfl⟩:=h1;show 0<=o/\o<c1.size;omega
 .obtain⟨rfl,U⟩:=key r r' O;exact⟨_,_,_,rfl⟩
 .have:=O;subst this;exact⟨rfl,_,_,_,rfl⟩
end
section
open Go.RowKit Go.Sort
theorem Ro:∀n,Lib.decDigits n=uX n:=by
 intro n
 induction n using Nat.strongRecOn with
 |ind n O=>
  have e:∀d,d<=9->UInt8.ofNat (48+d)=48+UInt8.ofNat d:=λd U=>by
   rcases(by omega:d=0\/d=1\/d=2\/d=3\/d=4\/d=5\/d=6\/d=7\/d=8\/d=9)with rfl|rfl|rfl|rfl|rfl|rfl|rfl|rfl|rfl|rfl<;>rfl
  by_cases h:n<=9
  .rw[tH h,Lib.decDigits,dif_pos (by omega),e n h]
  .rw[rJ h,Lib.decDigits,dif_neg (by omega),O _ (by omega),e _ (by omega)]
theorem Q6(n:Nat)(Y:n<9223372036854775808)(w:World)(O:Lib.TabIs prog w "internal/strconv.uint64pow10" .u64 Lib.pow10Tab) :
  cg prog 85 #[.int .i64 (n:Int)] w λe w'=>e=.returned (.string ⟨(uX n).toArray⟩)/\iT w w':=by
 have h:=Any.strconv_Itoa P7 n (by omega) (by omega) w O;refine h.mono ?_;rintro e w' ⟨rfl,k,os,rfl⟩;refine⟨?_,⟨rfl,rfl,rfl,by simp[grow,World.drewN],λj U=>?_⟩⟩
 .unfold Lib.itoa;rw[if_neg (by omega),Int.toNat_natCast,Ro]
 .show(w.heap++os)[j]?=_;rw[Array.getElem?_append_left U]
theorem Oq(e:gu)(w:World)(O:0<=e.gw)(hI:∀y,iT w y->cg prog 85 #[.int .i64 e.gw] y λen w'=>en=.returned (.string ⟨(uX e.gw.toNat).toArray⟩)/\iT y w')(hn:e.name.length<=65536)(ht:e.text.length<=1048576)(hd:(uX e.gw.toNat).length<=100) :
  cg prog 51 #[.agg #[.string ⟨e.name.toArray⟩,.string ⟨e.text.toArray⟩,.int .i64 e.gw,.int .i64 e.gK]] w λen w'=>en=.returned (.string ⟨(jM e).toArray⟩)/\iT w w':=by
 obtain⟨nm,gn,tx,wt,tg⟩:=e;simp only at O hI hn ht hd⊢;obtain⟨U,Y⟩:∃U:ByteArray,U=⟨(uX wt.toNat).toArray⟩:=⟨_,rfl⟩;obtain⟨nb,aa⟩:∃nb:ByteArray,nb=⟨nm.toArray⟩:=⟨_,rfl⟩;obtain⟨tb,ab⟩:∃tb:ByteArray,tb=⟨tx.toArray⟩:=⟨_,rfl⟩;have af:nb.size<=65536:=by rw[aa]; show nm.toArray.size<=_; simpa using hn
 have ag:tb.size<=1048576:=by rw[ab]; show tx.toArray.size<=_; simpa using ht
 have ah:U.size<=100:=by rw[Y]; show(uX wt.toNat).toArray.size<=_; simpa using hd
 have k0:¬9223372036854775807<nb.size+1:=by omega
 have k1:¬9223372036854775807<nb.size+1+U.size:=by omega
 have k2:¬9223372036854775807<nb.size+1+U.size+1:=by omega
 have k3:¬9223372036854775807<nb.size+1+U.size+1+tb.size:=by omega
 rw[<-Y]at hI;rw[<-aa,<-ab];have HI:cu (∀y,iT w y->cg prog 85 #[.int .i64 wt] y λen w'=>en=.returned (.string U)/\iT y w'):=hI;have ac:cu (U=⟨(uX wt.toNat).toArray⟩/\nb=⟨nm.toArray⟩/\tb=⟨tx.toArray⟩):=⟨Y,aa,ab⟩;clear hI O hn ht hd Y aa ab;obtain⟨w0,O⟩:∃w0,w0=w.alloc (.cells #[.string nb,.string tb,.int .i64 wt,.int .i64 tg] 96):=⟨_,rfl⟩
 have hA:∀j,w0.cell? ⟨w.heap.size,j,none⟩=(#[Value.string nb,.string tb,.int .i64 wt,.int .i64 tg]:Array Value)[j]?:=λj=>by
  rw[O,World.cell?_alloc_at _ _ _ _ rfl]
 have ad:cu (iT w w0):=by rw[O]; exact iT.alloc _ _
 have d0:w0.cell? ⟨w.heap.size,0,none⟩=some (.string nb):=hA 0;have d1:w0.cell? ⟨w.heap.size,1,none⟩=some (.string tb):=hA 1;have d2:w0.cell? ⟨w.heap.size,2,none⟩=some (.int .i64 wt):=hA 2;clear hA;go_enter func51,ntmps51;go_wp2_with fail;rw[<-O];clear O;refine oS (by kernel_rfl) ?_;refine gO 0 ?_ ?_<|gO 1 ?_ ?_<|gO 2 ?_ ?_<|gO 3 ?_ ?_<|gO 4 ?_ ?_ ?_
 any_goals(intro y hy; have q:=cn hy d0; have q1:=cn hy d2; unfold jC; go_simp; refine⟨iT.refl _,?_⟩; with_reducible rfl)
 go_simp;refine gO 5 ?_ ?_ ?_;rotate_left
 .intro y hy; unfold jC; go_simp; refine⟨rfl,(HI.out y ((iT.trans ad.out hy))).mono ?_⟩; rintro e y2 ⟨rfl,h2⟩; refine⟨_,rfl,h2,?_⟩; with_reducible rfl
 go_simp;refine gO 6 ?_ ?_<|gO 7 ?_ ?_<|gO 8 ?_ ?_<|gO 9 ?_ ?_<|gO 10 ?_ ?_<|gO 11 ?_ ?_ ?_
 any_goals(intro y hy; have q:=cn hy d1; unfold jC; go_simp; refine⟨iT.refl _,?_⟩; with_reducible rfl)
 go_simp;refine zw (by kernel_rfl) ?_ _;intro y hy;have ae:cu (iT w y):=iT.trans ad.out hy;clear hy;go_simp;go_wp2;go_ret;refine⟨?_,ae.out⟩;show Ending.returned (.string (nb++⟨#[32]⟩++U++⟨#[32]⟩++tb))=_;obtain⟨rfl,rfl,rfl⟩:=ac.out;congr 2;unfold jM;apply ByteArray.ext;simp[ByteArray.data_append]
end
section
open Go.Conc Go.RowKit Go.Maps
variable {A:Ask} {ms:List Value} {cap num:Nat} {w w':World}
structure SG(w:World)(num:Nat)(A:Ask)(cap:Nat)(ms:List Value):Prop where
 c0:w.heap[5]?=some (.cells #[.chan (some 10)] 167 (0,1))
 c2:w.heap[7]?=some (.cells #[.int .i64 num] 3 (0,1))
 c3:w.heap[8]?=some (.cells #[.int .i64 A.m,.string A.q,.int .i64 A.t] 94 (0,3))
 ch:w.heap[10]?=some (.chan cap ms.toArray false ms.length 0 false)
theorem SG.stay(h:SG w num A cap ms)(hb:∀k,k=5\/k=7\/k=8\/k=10->w'.heap[k]?=w.heap[k]?):SG w' num A cap ms:=
 ⟨(hb 5 (by simp)).trans h.c0,(hb 7 (by simp)).trans h.c2,(hb 8 (by simp)).trans h.c3,(hb 10 (by simp)).trans h.ch⟩
theorem SG.lt(h:SG w num A cap ms):10<w.heap.size:=iQ h.ch
theorem SG.xI(h:SG w num A cap ms)(O:nV w w'):SG w' num A cap ms:=by
 obtain⟨τ,O⟩:=O;have:=h.lt;exact h.stay λk U=>O.block k (by show k<w.heap.size; omega)
theorem SG.jU(h:SG w num A cap ms)(v:Value):SG {w with heap:=w.heap.setIfInBounds 10 (.chan cap (ms.toArray.push v) false (ms.length+1) 0 false)} num A cap (ms++[v]):=by
 have U:=h.lt;have hb:∀k,k≠10->(w.heap.setIfInBounds 10 (.chan cap (ms.toArray.push v) false (ms.length+1) 0 false))[k]?=w.heap[k]?:=λk O=>by rw[bz (Ne.symm O)]
 refine⟨(hb 5 (by omega)).trans h.c0,(hb 7 (by omega)).trans h.c2,(hb 8 (by omega)).trans h.c3,?_⟩;rw[b4 (by omega)];simp
theorem Su{q:Nat}{e:gu}(hA:A.Ok)(h:SG w num A cap ms)(hc:ms.length<cap)(he:Told e) :
  cg prog 118 #[.int .i64 (q:Int),.string ⟨e.name.toArray⟩,tk e,.pointer (some ⟨5,0,none⟩),.pointer (some ⟨7,0,none⟩),.pointer (some ⟨8,0,none⟩)] w λen w'=>en=.returned (.tuple #[])/\SG w' num A cap (ms++[nZ A num (q,e)])/\gz (· = 10) w w':=by
 have HS:cu _:=h
 have HM:cu (∀y:World,cg prog 119 #[.agg #[.int .i64 num,.int .i64 q],.string ⟨e.name.toArray⟩,tk e,.agg #[.int .i64 A.m,.string A.q,.int .i64 A.t]] y λx w'=>x=.returned (nZ A num (q,e))/\iT y w'):=λy=>by
  refine(Ip num q ⟨e.name.toArray⟩ e.gone ⟨(wP e).toArray⟩ ⟨e.text.toArray⟩ e.gw e.gK A.m A.t A.q y hA.m hA.t he.2.2 hA.q (by show e.text.toArray.size<=_; have:=he.2.1; simp; omega)).mono ?_;rintro x w' ⟨h1,h2⟩;exact⟨h1,h2⟩
 obtain⟨mv,ac⟩:∃mv,mv=nZ A num (q,e):=⟨_,rfl⟩;rw[<-ac]at HM⊢;obtain⟨w0,ad⟩:∃w0,w.alloc (.cells #[.bool e.gone,.string ⟨(wP e).toArray⟩,.string ⟨e.text.toArray⟩,.int .i64 e.gw,.int .i64 e.gK] 111)=w0:=⟨_,rfl⟩;have ae:cu (Below w.heap.size w w0):=by show Below _ _ _; rw[<-ad]; exact(cb _ _).alloc (cB _) _
 have aa:w0.heap[w.heap.size]?=some (.cells #[.bool e.gone,.string ⟨(wP e).toArray⟩,.string ⟨e.text.toArray⟩,.int .i64 e.gw,.int .i64 e.gK] 111 (0,0)):=by rw[<-ad]; exact heap_alloc_new w _
 have Y:cu (SG w0 num A cap ms):=h.stay λk hk=>ae.out.block k (by have:=h.lt; omega);have HY:cu (∀y,nV w0 y->y.heap[w.heap.size]?=some (.cells #[.bool e.gone,.string ⟨(wP e).toArray⟩,.string ⟨e.text.toArray⟩,.int .i64 e.gw,.int .i64 e.gK] 111 (0,0))):=λy ⟨τ,U⟩=>(U.block _ (iQ aa)).trans aa;clear h he hA ac aa HS;unfold tk at HM⊢;go_enter func118,ntmps118;go_upto_region 1 with fail;refine jI (Sd:=λa y=>y.tape=w0.tape->pj _ _ _ [8] a y) (last:=8) (tl:=[]) (by kernel_rfl) ?_ (λa y h ht=>h ht);refine gI 0 ?_ ?_ ?_;rotate_left
 .intro y U; have O:=(Y.out.xI U).c0;have q0:y.cell? ⟨5,0,none⟩=some (.chan (some 10)):=by rw[gq O]; rfl
  clear O;unfold jC; go_simp; refine⟨iT.refl _,?_⟩; with_reducible rfl
 go_simp;refine gI 1 ?_ ?_ ?_;rotate_left
 .intro y U; have O:=(Y.out.xI U).c2;have q0:y.cell? ⟨7,0,none⟩=some (.int .i64 num):=by rw[gq O]; rfl
  clear O;unfold jC; go_simp; refine⟨iT.refl _,?_⟩; with_reducible rfl
 go_simp;refine gI 2 ?_ ?_<|gI 3 ?_ ?_<|gI 4 ?_ ?_ ?_
 any_goals(intro y U; unfold jC; go_simp; refine⟨iT.refl _,?_⟩; with_reducible rfl)
 go_simp;refine gI 5 ?_ ?_ ?_;rotate_left
 .intro y U; have O:=HY.out y U;have q0:y.cell? ⟨w.heap.size,0,none⟩=some (.bool e.gone):=by rw[gq O]; rfl
  have q1:y.cell? ⟨w.heap.size,1,none⟩=some (.string ⟨(wP e).toArray⟩):=by rw[gq O]; rfl
  have q2:y.cell? ⟨w.heap.size,2,none⟩=some (.string ⟨e.text.toArray⟩):=by rw[gq O]; rfl
  have q3:y.cell? ⟨w.heap.size,3,none⟩=some (.int .i64 e.gw):=by rw[gq O]; rfl
  have q4:y.cell? ⟨w.heap.size,4,none⟩=some (.int .i64 e.gK):=by rw[gq O]; rfl
  clear O;unfold jC; go_simp; refine⟨iT.refl _,?_⟩; with_reducible rfl
 go_simp;refine gI 6 ?_ ?_ ?_;rotate_left
 .intro y U; have O:=(Y.out.xI U).c3;have q0:y.cell? ⟨8,0,none⟩=some (.int .i64 A.m):=by rw[gq O]; rfl
  have q1:y.cell? ⟨8,1,none⟩=some (.string A.q):=by rw[gq O]; rfl
  have q2:y.cell? ⟨8,2,none⟩=some (.int .i64 A.t):=by rw[gq O]; rfl
  clear O;unfold jC; go_simp; refine⟨iT.refl _,?_⟩; with_reducible rfl
 go_simp;refine gI 7 ?_ ?_ ?_;rotate_left
 .intro y U; unfold jC; go_simp; refine⟨rfl,(HM.out y).mono ?_⟩; rintro e y2 ⟨rfl,h2⟩; refine⟨_,rfl,h2,?_⟩; with_reducible rfl
 go_simp;refine pn (by kernel_rfl) (λt=>EM (by kernel_rfl) _ _) ?_;intro y U ht;have ab:=Y.out.xI U;refine AG (v:=mv) rfl rfl rfl rfl rfl rfl ab.ch (by simpa using hc) ?_;have af:cu _:=ab.jU mv
 have HF:cu (gz (· = 10) w {y with heap:=y.heap.setIfInBounds 10 (.chan cap (ms.toArray.push mv) false (ms.length+1) 0 false)}):=by
  obtain⟨τ,hx⟩:=U;have hb:=ae.out;refine⟨hx.os.trans hb.os,ht.trans hb.tape,hx.output.trans hb.output,?_,λk hk hn=>?_⟩
  .show _<=(y.heap.setIfInBounds 10 _).size;rw[Array.size_setIfInBounds];exact Nat.le_trans hb.size hx.size
  .show(y.heap.setIfInBounds 10 _)[k]?=_;rw[bz (Ne.symm hn)];exact(hx.block k (Nat.lt_of_lt_of_le hk hb.size)).trans (hb.block k hk)
 clear ab;generalize ({y with heap:=y.heap.setIfInBounds 10 (.chan cap (ms.toArray.push mv) false (ms.length+1) 0 false)}:World)=w3 at *;go_end0;exact⟨rfl,af.out,HF.out⟩
def V5(num:Nat)(A:Ask)(cap:Nat):FB where
 fn:=118
 cp:=#[.pointer (some ⟨5,0,none⟩),.pointer (some ⟨7,0,none⟩),.pointer (some ⟨8,0,none⟩)]
 own k:=k=10
 QP k:=k=5\/k=7\/k=8\/k=10
 T w told:=SG w num A cap (told.map (nZ A num))
theorem Sb{mx:Nat}(U:A.Ok)(hc:1099511627776<=cap):(V5 num A cap).Ok mx where
 jQ:=⟨_,_,func118,rfl,by kernel_rfl⟩
 sub _ h:=.inr (.inr (.inr h))
 lt:=by
  rintro w told k h O;have:=SG.lt h;have O:k=5\/k=7\/k=8\/k=10:=O;omega
 stay h hb:=SG.stay h hb
 tell:=by
  intro w q told e h _ hl Y _;refine(Su (q:=q) U h (by rw[aX]; omega) Y).mono ?_;rintro en w' ⟨rfl,g1,g2⟩;exact⟨rfl,by show SG _ _ _ _ _; rw[aU]; exact g1,g2⟩
end
section
open Go.Conc Go.RowKit Go.Maps
def Uw(L:List Value)(w:World):Exit->Act->World->Prop:=λe a w'=>(e=.normal\/e=.ret)/\a.defers=tE/\(∃cap O s r t,w'.heap[10]?=some (.chan cap O false s r t)/\O.toList=L)/\gz (· = 10) w w'
theorem UU{num cap:Nat}{A:Ask}{S:ByteArray}{ps qs:List (Nat×gu)}{w:World}(Y:A.Ok)(hc:1099511627776<=cap)(h:SG w num A cap [])(h6:w.heap[6]?=some (.cells #[.string S] 9 (0,1)))(hS:S.size<=1099511627775)(hX:lN S.size S.data.toList=some (ps,qs)) :
  (xD f116).wp prog (Uw ((ps++qs).map (nZ A num)) w) ⟨(xc 116 8 4 .skip).tmps,tE⟩ w:=by
 have O:=D8 (Sb (num:=num) (mx:=S.size) Y hc) (w:=w) h hS (cB _) hX;have c6:w.cell? ⟨6,0,none⟩=some (.string S):=by rw[gq h6]; rfl
 rw[show(xc _ 8 4 _).tmps=#[.pointer _,.pointer _,.pointer _,.pointer _,.chan _,cH,cH,cH]from rfl];show Code.wp _ (Code.region 1 _ false) ..;obtain⟨L,U⟩:∃L,L=(ps++qs).map (nZ A num):=⟨_,rfl⟩;rw[<-U];have HL:cu _:=U;go_wp2_with fail;refine O.mono ?_;rintro e w2 ⟨rfl,g1,g2⟩;have HG:cu _:=g2;have HF:cu _:=g1;go_wp2;exact⟨.inl rfl,rfl,⟨_,_,_,_,_,HG.out.ch,by rw[HL.out]⟩,HF.out⟩
end
section
open Go.Conc Go.RowKit Go.Maps
def VD(s:Nat)(S:ByteArray)(num:Nat)(A:Ask):Nat->Array Value|0=>#[.chan (some (s+3))]|1=>#[.string S]|2=>#[.int .i64 num]|_=>NB A
def VK(S:ByteArray)(num:Nat)(A:Ask):Nat->Array Value|0=>#[.chan (some 10)]|1=>#[.string S]|2=>#[.int .i64 num]|_=>NB A
def Vn:Nat->cj|0=>167|1=>9|2=>3|_=>94
theorem NI{Z:lQ prog}{w:World}{T:List Frame}{dd q K num s:Nat}{A:Ask}{S:ByteArray}{ps qs:List (Nat×gu)}{w6:World}{os:List OF}{lent:Bool}(hA:A.Ok)(hK:K<=s+5)(h5:5<=s)(ab:dd<s)
  (hc:∀i,i<4->w6.heap[bb s i]?=some (.cells (VD s S num A i) (Vn i) (0,0))) (hS:S.size<=1099511627775) (hX:lN S.size S.data.toList=some (ps,qs)) :
  Sends (q8 prog Z w T dd q K lent) (q8 prog Z w T dd q (s+5) lent) 116 (zt (bb s)) os os w6 (uR w6 [bb s 0,bb s 1,bb s 2,bb s 3]) (s+3) ((ps++qs).map (nZ A num)):=by
 refine Hx (cm:=VD s S num A) (cd:=VK S num A) (te:=Vn) (fz:=λ_=>(0,0)) (M:=none) (ex:=.map #[] 0) (cap:=1099511627776) UO rfl rfl (by decide) (by decide) (by decide) Us (λv hv=>?_) ⟨rfl,rfl,rfl,rfl,rfl,Fl,λm O=>?_,λb=>?_,λi hi=>?_,Qi s,hc,λm O i hi=>?_,rfl,rfl,λi h1 h4 m mi w' a' O hw ac Y=>?_,nofun⟩ λτ=>?_
 .obtain⟨p,_,rfl⟩:=aT.1 hv;exact Hg A num p
 .obtain⟨x1,x2,x3⟩:=O.x;refine⟨x1,x2,λr O=>?_⟩;rcases O with O|O
  .have:=x3 r O; omega
  .simp only[aS,aV,or_false,bb]at O;omega
 .exact⟨λh=>⟨h,nofun⟩,λh=>h.1⟩
 .have:=LH s i; omega
 .obtain⟨x1,_,_⟩:=O.x;rw[x1];have:=(LH s i).1;omega
 .have:i=1\/i=2\/i=3:=by omega
  rcases this with rfl|rfl|rfl
  .exact Flat.arr (c:=#[.string S]) (λj U=>by
    have:=U
    match j,this with
    |0,_=>exact .string _) Y
  .exact Flat.arr (c:=#[.int _ num]) (λj U=>by
    have:=U
    match j,this with
    |0,_=>exact .int ..) Y
  .exact Flat.arr (c:=NB A) (λj U=>by
    have:=U
    match j,this with
    |0,_=>exact .int ..
    |1,_=>exact .string _
    |2,_=>exact .int ..) Y
 .have aa:SG (tp (uV w6 (VK S num A) Vn 1099511627776 (.map #[] 0)) τ) num A _ []:=⟨rfl,rfl,rfl,rfl⟩;exact D4 (UU hA (cB _) aa rfl hS hX) λe a w' ⟨h1,h2,h3,_⟩=>⟨h1,h2,h3,.inl rfl⟩
end
section
open Go.Conc Go.RowKit Go.Maps
section
variable {Z:lQ prog} {w:World} {T:List Frame} {dd q K:Nat} {lent:Bool} {fn:cc} {tm:Array Value} {os:List OF} {wl:World} {V:List (Nat×Option (List Value))} {k:List Item}
theorem yT(num:Nat)(A:Ask){S:ByteArray}{ps qs:List (Nat×gu)}{ops:Array Oper}{i:Nat}{rest:List Nat}{o:Oper}(s:Nat)(hs:s=wl.heap.size)(hi:ops[i]?=some o)(hA:A.Ok)(hK:K<=s+5)(h5:5<=s)(ai:dd<s)(aj:∀(r:Nat)a c,wl.heap[r]?≠some (.map a c))
  (ak:S.size<=1099511627775) (hX:lN S.size S.data.toList=some (ps,qs)) (hV:∀x∈V,x.1<s)
  (hn:∀w2:World,w2.heap.size=s+5->(∀r,r<s->w2.heap[r]?=wl.heap[r]?)->(∀(r:Nat)a c,w2.heap[r]?≠some (.map a c))->w2.os=wl.os->gp (q8 prog Z w T dd q (s+5) lent) (⟨fn,iF o.dst tm (.chan (some (s+3))),.inRegion ops rest::k⟩::os) w2 ((s+3,some ((ps++qs).map (nZ A num)))::V)) :
  gp (q8 prog Z w T dd q K lent) (⟨79,#[.int .i64 num,.string S,.agg #[.int .i64 A.m,.string A.q,.int .i64 A.t],cH,cH,cH,cH,cH,cH,cH,cH],[.code (ic f79)]⟩::⟨fn,tm,.inRegion ops (i::rest)::k⟩::os) wl V:=by
 show gp _ (⟨_,_,[.code (.seq (.region 0 _ false) (.seq (.region 1 _ false) (.seq (.region 2 _ false) (.seq (.region 3 _ false) .ret))))]⟩::_) _ _;refine gp.seq ?_;have HS:cu _:=hs;clear hs;refine li (by kernel_rfl) rfl (.inl (by simp)) λy0 O U=>?_;have HY:cu (y0.heap=wl.heap/\y0.os=wl.os):=⟨O,U⟩;clear O U;go_wp2;refine iA ?_;obtain⟨O,U⟩:=HY.out;obtain⟨w3,aa⟩:∃w3,w3=(((y0.alloc (.cells #[.int .i64 num] 3)).alloc (.cells #[.string S] 9)).alloc (.cells #[.int .i64 A.m,.string A.q,.int .i64 A.t] 94)):=⟨_,rfl⟩;have Y:y0.heap.size=s:=by rw[O]; exact HS.out.symm
 have z3:w3.heap.size=s+3:=by rw[aa]; simp[Y]
 have o3:∀r,r<s->w3.heap[r]?=wl.heap[r]?:=λr hr=>by
  rw[aa,jD _ _ (by simp[Y]; omega),jD _ _ (by simp[Y]; omega),jD _ _ (by rw[Y]; omega),O]
 have g0:w3.heap[s]?=some (.cells #[.int .i64 num] 3 (0,0)):=by rw[aa,jD _ _ (by simp only[c9,Y]; omega),jD _ _ (by simp only[c9,Y]; omega),kV _ _ Y.symm]
 have g1:w3.heap[s+1]?=some (.cells #[.string S] 9 (0,0)):=by rw[aa,jD _ _ (by simp[Y]),kV _ _ (by simp[Y])]
 have g2:w3.heap[s+2]?=some (.cells #[.int .i64 A.m,.string A.q,.int .i64 A.t] 94 (0,0)):=by rw[aa,kV _ _ (by simp[Y])]
 have p3:w3.os=wl.os:=by rw[aa]; exact U
 rw[<-aa,Y];clear aa O U Y HY y0;refine gp.seq (gp.region ?_);refine gp.CV (i:=0) rfl rfl (λal w=>by kernel_rfl) ?_;rw[z3];obtain⟨w4,ac⟩:∃w4:World,w4={w3 with heap:=w3.heap.push lS}:=⟨_,rfl⟩;have z4:w4.heap.size=s+4:=by rw[ac]; simp[z3]
 have o4:∀r,r<s+3->w4.heap[r]?=w3.heap[r]?:=λr hr=>by rw[ac]; show(w3.heap.push _)[r]?=_; rw[b6,if_neg (by omega)]
 have g3:w4.heap[s+3]?=some lS:=by rw[ac]; show(w3.heap.push _)[s+3]?=_; rw[<-z3]; simp
 have p4:w4.os=wl.os:=by rw[ac]; exact p3
 rw[<-ac];clear ac;have ag:s+1+1=s+2:=rfl;rw[ag];clear ag;go_simp;refine oB rfl (by rfl) (by kernel_rfl) λy0 O U=>?_;have HY:cu (y0.heap=w4.heap/\y0.os=w4.os):=⟨O,U⟩;clear O U;unfold jC;go_simp;simp only[l6];obtain⟨O,U⟩:=HY.out;obtain⟨w5,ad⟩:∃w5,w5=y0.alloc (.cells #[.chan none] 167):=⟨_,rfl⟩;have z5:w5.heap.size=s+5:=by rw[ad]; simp[O,z4]
 have o5:∀r,r<s+4->w5.heap[r]?=w4.heap[r]?:=λr hr=>by rw[ad,jD _ _ (by rw[O,z4]; exact hr),O]
 have g4:w5.heap[s+4]?=some (.cells #[.chan none] 167 (0,0)):=by rw[ad,kV _ _ (by rw[O,z4])]
 have p5:w5.os=wl.os:=by rw[ad]; exact U.trans p4
 rw[<-ad,O,z4];clear ad O U HY y0;refine oB rfl (by rfl) (by kernel_rfl) λy0 O U=>?_;have c4:y0.cell? ⟨s+4,0,none⟩=some (.chan none):=by rw[gq (by rw[O]; exact g4)]; rfl
 have f4:y0.frozen? ⟨s+4,0,none⟩=false:=gP (by rw[O]; exact g4) 0;have HY:cu (y0.heap=w5.heap/\y0.os=w5.os):=⟨O,U⟩;clear O U;unfold jC;go_simp;simp only[l6];obtain⟨O,U⟩:=HY.out;obtain⟨w6,ae⟩:∃w6,w6=y0.setCell ⟨s+4,0,none⟩ (.chan (some (s+3))):=⟨_,rfl⟩;have z6:w6.heap.size=s+5:=by rw[ae]; simp[O,z5]
 have o6:∀r,r≠s+4->w6.heap[r]?=w5.heap[r]?:=λr hr=>by rw[ae,ca _ _ _ _ hr,O]
 have g6:w6.heap[s+4]?=some (.cells #[.chan (some (s+3))] 167 (0,0)):=by rw[ae]; exact heap_setCell_box_a _ (by rw[O]; exact g4)
 have p6:w6.os=wl.os:=by rw[ae]; exact U.trans p5
 rw[<-ae];clear ae O U HY c4 f4 y0;refine gp.inRegion (gp.seq (gp.region ?_));have k0:w6.heap[s]?=some (.cells #[.int .i64 num] 3 (0,0)):=by rw[o6 _ (by omega),o5 _ (by omega),o4 _ (by omega)]; exact g0
 have k1:w6.heap[s+1]?=some (.cells #[.string S] 9 (0,0)):=by rw[o6 _ (by omega),o5 _ (by omega),o4 _ (by omega)]; exact g1
 have k2:w6.heap[s+2]?=some (.cells #[.int .i64 A.m,.string A.q,.int .i64 A.t] 94 (0,0)):=by rw[o6 _ (by omega),o5 _ (by omega),o4 _ (by omega)]; exact g2
 have k3:w6.heap[s+3]?=some lS:=by rw[o6 _ (by omega),o5 _ (by omega)]; exact g3
 have ko:∀r,r<s->w6.heap[r]?=wl.heap[r]?:=λr hr=>by rw[o6 _ (by omega),o5 _ (by omega),o4 _ (by omega),o3 _ hr]
 clear g0 g1 g2 g3 g4 o3 o4 o5 o6 z3 z4 z5 p3 p4 p5
 have ah:∀j,j<4->w6.heap[bb s j]?=some (.cells (VD s S num A j) (Vn j) (0,0)):=by
  intro j hj
  match j,hj with
  |0,_=>exact g6
  |1,_=>exact k1
  |2,_=>exact k0
  |3,_=>exact k2
 have af:∀(r:Nat)a c,w6.heap[r]?≠some (.map a c):=by
  intro r a c h;by_cases h1:r<s
  .rw[ko r h1]at h; exact aj r a c h
  .have h2:=(b1.1 h).1;rw[z6]at h2;have:r=s\/r=s+1\/r=s+2\/r=s+3\/r=s+4:=by omega
   rcases this with rfl|rfl|rfl|rfl|rfl
   .rw[k0]at h; cases h
   .rw[k1]at h; cases h
   .rw[k2]at h; cases h
   .rw[k3]at h; cases h
   .rw[g6]at h; cases h
 have hS:=λos=>NI (Z:=Z) (w:=w) (T:=T) (q:=q) (lent:=lent) (os:=os) hA hK h5 ai ah ak hX;refine gp.go (i:=0) (j:=1) (f:=116) (q:=9) (rc:=s+3) (E₂:=q8 prog Z w T dd q (s+5) lent) (wl₂:=uR w6 [bb s 0,bb s 1,bb s 2,bb s 3]) (L:=(ps++qs).map (nZ A num)) (os₂:=?os2) (V₂:=(s+3,some ((ps++qs).map (nZ A num)))::V) rfl rfl rfl rfl rfl rfl rfl rfl ?hcx ?hq ?hS ?h1 ?h2 ?h3 ?h4 ?h5 ?h6
 case hS=>
  have e:b9 (ll #[Value.int IntKind.i64 ↑num,Value.string S,Value.agg #[Value.int IntKind.i64 ↑A.m,Value.string A.q,Value.int IntKind.i64 ↑A.t],Value.pointer (some {block:=s,off:=0}),Value.pointer (some {block:=s+1,off:=0}),Value.pointer (some {block:=s+2,off:=0}),Value.chan none,Value.pointer (some {block:=s+4,off:=0}),Value.chan (some (s+3)),cH,cH]) #[Operand.tmp 7,Operand.tmp 4,Operand.tmp 3,Operand.tmp 5]=zt (bb s):=by kernel_rfl
  rw[e];exact hS _
 .intro x hx;simp only[aS,aV,or_false]at hx;rcases hx with rfl|rfl|rfl|rfl<;>trivial
 .show 9<11;decide
 .intro q' h1 h2 m Pd ρ gs w' t am an ao j m' r' hr;exact absurd h1 h2
 .simp
 .intro x hx;rcases aS.1 hx with rfl|hx
  .exact .inl rfl
  .refine .inr ⟨aW _ hx,λe=>?_⟩;have:=hV x hx;rw[e]at this;exact absurd this (by show ¬(s+3<s); omega)
 .simp
 .intro r vs hr;rcases aS.1 hr with hr|hr
  .cases hr
  .exact aW _ hr
 .obtain⟨w7,ab⟩:∃w7,w7=uR w6 [bb s 0,bb s 1,bb s 2,bb s 3]:=⟨_,rfl⟩;have z7:w7.heap.size=s+5:=by rw[ab,vQ]; exact z6
  have o7:∀r,r<s->w7.heap[r]?=wl.heap[r]?:=λr hr=>by
   rw[ab,sF _ (by simp only[aS,aV,or_false,bb]; omega)];exact ko r hr
  have g7:w7.heap[s+4]?=some (.cells #[.chan (some (s+3))] 167 (0,1)):=by
   rw[ab];exact BH w6 (by simp[bb]) g6
  have m7:∀(r:Nat)a c,w7.heap[r]?≠some (.map a c):=by
   intro r a c h;rw[ab,zF]at h
   cases he:w6.heap[r]? with
   |none=>rw[he]at h; cases h
   |some o=>
    rw[he]at h;simp only[cG,cy]at h;split at h
    .cases o<;>simp[PK]at h;exact af _ _ _ he
    .exact af r a c (by rw[he,h])
  have p7:w7.os=wl.os:=by rw[ab]; exact p6
  rw[<-ab];clear ab hS ah af k0 k1 k2 k3 ko g6 z6 p6;refine gp.inRegion (gp.seq ?_);refine li (by kernel_rfl) rfl (.inl (by simp)) λy0 O U=>?_;have c7:y0.cell? ⟨s+4,0,none⟩=some (.chan (some (s+3))):=by rw[gq (by rw[O]; exact g7)]; rfl
  have HY:cu (y0.heap=w7.heap/\y0.os=w7.os):=⟨O,U⟩;clear O U;simp only[bk,bp,bo];go_wp2;refine iA ?_;obtain⟨O,U⟩:=HY.out;refine gp.back (v:=.chan (some (s+3))) (.inr ⟨_,rfl⟩) func79 hi (λτ=>?_) (hn y0 (by rw[O]; exact z7) (λr hr=>by rw[O]; exact o7 r hr) (λr a c=>by rw[O]; exact m7 r a c) (U.trans p7));kernel_rfl
end
end
end
end Go.Proofs.YtocbogeoffeolaaGreatDoor
