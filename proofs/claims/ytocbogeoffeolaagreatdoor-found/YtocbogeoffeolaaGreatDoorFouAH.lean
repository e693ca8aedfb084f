import Derived.Test.YtocbogeoffeolaaGreatDoorFouAG
import Derived.Shelf.SlIter.Sorted
import Derived.Shelf.Strconv.Itoa3
set_option linter.all false
set_option maxHeartbeats 8000000
set_option maxRecDepth 1000000
open List renaming mem_map->b4,getElem?_eq_getElem->b6,mem_filter->b7,map_append->b8,mem_cons->b9,mem_append->bA,getElem_mem->bB,map_map->bC,getD_eq_getElem?_getD->bD,mem_cons_self->bE,length_append->bF,length_map->bG,mem_singleton->bH,getElem?_eq_none->bI,mem_cons_of_mem->bJ,map_congr_left->bK,map_cons->bL,not_mem_nil->bM,take_succ_eq_append_getElem->bN,nodup_append->bO,nodup_cons->bP,length_set->bQ,find?_cons->bR,getElem?_take->bS,filter_filter->bT,filter_append->bU,pairwise_map->bV,getElem?_map->bW,filter_congr->bX,ext_getElem?->bY,length_eq_zero_iff->bZ,getElem_set->ca,take_of_length_le->cb,mem_append_right->cc,length_filter_le->ce,mem_range->cf,filter_sublist->ck,range->cn,append_of_mem->cq,perm_middle->cr,length_take->ct,length_cons->cw,filter_cons->cx,eq_nil_of_length_eq_zero->cy,filter_map->cz,append_nil->cA,setIfInBounds_toArray->cB,Nodup->cC,pairwise_iff_getElem->cD,getElem_replicate->cE,perm_append_comm->cF,length_singleton->cG,map_id->cH,filter_eq_self->cI,set_cons_zero->cJ,set_cons_succ->cK,find?_eq_none->cL,find?_append->cM,append_assoc->cN,take_length->cO,mem_flatMap->cP,cons_append->cQ,all_eq_true->cR,map->cS
open Array renaming getElem?_eq_some_iff->cT,getElem?_eq_getElem->cU,getElem?_setIfInBounds_ne->cV,getElem_ofFn->cW,getElem?_eq_none->cX,getElem?_toList->cY,set!_eq_setIfInBounds->cZ,replicate->da,getElem?_mapIdx->db,getElem?_setIfInBounds_self_of_lt->dc,getElem?_push->de,ofFn->df,ext_getElem?->dg,map->di,ext->dj
open Go renaming maxLen->dk,Calls->dr,FuncId->dt,yielded->ee,TypeId->ef,cell_later->eg,callsIn_wide->ei,goexitEntry->ej,results->er,wpList->et,info_parts->ev
open Go.RowKit.Below renaming heap_setCell->ez,refl->e8,heap_alloc->eC
open Nat renaming le_refl->fd,le_trans->fk,zero_le->fm,lt_of_lt_of_le->fr,lt_trans->fs,mod_one->ft
open Go.Proofs.Tryz renaming underlying9->ga,underlying0->gc,zeroValue9->gd,zeroValue0->ge,underlying179->gt,underlying4->gv,zeroValue4->gx,sizeOf9->gy,sizeOf0->g8,isAgg9->g9,isAgg0->gA,underlying229->gB,underlying184->hH,underlying177->hJ,underlying141->hU,underlying129->hW,zeroValue229->hY,zeroValue184->hZ,zeroValue177->ip,zeroValue141->iv,underlying85->i1,underlying82->i6,underlying31->i7,sizeOf4->i8,f82->i',f123->jt,underlying5->j1,underlying3->j2,zeroValue5->j3,zeroValue3->j4,isAgg4->ka
open Go.RowKit renaming Hid->kb,run_makeMap->kc
open Go.Region renaming wanted->kd,ready->ke
open Go.World renaming size_alloc->kf,ownsRow_nil->kj,cell?->kr,cell?_alloc_at->ks
open Classical renaming choose_spec->kt,choose->kx,not_not->ky,propDecidable->k4,byContradiction->k5,axiomOfChoice->kB
open Prod renaming fst->kG,snd->kN
open Option.some renaming injEq->kT,inj->kW
open List.Perm renaming append_left->la,refl->lc,cons_inv->ld,append->ln
open Go.Region.linearise renaming go->lo
open Go.IntKind renaming wrap_i64->lp
open Option renaming map_some->ls,bind_some->lv
open Go.Value.slice renaming injEq->lw
open Int renaming tmod_eq_emod_of_nonneg->lx,toNat_natCast->ly,not_lt->l0
open Go.Lib renaming decDigits->l1,TabIs->l2,pow10Tab->l3
open Go.Sort renaming putCells->l4,flatK->mj,size_flatK->mm
open Go renaming undef->mp
namespace Go.Proofs.YtocbogeoffeolaaGreatDoor
open Go.Proofs.Tryz
section
open Go.Shelf
def Cj:Go.Shelf.Ren:=⟨fun|7=>122|10=>163|n=>n,fun|23=>85|26=>9|3=>111|28=>177|0=>0|27=>176|33=>81|4=>4|n=>n,fun|n=>n⟩
theorem RZ:Go.Proofs.SlLaysZ.n7 prog Cj:={
 mixed:=by kernel_rfl
 f7:=⟨f122.name,by decide,func122.trans (congrArg some (by kernel_rfl))⟩,f10:=⟨f163.name,by decide,func163.trans (congrArg some (by kernel_rfl))⟩,t0:=gc,a0:=gA,z0:=g8,v0:=ge,t4:=gv,a4:=ka,z4:=i8,v4:=gx,t23:=i1,a23:=isAgg85,z23:=sizeOf85,v23:=zeroValue85,t26:=ga,a26:=g9,z26:=gy,v26:=gd,t27:=underlying176,a27:=isAgg176,z27:=sizeOf176,v27:=zeroValue176,t28:=hJ,a28:=isAgg177,z28:=sizeOf177,v28:=ip,t33:=underlying81,a33:=isAgg81,z33:=sizeOf81
 v33:=zeroValue81}
def wm:Go.Shelf.Ren:=⟨fun|6=>121|8=>161|9=>162|11=>216|13=>125|12=>217|23=>172|24=>173|14=>243|15=>244|16=>245|17=>246|18=>247|19=>248|20=>249|21=>250|22=>251|25=>271|26=>219|27=>220|28=>272|29=>273|30=>175|31=>279|n=>n,fun|26=>9|28=>177|24=>31|0=>0|3=>3|37=>184|48=>229|50=>141|4=>4|40=>222|39=>221|45=>226|5=>5|9=>9|51=>272|55=>276|57=>292|58=>212|33=>81|n=>n,fun|n=>n⟩
theorem RF:Go.Proofs.SlLaysZ.n6 prog wm:={
 mixed:=by kernel_rfl
 f6:=⟨f121.name,by decide,func121.trans (congrArg some (by kernel_rfl))⟩,f8:=⟨f161.name,by decide,func161.trans (congrArg some (by kernel_rfl))⟩,f11:=⟨f216.name,by decide,func216.trans (congrArg some (by kernel_rfl))⟩,t0:=gc,a0:=gA,z0:=g8,v0:=ge,t24:=i7,a24:=isAgg31,z24:=sizeOf31,v24:=zeroValue31,t26:=ga,a26:=g9,z26:=gy,v26:=gd,t28:=hJ,a28:=isAgg177,z28:=sizeOf177,v28:=ip
 i26:=by kernel_rfl}
def DU:Go.Shelf.Ren:=⟨fun|6=>83|15=>125|14=>124|28=>172|29=>173|20=>164|21=>165|22=>166|23=>167|24=>168|25=>169|26=>170|27=>171|46=>218|47=>219|48=>220|49=>221|50=>222|57=>252|n=>n,fun|22=>82|24=>96|25=>133|3=>3|39=>184|0=>0|53=>229|55=>141|4=>4|46=>222|45=>221|50=>226|5=>5|9=>9|66=>272|70=>276|76=>292|77=>212|n=>n,fun|n=>n⟩
theorem Ki:Go.Proofs.SlLaysF0.n6 prog DU:={
 mixed:=by kernel_rfl
 f6:=⟨f83.name,by decide,func83.trans (congrArg some (by kernel_rfl))⟩,f14:=⟨f124.name,by decide,func124.trans (congrArg some (by kernel_rfl))⟩,f15:=func125.trans (congrArg some (by kernel_rfl)),f20:=⟨f164.name,by decide,func164.trans (congrArg some (by kernel_rfl))⟩,f21:=⟨f165.name,by decide,func165.trans (congrArg some (by kernel_rfl))⟩,f22:=⟨f166.name,by decide,func166.trans (congrArg some (by kernel_rfl))⟩,f23:=⟨f167.name,by decide,func167.trans (congrArg some (by kernel_rfl))⟩,f24:=⟨f168.name,by decide,func168.trans (congrArg some (by kernel_rfl))⟩,f25:=⟨f169.name,by decide,func169.trans (congrArg some (by kernel_rfl))⟩,f26:=⟨f170.name,by decide,func170.trans (congrArg some (by kernel_rfl))⟩,f27:=⟨Tryz.f171.name,by decide,func171.trans (congrArg some (by kernel_rfl))⟩,f28:=func172.trans (congrArg some (by kernel_rfl)),f29:=func173.trans (congrArg some (by kernel_rfl)),f46:=⟨f218.name,by decide,func218.trans (congrArg some (by kernel_rfl))⟩,f47:=func219.trans (congrArg some (by kernel_rfl)),f48:=func220.trans (congrArg some (by kernel_rfl)),f49:=⟨f221.name,by decide,func221.trans (congrArg some (by kernel_rfl))⟩,f50:=⟨f222.name,by decide,func222.trans (congrArg some (by kernel_rfl))⟩,f57:=⟨f252.name,by decide,func252.trans (congrArg some (by kernel_rfl))⟩,t0:=gc,a0:=gA,z0:=g8,v0:=ge,t3:=j2,a3:=isAgg3,z3:=sizeOf3,v3:=j4,t4:=gv,a4:=ka,z4:=i8,v4:=gx,t5:=j1,a5:=isAgg5,z5:=sizeOf5,v5:=j3,t9:=ga,a9:=g9,z9:=gy,v9:=gd,t22:=i6,a22:=isAgg82,z22:=sizeOf82,v22:=zeroValue82,t25:=underlying133,a25:=isAgg133,z25:=sizeOf133,v25:=zeroValue133,t39:=hH,a39:=isAgg184,z39:=sizeOf184,v39:=hZ,t45:=underlying221,a45:=isAgg221,z45:=sizeOf221,v45:=zeroValue221,t46:=underlying222,a46:=isAgg222,z46:=sizeOf222,v46:=zeroValue222,t50:=underlying226,a50:=isAgg226,z50:=sizeOf226,v50:=zeroValue226,t53:=gB,a53:=isAgg229,z53:=sizeOf229,v53:=hY,t55:=hU,a55:=isAgg141,z55:=sizeOf141,v55:=iv,t66:=underlying272,a66:=isAgg272,z66:=sizeOf272,v66:=zeroValue272,t70:=underlying276,a70:=isAgg276,z70:=sizeOf276,v70:=zeroValue276,t76:=underlying292,a76:=isAgg292,z76:=sizeOf292,v76:=zeroValue292,t77:=underlying212,a77:=isAgg212,z77:=sizeOf212
 v77:=zeroValue212}
def Dv:Go.Shelf.Ren:=⟨fun|171=>85|243=>129|246=>176|283=>223|284=>224|285=>225|286=>226|129=>173|317=>253|318=>254|319=>255|320=>256|337=>274|338=>275|n=>n,fun|3=>3|9=>9|2=>2|4=>4|171=>278|0=>0|53=>141|37=>60|5=>5|173=>280|212=>295|51=>229|20=>20|213=>296|46=>184|232=>312|233=>313|n=>n,fun|17=>2|18=>3|19=>4|n=>n⟩
theorem PP:Go.Proofs.LaysM.n171 prog Dv:={
 mixed:=by kernel_rfl
 f129:=func173.trans (congrArg some (by kernel_rfl)),f171:=func85.trans (congrArg some (by kernel_rfl)),f243:=func129.trans (congrArg some (by kernel_rfl)),f246:=func176.trans (congrArg some (by kernel_rfl)),f283:=func223.trans (congrArg some (by kernel_rfl)),f284:=func224.trans (congrArg some (by kernel_rfl)),f285:=func225.trans (congrArg some (by kernel_rfl)),f286:=func226.trans (congrArg some (by kernel_rfl)),f317:=func253.trans (congrArg some (by kernel_rfl)),f318:=func254.trans (congrArg some (by kernel_rfl)),f319:=func255.trans (congrArg some (by kernel_rfl)),f320:=func256.trans (congrArg some (by kernel_rfl)),f337:=func274.trans (congrArg some (by kernel_rfl)),f338:=func275.trans (congrArg some (by kernel_rfl)),t0:=gc,a0:=gA,z0:=g8,v0:=ge,t2:=underlying2,a2:=isAgg2,z2:=sizeOf2,v2:=zeroValue2,t3:=j2,a3:=isAgg3,z3:=sizeOf3,v3:=j4,t4:=gv,a4:=ka,z4:=i8,v4:=gx,t5:=j1,a5:=isAgg5,z5:=sizeOf5,v5:=j3,t9:=ga,a9:=g9,z9:=gy,v9:=gd,t20:=underlying20,a20:=isAgg20,z20:=sizeOf20,v20:=zeroValue20,t37:=underlying60,a37:=isAgg60,z37:=sizeOf60,v37:=zeroValue60,t46:=hH,a46:=isAgg184,z46:=sizeOf184,v46:=hZ,t51:=gB,a51:=isAgg229,z51:=sizeOf229,v51:=hY,t53:=hU,a53:=isAgg141,z53:=sizeOf141,v53:=iv,t171:=underlying278,a171:=isAgg278,z171:=sizeOf278,v171:=zeroValue278,t173:=underlying280,a173:=isAgg280,z173:=sizeOf280,v173:=zeroValue280,t212:=underlying295,a212:=isAgg295,z212:=sizeOf295,v212:=zeroValue295,t213:=underlying296,a213:=isAgg296,z213:=sizeOf296,t232:=underlying312,a232:=isAgg312,z232:=sizeOf312,v232:=zeroValue312,t233:=underlying313,a233:=isAgg313,z233:=sizeOf313,v233:=zeroValue313,g17:=by kernel_rfl
 g18:=by kernel_rfl
 g19:=by kernel_rfl
 i0:=by kernel_rfl
 i2:=by kernel_rfl
 i3:=by kernel_rfl
 i4:=by kernel_rfl
 i5:=by kernel_rfl
 i9:=by kernel_rfl
 i20:=by kernel_rfl
 i37:=by kernel_rfl
 i46:=by kernel_rfl
 i51:=by kernel_rfl
 i53:=by kernel_rfl
 i171:=by kernel_rfl
 i173:=by kernel_rfl
 i212:=by kernel_rfl
 i232:=by kernel_rfl
 i233:=by kernel_rfl
 m17:=by kernel_rfl
 m18:=by kernel_rfl
 m19:=by kernel_rfl}
open Go.RowKit Go.Maps Go.Sort
theorem NB(m:Nat):AnyZ.SortsIn prog wm Fence.wide m:=
 ⟨λblk off cap ss W Y O U=>ei.2 (Any.slices_Sort_string xu blk off cap ss W Y O U),
  λp cap W=>ei.2 (Any.slices_Sort_string_none xu p cap W)⟩
theorem Ny(B:Nat)(w:World):dr prog 122 #[.map (some B)] w λe w'=>e=.returned (.func (.func 163) #[] #[.pointer (some ⟨w.heap.size,0,none⟩)])/\w'=w.alloc (.cells #[.map (some B)] 85):=
 ei.1 (AnyZ.keys_in RZ _ 5 trivial rfl _ w)
theorem G8(B:Nat)(l:List (Wd×Value))(w:World)(h:dL prog 9 w B l)(hl:l.length<=100000) :
  dr prog 121 #[.func (.func 163) #[] #[.pointer (some ⟨w.heap.size,0,none⟩)]] (w.alloc (.cells #[.map (some B)] 85)) λe w'=>∃v,e=.returned v/\
   w'.ownsRow (w.heap.size+1) 9 1 v l.length (dn ((l.map kG).mergeSort λx y=>decide (x<=y)))/\Below (w.heap.size+1) (w.alloc (.cells #[.map (some B)] 85)) w':=by
 obtain⟨D,O,Y⟩:=h;have ae:=O.lt
 have aa:SeqGives Fence.wide 2 _ _ #[.pointer (some ⟨w.heap.size,0,none⟩)] encStr _ _ (w.alloc (.cells #[.map (some B)] 85)):=
  AnyZ.keys_gives (ρ:=Cj) {RZ with} _ _ trivial rfl (by omega) _ B _ D _ (by simp) (by simp) (by
   obtain⟨es,clock,hb,Ft,Y,hD⟩:=O
   exact⟨es,clock,(eC _ _ B ae).trans hb,Ft,Y,hD⟩)
 have hc:=ei.1 (AnyZ.sorted_in RF _ 5 trivial trivial trivial trivial rfl (by omega) (NB _) (enters_of func162 (by kernel_rfl) rfl) _ _ trivial (enters_of func163 (by kernel_rfl) rfl) _ _ (by rw[Y.size];unfold dk;omega) (by rw[Y.size];omega) _ aa);refine hc.mono ?_;rintro e w' ⟨v,ss,rfl,hp,U,_,hb⟩
 have ab:Collected D (λ_=>false) _:=⟨Y.nodup,λx=>by
  rw[Y.has x]
  simp⟩
 have ac:=hp.trans (ab.perm O (string_keyed (by kernel_rfl)) (by kernel_rfl) (λ_=>rfl)).symm;have ad:ss.length=l.length:=by rw[ac.length_eq];simp
 rw[kf]at U hb;refine⟨v,rfl,?_,hb⟩;rw[ad,mergeSort_of_perm ac]at U;exact U
end
section
open Go.Conc Go.RowKit Go.Maps
variable {es:List dq} {ms:List Value} {cap num:Nat} {w w':World}
structure Ask where
 m:Nat
 q:ByteArray
 t:Nat
structure Ask.Ok(A:Ask):Prop where
 m:A.m<=3
 t:A.t<256
 q:A.q.size<=1048576
def Ask.has(A:Ask)(e:dq):Bool:=!e.gone&&(lL A.t e.dA.toNat&&gD A.m A.q.data.toList (dO e.text))
def bytes(l:Wd):ByteArray:=⟨l.toArray⟩
def l7(A:Ask)(k:Nat)(p:Nat×dq):Value:=if A.has p.2=true then A2 k p.1 (bytes p.2.name) true (bytes (uz p.2)) (bytes p.2.text) p.2.dp p.2.dA else A2 k p.1 (bytes p.2.name) false NY NY 0 0
def qx(es:List dq):List dq:=es.mergeSort λa b=>decide (a.name<=b.name)
def fO(es:List dq):List (Nat×dq):=(qx es).zipIdx.map λp=>(p.2,p.1)
theorem nk(es:List dq):(qx es).Perm es:=List.mergeSort_perm ..
theorem Ex(es:List dq):(qx es).map dq.name=(es.map dq.name).mergeSort λx y=>decide (x<=y):=List.map_mergeSort λ_ _ _ _=>rfl
theorem qG(es:List dq)(k:Nat):(fO es)[k]?=((qx es)[k]?).map λe=>(k,e):=by
 simp[fO,List.getElem?_zipIdx];cases(qx es)[k]?<;>rfl
theorem FK(es:List dq):(fO es).length=es.length:=by simp[fO,(nk es).length_eq]
theorem GA{k:Nat}(O:k<es.length):∃e,(qx es)[k]?=some e/\e∈es/\((es.map dq.name).mergeSort λx y=>decide (x<=y))[k]?=some e.name:=by
 have h:k<(qx es).length:=by rw[(nk es).length_eq];exact O
 refine⟨(qx es)[k],b6 h,(nk es).mem_iff.1 (bB h),?_⟩;rw[<-Ex,bW,b6 h];rfl
theorem KF(O:(es.map dq.name).Nodup){e:dq}(U:e∈es)(z:Value):mF (es.map jl) e.name z=qO e:=by
 have:(es.map jl).find? (λp=>p.1==e.name)=some (jl e):=by
  induction es with
  |nil=>cases U
  |cons x es ih=>
   rw[bL,bP]at O;rw[bL,bR];by_cases Y:x.name=e.name;rcases b9.1 U with rfl|h
   simp[jl];exact absurd (List.mem_map_of_mem h) (Y▸O.1);have:((jl x).1==e.name)=false:=by simpa[jl]using Y
   rw[this];rcases b9.1 U with rfl|h
   exact absurd rfl Y;exact ih O.2 h
 unfold mF;rw[this];rfl
structure SW(w:World)(num:Nat)(es:List dq)(A:Ask)(cap:Nat)(ms:List Value):Prop where
 c0:w.cell? ⟨5,0,none⟩=some (.chan (some 10))
 c1:w.cell? ⟨6,0,none⟩=some (.map (some 11))
 c2:w.cell? ⟨7,0,none⟩=some (.int .i64 num)
 c3:w.cell? ⟨8,0,none⟩=some (.int .i64 A.m)
 c4:w.cell? ⟨8,1,none⟩=some (.string A.q)
 c5:w.cell? ⟨8,2,none⟩=some (.int .i64 A.t)
 ch:w.heap[10]?=some (.chan cap ms.toArray false ms.length 0 false)
 sm:e9 w 11 es
theorem SW.lt{A:Ask}(h:SW w num es A cap ms):11<w.heap.size:=h.sm.lt
theorem SW.ext{A:Ask}(h:SW w num es A cap ms)(O:eV w w'):SW w' num es A cap ms:=by
 have U:=h.lt;exact⟨(O.cell (p:=⟨5,0,none⟩) (by show(5)<_;omega)).trans h.c0,(O.cell (p:=⟨6,0,none⟩) (by show(6)<_;omega)).trans h.c1,(O.cell (p:=⟨7,0,none⟩) (by show(7)<_;omega)).trans h.c2,(O.cell (p:=⟨8,0,none⟩) (by show(8)<_;omega)).trans h.c3,(O.cell (p:=⟨8,1,none⟩) (by show(8)<_;omega)).trans h.c4,(O.cell (p:=⟨8,2,none⟩) (by show(8)<_;omega)).trans h.c5,(O.block 10 (by omega)).trans h.ch,h.sm.below O⟩
theorem SW.tp{A:Ask}(h:SW w num es A cap ms)(τ:Tape):SW (tp w τ) num es A cap ms:=by
 obtain⟨O,U,Y,h4,h5,h6,h7,D,h8,h9⟩:=h;exact⟨O,U,Y,h4,h5,h6,h7,D,h8,h9⟩
theorem SW.uZ{A:Ask}(h:SW w num es A cap ms)(O:kV w w'):SW w' num es A cap ms:=by
 obtain⟨τ,O⟩:=O;exact(h.tp τ).ext O
theorem SW.gI{A:Ask}(h:SW w num es A cap ms)(v:Value):SW {w with heap:=w.heap.setIfInBounds 10 (.chan cap (ms.toArray.push v) false (ms.length+1) 0 false)} num es A cap (ms++[v]):=by
 have Y:=h.lt;have hb:∀k,k≠10->(w.heap.setIfInBounds 10 (.chan cap (ms.toArray.push v) false (ms.length+1) 0 false))[k]?=w.heap[k]?:=λk U=>by rw[cV (Ne.symm U)]
 have O:∀(k o:Nat),k≠10->kr {w with heap:=w.heap.setIfInBounds 10 (.chan cap (ms.toArray.push v) false (ms.length+1) 0 false)} ⟨k,o,none⟩=w.cell? ⟨k,o,none⟩:=λk o U=>by
  simp only[kr,hb k U]
 refine⟨(O 5 0 (by omega)).trans h.c0,(O 6 0 (by omega)).trans h.c1,(O 7 0 (by omega)).trans h.c2,(O 8 0 (by omega)).trans h.c3,(O 8 1 (by omega)).trans h.c4,(O 8 2 (by omega)).trans h.c5,?_,h.sm.stay (hb 11 (by omega))⟩;rw[dc (by omega)];simp
def rn:List Deferred:=[⟨.collected 9,#[.chan (some 10)]⟩]
theorem BO{f:dt}{tm:Array Value}{rest:Code}{w:World}{L:List Value}{Kp:World->Prop}{Q:Exit->Act->World->Prop}(h:rest.wp prog Q ⟨tm,rn⟩ w)
  (hQ:∀e a w',Q e a w'->(e=.normal\/e=.ret)/\a.defers=rn/\(∃cap buf s r t,w'.heap[10]?=some (.chan cap buf false s r t)/\buf.toList=L)/\Kp w') :
  ∃n O,runN prog n (lone ⟨f,tm,[.code rest],rn,.run,.normal,none⟩ [door prog] w)=.next (LS.m O)/\Ng prog f L Kp O:=by
 obtain⟨e,a,w',hq,U⟩:=h ⟨f,#[],[],[],.run,.normal,none⟩ [] _;obtain⟨he,hd,hh,hk⟩:=hQ e a w' hq
 have hr:∃td n,runN prog n (lone ⟨f,tm,[.code rest],rn,.run,.normal,none⟩ [door prog] w)=.next (lone ⟨f,a.tmps,td,a.defers,.returning,.normal,none⟩ [door prog] w'):=by
  rcases he with rfl|rfl
  obtain⟨n,Y⟩:=(show Steps .. from U).trans (.one step_end);exact⟨[],n,Y⟩;obtain⟨td,n,Y⟩:=U;exact⟨td,n,Y⟩
 obtain⟨td,n,Y⟩:=hr;exact⟨n,⟨⟨f,a.tmps,td,a.defers,.returning,.normal,none⟩,[door _],w'⟩,Y,rfl,rfl,hd,rfl,hh,hk⟩
def TA(L:List Value)(o:Option Obj):Exit->Act->World->Prop:=λe a w'=>(e=.normal\/e=.ret)/\a.defers=rn/\(∃cap buf s r t,w'.heap[10]?=some (.chan cap buf false s r t)/\buf.toList=L)/\w'.heap[11]?=o
theorem KY{w w':World}{base e sz n:Nat}{v:Value}{xs:List Value}(h:w.ownsRow base e sz v n xs)(hb:∀g,base<=g->g<w.heap.size->w'.heap[g]?=w.heap[g]?):w'.ownsRow base e sz v n xs:=by
 obtain⟨h0,O⟩:=h;refine⟨h0,?_⟩;rcases O with O|⟨g,cap,cur,h2,U,Y,h5⟩
 exact .inl O;exact .inr ⟨g,cap,cur,h2,U,(hb g U (cT.1 Y).1).trans Y,h5⟩
theorem Ah{w y:World}(h:kV w y)(g:Nat)(O:g<w.heap.size):y.heap[g]?=w.heap[g]?:=by
 obtain⟨τ,h⟩:=h;exact h.block g O
theorem T9(num:Nat)(es:List dq)(A:Ask)(hA:A.Ok)(cap:Nat)(w:World)(h:SW w num es A cap [])(ak:es.length<=cap)(hl:es.length<=100000)(al:∀e∈es,e.name.length<=dk/\e.text.length<=1048576/\(e.gone=false->0<=e.dA/\e.dA<=255))(aI:num<=1000) :
  (vf f120).wp prog (TA ((fO es).map (l7 A num)) (w.heap[11]?)) ⟨(uM 120 27 6 .skip).tmps,rn⟩ w:=by
 have HS:kb (SW _ _ _ _ _ _):=h;have c1:=h.c1;obtain⟨D,hD⟩:∃D,D=(fO es).map (l7 A num):=⟨_,rfl⟩;have HD:kb (D=(fO es).map (l7 A num)):=hD;rw[<-hD];clear hD;have aa:=G8 11 (es.map jl) w h.sm (by simpa using hl);have HK:kb (∀y,y=w->dr prog 122 #[.map (some 11)] y λe w'=>e=.returned (.func (.func 163) #[] #[.pointer (some ⟨w.heap.size,0,none⟩)])/\w'=w.alloc (.cells #[.map (some 11)] 85)):=λy U=>by subst U;exact Ny 11 _
 rw[show(uM 120 27 6 .skip).tmps=#[.pointer (some ⟨5,0,none⟩),.pointer (some ⟨6,0,none⟩),.pointer (some ⟨7,0,none⟩),.pointer (some ⟨8,0,none⟩),mp,mp,.chan (some 10),mp,mp,mp,mp,mp,mp,mp,mp,mp,mp,mp,mp,mp,mp,mp,mp,mp,mp,mp,mp]from rfl];show Code.wp prog (Code.seq (Code.region 1 _ false) (Code.block 0 (Code.loop _))) _ _ _;obtain⟨N,hN⟩:∃N,N=(es.map dq.name).mergeSort λx y=>decide (x<=y):=⟨_,rfl⟩;have am:(es.map jl).map kG=es.map dq.name:=by simp[jl]
 rw[am,<-hN,bG]at aa;have ab:es.length=N.length:=by rw[hN];simp
 rw[ab]at aa ak hl;have an:=aa;have HN:kb (N=(es.map dq.name).mergeSort λx y=>decide (x<=y)):=hN;have ao:kb (es.length=N.length):=ab;have aD:kb (∀e∈es,e.name.length<=dk/\e.text.length<=1048576/\(e.gone=false->0<=e.dA/\e.dA<=255)):=al;have aE:=h.lt;clear aa hN ab am al h;go_wp2_with (go_at_call 122;refine(HK.out _ rfl).mono ?_;rintro e y ⟨rfl,rfl⟩);refine an.mono ?_;rintro e y ⟨v,rfl,Y,hb⟩;obtain⟨av,cv,rfl,aJ⟩:=dK Y
 have HX:kb (eV w y):=by
  show Below _ _ _;exact((e8 _ _).alloc (fd _) _).trans (Below.mono hb (by omega))
 have HR:kb (y.ownsRow 12 9 1 (.slice av N.length cv) N.length (dn N)):=ownsRow_base_a Y (by omega);clear Y hb HK an;have HS1:kb (SW y num es A cap []):=HS.out.ext HX.out;have HK1:kb (y.heap[11]?=w.heap[11]?):=HX.out.block 11 aE;clear HX HS c1;go_wp2_with fail;go_loopw [11] (λi wr=>∃k:Nat,k<=N.length/\i=.int .i64 k/\SW wr num es A cap (D.take k)/\wr.ownsRow 12 9 1 (.slice av N.length cv) N.length (dn N)/\wr.heap[11]?=w.heap[11]?) (λi _=>N.length-(intOf i).toNat)
 case atStart=>exact⟨0,fm _,rfl,HS1.out,HR.out,HK1.out⟩
 case round=>
  obtain⟨k,hk,rfl,ap,aq,ar⟩:=hrel;have O:kb (SW _ _ _ _ _ _):=ap;have ac:kb (wr.ownsRow 12 9 1 (.slice av N.length cv) N.length (dn N)):=aq;have ad:kb (wr.heap[11]?=w.heap[11]?):=ar;clear ap aq ar HS1 HR HK1;have au:kb (D.length=N.length):=by show _=_;rw[HD.out,bG,FK,ao.out]
  by_cases hlt:k<N.length
  .obtain⟨bg,og,rfl,ae⟩:=jh ac.out k _ (gU N k hlt);go_upto_region 4 with fail;obtain⟨e,aw,af,ag⟩:=GA (es:=es) (k:=k) (by rw[ao.out];exact hlt)
   have ax:N[k]=e.name:=by
    rw[<-HN.out,b6 hlt,kT]at ag;exact ag
   rw[ax];obtain⟨ay,az,a0⟩:=aD.out e af
   have HM:kb (∀y:World,dr prog 119 #[.agg #[.int .i64 num,.int .i64 k],.string ⟨e.name.toArray⟩,qO e,.agg #[.int .i64 A.m,.string A.q,.int .i64 A.t]] y λx w'=>x=.returned (l7 A num (k,e))/\eV y w'):=λy=>by
    refine(Gb num k ⟨e.name.toArray⟩ e.gone ⟨(uz e).toArray⟩ ⟨e.text.toArray⟩ e.dp e.dA A.m A.t A.q y hA.m hA.t a0 hA.q (by show e.text.toArray.size<=_;simpa using az)).mono ?_;rintro x w' ⟨h1,h2⟩;exact⟨h1,h2⟩
   have ah:kb (∀y,SW y num es A cap (D.take k)->(Instr.lookup 85 (.map (some 11)) (.string ⟨e.name.toArray⟩) false).run prog y=.ok (qO e) y):=λy U=>by
    rw[(dL.look U.sm ga i1 (J9 y) e.name ay).1,KF (by have:=U.sm.nodup;simpa[jl]using this) af]
   have a5:D[k]?=some (l7 A num (k,e)):=by rw[HD.out,bW,qG,aw];rfl
   have HT:kb (D.take (k+1)=D.take k++[l7 A num (k,e)]):=by
    obtain⟨aF,aG⟩:=List.getElem?_eq_some_iff.1 a5;show _=_;rw[bN aF,aG]
   obtain⟨sv,a'⟩:∃sv,sv=qO e:=⟨_,rfl⟩;obtain⟨mv,aA⟩:∃mv,mv=l7 A num (k,e):=⟨_,rfl⟩;rw[<-a']at HM ah;rw[<-aA]at HM HT;clear a' aA ax ay az a0 aw af ag a5 ae;refine gz (Sd:=λa y=>mD _ _ _ [10] a y) (last:=10) (tl:=[]) (by kernel_rfl) ?_ (λa y h _=>h);refine dC 0 ?_ ?_<|dC 1 ?_ ?_<|dC 2 ?_ ?_<|dC 3 ?_ ?_<|dC 4 ?_ ?_<|dC 5 ?_ ?_<|dC 6 ?_ ?_<|dC 7 ?_ ?_<|dC 8 ?_ ?_ ?_
   any_goals(intro y U;have q:=(O.out.uZ U).c0;have q1:=(O.out.uZ U).c2;have q2:=(O.out.uZ U).c1;have q3:=ah.out y (O.out.uZ U);have q4:=(O.out.uZ U).c3;have q5:=(O.out.uZ U).c4;have q6:=(O.out.uZ U).c5;unfold gm;go_simp;refine⟨eV.refl _,?_⟩;with_reducible rfl)
   go_simp;refine dC 9 ?_ ?_ ?_;rotate_left
   .intro y U;unfold gm;go_simp;refine⟨rfl,(HM.out y).mono ?_⟩;rintro e y2 ⟨rfl,h2⟩;refine⟨_,rfl,h2,?_⟩;with_reducible rfl
   go_simp;refine mP (by kernel_rfl) (λt=>Cz (by kernel_rfl) _ _) ?_;intro y U;have ai:=O.out.uZ U;have aH:=au.out;refine xV (v:=mv) rfl rfl rfl rfl rfl rfl ai.ch (by simp;omega) ?_;have aj:=ai.gI mv;rw[<-HT.out]at aj
   have aB:=KY (w':={y with heap:=y.heap.setIfInBounds 10 (.chan cap ((D.take k).toArray.push mv) false ((D.take k).length+1) 0 false)}) ac.out (λg h1 h2=>by
    show(y.heap.setIfInBounds 10 _)[g]?=_;rw[cV (by omega)]
    exact Ah U g h2)
   have aC:({y with heap:=y.heap.setIfInBounds 10 (.chan cap ((D.take k).toArray.push mv) false ((D.take k).length+1) 0 false)}:World).heap[11]?=w.heap[11]?:=by
    show(y.heap.setIfInBounds 10 _)[11]?=_;rw[cV (by omega),Ah U 11 O.out.lt];exact ad.out
   generalize ({y with heap:=y.heap.setIfInBounds 10 (.chan cap ((D.take k).toArray.push mv) false ((D.take k).length+1) 0 false)}:World)=w3 at *;have HS4:kb (SW _ _ _ _ _ _):=aj;have HR4:kb (w3.ownsRow 12 9 1 (.slice (some ⟨bg,og,none⟩) N.length cv) N.length (dn N)):=aB;have HK4:kb (w3.heap[11]?=w.heap[11]?):=aC;clear aj aB aC U ai aH HM ah HT O ac ad;go_wp2;go_roundw
   case rel=>exact⟨k+1,hlt,by simp,HS4.out,HR4.out,HK4.out⟩
   case measure=>simp[intOf];omega
  obtain rfl:k=N.length:=by omega
  go_wp2;exact⟨.inl rfl,rfl,⟨_,_,_,_,_,O.out.ch,by rw[List.toList_toArray,<-au.out,cO]⟩,ad.out⟩
end
section
open Go.Conc Go.RowKit Go.Maps
variable {ops:Array Oper} {c x y:Code} {rest:List Nat} {i:Nat} {o:Oper} {v:Value}
def Vk(dd q K:Nat)(m:Ren):Prop:=(m.dead=λr=>r=dd)/\m.dm dd=q/\∀r,m.loose r->r<K
def nY(P:Program)(Z:jN P)(w:World)(T:List Frame)(dd q K:Nat)(lent:Bool):Env P where
 Z:=Z
 fC:=λb=>b<w.heap.size/\(lent=true->b≠q)
 w0:=w
 T:=T
 gl:=λg=>Ct g=true
 st:=false
 fw:=λf=>MX f=true
 ok:=Nd P MX Ct false
 X:=Vk dd q K
 le:=λm O h ⟨U,Y,h3⟩=>⟨h.dead.trans U,by rw[h.dm];exact Y,λr hr=>h3 r (h.less r hr)⟩
theorem CR{Z:jN prog}{w:World}{T:List Frame}{dd q K:Nat}{lent:Bool}(m:Ren)(O:m.ok=(nY prog Z w T dd q K lent).ok)(U:m.fw=(nY prog Z w T dd q K lent).fw)(Y:m.G=prog.globals.size):l6 prog m (nY prog Z w T dd q K lent).gl (nY prog Z w T dd q K lent).st:=Uh O U (Y.trans xX)
section
variable {P:Program} {E:Env P} {fn:dt} {tm:Array Value} {os:List OF} {wl:World} {V:List (Nat×Option (List Value))} {k:List Item}
theorem dl.Cy(τ:Nat->Question->Nat)(h:dl E os wl V):dl E os (tp wl τ) V:=dl.tape (τ:=wl.tape) h
def Io(E:Env P)(fn:dt)(k:List Item)(os:List OF)(V:List (Nat×Option (List Value))):Exit->Act->World->Prop:=λe a w'=>a.defers=[]/\∃k',((e=.normal/\k'=k)\/∃id,e=.exit id/\exitTo id k=some k')/\dl E (⟨fn,a.tmps,k'⟩::os) w' V
theorem dl.Ju(O:fF E.ok c)(U:k.all kz=true)(Y:vd E os)(h:∀τ,A8 τ wl->c.wp P (Io E fn k os V) ⟨tm,[]⟩ (tp wl τ)):dl E (⟨fn,tm,.code c::k⟩::os) wl V:=dl.code O U Y h λ_ _ _ h=>h
theorem dl.Sn(hi:ops[i]?=some o)(U:kd o (ee ops tm)=true)(Y:OkOp P E.fw E.gl E.st o.op)
  (O:∀τ,gm P o ⟨tm,[]⟩ (tp wl τ) (λv y=>dl E (⟨fn,(Act.put ⟨tm,[]⟩ o.dst v).tmps,.inRegion ops rest::k⟩::os) y V)):dl E (⟨fn,tm,.inRegion ops (i::rest)::k⟩::os) wl V:=by
 refine dl.any hi U Y λτ=>?_;have:=O τ;refine iK.mono (λv y h=>?_) this;rw[tD]at h;exact h
def Same(y O:World):Prop:=O=y
theorem dl.pu(hi:ops[i]?=some o)(O:kd o (ee ops tm)=true)(U:OkOp P E.fw E.gl E.st o.op)(Y:∀y,gm P o ⟨tm,[]⟩ y λu y'=>Same y y'/\u=v)
  (h:dl E (⟨fn,(Act.put ⟨tm,[]⟩ o.dst v).tmps,.inRegion ops rest::k⟩::os) wl V):dl E (⟨fn,tm,.inRegion ops (i::rest)::k⟩::os) wl V:=
 dl.Sn hi O U λτ=>(Y _).mono λ_ _ hh=>by
  obtain⟨rfl,rfl⟩:=hh;exact dl.Cy τ h
end
section
variable {Z:jN prog} {w:World} {T:List Frame} {dd q K:Nat} {lent:Bool} {fn:dt} {tm:Array Value} {os:List OF} {wl:World} {V:List (Nat×Option (List Value))} {k:List Item}
theorem Ui(hi:ops[i]?=some o)(U:kd o (ee ops tm)=true)(Y:Ga prog MX Ct false o.op=true)
  (O:∀τ,gm prog o ⟨tm,[]⟩ (tp wl τ) (λv y=>dl (nY prog Z w T dd q K lent) (⟨fn,(Act.put ⟨tm,[]⟩ o.dst v).tmps,.inRegion ops rest::k⟩::os) y V)):dl (nY prog Z w T dd q K lent) (⟨fn,tm,.inRegion ops (i::rest)::k⟩::os) wl V:=
 dl.Sn hi U (uW Y) O
theorem eQ(h:dl (nY prog Z w T dd q K lent) (⟨fn,(Act.put ⟨tm,[]⟩ o.dst v).tmps,.inRegion ops rest::k⟩::os) wl V)(hi:ops[i]?=some o:=by rfl)(U:∀y:World,gm prog o ⟨tm,[]⟩ y (λu Y=>Same y Y/\u=v):=by intro y;unfold gm;go_simp;refine⟨rfl,?_⟩;with_reducible rfl)
  (O:kd o (ee ops tm)=true:=by rfl) (ho:Ga prog MX Ct false o.op=true:=by kernel_rfl):dl (nY prog Z w T dd q K lent) (⟨fn,tm,.inRegion ops (i::rest)::k⟩::os) wl V:=dl.pu hi O (uW ho) U h
theorem lQ(hi:ops[i]?=some o)(U:kd o (ee ops tm)=true)(ho:Ga prog MX Ct false o.op=true)
  (O:∀Y:World,Y.heap=wl.heap->Y.os=wl.os->gm prog o ⟨tm,[]⟩ Y (λv y=>dl (nY prog Z w T dd q K lent) (⟨fn,(Act.put ⟨tm,[]⟩ o.dst v).tmps,.inRegion ops rest::k⟩::os) y V)):dl (nY prog Z w T dd q K lent) (⟨fn,tm,.inRegion ops (i::rest)::k⟩::os) wl V:=
 Ui hi U ho λτ=>O _ rfl rfl
theorem iP(O:jK (λo=>Ga prog MX Ct false o.op) c=true)(Y:k.all kz=true)(hf:vd (nY prog Z w T dd q K lent) os)(h:∀U:World,U.heap=wl.heap->U.os=wl.os->c.wp prog (Io (nY prog Z w T dd q K lent) fn k os V) ⟨tm,[]⟩ U):dl (nY prog Z w T dd q K lent) (⟨fn,tm,.code c::k⟩::os) wl V:=
 dl.Ju (oO O) Y hf λτ _=>h _ rfl rfl
theorem dl.E1{P:Program}{E:Env P}{c:Operand}(O:uB c)(e:iS tm c=.bool true)(h:dl E (⟨fn,tm,.code x::k⟩::os) wl V):dl E (⟨fn,tm,.code (.cond c x y)::k⟩::os) wl V:=dl.cond O e h
theorem dl.qu{P:Program}{E:Env P}{c:Operand}(O:uB c)(e:iS tm c=.bool false)(h:dl E (⟨fn,tm,.code y::k⟩::os) wl V):dl E (⟨fn,tm,.code (.cond c x y)::k⟩::os) wl V:=dl.cond O e h
theorem gL(d:Option Tmp)(tm:Array Value)(v:Value):eM d tm v=(Act.put ⟨tm,[]⟩ d v).tmps:=by rw[tD]
theorem gr{P:Program}{E:Env P}{tmps:Array Value}{w':World}(h:dl E (⟨fn,tmps,k⟩::os) w' V):Io E fn k os V .normal ⟨tmps,[]⟩ w':=⟨rfl,k,.inl ⟨rfl,rfl⟩,h⟩
end
section
open Go.Conc Go.RowKit Go.Maps
structure rA(ex:Obj)(es:List dq):Prop where
 isMap:∃a c,ex=.map a c
 UA:∀m:Ren,OR m ex ex
 inv:∀(m:Ren)o',OR m ex o'->o'=ex
 say:∀(w:World)(B:Nat),w.heap[B]?=some ex->e9 w B es
def bb(s:Nat):Nat->Nat|0=>s+4|1=>s+1|2=>s|_=>s+2
def Md(A:Ask):Array Value:=#[.int .i64 A.m,.string A.q,.int .i64 A.t]
def Ux(s dd num:Nat)(A:Ask):Nat->Array Value|0=>#[.chan (some (s+3))]|1=>#[.map (some dd)]|2=>#[.int .i64 num]|_=>Md A
def UR(num:Nat)(A:Ask):Nat->Array Value|0=>#[.chan (some 10)]|1=>#[.map (some 11)]|2=>#[.int .i64 num]|_=>Md A
def U2:Nat->ef|0=>167|1=>85|2=>3|_=>94
theorem Ks(s i:Nat):s<=bb s i/\bb s i<s+5:=by
 unfold bb;split<;>omega
theorem NX(s:Nat):∀i j,i<4->j<4->bb s i=bb s j->i=j:=by
 intro i j hi O h;have:i=0\/i=1\/i=2\/i=3:=by omega
 have:j=0\/j=1\/j=2\/j=3:=by omega
 rcases ‹i=0\/_› with rfl|rfl|rfl|rfl<;>rcases ‹j=0\/_› with rfl|rfl|rfl|rfl<;>simp[bb]at h⊢
theorem Flat.arr{c:Array Value}(h:∀i(hi:i<c.size),Flat c[i]){m mi:Ren}{O:Array Value}(U:ep m c O):ep mi c O:=by
 have:O=c:=by
  apply dg;intro i;by_cases hi:i<c.size;obtain⟨Y,h1,h2⟩:=U.get (cU hi);rw[h1,(h i hi).eq m Y h2,cU hi];rw[cX (by rw[<-U.size];omega),cX (by omega)]
 subst this;exact ep.ii rfl λi hi _=>(h i hi).refl mi
theorem Gx(A:Ask)(k:Nat)(p:Nat×dq):Flat (l7 A k p):=by
 unfold l7;split;refine .agg λi hi=>?_;have:=hi;match i,this with
 |0,_|1,_|6,_|7,_=>exact .int ..|2,_|4,_|5,_=>exact .string _|3,_=>exact .bool _
 refine .agg λi hi=>?_;have:=hi;match i,this with
 |0,_|1,_|6,_|7,_=>exact .int ..|2,_|4,_|5,_=>exact .string _|3,_=>exact .bool _
theorem Lq{Z:jN prog}{w:World}{T:List Frame}{dd q K num s:Nat}{A:Ask}{es:List dq}{ex:Obj}{w6:World}{os:List OF}(hA:A.Ok)(hK:K<=s+5)(h5:5<=s)(ag:dd<s)
  (hc:∀i,i<4->w6.heap[bb s i]?=some (.cells (Ux s dd num A i) (U2 i) (0,0))) (aa:5<=q) (hq:q<w.heap.size) (ab:w.heap[q]?=some ex) (hM:rA ex es) (ac:∀(m:Ren)(r:Nat)(o:Obj),w6.heap[r]?=some o->¬OR m o ex)
  (hl:es.length<=100000) (ad:∀e∈es,e.name.length<=dk/\e.text.length<=1048576/\(e.gone=false->0<=e.dA/\e.dA<=255)) (Y:num<=1000) :
  Sends (nY prog Z w T dd q K false) (nY prog Z w T dd q (s+5) true) 120 (xh (bb s)) os os w6 (sJ w6 [bb s 0,bb s 1,bb s 2,bb s 3]) (s+3) ((fO es).map (l7 A num)):=by
 refine F5 (cm:=Ux s dd num A) (cd:=UR num A) (te:=U2) (fz:=λ_=>(0,0)) (M:=some q) (ex:=ex) (cap:=es.length) TX rfl rfl (by decide) (by decide) (by decide) TI (λv hv=>?_) ⟨rfl,rfl,rfl,rfl,rfl,CR,λm O=>?_,λb=>?_,λi hi=>?_,NX s,hc,λm O i hi=>?_,rfl,rfl,λi U h4 m mi w' a' O hw ae ha=>?_,λb hb=>?_⟩ λτ=>?_;obtain⟨p,_,rfl⟩:=b4.1 hv;exact Gx A num p;obtain⟨x1,x2,x3⟩:=O.x;refine⟨x1,x2,λr O=>?_⟩;rcases O with O|O
 have:=x3 r O;omega;simp only[b9,bM,or_false,bb]at O;omega;simp only[nY,ne_eq,kT];constructor;rintro⟨U,h2⟩;exact⟨⟨U,λh=>by cases h⟩,λe=>h2 trivial e.symm⟩;rintro⟨⟨U,_⟩,h2⟩;exact⟨U,λ_ e=>h2 e.symm⟩;have:=Ks s i;omega;obtain⟨x1,_,_⟩:=O.x;rw[x1];have:=(Ks s i).1;show ¬(bb s i=dd);omega;obtain⟨x1,x2,_⟩:=O.x;have:i=1\/i=2\/i=3:=by omega
 rcases this with rfl|rfl|rfl
 have hz:=ha.size;obtain⟨v',e1,e2⟩:=ha.get (show(Ux s dd num A 1)[0]?=some (.map (some dd))from rfl)
 have hv:v'=.map (some q):=by
  cases e2 with
  |gone hd=>rw[x2]|map hb=>
   rw[(hw.dead dd (by rw[x1])).1]at hb;cases hb
 subst hv
 have:a'=#[.map (some q)]:=by
  apply dg;intro j;match j with
  |0=>rw[e1];rfl|j+1=>rw[cX (by rw[<-hz];show 1<=j+1;omega),cX (by show 1<=j+1;omega)]
 subst this;exact ep.one (.map (ae q rfl))
 exact Flat.arr (c:=#[.int _ num]) (λj hj=>by
  have:=hj;match j,this with
  |0,_=>exact .int ..) ha
 exact Flat.arr (c:=Md A) (λj hj=>by
  have:=hj;match j,this with
  |0,_=>exact .int ..|1,_=>exact .string _|2,_=>exact .int ..) ha
 cases hb;obtain⟨a,c,e⟩:=hM.isMap;exact⟨aa,⟨hq,nofun⟩,ab,hM.UA,hM.inv,λa' e' f' h=>(by rw[h]at e;cases e),ac⟩
 have af:SW (tp (sF w6 (UR num A) U2 es.length ex) τ) num es A es.length []:=by
  refine⟨rfl,rfl,rfl,rfl,rfl,rfl,rfl,hM.say _ _ rfl⟩
 exact BO (T9 num es A hA _ _ af (fd _) hl ad Y) λe a w' ⟨U,h2,h3,h4⟩=>⟨U,h2,h3,.inr (h4.trans rfl)⟩
end
section
open Go.Conc Go.RowKit Go.Maps
variable {ops:Array Oper} {rest:List Nat} {o:Oper} {P:Program} {E:Env P}
def ey(f:Func):Code:=match f.body with
 |some c=>c|none=>.skip
theorem dl.B9{fn:dt}{tm:Array Value}{os:List OF}{wl:World}{V:List (Nat×Option (List Value))}{k:List Item}{i:Nat}(hi:ops[i]?=some o)(O:kd o (ee ops tm)=true)
  (U:∀(Y:Array Value)(w:World),(execOp (iS Y) o).runT P w #[]=(.ok (.value (.chan (some w.heap.size))) {w with heap:=w.heap.push (.chan 0 #[] false 0 0 false)},#[]))
  (h:dl E (⟨fn,(Act.put ⟨tm,[]⟩ o.dst (.chan (some wl.heap.size))).tmps,.inRegion ops rest::k⟩::os) {wl with heap:=wl.heap.push jn} ((wl.heap.size,none)::V)):dl E (⟨fn,tm,.inRegion ops (i::rest)::k⟩::os) wl V:=
 dl.makeChan hi O U (by rw[tD]at h;exact h)
section
variable {Z:jN prog} {w:World} {T:List Frame} {dd q K:Nat} {lent:Bool} {fn:dt} {tm:Array Value} {os:List OF} {wl:World} {V:List (Nat×Option (List Value))} {k:List Item}
theorem Lm{m:Ren}{Pd:Nat->Prop}{ρ:Nat->eA}{gs:Array Goroutine}{w':World}{t:Trace}{q:Nat}{a:Array MapEntry}{c:Nat}(hq:E.fC q)(hw:E.w0.heap[q]?=some (.map a c))(O:Co P E.fC E.w0 Pd ρ m wl gs w' t)(j:Nat)(Y:Ren)(r':Nat)(hr:(ρ j).mO=some Y):Y.blk r'≠some q:=by
 intro hb;have hl:=O.ff j Y hr r' q hb hq;obtain⟨aa,U⟩:=O.wr hr;obtain⟨c1,e1,f1,hc⟩:=U.lk r' q hb hl;obtain⟨o,o',h1,h2,h3⟩:=U.obj r' q hb;rw[(O.fix q hq).2,hw]at h2;cases h2;rw[hc]at h1;cases h1;cases h3
theorem Aj(num:Nat)(A:Ask)(es:List dq)(ex:Obj){i:Nat}(s:Nat)(hs:s=wl.heap.size)(hi:ops[i]?=some o)(hA:A.Ok)(hK:K<=s+5)(h5:5<=s)(al:dd<s)(am:5<=q)(hq:q<w.heap.size)(ah:w.heap[q]?=some ex)(hM:rA ex es)(an:∀(r:Nat)a c,wl.heap[r]?≠some (.map a c))
  (hl:es.length<=100000) (ao:∀e∈es,e.name.length<=dk/\e.text.length<=1048576/\(e.gone=false->0<=e.dA/\e.dA<=255)) (ai:num<=1000) (hV:∀x∈V,x.1<s)
  (hn:∀w2:World,w2.heap.size=s+5->(∀r,r<s->w2.heap[r]?=wl.heap[r]?)->(∀(r:Nat)a c,w2.heap[r]?≠some (.map a c))->w2.os=wl.os->dl (nY prog Z w T dd q (s+5) true) (⟨fn,eM o.dst tm (.chan (some (s+3))),.inRegion ops rest::k⟩::os) w2 ((s+3,some ((fO es).map (l7 A num)))::V)) :
  dl (nY prog Z w T dd q K false) (⟨80,#[.int .i64 num,.map (some dd),.agg #[.int .i64 A.m,.string A.q,.int .i64 A.t],mp,mp,mp,mp,mp,mp,mp,mp],[.code (ey f80)]⟩::⟨fn,tm,.inRegion ops (i::rest)::k⟩::os) wl V:=by
 show dl _ (⟨_,_,[.code (.seq (.region 0 _ false) (.seq (.region 1 _ false) (.seq (.region 2 _ false) (.seq (.region 3 _ false) .ret))))]⟩::_) _ _;refine dl.seq ?_;have HS:kb (s=wl.heap.size):=hs;clear hs;refine iP (by kernel_rfl) rfl (.inl (by simp)) λy0 O U=>?_;have HY:kb (y0.heap=wl.heap/\y0.os=wl.os):=⟨O,U⟩;clear O U;go_wp2;refine gr ?_;obtain⟨O,U⟩:=HY.out;obtain⟨w3,aa⟩:∃w3,w3=(((y0.alloc (.cells #[.int .i64 num] 3)).alloc (.cells #[.map (some dd)] 85)).alloc (.cells #[.int .i64 A.m,.string A.q,.int .i64 A.t] 94)):=⟨_,rfl⟩;have Y:y0.heap.size=s:=by rw[O];exact HS.out.symm
 have z3:w3.heap.size=s+3:=by rw[aa];simp[Y]
 have o3:∀r,r<s->w3.heap[r]?=wl.heap[r]?:=λr hr=>by
  rw[aa,fY _ _ (by simp[Y];omega),fY _ _ (by simp[Y];omega),fY _ _ (by rw[Y];omega),O]
 have g0:w3.heap[s]?=some (.cells #[.int .i64 num] 3 (0,0)):=by rw[aa,fY _ _ (by simp only[kf,Y];omega),fY _ _ (by simp only[kf,Y];omega),iF _ _ Y.symm]
 have g1:w3.heap[s+1]?=some (.cells #[.map (some dd)] 85 (0,0)):=by rw[aa,fY _ _ (by simp[Y]),iF _ _ (by simp[Y])]
 have g2:w3.heap[s+2]?=some (.cells #[.int .i64 A.m,.string A.q,.int .i64 A.t] 94 (0,0)):=by rw[aa,iF _ _ (by simp[Y])]
 have p3:w3.os=wl.os:=by rw[aa];exact U
 rw[<-aa,Y];clear aa O U Y HY y0;refine dl.seq (dl.region ?_);refine dl.B9 (i:=0) rfl rfl (λar w=>by kernel_rfl) ?_;rw[z3];obtain⟨w4,ac⟩:∃w4:World,w4={w3 with heap:=w3.heap.push jn}:=⟨_,rfl⟩;have z4:w4.heap.size=s+4:=by rw[ac];simp[z3]
 have o4:∀r,r<s+3->w4.heap[r]?=w3.heap[r]?:=λr hr=>by rw[ac];show(w3.heap.push _)[r]?=_;rw[de,if_neg (by omega)]
 have g3:w4.heap[s+3]?=some jn:=by rw[ac];show(w3.heap.push _)[s+3]?=_;rw[<-z3];simp
 have p4:w4.os=wl.os:=by rw[ac];exact p3
 rw[<-ac];clear ac;have aj:s+1+1=s+2:=rfl;rw[aj];clear aj;go_simp;refine lQ rfl (by rfl) (by kernel_rfl) λy0 O U=>?_;have HY:kb (y0.heap=w4.heap/\y0.os=w4.os):=⟨O,U⟩;clear O U;unfold gm;go_simp;simp only[iK];obtain⟨O,U⟩:=HY.out;obtain⟨w5,ad⟩:∃w5,w5=y0.alloc (.cells #[.chan none] 167):=⟨_,rfl⟩;have z5:w5.heap.size=s+5:=by rw[ad];simp[O,z4]
 have o5:∀r,r<s+4->w5.heap[r]?=w4.heap[r]?:=λr hr=>by rw[ad,fY _ _ (by rw[O,z4];exact hr),O]
 have g4:w5.heap[s+4]?=some (.cells #[.chan none] 167 (0,0)):=by rw[ad,iF _ _ (by rw[O,z4])]
 have p5:w5.os=wl.os:=by rw[ad];exact U.trans p4
 rw[<-ad,O,z4];clear ad O U HY y0;refine lQ rfl (by rfl) (by kernel_rfl) λy0 O U=>?_;have c4:y0.cell? ⟨s+4,0,none⟩=some (.chan none):=by rw[dh (by rw[O];exact g4)];rfl
 have f4:y0.frozen? ⟨s+4,0,none⟩=false:=dI (by rw[O];exact g4) 0;have HY:kb (y0.heap=w5.heap/\y0.os=w5.os):=⟨O,U⟩;clear O U;unfold gm;go_simp;simp only[iK];obtain⟨O,U⟩:=HY.out;obtain⟨w6,ae⟩:∃w6,w6=y0.setCell ⟨s+4,0,none⟩ (.chan (some (s+3))):=⟨_,rfl⟩;have z6:w6.heap.size=s+5:=by rw[ae];simp[O,z5]
 have o6:∀r,r≠s+4->w6.heap[r]?=w5.heap[r]?:=λr hr=>by rw[ae,ez _ _ _ _ hr,O]
 have g6:w6.heap[s+4]?=some (.cells #[.chan (some (s+3))] 167 (0,0)):=by rw[ae];exact heap_setCell_box_a _ (by rw[O];exact g4)
 have p6:w6.os=wl.os:=by rw[ae];exact U.trans p5
 rw[<-ae];clear ae O U HY c4 f4 y0;refine dl.inRegion (dl.seq (dl.region ?_));have k0:w6.heap[s]?=some (.cells #[.int .i64 num] 3 (0,0)):=by rw[o6 _ (by omega),o5 _ (by omega),o4 _ (by omega)];exact g0
 have k1:w6.heap[s+1]?=some (.cells #[.map (some dd)] 85 (0,0)):=by rw[o6 _ (by omega),o5 _ (by omega),o4 _ (by omega)];exact g1
 have k2:w6.heap[s+2]?=some (.cells #[.int .i64 A.m,.string A.q,.int .i64 A.t] 94 (0,0)):=by rw[o6 _ (by omega),o5 _ (by omega),o4 _ (by omega)];exact g2
 have k3:w6.heap[s+3]?=some jn:=by rw[o6 _ (by omega),o5 _ (by omega)];exact g3
 have ko:∀r,r<s->w6.heap[r]?=wl.heap[r]?:=λr hr=>by rw[o6 _ (by omega),o5 _ (by omega),o4 _ (by omega),o3 _ hr]
 clear g0 g1 g2 g3 g4 o3 o4 o5 o6 z3 z4 z5 p3 p4 p5
 have ak:∀j,j<4->w6.heap[bb s j]?=some (.cells (Ux s dd num A j) (U2 j) (0,0)):=by
  intro j hj;match j,hj with
  |0,_=>exact g6|1,_=>exact k1|2,_=>exact k0|3,_=>exact k2
 have af:∀(r:Nat)a c,w6.heap[r]?≠some (.map a c):=by
  intro r a c h;by_cases h1:r<s;rw[ko r h1]at h;exact an r a c h;have h2:=(cT.1 h).1;rw[z6]at h2;have:r=s\/r=s+1\/r=s+2\/r=s+3\/r=s+4:=by omega
  rcases this with rfl|rfl|rfl|rfl|rfl
  rw[k0]at h;cases h;rw[k1]at h;cases h;rw[k2]at h;cases h;rw[k3]at h;cases h;rw[g6]at h;cases h
 obtain⟨au,av,ag⟩:=hM.isMap
 have hS:=λos=>Lq (Z:=Z) (T:=T) (os:=os) hA hK h5 al ak am hq ah hM (λm r o h1 h2=>by
  rw[ag]at h2;cases h2
  exact af _ _ _ h1) hl ao ai
 refine dl.go (i:=0) (j:=1) (f:=120) (q:=9) (rc:=s+3) (E₂:=nY prog Z w T dd q (s+5) true) (wl₂:=sJ w6 [bb s 0,bb s 1,bb s 2,bb s 3]) (L:=(fO es).map (l7 A num)) (os₂:=?os2) (V₂:=(s+3,some ((fO es).map (l7 A num)))::V) rfl rfl rfl rfl rfl rfl rfl rfl ?hcx ?hq ?hS ?h1 ?h2 ?h3 ?h4 ?h5 ?h6
 case hS=>
  have e:di (iS #[Value.int IntKind.i64 ↑num,Value.map (some dd),Value.agg #[Value.int IntKind.i64 ↑A.m,Value.string A.q,Value.int IntKind.i64 ↑A.t],Value.pointer (some {block:=s,off:=0}),Value.pointer (some {block:=s+1,off:=0}),Value.pointer (some {block:=s+2,off:=0}),Value.chan none,Value.pointer (some {block:=s+4,off:=0}),Value.chan (some (s+3)),mp,mp]) #[Operand.tmp 7,Operand.tmp 4,Operand.tmp 3,Operand.tmp 5]=xh (bb s):=by kernel_rfl
  rw[e];exact hS _
 intro x hx;simp only[b9,bM,or_false]at hx;rcases hx with rfl|rfl|rfl|rfl<;>trivial
 show 9<11;decide;intro q' h1 h2 m Pd ρ gs w' t aw ap ax j m' r' hr;have:q'=q:=k5 λaq=>h2 ⟨h1.1,λ_=>aq⟩;subst this;exact Lm h1 (ah.trans (by rw[ag])) ap j m' r' hr;simp;intro x hx;rcases b9.1 hx with rfl|hx
 exact .inl rfl;refine .inr ⟨bJ _ hx,λe=>?_⟩;have:=hV x hx;rw[e]at this;exact absurd this (by show ¬(s+3<s);omega);simp;intro r vs hr;rcases b9.1 hr with hr|hr
 cases hr;exact bJ _ hr;obtain⟨w7,ab⟩:∃w7,w7=sJ w6 [bb s 0,bb s 1,bb s 2,bb s 3]:=⟨_,rfl⟩;have z7:w7.heap.size=s+5:=by rw[ab,ur];exact z6
 have o7:∀r,r<s->w7.heap[r]?=wl.heap[r]?:=λr hr=>by
  rw[ab,pV _ (by simp only[b9,bM,or_false,bb];omega)];exact ko r hr
 have g7:w7.heap[s+4]?=some (.cells #[.chan (some (s+3))] 167 (0,1)):=by
  rw[ab];exact zW w6 (by simp[bb]) g6
 have m7:∀(r:Nat)a c,w7.heap[r]?≠some (.map a c):=by
  intro r a c h;rw[ab,xp]at h
  cases he:w6.heap[r]? with
  |none=>rw[he]at h;cases h
  |some o=>
   rw[he]at h;simp only[ls,kT]at h;split at h
   cases o<;>simp[O9]at h;exact af _ _ _ he;exact af r a c (by rw[he,h])
 have p7:w7.os=wl.os:=by rw[ab];exact p6
 rw[<-ab];clear ab hS ak af k0 k1 k2 k3 ko g6 z6 p6;refine dl.inRegion (dl.seq ?_);refine iP (by kernel_rfl) rfl (.inl (by simp)) λy0 O U=>?_;have c7:y0.cell? ⟨s+4,0,none⟩=some (.chan (some (s+3))):=by rw[dh (by rw[O];exact g7)];rfl
 have HY:kb (y0.heap=w7.heap/\y0.os=w7.os):=⟨O,U⟩;clear O U;simp only[cB,cK,cJ];go_wp2;refine gr ?_;obtain⟨O,U⟩:=HY.out;refine dl.back (v:=.chan (some (s+3))) (.inr ⟨_,rfl⟩) func80 hi (λτ=>?_) (hn y0 (by rw[O];exact z7) (λr hr=>by rw[O];exact o7 r hr) (λr a c=>by rw[O];exact m7 r a c) (U.trans p7));kernel_rfl
end
end
section
open Go.Conc Go.RowKit Go.Maps
variable {wP v3:Bool} {v2 v4 v5:ByteArray} {v0 v1 v6 v7:Int} {s:Nat}
def Mt:Value:=.agg #[.int .i64 0,.int .i64 0,.string ⟨#[]⟩,.bool false,.string ⟨#[]⟩,.string ⟨#[]⟩,.int .i64 0,.int .i64 0]
def mz(cl:Nat->Option Nat):Array Value:=#[.chan (cl 0),.chan (cl 1),.chan (cl 2),.chan (cl 3),.chan (cl 4),.chan (cl 5),.chan (cl 6)]
def PR(v:Value):Prop:=∃(a b:Int)(c:ByteArray)(d:Bool)(e f:ByteArray)(g h:Int),v=.agg #[.int .i64 a,.int .i64 b,.string c,.bool d,.string e,.string f,.int .i64 g,.int .i64 h]
def tC(w:World)(s:Nat)(v0 v1 v2 v3 v4 v5 v6 v7:Value):World:=(((((((w.setCell ⟨s,0,none⟩ v0).setCell ⟨s,1,none⟩ v1).setCell ⟨s,2,none⟩ v2).setCell ⟨s,3,none⟩ v3).setCell ⟨s,4,none⟩ v4).setCell ⟨s,5,none⟩ v5).setCell ⟨s,6,none⟩ v6).setCell ⟨s,7,none⟩ v7
theorem zQ{w:World}{v0 v1 v2 v3 v4 v5 v6 v7 O U Y u3 u4 u5 u6 u7:Value}{t:ef}{f:Nat×Nat}(h:w.heap[s]?=some (.cells #[O,U,Y,u3,u4,u5,u6,u7] t f)):(tC w s v0 v1 v2 v3 v4 v5 v6 v7).heap[s]?=some (.cells #[v0,v1,v2,v3,v4,v5,v6,v7] t f):=by
 unfold tC;rw[heap_set (heap_set (heap_set (heap_set (heap_set (heap_set (heap_set (heap_set h 0 v0) 1 v1) 2 v2) 3 v3) 4 v4) 5 v5) 6 v6) 7 v7];rfl
theorem zY(w:World){r:Nat}(v0 v1 v2 v3 v4 v5 v6 v7:Value)(h:r≠s):(tC w s v0 v1 v2 v3 v4 v5 v6 v7).heap[r]?=w.heap[r]?:=by
 unfold tC;rw[ez _ _ _ _ h,ez _ _ _ _ h,ez _ _ _ _ h,ez _ _ _ _ h,ez _ _ _ _ h,ez _ _ _ _ h,ez _ _ _ _ h,ez _ _ _ _ h]
theorem vh(w:World)(s:Nat)(v0 v1 v2 v3 v4 v5 v6 v7:Value):(tC w s v0 v1 v2 v3 v4 v5 v6 v7).heap.size=w.heap.size:=by
 unfold tC;simp
theorem pP(w:World)(p:Addr)(v:Value):(w.setCell p v).os=w.os:=by
 unfold World.setCell;split <;>(try split) <;>(try split)<;>rfl
theorem Cw(w:World)(s:Nat)(v0 v1 v2 v3 v4 v5 v6 v7:Value):(tC w s v0 v1 v2 v3 v4 v5 v6 v7).os=w.os:=by
 unfold tC;simp only[pP]
def nb:Code->Nat->Code
 |.cond _ x _,0=>x|.cond _ _ y,n+1=>nb y n|_,_=>.skip
def Rp(c:Code):Code:=match c with
 |.seq _ (.seq _ (.seq _ (.block _ c)))=>c|_=>.skip
def Us(wP:Bool)(v x0 x2 x3 x4 x5 x6 O U:Value):Nat->Array Value
 |0=>#[x0,.bool wP,v,x3,x4,x5,x6,O,U]|1=>#[x0,.bool wP,x2,v,x4,x5,x6,O,U]|2=>#[x0,.bool wP,x2,x3,v,x5,x6,O,U]|3=>#[x0,.bool wP,x2,x3,x4,v,x6,O,U]|4=>#[x0,.bool wP,x2,x3,x4,x5,v,O,U]|5=>#[x0,.bool wP,x2,x3,x4,x5,x6,v,U]|_=>#[x0,.bool wP,x2,x3,x4,x5,x6,O,v]
section
variable {Z:jN prog} {w:World} {T:List Frame} {dd q K:Nat} {lent:Bool} {fn:dt} {tm:Array Value} {os:List OF} {wl:World} {V:List (Nat×Option (List Value))} {k:List Item}
theorem Ot{tmps:Array Value}{k:Int}{w3:World}(g1:w3.heap[s]?=some (.cells #[.int .i64 v0,.int .i64 v1,.string v2,.bool v3,.string v4,.string v5,.int .i64 v6,.int .i64 v7] 172 (0,0)))(τ)(O:tmps[2]?=some (.int .i64 k))(U:tmps[3]?=some (.pointer (some ⟨s,0,none⟩)))(Y:tmps[4]?=some (.bool wP)) :
  (er jt tmps).run prog (tp w3 τ)=.ok (.tuple #[.int .i64 k,.agg #[.int .i64 v0,.int .i64 v1,.string v2,.bool v3,.string v4,.string v5,.int .i64 v6,.int .i64 v7],.bool wP]) (tp w3 τ):=by
 have g1:(tp w3 τ).heap[s]?=some (.cells #[.int .i64 v0,.int .i64 v1,.string v2,.bool v3,.string v4,.string v5,.int .i64 v6,.int .i64 v7] 172 (0,0)):=g1;generalize tp w3 τ=w4 at *;have e0:w4.cell? ⟨s,0,none⟩=some (.int .i64 v0):=by rw[dh g1];rfl
 have f0:w4.frozen? ⟨s,0,none⟩=false:=dI g1 0;have e1:w4.cell? ⟨s,1,none⟩=some (.int .i64 v1):=by rw[dh g1];rfl
 have f1:w4.frozen? ⟨s,1,none⟩=false:=dI g1 1;have e2:w4.cell? ⟨s,2,none⟩=some (.string v2):=by rw[dh g1];rfl
 have f2:w4.frozen? ⟨s,2,none⟩=false:=dI g1 2;have e3:w4.cell? ⟨s,3,none⟩=some (.bool v3):=by rw[dh g1];rfl
 have f3:w4.frozen? ⟨s,3,none⟩=false:=dI g1 3;have e4:w4.cell? ⟨s,4,none⟩=some (.string v4):=by rw[dh g1];rfl
 have f4:w4.frozen? ⟨s,4,none⟩=false:=dI g1 4;have e5:w4.cell? ⟨s,5,none⟩=some (.string v5):=by rw[dh g1];rfl
 have f5:w4.frozen? ⟨s,5,none⟩=false:=dI g1 5;have e6:w4.cell? ⟨s,6,none⟩=some (.int .i64 v6):=by rw[dh g1];rfl
 have f6:w4.frozen? ⟨s,6,none⟩=false:=dI g1 6;have e7:w4.cell? ⟨s,7,none⟩=some (.int .i64 v7):=by rw[dh g1];rfl
 have f7:w4.frozen? ⟨s,7,none⟩=false:=dI g1 7;simp[er,results123,go_sem,e0,e1,e2,e3,e4,e5,e6,e7,O,U,Y]
theorem vz{ops:Array Oper}{i:Nat}{rest:List Nat}{o:Oper}{a0 a1 a2 a4 a5 a6 a7 a8 a9 a10 a11 a12 ac ad a15 a16 a17 a18 a19 a20 a21 a22 a23 a24 a25 a26 a27 a28 a29 ae af ag ah ai aj ak al am an ao ap aq ar au av aw ax ay az a' aA aB aC aD aE aF aG aH aI aJ aK aL aM aN aO aP aQ aR x0 x2 x3 x4 x5 x6 x7 x8:Value}(j:Nat)(hj:j<7)(hi:ops[i]?=some o)(z1:wl.heap.size=s+1)(g1:wl.heap[s]?=some (.cells #[.int .i64 0,.int .i64 0,.string ⟨#[]⟩,.bool false,.string ⟨#[]⟩,.string ⟨#[]⟩,.int .i64 0,.int .i64 0] 172 (0,0)))
  (hn:∀w2:World,w2.heap.size=s+1->(∀r,r<s->w2.heap[r]?=wl.heap[r]?)->w2.os=wl.os->dl (nY prog Z w T dd q K lent) (⟨fn,eM o.dst tm (.tuple #[.int .i64 (j:Int),.agg #[.int .i64 v0,.int .i64 v1,.string v2,.bool v3,.string v4,.string v5,.int .i64 v6,.int .i64 v7],.bool wP]),.inRegion ops rest::k⟩::os) w2 V) :
  dl (nY prog Z w T dd q K lent) (⟨123,#[a0,a1,a2,.pointer (some ⟨s,0,none⟩),a4,a5,a6,a7,a8,a9,a10,a11,a12,ac,ad,a15,a16,a17,a18,a19,a20,a21,a22,a23,a24,a25,a26,a27,a28,a29,ae,af,ag,.tuple (Us wP (.agg #[.int .i64 v0,.int .i64 v1,.string v2,.bool v3,.string v4,.string v5,.int .i64 v6,.int .i64 v7]) x0 x2 x3 x4 x5 x6 x7 x8 j),ah,ai,aj,ak,al,am,an,ao,ap,aq,ar,au,av,aw,ax,ay,az,a',aA,aB,aC,aD,aE,aF,aG,aH,aI,aJ,aK,aL,aM,aN,aO,aP,aQ,aR],[.code (nb (Rp (ey jt)) j),.inBlock 0]⟩::⟨fn,tm,.inRegion ops (i::rest)::k⟩::os) wl V:=by
 obtain⟨P1,U⟩:∃x,wl.os=x:=⟨_,rfl⟩;obtain⟨H0,h0⟩:∃x,wl.heap=x:=⟨_,rfl⟩;rw[U,h0]at hn;have o1:∀r,r<s->wl.heap[r]?=H0[r]?:=λr _=>by rw[h0]
 clear h0;have HC:kb _:=hn;clear hn;rcases(by omega:j=0\/j=1\/j=2\/j=3\/j=4\/j=5\/j=6)with rfl|rfl|rfl|rfl|rfl|rfl|rfl
 all_goals
  show dl _ (⟨_,_,[.code (.seq (.region _ _ false) (.seq (.region _ _ true) .ret)),.inBlock 0]⟩::_) _ _;dsimp only[Us];refine dl.seq ?_;refine iP (by kernel_rfl) rfl (.inl (by simp)) λO ab Y=>?_;rw[<-ab]at z1 o1 g1;have U:=Y.trans U;clear ab Y;have e0:O.cell? ⟨s,0,none⟩=some (.int .i64 0):=by rw[dh g1];rfl
  have f0:O.frozen? ⟨s,0,none⟩=false:=dI g1 0;have e1:O.cell? ⟨s,1,none⟩=some (.int .i64 0):=by rw[dh g1];rfl
  have f1:O.frozen? ⟨s,1,none⟩=false:=dI g1 1;have e2:O.cell? ⟨s,2,none⟩=some (.string ⟨#[]⟩):=by rw[dh g1];rfl
  have f2:O.frozen? ⟨s,2,none⟩=false:=dI g1 2;have e3:O.cell? ⟨s,3,none⟩=some (.bool false):=by rw[dh g1];rfl
  have f3:O.frozen? ⟨s,3,none⟩=false:=dI g1 3;have e4:O.cell? ⟨s,4,none⟩=some (.string ⟨#[]⟩):=by rw[dh g1];rfl
  have f4:O.frozen? ⟨s,4,none⟩=false:=dI g1 4;have e5:O.cell? ⟨s,5,none⟩=some (.string ⟨#[]⟩):=by rw[dh g1];rfl
  have f5:O.frozen? ⟨s,5,none⟩=false:=dI g1 5;have e6:O.cell? ⟨s,6,none⟩=some (.int .i64 0):=by rw[dh g1];rfl
  have f6:O.frozen? ⟨s,6,none⟩=false:=dI g1 6;have e7:O.cell? ⟨s,7,none⟩=some (.int .i64 0):=by rw[dh g1];rfl
  have f7:O.frozen? ⟨s,7,none⟩=false:=dI g1 7;have HZ:kb _:=And.intro z1 (And.intro o1 U);have HG:=g1;clear z1 o1 U g1;go_wp2;refine gr ?_;clear e0 e1 e2 e3 e4 e5 e6 e7 f0 f1 f2 f3 f4 f5 f6 f7;obtain⟨z1,o1,U⟩:=HZ.out;obtain⟨w2,hw2⟩:∃w2,w2=tC O s (.int .i64 v0) (.int .i64 v1) (.string v2) (.bool v3) (.string v4) (.string v5) (.int .i64 v6) (.int .i64 v7):=⟨_,rfl⟩;replace z1:w2.heap.size=s+1:=by rw[hw2,vh];exact z1
  replace o1:∀r,r<s->w2.heap[r]?=H0[r]?:=λr hr=>by rw[hw2,zY _ _ _ _ _ _ _ _ _ (by omega)];exact o1 r hr
  have g1:w2.heap[s]?=some (.cells #[.int .i64 v0,.int .i64 v1,.string v2,.bool v3,.string v4,.string v5,.int .i64 v6,.int .i64 v7] 172 (0,0)):=by rw[hw2];exact zQ HG
  replace U:w2.os=P1:=by rw[hw2,Cw];exact U
  unfold tC at hw2;rw[<-hw2];clear hw2 HZ HG;refine dl.seq ?_;refine iP (by kernel_rfl) rfl (.inl (by simp)) λO ab Y=>?_;rw[<-ab]at z1 o1 g1;have U:=Y.trans U;clear ab Y;have e0:O.cell? ⟨s,0,none⟩=some (.int .i64 v0):=by rw[dh g1];rfl
  have f0:O.frozen? ⟨s,0,none⟩=false:=dI g1 0;have e1:O.cell? ⟨s,1,none⟩=some (.int .i64 v1):=by rw[dh g1];rfl
  have f1:O.frozen? ⟨s,1,none⟩=false:=dI g1 1;have e2:O.cell? ⟨s,2,none⟩=some (.string v2):=by rw[dh g1];rfl
  have f2:O.frozen? ⟨s,2,none⟩=false:=dI g1 2;have e3:O.cell? ⟨s,3,none⟩=some (.bool v3):=by rw[dh g1];rfl
  have f3:O.frozen? ⟨s,3,none⟩=false:=dI g1 3;have e4:O.cell? ⟨s,4,none⟩=some (.string v4):=by rw[dh g1];rfl
  have f4:O.frozen? ⟨s,4,none⟩=false:=dI g1 4;have e5:O.cell? ⟨s,5,none⟩=some (.string v5):=by rw[dh g1];rfl
  have f5:O.frozen? ⟨s,5,none⟩=false:=dI g1 5;have e6:O.cell? ⟨s,6,none⟩=some (.int .i64 v6):=by rw[dh g1];rfl
  have f6:O.frozen? ⟨s,6,none⟩=false:=dI g1 6;have e7:O.cell? ⟨s,7,none⟩=some (.int .i64 v7):=by rw[dh g1];rfl
  have f7:O.frozen? ⟨s,7,none⟩=false:=dI g1 7;have HZ:kb _:=And.intro z1 (And.intro o1 U);have HG:=g1;clear z1 o1 U g1;go_region;refine gr ?_;clear e0 e1 e2 e3 e4 e5 e6 e7 f0 f1 f2 f3 f4 f5 f6 f7;obtain⟨z1,o1,U⟩:=HZ.out;obtain⟨w2,hw2⟩:∃w2,w2=tC O s (.int .i64 v0) (.int .i64 v1) (.string v2) (.bool v3) (.string v4) (.string v5) (.int .i64 v6) (.int .i64 v7):=⟨_,rfl⟩;replace z1:w2.heap.size=s+1:=by rw[hw2,vh];exact z1
  replace o1:∀r,r<s->w2.heap[r]?=H0[r]?:=λr hr=>by rw[hw2,zY _ _ _ _ _ _ _ _ _ (by omega)];exact o1 r hr
  have g1:w2.heap[s]?=some (.cells #[.int .i64 v0,.int .i64 v1,.string v2,.bool v3,.string v4,.string v5,.int .i64 v6,.int .i64 v7] 172 (0,0)):=by rw[hw2];exact zQ HG
  replace U:w2.os=P1:=by rw[hw2,Cw];exact U
  unfold tC at hw2;rw[<-hw2];clear hw2 HZ HG;obtain⟨w3,aa⟩:∃w3,w3=w2.drew:=⟨_,rfl⟩;replace g1:w3.heap[s]?=some (.cells #[.int .i64 v0,.int .i64 v1,.string v2,.bool v3,.string v4,.string v5,.int .i64 v6,.int .i64 v7] 172 (0,0)):=by rw[aa];exact g1
  have HC:=HC.out w3 (by rw[aa];exact z1) (λr hr=>by rw[aa];exact o1 r hr) (by rw[aa];exact U);rw[<-aa];clear aa z1 o1 U;exact dl.back (.inr ⟨_,rfl⟩) func123 hi (λτ=>Ot g1 τ rfl rfl rfl) HC
end
end
section
open Go.Conc Go.RowKit Go.Maps
theorem Cb{v:Value}(h:PR v):Flat v:=by
 obtain⟨a,b,c,d,e,f,g,h,rfl⟩:=h;refine .agg λi hi=>?_;have:=hi;match i,this with
 |0,_|1,_|6,_|7,_=>exact .int ..|2,_|4,_|5,_=>exact .string _|3,_=>exact .bool _
theorem LF:PR Mt:=⟨0,0,⟨#[]⟩,false,⟨#[]⟩,⟨#[]⟩,0,0,rfl⟩
section
variable {Z:jN prog} {w:World} {T:List Frame} {dd q K:Nat} {lent:Bool} {fn:dt} {tm:Array Value} {os:List OF} {wl:World} {V:List (Nat×Option (List Value))} {k:List Item}
theorem KP{ops:Array Oper}{i:Nat}{rest:List Nat}{o:Oper}{cl:Nat->Option Nat}(b s:Nat)(hs:s=wl.heap.size)(ad:b<s)(hi:ops[i]?=some o)(hb:wl.heap[b]?=some (.cells (mz cl) 125 (0,0)))
  (jP:∀k r,k<7->cl k=some r->∃vs,(r,some vs)∈V) (rX:∀k k' r,k<7->k'<7->cl k=some r->cl k'=some r->k=k') (Y:∃k r,k<7/\cl k=some r) (fG:(V.map kG).Nodup) (h8:∀r vs,(r,some vs)∈V->∀v∈vs,PR v)
  (hv:∀(k' r:Nat)v vs(w2:World),k'<7->cl k'=some r->(r,some (v::vs))∈V->w2.heap.size=s+1->(∀r,r<s->w2.heap[r]?=wl.heap[r]?)->w2.os=wl.os->dl (nY prog Z w T dd q K lent) (⟨fn,eM o.dst tm (.tuple #[.int .i64 k',v,.bool true]),.inRegion ops rest::k⟩::os) w2 (rV V r vs))
  (he:∀(k' r:Nat)(w2:World),k'<7->cl k'=some r->(r,some [])∈V->w2.heap.size=s+1->(∀r,r<s->w2.heap[r]?=wl.heap[r]?)->w2.os=wl.os->dl (nY prog Z w T dd q K lent) (⟨fn,eM o.dst tm (.tuple #[.int .i64 k',Mt,.bool false]),.inRegion ops rest::k⟩::os) w2 (uu V r)) :
  dl (nY prog Z w T dd q K lent) (⟨123,#[.pointer (some ⟨b,0,none⟩),mp,mp,mp,mp,mp,mp,mp,mp,mp,mp,mp,mp,mp,mp,mp,mp,mp,mp,mp,mp,mp,mp,mp,mp,mp,mp,mp,mp,mp,mp,mp,mp,mp,mp,mp,mp,mp,mp,mp,mp,mp,mp,mp,mp,mp,mp,mp,mp,mp,mp,mp,mp,mp,mp,mp,mp,mp,mp,mp,mp,mp,mp,mp,mp,mp,mp,mp,mp,mp],[.code (ey jt)]⟩::⟨fn,tm,.inRegion ops (i::rest)::k⟩::os) wl V:=by
 show dl _ (⟨_,_,[.code (.seq (.region 0 _ false) (.seq (.seq (.region 1 _ false) (.seq (.region 2 _ false) (.seq (.region 3 _ false) (.seq (.region 4 _ false) (.seq (.region 5 _ false) (.seq (.region 6 _ false) (.region 7 _ false))))))) (.seq (.region 8 _ false) (.block 0 _))))]⟩::_) _ _
 have HC:kb ((∀(k' r:Nat)v vs(w2:World),k'<7->cl k'=some r->(r,some (v::vs))∈V->w2.heap.size=s+1->(∀r,r<s->w2.heap[r]?=wl.heap[r]?)->w2.os=wl.os->dl (nY prog Z w T dd q K lent) (⟨fn,eM o.dst tm (.tuple #[.int .i64 k',v,.bool true]),.inRegion ops rest::k⟩::os) w2 (rV V r vs))/\
  (∀(k' r:Nat)(w2:World),k'<7->cl k'=some r->(r,some [])∈V->w2.heap.size=s+1->(∀r,r<s->w2.heap[r]?=wl.heap[r]?)->w2.os=wl.os->dl (nY prog Z w T dd q K lent) (⟨fn,eM o.dst tm (.tuple #[.int .i64 k',Mt,.bool false]),.inRegion ops rest::k⟩::os) w2 (uu V r))/\
  (∀k r,k<7->cl k=some r->∃vs,(r,some vs)∈V)/\(∀k k' r,k<7->k'<7->cl k=some r->cl k'=some r->k=k')/\(∃k r,k<7/\cl k=some r)/\(V.map kG).Nodup/\(∀r vs,(r,some vs)∈V->∀v∈vs,PR v)):=⟨hv,he,jP,rX,Y,fG,h8⟩
 have HS:kb (s=wl.heap.size/\b<s):=⟨hs,ad⟩;have HB:kb (wl.heap[b]?=some (.cells (mz cl) 125 (0,0))):=hb;clear hv he jP rX Y fG h8 hs ad hb;refine dl.seq ?_;refine iP (by kernel_rfl) rfl (.inl (by simp)) λy0 O U=>?_;have HY:kb (y0.heap=wl.heap/\y0.os=wl.os):=⟨O,U⟩;clear O U;go_wp2;refine gr ?_;obtain⟨O,U⟩:=HY.out;obtain⟨w3,aa⟩:∃w3,w3=y0.alloc (.cells #[.int .i64 0,.int .i64 0,.string ⟨#[]⟩,.bool false,.string ⟨#[]⟩,.string ⟨#[]⟩,.int .i64 0,.int .i64 0] 172):=⟨_,rfl⟩;have ab:y0.heap.size=s:=by rw[O];exact HS.out.1.symm
 have z3:w3.heap.size=s+1:=by rw[aa];simp[ab]
 have o3:∀r,r<s->w3.heap[r]?=wl.heap[r]?:=λr hr=>by
  rw[aa,fY _ _ (by rw[ab];omega),O]
 have g0:w3.heap[s]?=some (.cells #[.int .i64 0,.int .i64 0,.string ⟨#[]⟩,.bool false,.string ⟨#[]⟩,.string ⟨#[]⟩,.int .i64 0,.int .i64 0] 172 (0,0)):=by rw[aa,iF _ _ ab.symm]
 have p3:w3.os=wl.os:=by rw[aa];exact U
 rw[<-aa,ab];clear aa O U ab HY y0;have gb:w3.heap[b]?=some (.cells (mz cl) 125 (0,0)):=by rw[o3 b HS.out.2];exact HB.out
 refine dl.seq ?_;refine iP (by kernel_rfl) rfl (.inl (by simp)) λy0 O U=>?_;have d0:y0.cell? ⟨b,0,none⟩=some (.chan (cl 0)):=by rw[dh (by rw[O];exact gb)];rfl
 have d1:y0.cell? ⟨b,1,none⟩=some (.chan (cl 1)):=by rw[dh (by rw[O];exact gb)];rfl
 have d2:y0.cell? ⟨b,2,none⟩=some (.chan (cl 2)):=by rw[dh (by rw[O];exact gb)];rfl
 have d3:y0.cell? ⟨b,3,none⟩=some (.chan (cl 3)):=by rw[dh (by rw[O];exact gb)];rfl
 have d4:y0.cell? ⟨b,4,none⟩=some (.chan (cl 4)):=by rw[dh (by rw[O];exact gb)];rfl
 have d5:y0.cell? ⟨b,5,none⟩=some (.chan (cl 5)):=by rw[dh (by rw[O];exact gb)];rfl
 have d6:y0.cell? ⟨b,6,none⟩=some (.chan (cl 6)):=by rw[dh (by rw[O];exact gb)];rfl
 have HY:kb (y0.heap=w3.heap/\y0.os=w3.os):=⟨O,U⟩;have HW:kb (w3.heap.size=s+1/\(∀r,r<s->w3.heap[r]?=wl.heap[r]?)/\w3.heap[s]?=some (.cells #[.int .i64 0,.int .i64 0,.string ⟨#[]⟩,.bool false,.string ⟨#[]⟩,.string ⟨#[]⟩,.int .i64 0,.int .i64 0] 172 (0,0))/\w3.os=wl.os):=⟨z3,o3,g0,p3⟩;clear O U z3 o3 g0 p3 gb;go_wp2;refine gr ?_;clear d0 d1 d2 d3 d4 d5 d6;obtain⟨z3,o3,g0,p3⟩:=HW.out;obtain⟨O,U⟩:=HY.out;rw[<-O]at z3 o3 g0;have p3:=U.trans p3;clear O U HY HW;obtain⟨hv,he,jP,rX,Y,fG,h8⟩:=HC.out;refine dl.seq (dl.region ?_);refine dl.select (i:=0) (x0:=8) (x1:=12) (x2:=16) (x3:=20) (x4:=24) (x5:=28) (x6:=32) (z:=Mt) (cl:=cl) rfl rfl (λae w=>by kernel_rfl) (Cb LF) rfl rfl rfl rfl rfl rfl rfl jP rX Y fG (λr vs hr v hv=>Cb (h8 r vs hr v hv)) ?_ ?_
 .intro k' r v vs ac hr hm;have hn:=λ(w2:World) a b c=>hv k' r v vs w2 ac hr hm a b c;obtain⟨v0,v1,v2,v3,v4,v5,v6,v7,rfl⟩:=h8 r _ hm v (bE ..);have HN:kb _:=hn;clear hv he jP rX Y fG h8 HC hn hm HS HB;rcases(by omega:k'=0\/k'=1\/k'=2\/k'=3\/k'=4\/k'=5\/k'=6)with rfl|rfl|rfl|rfl|rfl|rfl|rfl
  all_goals
   rw[gL];simp only[xf,goInt];go_simp
   iterate 8 (refine eQ ?_;go_simp)
   refine dl.inRegion (dl.block ?_)
   repeat refine dl.qu trivial rfl ?_
   refine dl.E1 trivial rfl ?_;apply vz _ (by decide) hi z3 g0 λw2 a b c=>HN.out w2 a (λr hr=>(b r hr).trans (o3 r hr)) (c.trans p3);exact mp
 intro k' r ac hr hm;have hn:=λ(w2:World) a b c=>he k' r w2 ac hr hm a b c;have HN:kb _:=hn;clear hv he jP rX Y fG h8 HC hn hm HS HB;rcases(by omega:k'=0\/k'=1\/k'=2\/k'=3\/k'=4\/k'=5\/k'=6)with rfl|rfl|rfl|rfl|rfl|rfl|rfl
 all_goals
  rw[gL];simp only[xf,goInt,Mt];go_simp
  iterate 8 (refine eQ ?_;go_simp)
  refine dl.inRegion (dl.block ?_)
  repeat refine dl.qu trivial rfl ?_
  refine dl.E1 trivial rfl ?_;apply vz _ (by decide) hi z3 g0 λw2 a b c=>HN.out w2 a (λr hr=>(b r hr).trans (o3 r hr)) (c.trans p3);exact mp
end
end
section
open Go.Conc Go.RowKit Go.Maps
variable {vs:List Value} {k' r:Nat} {a:Option (List Value)} {v:Value} {w2:World}
abbrev Vs:=List (Nat×Option (List Value))
def rQ(V:Vs):List Value:=V.flatMap λx=>x.2.getD []
theorem IK{X Y:Vs}(h:((X++(r,a)::Y).map kG).Nodup):rV (X++(r,a)::Y) r vs=X++(r,some vs)::Y:=by
 rw[b8,bL,bO,bP]at h;obtain⟨h1,⟨U,h3⟩,h4⟩:=h;unfold rV;rw[b8,bL,if_pos rfl];congr 1
 conv=>rhs;rw[<-cH X]
 refine bK λx O=>?_;rw[if_neg λe=>h4 _ (b4.2 ⟨x,O,rfl⟩) r (by simp) e];rfl;congr 1;conv=>rhs;rw[<-cH Y]
 refine bK λx O=>?_;rw[if_neg λe=>U (b4.2 ⟨x,O,e⟩)];rfl
theorem IG{X Y:Vs}(h:((X++(r,a)::Y).map kG).Nodup):uu (X++(r,a)::Y) r=X++Y:=by
 rw[b8,bL,bO,bP]at h;obtain⟨h1,⟨U,h3⟩,h4⟩:=h;unfold uu;rw[bU,cx,if_neg (by simp)];congr 1;rw[cI];intro x O;simpa using λe=>h4 _ (b4.2 ⟨x,O,rfl⟩) r (by simp) e;rw[cI];intro x O;simpa using λe=>U (b4.2 ⟨x,O,e⟩)
theorem rN{V:Vs}(U:(V.map kG).Nodup)(h:(r,some (v::vs))∈V):(rQ V).Perm (v::rQ (rV V r vs))/\(rV V r vs).length=V.length/\(rV V r vs).map kG=V.map kG/\∀x∈rV V r vs,x∈V\/x=(r,some vs):=by
 obtain⟨X,Y,rfl⟩:=cq h;rw[IK U];refine⟨?_,by simp,by simp,?_⟩;unfold rQ;simp only[List.flatMap_append,List.flatMap_cons,Option.getD_some,cQ];exact cr;intro x O;simp only[bA,b9]at O⊢;rcases O with h|h|h
 exact .inl (.inl h);exact .inr h;exact .inl (.inr (.inr h))
theorem zL{V:Vs}(U:(V.map kG).Nodup)(h:(r,some [])∈V):(rQ V).Perm (rQ (uu V r))/\(uu V r).length+1=V.length/\((uu V r).map kG).Nodup/\∀x∈uu V r,x∈V/\x.1≠r:=by
 obtain⟨X,Y,rfl⟩:=cq h;have O:=IG U;refine⟨?_,?_,?_,?_⟩;rw[O];unfold rQ;simp;rw[O];simp;omega;rw[O];refine U.sublist (List.Sublist.map _ ?_);exact List.Sublist.append_left (List.sublist_cons_self ..) X;intro x hx;have:=b7.1 hx;exact⟨this.1,by simpa using this.2⟩
def Met(v:Value):Prop:=∃(a b:Nat)(c:ByteArray)(d:Bool)(e f:ByteArray)(g h:Int),a<4611686018427387904/\b<4611686018427387904/\v=.agg #[.int .i64 (a:Int),.int .i64 (b:Int),.string c,.bool d,.string e,.string f,.int .i64 g,.int .i64 h]
theorem Met.UH(h:Met v):PR v:=by
 obtain⟨a,b,c,d,e,f,g,h,_,_,rfl⟩:=h;exact⟨a,b,c,d,e,f,g,h,rfl⟩
def MZ:Value->Value
 |.agg a=>.agg #[a.getD 0 mp,a.getD 1 mp]|v=>v
theorem Met.key(h:Met v):∃O,keyOf prog 170 (MZ v)=some O:=by
 obtain⟨a,b,c,d,e,f,g,h,U,hb,rfl⟩:=h;exact SJ a b U hb
structure sN(M0:List Value)(H0:Array Obj)(P0:Os)(b mb:Nat)(cl:Nat->Option Nat)(l:List (Value×Value))(V:Vs)(wl:World):Prop where
 hb:wl.heap[b]?=some (.cells (mz cl) 125 (0,0))
 An:b<mb
 hm:iZ prog 170 wl mb l
 jP:∀k r,k<7->cl k=some r->∃vs,(r,some vs)∈V
 fy:∀x∈V,∃k vs,k<7/\cl k=some x.1/\x.2=some vs
 rX:∀k k' r,k<7->k'<7->cl k=some r->cl k'=some r->k=k'
 fG:(V.map kG).Nodup
 eF:(l.map kN++rQ V).Perm M0
 gK:∀p∈l,p.1=MZ p.2
 old:∀r,r<mb->r≠b->wl.heap[r]?=H0[r]?
 os:wl.os=P0
structure NR(M0:List Value):Prop where
 met:∀v∈M0,Met v
 nodup:(M0.map MZ).Nodup
 len:M0.length<dk
variable {M0:List Value} {H0:Array Obj} {P0:Os} {b mb:Nat} {cl:Nat->Option Nat} {l:List (Value×Value)} {V:Vs} {wl:World}
theorem sN.h8(G:NR M0)(I:sN M0 H0 P0 b mb cl l V wl):∀r vs,(r,some vs)∈V->∀v∈vs,Met v:=λr vs h v O=>G.met v (I.eF.mem_iff.1 (cc _ (cP.2 ⟨_,h,O⟩)))
theorem sN.TF(I:sN M0 H0 P0 b mb cl l V wl)(h:V≠[]):∃k r,k<7/\cl k=some r:=by
 cases V with
 |nil=>exact absurd rfl h|cons x V=>
  obtain⟨k,vs,O,U,_⟩:=I.fy x (by simp);exact⟨k,x.1,O,U⟩
theorem sN.fresh(G:NR M0)(I:sN M0 H0 P0 b mb cl l V wl)(h:(r,some (v::vs))∈V):(∀p∈l,p.1≠MZ v)/\l.length<dk:=by
 obtain⟨Y,_⟩:=rN I.fG h;have U:=((I.eF.symm.trans (la _ Y)).map MZ).nodup_iff.1 G.nodup;constructor;intro p O e;rw[b8,bO]at U;exact U.2.2 _ (b4.2 ⟨p.2,b4.2 ⟨p,O,rfl⟩,rfl⟩) _ (by simp) ((I.gK p O).symm.trans e);have:=I.eF.length_eq;have h2:=G.len;simp only[bF,bG]at this;omega
theorem sN.take(I:sN M0 H0 P0 b mb cl l V wl)(h:(r,some (v::vs))∈V)(hm:iZ prog 170 w2 mb (l++[(MZ v,v)]))(hold:∀r,r<mb->w2.heap[r]?=wl.heap[r]?)(ab:w2.os=wl.os) :
  sN M0 H0 P0 b mb cl (l++[(MZ v,v)]) (rV V r vs) w2:=by
 obtain⟨hp,h1,h2,h3⟩:=rN I.fG h
 have O:∀r' vs',(r',some vs')∈V->∃U,(r',some U)∈rV V r vs:=λr' vs' Y=>by
  by_cases e:r'=r;subst e;exact⟨vs,b4.2 ⟨_,h,if_pos rfl⟩⟩;exact⟨vs',b4.2 ⟨_,Y,if_neg e⟩⟩
 refine⟨(hold b I.An).trans I.hb,I.An,hm,λk r' hk hr=>?_,λx hx=>?_,I.rX,by rw[h2];exact I.fG,?_,?_,λr' aa ac=>(hold r' aa).trans (I.old r' aa ac),ab.trans I.os⟩;obtain⟨vs',Y⟩:=I.jP k r' hk hr;exact O r' vs' Y;rcases h3 x hx with Y|rfl
 exact I.fy x Y;obtain⟨k,vs',a,b,_⟩:=I.fy _ h;exact⟨k,vs,a,b,rfl⟩;refine List.Perm.trans ?_ I.eF;rw[b8,cN];exact la _ hp.symm;intro p hp;rcases bA.1 hp with h|h
 exact I.gK p h;simp only[bH]at h;subst h;rfl
def wI(cl:Nat->Option Nat)(k':Nat):Nat->Option Nat:=λk=>if k=k' then none else cl k
theorem Qi(h:k'<7):(mz cl).set! k' (.chan none)=mz (wI cl k'):=by
 rcases(by omega:k'=0\/k'=1\/k'=2\/k'=3\/k'=4\/k'=5\/k'=6)with rfl|rfl|rfl|rfl|rfl|rfl|rfl<;>rfl
theorem sN.ends(I:sN M0 H0 P0 b mb cl l V wl)(ab:k'<7)(hr:cl k'=some r)(h:(r,some [])∈V)(hb:w2.heap[b]?=some (.cells (mz (wI cl k')) 125 (0,0)))(hm:iZ prog 170 w2 mb l)(hold:∀r,r<mb->r≠b->w2.heap[r]?=wl.heap[r]?)(ac:w2.os=wl.os) :
  sN M0 H0 P0 b mb (wI cl k') l (uu V r) w2:=by
 obtain⟨hp,h1,h2,h3⟩:=zL I.fG h
 have U:∀k r',wI cl k' k=some r'->k≠k'/\cl k=some r':=λk r' e=>by
  unfold wI at e;split at e
  cases e;exact⟨by assumption,e⟩
 refine⟨hb,I.An,hm,λk Y hk e=>?_,λx hx=>?_,λk k2 Y a b e1 e2=>I.rX k k2 Y a b (U _ _ e1).2 (U _ _ e2).2,h2,?_,I.gK,λr' aa O=>(hold r' aa O).trans (I.old r' aa O),ac.trans I.os⟩;obtain⟨O,e⟩:=U _ _ e;obtain⟨vs,h'⟩:=I.jP k Y hk e;have:Y≠r:=λe2=>O (I.rX k k' Y hk ab e (e2▸hr));exact⟨vs,b7.2 ⟨h',by simpa using this⟩⟩;obtain⟨ad,O⟩:=h3 x hx;obtain⟨k,vs,a,b,c⟩:=I.fy x ad;refine⟨k,vs,a,?_,c⟩;have:k≠k':=λe=>O (by rw[e,hr]at b;exact(kW b).symm);unfold wI;rw[if_neg this];exact b;exact(la _ hp.symm).trans I.eF
end
section
open Go.Conc Go.RowKit Go.Maps
variable {ops:Array Oper} {d:Code} {n:Int} {kk:List Item} {rest:List Nat} {cl:Nat->Option Nat} {o:Oper} {a10 a11 a12 a15 a16 a17 a18 a19 a2 a20 a21 a22 a23 a24 a25 a26 a27 a28 a29 a3 a4 a6 a7 a8 a9:Value}
def GG(c:Code):Code:=match c with
 |.seq _ (.seq _ (.seq (.block _ (.loop x)) _))=>x|_=>.skip
def TQ(c:Code):Code:=match c with
 |.seq _ (.seq _ (.seq _ y))=>y|_=>.skip
theorem L7:jt.name≠ "runtime.NumGoroutine":=by
 decide
section
variable {P:Program} {E:Env P} {fn:dt} {tm:Array Value} {os:List OF} {wl:World} {V:List (Nat×Option (List Value))} {k:List Item}
theorem lO{x:Item}(h:∀kk,kb (kk=k)->dl E (⟨fn,tm,x::kk⟩::os) wl V):dl E (⟨fn,tm,x::k⟩::os) wl V:=h k rfl
theorem dl.sc{c:Code}(h:∀kk,kb (kk=.code d::k)->dl E (⟨fn,tm,.code c::kk⟩::os) wl V):dl E (⟨fn,tm,.code (.seq c d)::k⟩::os) wl V:=dl.seq (h _ rfl)
theorem dl.sr{id:Nat}(h:∀kk,kb (kk=.code d::k)->dl E (⟨fn,tm,.inRegion ops (cn ops.size)::kk⟩::os) wl V):dl E (⟨fn,tm,.code (.seq (.region id ops false) d)::k⟩::os) wl V:=dl.seq (dl.region (h _ rfl))
theorem dl.ie(O:kb (kk=k))(h:dl E (⟨fn,tm,k⟩::os) wl V):dl E (⟨fn,tm,.inRegion ops []::kk⟩::os) wl V:=by
 rw[O.out];exact dl.inRegion h
theorem dl.qK{i:Nat}{f:dt}{gO:Func}{c:Code}{xs:Array Operand}{ts:Array ef}(Y:Array Value)(hi:ops[i]?=some o)(O:kd o (ee ops tm)=true)(hf:P.funcs[f]?=some gO)(hb:gO.body=some c)(hn:gO.name≠ "runtime.NumGoroutine") (ho:o.op=.call {callee:=.value (.func f),args:=xs,argTypes:=ts}) (U:∀x∈xs.toList,dP E.fw E.gl x)
  (ha:xs.map (iS tm)++da (gO.ntmps-xs.size) mp=Y) (h:dl E (⟨f,Y,[.code c]⟩::⟨fn,tm,.inRegion ops (i::rest)::k⟩::os) wl V):dl E (⟨fn,tm,.inRegion ops (i::rest)::k⟩::os) wl V:=
 dl.outer hi O hf hb hn ho U (by rw[ha];exact h)
end
section
variable {Z:jN prog} {w:World} {T:List Frame} {dd q K:Nat} {lent:Bool} {fn:dt} {tm:Array Value} {os:List OF} {k:List Item} {M0:List Value} {H0:Array Obj} {P0:Os} {b mb:Nat}
def Td(Z:jN prog)(w:World)(T:List Frame)(dd q K:Nat)(lent:Bool)(M0:List Value)(H0:Array Obj)(P0:Os)(b mb:Nat)(f:Value->List OF):Prop:=∀(w2:World)(l:List (Value×Value)),(l.map kN).Perm M0->(∀p∈l,p.1=MZ p.2)->iZ prog 170 w2 mb l->(∀r,r<mb->r≠b->w2.heap[r]?=H0[r]?)->w2.os=P0->dl (nY prog Z w T dd q K lent) (f (.map (some mb))) w2 []
def Vg(c:Code):Array Oper:=match c with
 |.seq _ (.block _ (.seq (.region _ ops _) _))=>ops|_=>#[]
theorem xY{wP:Bool}{V:Vs}{wl:World}{ac:List OF}{s:Nat}{k':Int}{v0 v1:Int}{v2:ByteArray}{v3:Bool}{v4 v5:ByteArray}{v6 v7:Int}(z:wl.heap.size=s)
  (hn:∀w2:World,w2.heap.size=s+1->(∀r,r<s->w2.heap[r]?=wl.heap[r]?)->w2.heap[s]?=some (.cells #[.int .i64 v0,.int .i64 v1,.string v2,.bool v3,.string v4,.string v5,.int .i64 v6,.int .i64 v7] 172 (0,0))->w2.os=wl.os->dl (nY prog Z w T dd q K lent) (⟨82,#[.pointer (some ⟨b,0,none⟩),.int .i64 n,a2,a3,a4,.map (some mb),.int .i64 k',.pointer (some ⟨s,0,none⟩),.bool wP,a9,a10,a11,.tuple #[.int .i64 k',.agg #[.int .i64 v0,.int .i64 v1,.string v2,.bool v3,.string v4,.string v5,.int .i64 v6,.int .i64 v7],.bool wP],.pointer (some ⟨b,0,none⟩),.tuple #[.int .i64 k',.agg #[.int .i64 v0,.int .i64 v1,.string v2,.bool v3,.string v4,.string v5,.int .i64 v6,.int .i64 v7],.bool wP],.int .i64 k',.agg #[.int .i64 v0,.int .i64 v1,.string v2,.bool v3,.string v4,.string v5,.int .i64 v6,.int .i64 v7],.bool wP,a18,a19,a20,a21,a22,a23,a24,a25,a26,a27,a28,a29],kk⟩::ac) w2 V) :
  dl (nY prog Z w T dd q K lent) (⟨82,#[.pointer (some ⟨b,0,none⟩),.int .i64 n,a2,a3,a4,.map (some mb),a6,a7,a8,a9,a10,a11,a12,.pointer (some ⟨b,0,none⟩),.tuple #[.int .i64 k',.agg #[.int .i64 v0,.int .i64 v1,.string v2,.bool v3,.string v4,.string v5,.int .i64 v6,.int .i64 v7],.bool wP],a15,a16,a17,a18,a19,a20,a21,a22,a23,a24,a25,a26,a27,a28,a29],.inRegion (Vg (GG (ey i'))) [2,3,4,5,6,7,8,9]::kk⟩::ac) wl V:=by
 have HN:kb _:=hn;clear hn;have HZ:kb (wl.heap.size=s):=z;clear z;show dl _ (⟨_,_,.inRegion #[_,_,_,_,_,_,_,_,_,_] _::_⟩::_) _ _
 (iterate 4 (refine eQ ?_;go_simp));refine lQ rfl (by rfl) (by kernel_rfl) λO Y U=>?_;have HY:kb (O.heap=wl.heap/\O.os=wl.os):=⟨Y,U⟩;clear Y U;unfold gm;go_simp;simp only[iK];obtain⟨Y,U⟩:=HY.out;obtain⟨w5,aa⟩:∃w5,w5=O.alloc (.cells #[.int .i64 0,.int .i64 0,.string ⟨#[]⟩,.bool false,.string ⟨#[]⟩,.string ⟨#[]⟩,.int .i64 0,.int .i64 0] 172):=⟨_,rfl⟩;have ab:O.heap.size=s:=by rw[Y];exact HZ.out
 have z5:w5.heap.size=s+1:=by rw[aa];simp[ab]
 have o5:∀r,r<s->w5.heap[r]?=wl.heap[r]?:=λr hr=>by rw[aa,fY _ _ (by rw[ab];exact hr),Y]
 have g5:w5.heap[s]?=some (.cells #[.int .i64 0,.int .i64 0,.string ⟨#[]⟩,.bool false,.string ⟨#[]⟩,.string ⟨#[]⟩,.int .i64 0,.int .i64 0] 172 (0,0)):=by rw[aa,iF _ _ ab.symm]
 have p5:w5.os=wl.os:=by rw[aa];exact U
 rw[<-aa,ab];clear aa Y U HY ab O;have HW:kb (w5.heap.size=s+1/\(∀r,r<s->w5.heap[r]?=wl.heap[r]?)/\w5.heap[s]?=some (.cells #[.int .i64 0,.int .i64 0,.string ⟨#[]⟩,.bool false,.string ⟨#[]⟩,.string ⟨#[]⟩,.int .i64 0,.int .i64 0] 172 (0,0))/\w5.os=wl.os):=⟨z5,o5,g5,p5⟩;clear z5 o5 g5 p5
 (refine eQ ?_;go_simp);refine lQ rfl (by rfl) (by kernel_rfl) λO Y U=>?_;obtain⟨z5,o5,g5,p5⟩:=HW.out;rw[<-Y]at z5 o5 g5;have p5:=U.trans p5;have g1:=g5;clear Y U HW g5;have e0:O.cell? ⟨s,0,none⟩=some (.int .i64 0):=by rw[dh g1];rfl
 have f0:O.frozen? ⟨s,0,none⟩=false:=dI g1 0;have e1:O.cell? ⟨s,1,none⟩=some (.int .i64 0):=by rw[dh g1];rfl
 have f1:O.frozen? ⟨s,1,none⟩=false:=dI g1 1;have e2:O.cell? ⟨s,2,none⟩=some (.string ⟨#[]⟩):=by rw[dh g1];rfl
 have f2:O.frozen? ⟨s,2,none⟩=false:=dI g1 2;have e3:O.cell? ⟨s,3,none⟩=some (.bool false):=by rw[dh g1];rfl
 have f3:O.frozen? ⟨s,3,none⟩=false:=dI g1 3;have e4:O.cell? ⟨s,4,none⟩=some (.string ⟨#[]⟩):=by rw[dh g1];rfl
 have f4:O.frozen? ⟨s,4,none⟩=false:=dI g1 4;have e5:O.cell? ⟨s,5,none⟩=some (.string ⟨#[]⟩):=by rw[dh g1];rfl
 have f5:O.frozen? ⟨s,5,none⟩=false:=dI g1 5;have e6:O.cell? ⟨s,6,none⟩=some (.int .i64 0):=by rw[dh g1];rfl
 have f6:O.frozen? ⟨s,6,none⟩=false:=dI g1 6;have e7:O.cell? ⟨s,7,none⟩=some (.int .i64 0):=by rw[dh g1];rfl
 have f7:O.frozen? ⟨s,7,none⟩=false:=dI g1 7;have HY:kb (O.heap.size=s+1/\(∀r,r<s->O.heap[r]?=wl.heap[r]?)/\O.os=wl.os):=⟨z5,o5,p5⟩;have HG:kb _:=g1;clear z5 o5 p5 g1;unfold gm;go_simp;simp only[iK];clear e0 e1 e2 e3 e4 e5 e6 e7 f0 f1 f2 f3 f4 f5 f6 f7;obtain⟨z5,o5,p5⟩:=HY.out;obtain⟨w2,hw2⟩:∃w2,w2=tC O s (.int .i64 v0) (.int .i64 v1) (.string v2) (.bool v3) (.string v4) (.string v5) (.int .i64 v6) (.int .i64 v7):=⟨_,rfl⟩;have z1:w2.heap.size=s+1:=by rw[hw2,vh];exact z5
 have o1:∀r,r<s->w2.heap[r]?=wl.heap[r]?:=λr hr=>by rw[hw2,zY _ _ _ _ _ _ _ _ _ (by omega)];exact o5 r hr
 have g1:w2.heap[s]?=some (.cells #[.int .i64 v0,.int .i64 v1,.string v2,.bool v3,.string v4,.string v5,.int .i64 v6,.int .i64 v7] 172 (0,0)):=by rw[hw2];exact zQ HG.out
 have p1:w2.os=wl.os:=by rw[hw2,Cw];exact p5
 unfold tC at hw2;rw[<-hw2];clear hw2 HG HY z5 o5 p5;have HN:=HN.out w2 z1 o1 g1 p1;have HN:kb _:=HN;clear z1 o1 g1 p1
 (refine eQ ?_;go_simp);exact dl.inRegion HN.out
set_option linter.unusedVariables false in
theorem wJ{i:Nat}{wl:World}{V:Vs}{l:List (Value×Value)}{Y aa:Value}(I:sN M0 H0 P0 b mb cl l V wl)(hV:V=[])(hn:n=V.length)(hi:ops[i]?=some o)(O:Td Z w T dd q K lent M0 H0 P0 b mb λv=>⟨fn,eM o.dst tm v,.inRegion ops rest::k⟩::os) :
  dl (nY prog Z w T dd q K lent) (⟨82,#[.pointer (some ⟨b,0,none⟩),.int .i64 n,a2,a3,a4,.map (some mb),a6,a7,a8,a9,a10,a11,a12,Y,aa,a15,a16,a17,a18,a19,a20,a21,a22,a23,a24,a25,a26,a27,a28,a29],[.code (GG (ey i')),.inLoop (GG (ey i')),.inBlock 0,.code (TQ (ey i'))]⟩::⟨fn,tm,.inRegion ops (i::rest)::k⟩::os) wl V:=by
 subst hV;have hp:¬(0<n):=by rw[hn];simp
 have HN:kb (n=0):=hn;clear hn;have U:kb _:=I;have HE:kb _:=O;clear I O;show dl _ (⟨_,_,[.code (.seq (.seq _ _) _),.inLoop _,.inBlock 0,.code _]⟩::_) ..;refine dl.sc λkk HK=>?_;refine dl.seq (dl.region ?_)
 (iterate 2 (refine eQ ?_;go_simp));refine dl.inRegion ?_;refine dl.qu trivial rfl ?_;rw[HK.out];refine dl.exit (k':=[.code _]) rfl ?_;refine dl.seq (dl.region ?_)
 (iterate 2 (refine eQ ?_;go_simp));refine dl.inRegion ?_;refine dl.back (v:=.map (some mb)) (.inr ⟨_,rfl⟩) func82 hi (λτ=>by simp[er,results82,go_sem]) ?_;have hp:=U.out.eF;simp only[rQ,List.flatMap_nil,cA]at hp;exact HE.out wl l hp U.out.gK U.out.hm U.out.old U.out.os
set_option linter.unusedVariables false in
theorem E7{i:Nat}(G:NR M0)(hi:ops[i]?=some o)(ad:Td Z w T dd q K lent M0 H0 P0 b mb λv=>⟨fn,eM o.dst tm v,.inRegion ops rest::k⟩::os) :
  ∀(N:Nat)(wl:World)(V:Vs)(cl:Nat->Option Nat)(l:List (Value×Value))(a2 a3 a4 a6 a7 a8 a9 a10 a11 a12 ak al a15 a16 a17 a18 a19 a20 a21 a22 a23 a24 a25 a26 a27 a28 a29:Value)(n:Int),(rQ V).length+V.length<=N->n=V.length->V.length<=1000->sN M0 H0 P0 b mb cl l V wl->
  dl (nY prog Z w T dd q K lent) (⟨82,#[.pointer (some ⟨b,0,none⟩),.int .i64 n,a2,a3,a4,.map (some mb),a6,a7,a8,a9,a10,a11,a12,ak,al,a15,a16,a17,a18,a19,a20,a21,a22,a23,a24,a25,a26,a27,a28,a29],[.code (GG (ey i')),.inLoop (GG (ey i')),.inBlock 0,.code (TQ (ey i'))]⟩::⟨fn,tm,.inRegion ops (i::rest)::k⟩::os) wl V:=by
 intro N;induction N with
 |zero=>
  intro wl V cl l a2 a3 a4 a6 a7 a8 a9 a10 a11 a12 ak al a15 a16 a17 a18 a19 a20 a21 a22 a23 a24 a25 a26 a27 a28 a29 n hN hn hB I;have hV:V=[]:=cy (by omega);exact wJ I hV hn hi ad
 |succ N ih=>
  intro wl V cl l a2 a3 a4 a6 a7 a8 a9 a10 a11 a12 ak al a15 a16 a17 a18 a19 a20 a21 a22 a23 a24 a25 a26 a27 a28 a29 n hN hn hB I;by_cases hV:V=[]
  .exact wJ I hV hn hi ad
  have hp:0<n:=by rw[hn];exact Int.natCast_pos.2 (List.length_pos_iff.2 hV)
  have HI:kb ((rQ V).length+V.length<=N+1/\n=V.length/\sN M0 H0 P0 b mb cl l V wl/\V≠[]/\0<n/\V.length<=1000):=⟨hN,hn,I,hV,hp,hB⟩;have IH:kb _:=ih;have HE:kb _:=ad;clear hN hn I hV ih ad hB;show dl _ (⟨_,_,[.code (.seq (.seq (.region 2 _ false) (.cond _ .skip (.exit 0))) (.block 1 (.seq (.region 3 _ false) (.seq (.seq (.region 4 _ false) (.cond _ (.seq (.region 5 _ false) (.exit 1)) .skip)) (.seq (.region 6 _ false) (.region 7 _ false)))))),.inLoop _,.inBlock 0,_]⟩::_) _ _;refine dl.sc λkk U=>?_;refine dl.seq (dl.region ?_)
  (iterate 2 (refine eQ ?_;go_simp));refine dl.inRegion ?_;refine dl.E1 trivial rfl (dl.skip ?_);clear hp;rw[U.out];clear U kk;refine dl.block (dl.sr λkk U=>?_)
  (refine eQ ?_;go_simp);obtain⟨hN,hn,I,hV,hp,hB⟩:=HI.out;refine dl.qK #[.pointer (some ⟨b,0,none⟩),mp,mp,mp,mp,mp,mp,mp,mp,mp,mp,mp,mp,mp,mp,mp,mp,mp,mp,mp,mp,mp,mp,mp,mp,mp,mp,mp,mp,mp,mp,mp,mp,mp,mp,mp,mp,mp,mp,mp,mp,mp,mp,mp,mp,mp,mp,mp,mp,mp,mp,mp,mp,mp,mp,mp,mp,mp,mp,mp,mp,mp,mp,mp,mp,mp,mp,mp,mp,mp] (i:=1) (gO:=jt) (c:=ey jt) rfl rfl func123 (by kernel_rfl) L7 rfl (by simp[dP]) (by kernel_rfl) ?_;refine KP b wl.heap.size rfl (fs I.An I.hm.lt) rfl I.hb I.jP I.rX (I.TF hV) I.fG (λr vs h v hv=>(I.h8 G r vs h v hv).UH) ?_ ?_
  .intro k' r v vs w2 am hr hm z2 o2 p2;obtain⟨v0,v1,v2,v3,v4,v5,v6,v7,ha,hb,hv⟩:=I.h8 G r _ hm v (bE ..);obtain⟨kl,af⟩:=(I.h8 G r _ hm v (bE ..)).key;obtain⟨ag,ah⟩:=I.fresh G hm;have hT:=λ(w3:World) a b c=>I.take hm (w2:=w3) a b c;have hL:=(rN I.fG hm).1.length_eq;have ab:=(rN I.fG hm).2.1;have ai:iZ prog 170 w2 mb l:=I.hm.stay (o2 mb I.hm.lt);have ac:=I.hm.lt;have An:=I.An;subst hv;obtain⟨s,hs⟩:∃s,s=wl.heap.size+1:=⟨_,rfl⟩;rw[<-hs]at z2;have ac:mb<s:=by omega
   clear hs;have HA:kb _:=(And.intro hT (And.intro hL (And.intro ab (And.intro af (And.intro ag (And.intro ah (And.intro o2 (And.intro p2 (And.intro ac An)))))))));have HM:kb (iZ _ _ _ _ _):=ai;clear hT hL ab af ag ah o2 p2 hm hr I ai An ac hn hp hV hN hB;rw[gL];go_simp;refine xY z2 λw3 z3 o3 g3 p3=>?_;have HW:kb _:=And.intro z3 (And.intro o3 p3);have HG:kb _:=g3;clear z3 o3 p3 g3 z2;rw[U.out];refine dl.seq (dl.seq ?_);clear U kk;refine lO λkk U=>?_;refine dl.region ?_
   (refine eQ ?_;go_simp);refine dl.ie U ?_;clear U kk;refine dl.E1 trivial rfl (dl.sc λkk U=>?_);refine iP (by kernel_rfl) (by rw[U.out];rfl) (.inl (by simp)) λO Y aa=>?_;have g1:=HG.out;rw[<-Y]at g1;have e0:O.cell? ⟨s,0,none⟩=some (.int .i64 (v0:Int)):=by rw[dh g1];rfl
   have f0:O.frozen? ⟨s,0,none⟩=false:=dI g1 0;have e1:O.cell? ⟨s,1,none⟩=some (.int .i64 (v1:Int)):=by rw[dh g1];rfl
   have f1:O.frozen? ⟨s,1,none⟩=false:=dI g1 1;have e2:O.cell? ⟨s,2,none⟩=some (.string v2):=by rw[dh g1];rfl
   have f2:O.frozen? ⟨s,2,none⟩=false:=dI g1 2;have e3:O.cell? ⟨s,3,none⟩=some (.bool v3):=by rw[dh g1];rfl
   have f3:O.frozen? ⟨s,3,none⟩=false:=dI g1 3;have e4:O.cell? ⟨s,4,none⟩=some (.string v4):=by rw[dh g1];rfl
   have f4:O.frozen? ⟨s,4,none⟩=false:=dI g1 4;have e5:O.cell? ⟨s,5,none⟩=some (.string v5):=by rw[dh g1];rfl
   have f5:O.frozen? ⟨s,5,none⟩=false:=dI g1 5;have e6:O.cell? ⟨s,6,none⟩=some (.int .i64 v6):=by rw[dh g1];rfl
   have f6:O.frozen? ⟨s,6,none⟩=false:=dI g1 6;have e7:O.cell? ⟨s,7,none⟩=some (.int .i64 v7):=by rw[dh g1];rfl
   have f7:O.frozen? ⟨s,7,none⟩=false:=dI g1 7;have an:iZ prog 170 O mb l:=HM.out.stay (by rw[Y];exact HW.out.2.1 mb HA.out.2.2.2.2.2.2.2.2.1);have af:=HA.out.2.2.2.1;have ag:=HA.out.2.2.2.2.1;have ah:=HA.out.2.2.2.2.2.1;have HY:kb (O.heap=w3.heap/\O.os=w3.os):=⟨Y,aa⟩;have H1:kb _:=an;have H2:kb _:=af;have H3:kb _:=ag;have H4:kb _:=ah;clear Y aa g1 an af ag ah;go_wp2_with (first|(at_mapUpdate;refine FG _ rfl _ _ _ 129 rfl 172 Dj hW rfl H1.out H4.out H2.out H3.out rfl _ rfl ?_;intro w4 au ao aw));refine gr ?_;rw[U.out];clear U e0 e1 e2 e3 e4 e5 e6 e7 f0 f1 f2 f3 f4 f5 f6 f7;refine dl.exit (k':=[.inLoop _,.inBlock 0,.code _]) rfl (dl.inLoop ?_);obtain⟨hT,hL,ab,af,ag,ah,o2,p2,ac,An⟩:=HA.out;obtain⟨hN,hn,I,hV,hp,hB⟩:=HI.out;obtain⟨Y,aa⟩:=HY.out;obtain⟨z3,o3,p3⟩:=HW.out;refine IH.out w4 (rV V r vs) cl _ _ _ _ _ _ _ _ _ _ _ _ _ _ _ _ _ _ _ _ _ _ _ _ _ _ _ _ n ?_ ?_ (by rw[ab];exact hB) (hT w4 au (λr' ap=>?_) ?_);simp only[cw]at hL;rw[ab];omega;rw[ab];exact hn;rw[ao.block r' (by rw[Y,z3];omega) (by simp;omega),Y,o3 r' (by omega),o2 r' (fs ap I.hm.lt)];rw[ao.os,aa,p3,p2]
  intro k' r w2 am hr hm z2 o2 p2;have hE:=λ(w3:World) a b c d=>I.ends am hr hm (w2:=w3) a b c d;have hL:=(zL I.fG hm).1.length_eq;have ab:=(zL I.fG hm).2.1;have ai:iZ prog 170 w2 mb l:=I.hm.stay (o2 mb I.hm.lt);have ac:=I.hm.lt;have An:=I.An;have aq:w2.heap[b]?=some (.cells (mz cl) 125 (0,0)):=(o2 b (by omega)).trans I.hb;obtain⟨s,hs⟩:∃s,s=wl.heap.size+1:=⟨_,rfl⟩;rw[<-hs]at z2;have ae:mb<s:=by omega
  clear hs;have HA:kb _:=And.intro hE (And.intro hL (And.intro ab (And.intro o2 (And.intro p2 (And.intro ae (And.intro An ac))))));have HM:kb (iZ _ _ _ _ _):=ai;have HB:kb (w2.heap[b]?=some (.cells (mz cl) 125 (0,0))):=aq;clear hE hL ab o2 p2 hm hr I ai An ac ae hn hp hV hN hB aq;rw[gL];simp only[Mt];go_simp;refine xY z2 λw3 z3 o3 g3 p3=>?_;have HW:kb _:=And.intro z3 (And.intro o3 p3);clear z3 o3 p3 g3 z2;rw[U.out];refine dl.seq (dl.seq ?_);clear U kk;refine lO λkk U=>?_;refine dl.region ?_
  (refine eQ ?_;go_simp);refine dl.ie U ?_;clear U kk;refine dl.qu trivial rfl (dl.skip (dl.sc λkk U=>?_));refine iP (by kernel_rfl) (by rw[U.out];rfl) (.inl (by simp)) λO Y aa=>?_;have gb:O.heap[b]?=some (.cells (mz cl) 125 (0,0)):=by rw[Y,HW.out.2.1 b (by have:=HA.out;omega)];exact HB.out
  have e0:O.cell? ⟨b,k',none⟩=some (.chan (cl k')):=by
   rw[dh gb];rcases(by omega:k'=0\/k'=1\/k'=2\/k'=3\/k'=4\/k'=5\/k'=6)with rfl|rfl|rfl|rfl|rfl|rfl|rfl<;>rfl
  have f0:O.frozen? ⟨b,k',none⟩=false:=dI gb k';have HY:kb (O.heap=w3.heap/\O.os=w3.os):=⟨Y,aa⟩;have HG:kb _:=gb;clear Y aa gb;go_wp2;refine gr ?_;clear e0 f0;obtain⟨w4,aj⟩:∃w4,w4=O.setCell ⟨b,k',none⟩ (.chan none):=⟨_,rfl⟩;have g4:w4.heap[b]?=some (.cells (mz (wI cl k')) 125 (0,0)):=by rw[aj,heap_set HG.out k' (.chan none),<-Qi am];simp only[cZ]
  have o4:∀r,r≠b->w4.heap[r]?=w3.heap[r]?:=λr hr=>by rw[aj,ez _ _ _ _ hr,HY.out.1]
  have p4:w4.os=w3.os:=by rw[aj,pP];exact HY.out.2
  rw[<-aj];clear aj HG HY O;have HG:kb _:=And.intro g4 (And.intro o4 p4);clear g4 o4 p4;rw[U.out];clear U kk;refine lO λkk U=>?_;refine dl.region ?_;have h1 : -9223372036854775808<=n-1:=by have:=HI.out.2.2.2.2.1;omega
  have h2:n-1<=9223372036854775807:=by have:=HI.out.2.1;have:=HI.out.2.2.2.2.2;omega
  (iterate 3 (refine eQ ?_;go_simp));refine dl.ie U ?_;have ar:IntKind.i64.wrap (n-1)=n-1:=by simp only[lp];omega
  rw[ar];clear U h1 h2 ar;refine dl.inBlock (dl.inLoop ?_);obtain⟨hE,hL,ab,o2,p2,ae,An,ac⟩:=HA.out;obtain⟨hN,hn,I,hV,hp,hB⟩:=HI.out;obtain⟨g4,o4,p4⟩:=HG.out;obtain⟨z3,o3,p3⟩:=HW.out;refine IH.out w4 (uu V r) (wI cl k') l _ _ _ _ _ _ _ _ _ _ _ _ _ _ _ _ _ _ _ _ _ _ _ _ _ _ _ (n-1) ?_ ?_ (by omega) (hE w4 g4 (HM.out.stay ?_) (λr' ap av=>?_) ?_);omega;rw[hn];omega;rw[o4 mb (by omega),o3 mb ae];rw[o4 r' av,o3 r' (by omega),o2 r' (by omega)];rw[p4,p3,p2]
theorem FA{i:Nat}{wl:World}{V:Vs}(hi:ops[i]?=some o)(G:NR M0)(Y:mb=wl.heap.size)(An:b<mb)
  (hb:wl.heap[b]?=some (.cells (mz cl) 125 (0,0))) (jP:∀k r,k<7->cl k=some r->∃vs,(r,some vs)∈V) (fy:∀x∈V,∃k vs,k<7/\cl k=some x.1/\x.2=some vs) (rX:∀k k' r,k<7->k'<7->cl k=some r->cl k'=some r->k=k') (fG:(V.map kG).Nodup) (hB:V.length<=1000) (hM:rQ V=M0)
  (ab:Td Z w T dd q K lent M0 wl.heap wl.os b mb λv=>⟨fn,eM o.dst tm v,.inRegion ops rest::k⟩::os) :
  dl (nY prog Z w T dd q K lent) (⟨82,#[.pointer (some ⟨b,0,none⟩),.int .i64 (V.length:Int),mp,mp,mp,mp,mp,mp,mp,mp,mp,mp,mp,mp,mp,mp,mp,mp,mp,mp,mp,mp,mp,mp,mp,mp,mp,mp,mp,mp],[.code (ey i')]⟩::⟨fn,tm,.inRegion ops (i::rest)::k⟩::os) wl V:=by
 have HL:=E7 G hi ab;obtain⟨n,hn⟩:∃n:Int,n=V.length:=⟨_,rfl⟩;have HA:kb _:=And.intro hb (And.intro jP (And.intro fy (And.intro rX (And.intro fG (And.intro hB (And.intro hM (And.intro Y (And.intro An hn))))))));have HL:kb _:=HL;rw[<-hn];clear hb jP fy rX fG hB hM Y ab hn An;refine dl.sr λkk HK=>?_
 (refine eQ ?_;go_simp);refine dl.ie HK ?_;refine dl.sc λkk HK=>?_;refine iP (by kernel_rfl) (by rw[HK.out];rfl) (.inl (by simp)) λy0 U O=>?_;have HY:kb (y0.heap=wl.heap/\y0.os=wl.os):=⟨U,O⟩;clear U O;have ad:=@kc prog;go_wp2;refine gr ?_;rw[HK.out];obtain⟨hb,jP,fy,rX,fG,hB,hM,Y,An,hn⟩:=HA.out;obtain⟨U,O⟩:=HY.out;have hz:y0.heap.size=mb:=by rw[U,Y]
 obtain⟨w2,aa⟩:∃w2,w2=y0.alloc (.map #[] 0):=⟨_,rfl⟩;have ac:iZ prog 170 w2 mb []:=by rw[aa,<-hz];exact iZ.made y0
 have o2:∀r,r<mb->w2.heap[r]?=wl.heap[r]?:=λr hr=>by rw[aa,fY _ _ (by rw[hz];exact hr),U]
 have p2:w2.os=wl.os:=by rw[aa];exact O
 rw[<-aa,hz];refine dl.seq (dl.block (dl.loop ?_));exact HL.out _ w2 V cl [] _ _ _ _ _ _ _ _ _ _ _ _ _ _ _ _ _ _ _ _ _ _ _ _ _ _ _ n (fd _) hn hB ⟨(o2 b An).trans hb,An,ac,jP,fy,rX,fG,by rw[hM];exact .refl _,nofun,λr hr _=>o2 r hr,p2⟩
end
end
section
open Go.RowKit Go.Maps
structure lW where
 wN:Nat
 at':Nat
 name:Wd
 wanted:Bool
 n2:Wd
 tx:Wd
 wt:Int
 tg:Int
def lW.val(m:lW):Value:=.agg #[.int .i64 (m.wN:Int),.int .i64 (m.at':Int),.string ⟨m.name.toArray⟩,.bool m.wanted,.string ⟨m.n2.toArray⟩,.string ⟨m.tx.toArray⟩,.int .i64 m.wt,.int .i64 m.tg]
def lW.kv(m:lW):Value×Value:=(Qe m.wN m.at',m.val)
def lW.MW(m:lW):dq:=⟨m.n2,false,m.tx,m.wt,m.tg⟩
def eK:List lW->Wd->Nat
 |[],_=>0|m::l,x=>if m.name=x then max m.wN (eK l x)else eK l x
theorem we{l m:List lW}(h:l.Perm m)(x:Wd):eK l x=eK m x:=by
 induction h with
 |nil=>rfl|cons a _ O=>simp only[eK,O]|swap a b l=>
  simp only[eK];split<;>split<;>omega
 |trans _ _ U Y=>rw[U,Y]
theorem EJ(l:List lW)(m:lW)(x:Wd):eK (l++[m]) x=if m.name=x then max (eK l x) m.wN else eK l x:=by
 rw[we (cF (l₁:=l) (l₂:=[m]))];show(if m.name=x then max _ (eK l x)else eK l x)=_;split;rw[Nat.max_comm];rfl
theorem uA{n:Nat}:∀(l:List lW)(x:Wd),(∀m∈l,m.wN<=n)->eK l x<=n
 |[],_,_=>fm _
 |m::l,x,h=>by
  have O:=h m (by simp)
  have U:=uA l x (λm hm=>h m (by simp[hm]));simp only[eK];split<;>omega
def dU(all l:List lW):List dq:=(l.filter λm=>m.wanted&&m.wN==eK all m.name).map lW.MW
theorem Gv(all l:List lW)(m:lW):dU all (l++[m])=dU all l++(if(m.wanted&&m.wN==eK all m.name)=true then [m.MW]else []):=by
 unfold dU;rw[bU,b8];rw[cx];split<;>rfl
theorem B4(all l:List lW):(dU all l).length<=l.length:=by unfold dU;rw[bG];exact ce ..
theorem Er{all l m:List lW}(h:l.Perm m):(dU all l).Perm (dU all m):=(h.filter _).map _
def mu(e:dq):List Value:=[.string ⟨e.name.toArray⟩,.string ⟨e.text.toArray⟩,.int .i64 e.dp,.int .i64 e.dA]
def ir(es:List dq):List Value:=es.flatMap mu
theorem Ij(es:List dq)(x:dq):ir (es++[x])=ir es++mu x:=by simp[ir]
theorem Bd:∀(ws:List dq)(i c:Nat)(h:i<ws.length),c<4->(ir ws)[i*4+c]?=(mu ws[i])[c]?:=by
 intro ws;induction ws with
 |nil=>intro i c h;simp at h|cons a l O=>
  intro i c h U;have e:ir (a::l)=mu a++ir l:=by simp[ir]
  rw[e]
  cases i with
  |zero=>rw[List.getElem?_append_left (by simp[mu];omega)];simp|succ i=>
   rw[List.getElem?_append_right (by simp[mu];omega)];have Y:(mu a).length=4:=rfl;rw[Y,show(i+1)*4+c-4=i*4+c by omega,O i c (by simpa using h) U];simp
theorem F9(x:dq):∀v∈mu x,v.oneCell'=true:=by
 intro v O;simp[mu]at O;rcases O with rfl|rfl|rfl|rfl<;>rfl
theorem KT(l:List (Wd×Value)){x y:Wd}(e:y≠x):(l.filter λp=>p.1 != x).find? (λp=>p.1==y)=l.find? (λp=>p.1==y):=by
 induction l with
 |nil=>rfl|cons p l U=>
  rw[cx];by_cases O:p.1=x;rw[if_neg (by simpa using O),bR];have:(p.1==y)=false:=by simpa[O]using λh=>e h.symm
  rw[this];exact U;rw[if_pos (by simpa using O),bR,bR];split;rfl;exact U
theorem LA(l:List (Wd×Value))(x y:Wd)(v z:Value):mF (rp l x v) y z=if y=x then v else mF l y z:=by
 by_cases e:y=x;subst e;unfold mF rp
 have:(l.filter λp=>p.1 != y).find? (λp=>p.1==y)=none:=by
  rw[cL];intro p O;have:=(b7.1 O).2;simpa using this
 rw[cM,this];simp;rw[if_neg e];unfold mF rp
 have U:([(x,v)]).find? (λp=>p.1==y)=none:=by
  rw[cL];intro p O;simp only[bH]at O;subst O;simpa using λh=>e h.symm
 rw[cM,U,Option.or_none,KT l e]
theorem NC(l:List (Wd×Value))(x:Wd)(v:Value):(rp l x v).length<=l.length+1:=by
 unfold rp;rw[bF,cG];have:=ce (λp=>p.1 != x) l;omega
theorem fV.TS{P:Program}{k:ef}{w:World}{B r:Nat}{l rest O:List (Value×Value)}(h:fV P k w B r l rest)(U:rest.Perm O):fV P k w B r l O:=by
 obtain⟨a,b,D,left,cnt,Y,h2,h3⟩:=h;exact⟨(U.map _).nodup_iff.1 a,λp hm=>b p (U.mem_iff.2 hm),D,left,cnt,Y,h2,λkey kl hk=>(h3 key kl hk).trans ⟨λ⟨p,x,y⟩=>⟨p,U.mem_iff.1 x,y⟩,λ⟨p,x,y⟩=>⟨p,U.mem_iff.2 x,y⟩⟩⟩
theorem AF{U O:Type}(f:U->O){l:List U}{p:O}{t:List O}(h:(l.map f).Perm (p::t)):∃m Y,l.Perm (m::Y)/\p=f m/\t.Perm (Y.map f):=by
 obtain⟨m,hm,e⟩:=b4.1 (h.mem_iff.2 (bE ..));obtain⟨a,b,rfl⟩:=cq hm;refine⟨m,a++b,cr,e.symm,?_⟩
 have h1:((a++m::b).map f).Perm (f m::(a++b).map f):=by
  exact cr.map f
 rw[<-e]at h;exact(ld (h.symm.trans h1))
abbrev IJ(w:World)(B:Nat)(ms:List lW):Prop:=iZ prog 170 w B (ms.map lW.kv)
abbrev lN(w:World)(B r:Nat)(ms O:List lW):Prop:=fV prog 170 w B r (ms.map lW.kv) (O.map lW.kv)
section
variable {B:Nat} {ms:List lW} (w:World) {ops:Array Oper} {rest:List Oper} {o:Oper} {a:Act} {Q:Exit->Act->World->Prop}
theorem s4(U:o.guard=none)(m:Operand)(O:o.op=Op.range 129 m)(hm:a.eval m=.map (some B))(h:IJ w B ms)
  (Y:∀w',lN w' B w.heap.size ms ms->w.grownBy w' none->w'.heap.size=w.heap.size+1->et prog ops Q rest (a.put o.dst (.pointer (some ⟨w.heap.size,0,none⟩))) w') :
  et prog ops Q (o::rest) a w:=
 A9 w U m _ O _ Dj hW hm h Y
theorem uh(hg:o.guard=none)(it:Operand)(aa:o.op=Op.next it false)(r:Nat)(U:List lW)(ab:a.eval it=.pointer (some ⟨r,0,none⟩))(h:lN w B r ms U)
  (Y:U=[]->et prog ops Q rest (a.put o.dst (.tuple #[.bool false])) w)
  (hMore:∀(m:lW)(O:List lW)(w':World),U.Perm (m::O)->lN w' B r ms O->w'.rangeLeft B r<w.rangeLeft B r->w.grownBy w' (some r)->w'.heap.size=w.heap.size->(Instr.entry (.pointer (some ⟨r,0,none⟩))).run prog w'=.ok (.tuple #[Qe m.wN m.at',m.val]) w'->
    et prog ops Q rest (a.put o.dst (.tuple #[.bool true,Qe m.wN m.at',m.val])) w') :
  et prog ops Q (o::rest) a w:=by
 refine Dd w hg it aa Dj r _ ab h (λh0=>Y (by simpa using h0)) ?_;intro p ac w' hp hr ad ae hs he;obtain⟨m,l',h1,rfl,h2⟩:=AF _ hp;exact hMore m l' w' h1 (hr.TS h2) ad ae hs he
end
end
section
open Go.RowKit Go.Maps
theorem LL:(prog.info? 96).map (λi=>(i.zero,i.size,i.bytes))=some (some (.agg #[.string ⟨#[]⟩,.string ⟨#[]⟩,.int .i64 0,.int .i64 0]),4,48):=by kernel_rfl
theorem pB{α:Type}{U Y O es:List α}{e:α}(h:(U++Y).Perm es)(hp:Y.Perm (e::O)):((U++[e])++O).Perm es:=by
 refine List.Perm.trans ?_ h;rw[cN];exact(lc U).append hp.symm
theorem wU{w:World}{base e size n:Nat}{v:Value}{xs:List Value}(h:w.ownsRow base e size v n xs)(o:Obj):(w.alloc o).ownsRow base e size v n xs:=ig h (λk O=>by rw[fY _ _ (h.lt k O).2])
theorem AU(x:dq):∀v∈mu x,Flat v:=by
 intro v O;simp[mu]at O;rcases O with rfl|rfl|rfl|rfl
 exact .string _;exact .string _;exact .int ..;exact .int ..
theorem Lj:∀u∈(Value.agg #[.string ⟨#[]⟩,.string ⟨#[]⟩,.int .i64 0,.int .i64 0]).cells.toList,Flat u:=by
 intro v O;simp[Value.cells]at O;rcases O with rfl|rfl
 exact .string _;exact .int ..
theorem Oy{w:World}{b:Nat}{e:dq}{t:ef}(hb:b=w.heap.size):tj (w.alloc (.cells #[.string ⟨e.name.toArray⟩,.string ⟨e.text.toArray⟩,.int .i64 e.dp,.int .i64 e.dA] t)) 4 (.slice (some ⟨b,0,none⟩) 1 1) 1 (mu e):=by
 refine⟨some _,1,rfl,fd _,by unfold dk;omega,rfl,λj u O=>⟨b,0,rfl,?_⟩⟩;rw[ks _ _ _ _ hb];match j,O with
 |0,O=>simpa[mu]using O|1,O=>simpa[mu]using O|2,O=>simpa[mu]using O|3,O=>simpa[mu]using O|j+4,O=>simp[mu]at O
theorem Dt(B:Nat)(ms:List lW)(w:World)(hs:IJ w B ms)(hl:ms.length<=1048576)(aK:∀m∈ms,m.wN<=1000/\m.name.length<=dk) :
  dr prog 81 #[.map (some B)] w λen w'=>∃v U,en=.returned v/\List.Perm U ms/\w'.ownsRow w.heap.size 96 4 v (dU ms U).length (ir (dU ms U))/\Below w.heap.size w w'/\jM Flat w' v:=by
 obtain⟨i0,hi,aW,aX,aY⟩:=ev LL;have bo:=@kc prog;have HS:kb (IJ _ _ _):=hs;have aC:kb (∀m∈ms,m.wN<=1000/\m.name.length<=dk):=aK;have bp:=hs.lt;obtain⟨w0,ay⟩:∃w0,w.alloc (.map #[] 0)=w0:=⟨_,rfl⟩;have aA:w0.heap.size=w.heap.size+1:=by rw[<-ay];simp
 have hb0:Below w.heap.size w w0:=by rw[<-ay];exact(e8 _ _).alloc (fd _) _
 have hM0:dL prog 9 w0 w.heap.size []:=by rw[<-ay];exact dL.made w
 have aL:kb (IJ w0 B ms):=iZ.below hs hb0;clear hs aK;go_enter func81,ntmps81;go_wp2_with (first|(at_range;refine s4 _ rfl _ rfl rfl aL.out ?_;intro w1 hrg0 hg0 al));rw[aA]at hrg0 al⊢;clear ay;go_frame;go_loopw [4] (λ_ wr=>∃(U ab:List lW)(nl:List (Wd×Value)),(U++ab).Perm ms/\lN wr B (w.heap.size+1) ms ab/\dL prog 9 wr w.heap.size nl/\nl.length<=U.length/\(∀x,mF nl x (.int .i64 0)=.int .i64 (eK U x:Nat))/\Below w.heap.size w wr/\w.heap.size+2<=wr.heap.size) (λ_ wr=>wr.rangeLeft B (w.heap.size+1))
 case atStart=>exact⟨[],ms,[],lc _,hrg0,dL.kept hM0 hg0 (by simp),fd _,λ_=>rfl,hb0.grown hg0 hb0.size (λk hk=>by cases hk),by omega⟩
 case round=>
  obtain⟨U,ab,nl,eF,hr,hm,aZ,aM,hb,hz⟩:=hrel;have HP:kb ((U++ab).Perm ms):=eF;have HR:kb (lN _ _ _ _ _):=hr;have HM:kb (dL _ _ _ _ _):=hm;have az:kb (∀x,mF nl x (.int .i64 0)=.int .i64 (eK U x:Nat)):=aM;have HB:kb (Below _ _ _):=hb
  have aN:U.length<=ms.length:=by
   have h2:=eF.length_eq;rw[bF]at h2;omega
  clear eF hr hb hm aM aL hM0 hb0 aA hrg0 hg0 al;go_wp2_with (first|(at_next;refine uh _ rfl _ rfl (w.heap.size+1) ab rfl HR.out ?_ ?_))
  .intro h0
   have hE:U.Perm ms:=by
    have:=HP.out;rw[h0,cA]at this;exact this
   have ba:kb (∀x,mF nl x (.int .i64 0)=.int .i64 (eK ms x:Nat)):=by
    intro x;rw[az.out x,we hE]
   have aO:kb (IJ wr B ms):=fV.owns HR.out;clear h0 hE HP HR az;go_wp2_with (first|(at_range;refine s4 _ rfl _ rfl rfl aO.out ?_;intro w1 hrg0 hg0 al));have aP:w.heap.size+3<=w1.heap.size:=by omega
   have aQ:wr.heap.size<w1.heap.size:=by omega
   have HB1:kb (Below w.heap.size w w1):=HB.out.grown hg0 HB.out.size (λk hk=>by cases hk);have HM1:kb (dL prog 9 w1 w.heap.size nl):=dL.kept HM.out hg0 (by simp);have HR1:kb (lN _ _ _ _ _):=hrg0;obtain⟨r,hr⟩:∃r,r=wr.heap.size:=⟨_,rfl⟩;rw[<-hr]at HR1 aQ hz al⊢;have bq:w.heap.size+2<=r:=hz;clear hrg0 hg0 aO HM HB aZ aN hz HS;clear hr;generalize wr=wo at *;go_frame;go_loopw [6] (λg wr=>∃(U ab:List lW),(U++ab).Perm ms/\lN wr B r ms ab/\dL prog 9 wr w.heap.size nl/\wr.ownsRow (r+1) 96 4 g (dU ms U).length (ir (dU ms U))/\Below w.heap.size w wr/\r+1<=wr.heap.size/\jM Flat wr g) (λ_ wr=>wr.rangeLeft B r)
   case atStart=>exact⟨[],ms,lc _,HR1.out,HM1.out,kj _ _ _ _,HB1.out,by omega,GW _ _ _ _⟩
   case round=>
    obtain⟨O,am,eF,hr,hm,an,hb,hz,aR⟩:=hrel;have HP:kb ((O++am).Perm ms):=eF;have HR:kb (lN _ _ _ _ _):=hr;have HM:kb (dL _ _ _ _ _):=hm;obtain⟨ag,cg,rfl,br⟩:=jf an;have HO:kb (wr.ownsRow (r+1) 96 4 (.slice ag (dU ms O).length cg) (dU ms O).length (ir (dU ms O))):=an;have HB:kb (Below _ _ _):=hb;have HF:kb (jM Flat wr (.slice ag (dU ms O).length cg)):=aR;clear aR
    have aN:(dU ms O).length<=ms.length:=by
     have h1:=B4 ms O;have h2:=eF.length_eq;rw[bF]at h2;omega
    clear eF hr hb hm an HR1 HM1 HB1 al aP aQ;go_wp2_with (first|(at_next;refine uh _ rfl _ rfl r am rfl HR.out ?_ ?_))
    .intro h0
     have hE:O.Perm ms:=by
      have:=HP.out;rw[h0,cA]at this;exact this
     have HE:kb _:=hE;clear h0 hE HP HR;go_wp2;go_ret;exact⟨_,O,rfl,HE.out,jH HO.out (by omega),HB.out,HF.out⟩
    intro m Y w2 ai ac ae ad aD ao;have ap:=fV.lt ac;have aq:=iZ.lt (fV.owns ac);have HB1:kb (Below w.heap.size w w2):=lM HB.out ad (by omega);have HR1:kb (lN _ _ _ _ _):=ac;have HM1:kb (dL prog 9 w2 w.heap.size nl):=dL.stay HM.out (ad.block _ (by omega) (by simp;omega));have aE:kb (w2.rangeLeft B r<wr.rangeLeft B r):=ae;have ar:kb (am.Perm (m::Y)):=ai;have aF:kb (w2.ownsRow (r+1) 96 4 (.slice ag (dU ms O).length cg) (dU ms O).length (ir (dU ms O))):=ig HO.out (λk hk=>ad.block k (HO.out.lt k hk).2 (by have:=(HO.out.lt k hk).1;intro e;cases e;omega));have bc:kb (jM Flat w2 (.slice ag (dU ms O).length cg)):=HF.out.stay (λk hk=>ad.block k (HO.out.lt k hk).2 (by have:=(HO.out.lt k hk).1;intro e;cases e;omega));have aS:r+1<=w2.heap.size:=by omega
    have au:=aC.out m (HP.out.mem_iff.1 (cc _ (ai.mem_iff.2 (bE ..))));have av:kb _:=Gv ms O m;have a0:kb _:=au;have bs:eK ms m.name<=1000:=uA ms m.name (λm hm=>(aC.out m hm).1);clear ai ac ae ad aD au HR HM HB HO;obtain⟨sg,at',nm,wd,n2,tx,wt,tg⟩:=m;simp only[lW.val,Qe]at ao⊢;obtain⟨wa,af⟩:∃wa,wa=((w2.alloc (.cells #[.int .i64 (sg:Int),.int .i64 (at':Int)] 170)).alloc (.cells #[.int .i64 (sg:Int),.int .i64 (at':Int),.string ⟨nm.toArray⟩,.bool wd,.string ⟨n2.toArray⟩,.string ⟨tx.toArray⟩,.int .i64 wt,.int .i64 tg] 172)):=⟨_,rfl⟩;have aa:Below w2.heap.size w2 wa:=by rw[af];exact(((e8 _ _).alloc (fd _) _).alloc (by simp) _)
    have bt:wa.heap.size=w2.heap.size+2:=by rw[af];simp
    have a5:kb (lN wa B r ms Y):=fV.stay HR1.out (aa.block B aq) (aa.block _ ap);have a':kb (dL prog 9 wa w.heap.size nl):=dL.below HM1.out aa;have aj:kb (wa.ownsRow (r+1) 96 4 (.slice ag (dU ms O).length cg) (dU ms O).length (ir (dU ms O))):=ig aF.out (λk hk=>aa.block k (aF.out.lt k hk).2);have aG:kb (jM Flat wa (.slice ag (dU ms O).length cg)):=bc.out.stay (λk hk=>aa.block k (aF.out.lt k hk).2);have aH:kb (Below w.heap.size w wa):=HB1.out.trans (aa.mono (by omega))
    have HLa:kb (wa.rangeLeft B r<wr.rangeLeft B r):=by
     show _<_;rw[ew.jJ (aa.block B aq) (aa.block _ ap)];exact aE.out
    cases wd with
    |false=>
     have ah:kb (dU ms (O++[⟨sg,at',nm,false,n2,tx,wt,tg⟩])=dU ms O):=by show _=_;rw[av.out];simp
     clear aa;go_wp2;rw[<-af];go_roundw
     case rel=>
      exact⟨O++[⟨sg,at',nm,false,n2,tx,wt,tg⟩],Y,pB HP.out ar.out,a5.out,a'.out,by rw[ah.out];exact aj.out,aH.out,by omega,aG.out⟩
     case measure=>exact HLa.out
    |true=>
     have ak:=(a'.out.look (z:=.int .i64 0) ga gt (by kernel_rfl) nm a0.out.2).1;rw[ba.out nm,af]at ak;by_cases hq:sg=eK ms nm
     .have ah:kb (dU ms (O++[⟨sg,at',nm,true,n2,tx,wt,tg⟩])=dU ms O++[⟨n2,false,tx,wt,tg⟩]):=by show _=_;rw[av.out];simp[hq,lW.MW]
      rw[<-hq]at ak;clear aa hq
      go_wp2_with (first
       |(at_builtin;rw[<-af];refine uU (F:=Flat) _ rfl _ _ 82 rfl (r+1) 96 i0 _ 4 48 i6 hi aW aX aY rfl (by decide) _ _ _ rfl (wU aj.out _) _ 1 _ rfl (Oy (e:=⟨n2,false,tx,wt,tg⟩) (by omega)) (F9 _) ?c1 ?c2 ?c3 (by decide) (aG.out.stay (λk hk=>fY _ _ (aj.out.lt k hk).2)) (AU _) Lj ?_))
      case c1=>omega
      case c2=>unfold dk;omega
      case c3=>first|omega|(simp;omega)
      intro v3 w3 aw ax aB;rw[<-af]at ax;have bn:wa.heap.size<=w3.heap.size:=by have:=ax.size;simp at this;omega
      have hold:∀j,j<wa.heap.size->j<r+1->w3.heap[j]?=wa.heap[j]?:=λj hj bu=>by
       rw[ax.block j (by simp;omega) (λe=>by have:=(aj.out.lt j e.symm).1;omega),fY _ _ hj]
      have aT:B<wa.heap.size:=iZ.lt (fV.owns a5.out);have bd:kb (lN w3 B r ms Y):=fV.stay a5.out (hold B aT (by omega)) (hold r (by omega) (by omega));have be:kb (dL prog 9 w3 w.heap.size nl):=dL.stay a'.out (hold _ (by omega) (by omega))
      have bf:kb (w3.ownsRow (r+1) 96 4 v3 (dU ms (O++[⟨sg,at',nm,true,n2,tx,wt,tg⟩])).length (ir (dU ms (O++[⟨sg,at',nm,true,n2,tx,wt,tg⟩])))):=by
       show w3.ownsRow _ _ _ _ _ _;rw[ah.out,Ij,bF];exact aw
      have bg:kb (Below w.heap.size w w3):=(aH.out.alloc (by omega) _).grown ax (by simp;omega) (λb hb=>by have:=(aj.out.lt b hb).1;omega)
      have HL3:kb (w3.rangeLeft B r<wr.rangeLeft B r):=by
       show _<_;rw[ew.jJ (hold B aT (by omega)) (hold r (by omega) (by omega))];exact HLa.out
      have bh:kb (jM Flat w3 v3):=aB;clear aB aw ax hold ak ao af;go_wp2;go_roundw
      case rel=>
       exact⟨O++[⟨sg,at',nm,true,n2,tx,wt,tg⟩],Y,pB HP.out ar.out,bd.out,be.out,bf.out,bg.out,by omega,bh.out⟩
      case measure=>exact HL3.out
     have ah:kb (dU ms (O++[⟨sg,at',nm,true,n2,tx,wt,tg⟩])=dU ms O):=by show _=_;rw[av.out];simp[hq]
     have bv:¬((sg:Int)=(eK ms nm:Int)):=by omega
     clear aa;go_wp2;rw[<-af];go_roundw
     case rel=>
      exact⟨O++[⟨sg,at',nm,true,n2,tx,wt,tg⟩],Y,pB HP.out ar.out,a5.out,a'.out,by rw[ah.out];exact aj.out,aH.out,by omega,aG.out⟩
     case measure=>exact HLa.out
  intro m Y w2 ai ac ae ad aD ao;have ap:=fV.lt ac;have aq:=iZ.lt (fV.owns ac);have HB1:kb (Below w.heap.size w w2):=lM HB.out ad (by omega);have HR1:kb (lN _ _ _ _ _):=ac;have HM1:kb (dL prog 9 w2 w.heap.size nl):=dL.stay HM.out (ad.block _ (by omega) (by simp));have aE:kb (w2.rangeLeft B (w.heap.size+1)<wr.rangeLeft B (w.heap.size+1)):=ae;have ar:kb (ab.Perm (m::Y)):=ai;have aS:w.heap.size+2<=w2.heap.size:=by omega
  have au:=aC.out m (HP.out.mem_iff.1 (cc _ (ai.mem_iff.2 (bE ..))));have aU:=EJ U m;have av:kb _:=aU;have a0:kb _:=au;clear ai ac ae ad aD aU au;obtain⟨sg,at',nm,wd,n2,tx,wt,tg⟩:=m;simp only[lW.val,Qe]at ao⊢
  have aI:kb (dL prog 9 ((w2.alloc (.cells #[.int .i64 (sg:Int),.int .i64 (at':Int)] 170)).alloc (.cells #[.int .i64 (sg:Int),.int .i64 (at':Int),.string ⟨nm.toArray⟩,.bool wd,.string ⟨n2.toArray⟩,.string ⟨tx.toArray⟩,.int .i64 wt,.int .i64 tg] 172)) w.heap.size nl):=
   dL.below HM1.out (((e8 _ _).alloc (fd _) _).alloc (by simp) _)
  have ak:=(aI.out.look (z:=.int .i64 0) ga gt (by kernel_rfl) nm a0.out.2).1;rw[az.out nm]at ak;go_wp2_with (first|(at_mapUpdate;refine jC _ rfl _ _ _ 179 rfl 3 ga gt rfl aI.out ?c1 nm a0.out.2 rfl _ rfl ?_))
  case c1=>unfold dk;omega
  intro w5 aV aJ bw;have bi:kb _:=aV;have aa:Below w2.heap.size w2 ((w2.alloc (.cells #[.int .i64 (sg:Int),.int .i64 (at':Int)] 170)).alloc (.cells #[.int .i64 (sg:Int),.int .i64 (at':Int),.string ⟨nm.toArray⟩,.bool wd,.string ⟨n2.toArray⟩,.string ⟨tx.toArray⟩,.int .i64 wt,.int .i64 tg] 172)):=(((e8 _ _).alloc (fd _) _).alloc (by simp) _);have hold:∀j,j<w2.heap.size->j≠w.heap.size->w5.heap[j]?=w2.heap[j]?:=λj hj bj=>(aJ.block j (by simp;omega) (by simp;exact λe=>bj e)).trans (aa.block j hj);have bk:kb (lN w5 B (w.heap.size+1) ms Y):=fV.stay HR1.out (hold B aq (by omega)) (hold _ ap (by omega))
  have HL5:kb (w5.rangeLeft B (w.heap.size+1)<wr.rangeLeft B (w.heap.size+1)):=by
   show _<_;rw[ew.jJ (hold B aq (by omega)) (hold _ ap (by omega))];exact aE.out
  have bl:kb (Below w.heap.size w w5):=by
   show Below _ _ _;refine(HB1.out.trans (aa.mono (by omega))).grown aJ (by simp;omega) (λb hb=>?_);cases hb;exact fd _
  have bm:w.heap.size+2<=w5.heap.size:=by omega
  clear ak aJ aV hold aa aI ao;go_wp2;go_roundw
  case rel=>
   refine⟨U++[⟨sg,at',nm,wd,n2,tx,wt,tg⟩],Y,_,pB HP.out ar.out,bk.out,bi.out,?_,λx=>?_,bl.out,bm⟩;have:=NC nl nm (.int .i64 (max (eK U nm:Int) (sg:Int)));rw[bF,cG];omega;rw[LA,av.out x,az.out x];by_cases e:x=nm;subst e;rw[if_pos rfl,if_pos rfl];simp;omega;rw[if_neg e,if_neg (λh=>e h.symm)]
  case measure=>exact HL5.out
end
section
open Go.RowKit Go.Sort D
variable {F cur:Array Value}
theorem Qx(x y:Int):DH x y<0↔x<y:=by
 unfold DH;split;exact⟨λ_=>by assumption,λ_=>by omega⟩;split<;>constructor<;>intro h<;>omega
theorem BS(x y:Int):DH x y=0↔x=y:=by
 unfold DH;split;constructor<;>intro h<;>omega;split<;>constructor<;>intro h<;>omega
theorem SN(x y:dq):ltOf TH x y=true↔dY x y=true:=by
 unfold ltOf TH dY;rw[decide_eq_true_eq];by_cases h:x.dp=y.dp;rw[if_pos h,if_neg (by rw[ky];exact(BS ..).2 h.symm)];by_cases O:dE x=dE y;rw[if_pos O,if_neg (by rw[ky];exact(ry ..).2 O),x9];rw[if_neg O,if_pos (λe=>O ((ry ..).1 e)),x9];rw[if_neg h,if_pos (λe=>h ((BS ..).1 e).symm),Qx];simp
theorem Ch(x y:dq):dY x y=true\/(x.dp=y.dp/\dE x=dE y/\x.name=y.name)\/dY y x=true:=by
 unfold dY;by_cases h:x.dp=y.dp;rw[if_pos h,if_pos h.symm];by_cases U:dE x=dE y;rw[if_pos U,if_pos U.symm];rcases iC .. with O|O|O
 exact .inl O;exact .inr (.inl ⟨h,U,O⟩);exact .inr (.inr O);rw[if_neg U,if_neg (λe=>U e.symm)];rcases iC .. with O|O|O
 exact .inl O;exact absurd O U;exact .inr (.inr O);rw[if_neg h,if_neg (λe=>h e.symm)];simp only[decide_eq_true_eq];omega
theorem Jq{x y z:dq}(h:x.dp=y.dp/\dE x=dE y/\x.name=y.name)(O:dY x z=true):dY y z=true:=by
 unfold dY at *;rw[<-h.1,<-h.2.1,<-h.2.2];exact O
def ul(e:dq):dq:={e with text:=e.text.take 1048576}
theorem Dg{e:dq}(h:e.text.length<=1048576):ul e=e:=by
 unfold ul;rw[cb h]
theorem ET(e:dq):(ul e).text.length<=1048576:=by
 show(e.text.take _).length<=_;rw[ct];omega
def Tk(x y:dq):Int:=TH (ul x) (ul y)
def vg(e:dq):List Value:=mu (ul e)
theorem vc(x y:dq):ltOf Tk x y=true↔dY (ul x) (ul y)=true:=SN ..
theorem Ri:SWO (ltOf Tk) where
 irrefl x:=by
  cases h:ltOf Tk x x with
  |false=>rfl|true=>rw[vc,uk]at h;cases h
 trans x y z h1 h2:=by rw[vc]at *;exact ml h1 h2
 ntrans x y z h1 h2:=by
  cases O:ltOf Tk x z with
  |false=>rfl|true=>
   rw[vc]at O;have n1:¬dY (ul x) (ul y)=true:=by rw[<-vc,h1];simp
   have n2:¬dY (ul y) (ul z)=true:=by rw[<-vc,h2];simp
   rcases Ch (ul x) (ul y)with h|h|h
   exact absurd h n1;exact absurd (Jq h O) n2;exact absurd (ml h O) n2
theorem N7(blk off size:Nat)(w:World):CmpLays prog 84 #[] vg 4 Tk blk off size w:=by
 intro m os O _ x y;refine(El _ _ _ (ET x) (ET y)).mono ?_;rintro e w' ⟨rfl,h⟩;exact⟨rfl,NA h⟩
theorem NE(x:dq):∀v∈vg x,v.oneCell'=true:=F9 _
theorem vp(es:List dq):(ir es).length=es.length*4:=by
 induction es with
 |nil=>rfl|cons a l O=>
  have e:ir (a::l)=mu a++ir l:=by simp[ir]
  rw[e];simp[mu];omega
theorem yq(es:List dq)(h:∀e∈es,e.text.length<=1048576):(mj vg 4 es.toArray).toList=ir es:=by
 apply bY;intro j;by_cases Y:j<es.length*4;have hs:j<(mj vg 4 es.toArray).size:=by simpa using Y
 have U:j / 4<es.length:=by omega
 have e1:es.toArray[j / 4]! = es[j / 4]:=by rw[getElem!_pos _ _ (by simpa using U)];simp
 have g:=get_flatK vg 4 es.toArray j (by simpa using Y);rw[e1]at g;have O:=Dg (h _ (bB U));unfold vg at g;rw[O]at g;have:=Bd es _ (j % 4) U (by omega);rw[show j / 4*4+j % 4=j by omega]at this;rw[this];have O:j % 4<(mu es[j / 4]).length:=by simp[mu];omega
 rw[getElem!_pos (mu _) _ O,getElem!_pos _ j hs]at g;rw[b6 O,<-g,cY,cU hs];rfl;rw[bI (by simp;omega),bI (by rw[vp];omega)]
theorem MF{w:World}{base e n m cap g:Nat}{ws:List dq}(h:w.ownsRow base e 4 (.slice (some ⟨g,0,none⟩) m cap) n (ir ws))(hn:n=ws.length)(hb:∀e∈ws,e.text.length<=1048576):HoldsK vg 4 w g 0 ws.toArray:=by
 subst hn;intro j Y;rw[mm]at Y;have hs:j<(mj vg 4 ws.toArray).size:=by simpa using Y
 have O:(ir ws)[j]?=some ((mj vg 4 ws.toArray)[j]!):=by
  rw[<-yq ws hb,getElem!_pos _ j hs,cY,cU hs]
 rcases h.2 with⟨h0,_⟩|⟨g',aa,cur,he,_,hg,_,_,ab,U⟩
 simp at h0;obtain⟨⟨rfl,_⟩,_,rfl⟩:=he;refine⟨?_,?_⟩;rw[dh hg];rw[<-U,bS,if_pos (by omega)]at O;simpa using O;simp[World.frozen?,hg]
theorem O3(h:F.size<=cur.size):(l4 id 0 F cur).toList.take F.size=F.toList:=by
 apply bY;intro j;by_cases O:j<F.size;rw[bS,cY];unfold l4;rw[db,cU (by omega)];simp only[ls,fm,Nat.zero_add,true_and,O,if_true,Nat.sub_zero,id];rw[getElem!_pos F j O,cY,cU O];rw[bI (by simp;omega),bI (by simp;omega)]
theorem QX{u:Value}(h:u∈(l4 id 0 F cur).toList):u∈F.toList\/u∈cur.toList:=by
 unfold l4 at h;simp at h;obtain⟨i,hi,rfl⟩:=h;split;rename_i O;rw[getElem!_pos F i O];simp;simp
theorem Nf(base:Nat)(au:Option Addr)(cu:Nat)(es:List dq)(w:World)(U:w.ownsRow base 96 4 (.slice au es.length cu) es.length (ir es))(am:(es.map dq.name).Nodup)(hl:es.length<=1048576)(hb:∀e∈es,e.text.length<=1048576)(ah:jM Flat w (.slice au es.length cu)) :
  dr prog 83 #[.slice au es.length cu,.func (.func 84) #[] #[]] w λe w2=>e=.returned (.tuple #[])/\Below base w w2/\
   ∃L:List dq,L.Perm es/\L.Pairwise (λx y=>dY x y=true)/\w2.ownsRow base 96 4 (.slice au es.length cu) es.length (ir L)/\jM Flat w2 (.slice au es.length cu):=by
 rcases U.2 with⟨he,hn⟩|⟨g,cap,cur,he,Y,ac,h1,h2,h3,h4⟩
 have hG:es=[]:=bZ.1 (by simpa using hn);subst hG;have O:=AnyF.slices_SortFunc_none Ki au cu (.func (.func 84) #[] #[]) w;change dr prog 83 _ _ _ at O;refine O.mono ?_;rintro e w2 ⟨rfl,rfl⟩;exact⟨rfl,e8 _ _,[],lc _,List.Pairwise.nil,U,ah⟩;simp only[lw]at he;obtain⟨rfl,_,rfl⟩:=he;have ad:g<w.heap.size:=(cT.1 ac).1
 have O:=AnyQ.slices_SortFunc Ki 4 isAgg96 sizeOf96 vg (λ_=>rfl) NE Tk Ri 84 #[] g 0 cu es.toArray w
  (enters_of func84 (by kernel_rfl) rfl) (N7 g 0 _ w) (MF U rfl hb) ad (by simp;omega)
 change dr prog 83 _ _ _ at O;refine O.mono ?_;rintro e w2 ⟨rfl,d',nq,os,hp,hs,rfl⟩;have ae:d'.size=es.length:=by rw[hp.1];simp
 have ai:(sortWorldK vg 4 w g 0 nq d' os).heap[g]?=some (.cells (l4 id 0 (mj vg 4 d') cur) 96 (0,0)):=by
  unfold sortWorldK putRowK;rw[heap_grow_old _ _ (by simpa using ad)];simp[putRow,mapBlock,Sort.ahead,Array.getElem?_modify,ac,onCells]
 have eF:d'.toList.Perm es:=by
  have e1:d'.extract 0 es.toArray.size=d':=by rw[<-hp.1];simp
  have e2:es.toArray.extract 0 es.toArray.size=es.toArray:=by simp
  have p3:=hp.2.2;rw[e1,e2]at p3;exact p3
 have af:∀e∈d'.toList,e.text.length<=1048576:=λe he=>hb e (eF.mem_iff.1 he)
 have hF:=by
  have:=yq _ af;simpa using this
 have aj:(mj vg 4 d').size=es.length*4:=by rw[mm,ae]
 have ag:d'.toList.Pairwise (λx y=>dY x y=true):=by
  have aa:=(eF.map _).nodup_iff.2 am;rw[cD];intro i j hi hj ak;have an:d'.toList.length=es.toArray.size:=by simpa using ae
  have h:=hs i j (fm _) ak (by omega);have gi:d'[i]! = d'.toList[i]:=by rw[getElem!_pos d' i _];rfl
  have gj:d'[j]! = d'.toList[j]:=by rw[getElem!_pos d' j _];rfl
  rw[gi,gj]at h;have ci:=Dg (af _ (bB hi));have cj:=Dg (af _ (bB hj));rcases Ch _ _ with h'|h'|h'
  exact h';rw[cC,bV,cD]at aa;exact absurd h'.2.2 (aa i j hi hj ak);have:ltOf Tk d'.toList[j] _=true:=(vc ..).2 (by rw[ci,cj];exact h');rw[h]at this;cases this
 refine⟨rfl,wD Y ad,d'.toList,eF,ag,⟨by rw[vp];simp[ae],.inr ⟨g,cu,_,rfl,Y,ai,h1,h2,by simp[l4,h3],?_⟩⟩,?_⟩;rw[<-aj,O3 (by rw[aj,h3];exact Nat.mul_le_mul_right _ h1),hF];intro g' cs e' f al ab u hu;simp only[Value.ownBlock,kT]at al;subst al;rw[ai]at ab;obtain⟨rfl,_⟩:=ab;rcases QX hu with h|h
 rw[hF]at h;obtain⟨x,_,hx⟩:=cP.1 h;exact AU x u hx;exact ah g cur _ _ rfl ac u h
end
section
open Go.Conc Go.RowKit Go.Maps
variable {n:Nat} {cl:Nat->Option Nat}
theorem uj(w:World)(a:Addr)(v:Value):(w.setCell a v).heap.size=w.heap.size:=by simp
def K2(c:Code):Code:=match c with
 |.seq _ (.seq _ (.seq _ y))=>y|_=>.skip
theorem ON:f80.name≠ "runtime.NumGoroutine":=by
 decide
theorem FH:i'.name≠ "runtime.NumGoroutine":=by
 decide
def lD(cl:Nat->Option Nat)(n r:Nat):Nat->Option Nat:=λk=>if k=n then some r else cl k
theorem J6{r:Nat}(h:n<7):(mz cl).set! n (.chan (some r))=mz (lD cl n r):=by
 rcases(by omega:n=0\/n=1\/n=2\/n=3\/n=4\/n=5\/n=6)with rfl|rfl|rfl|rfl|rfl|rfl|rfl<;>rfl
def qe(A:Ask)(num:Nat)(p:Nat×dq):lW:=if A.has p.2=true then⟨num,p.1,p.2.name,true,uz p.2,p.2.text,p.2.dp,p.2.dA⟩else⟨num,p.1,p.2.name,false,[],[],0,0⟩
theorem EL(A:Ask)(num:Nat)(p:Nat×dq):(qe A num p).val=l7 A num p:=by
 unfold qe l7;split<;>rfl
structure Fs(ms:List lW):Prop where
 len:ms.length<=1048576
 each:∀m∈ms,m.wN<=1000/\m.at'<4611686018427387904/\m.name.length<=dk
 places:(ms.map λm=>(m.wN,m.at')).Nodup
 names:((dU ms ms).map dq.name).Nodup
 texts:∀e∈dU ms ms,e.text.length<=1048576
theorem RH{a b c d:Nat}(h:Qe a b=Qe c d):a=c/\b=d:=by
 unfold Qe at h;simp only[Value.agg.injEq,Array.mk.injEq,List.cons.injEq,Value.int.injEq,true_and,and_true]at h;omega
theorem Fs.all{ms:List lW}(h:Fs ms):NR (ms.map lW.val) where
 met:=λv U=>by
  obtain⟨m,hm,rfl⟩:=b4.1 U;have:=h.each m hm;exact⟨m.wN,m.at',_,_,_,_,_,_,by omega,this.2.1,rfl⟩
 nodup:=by
  rw[bC];have O:=h.places;rw[cC,bV]at O⊢;refine O.imp fun {x y} hne e=>hne ?_;have:=RH (a:=x.wN) (b:=x.at') (c:=y.wN) (d:=y.at') e;rw[this.1,this.2]
 len:=by
  rw[bG];have:=h.len;unfold dk;omega
theorem Ql{ms:List lW}{l:List (Value×Value)}(U:(l.map kN).Perm (ms.map lW.val))(Y:∀p∈l,p.1=MZ p.2):l.Perm (ms.map lW.kv):=by
 have e:l=(l.map kN).map λv=>(MZ v,v):=by
  rw[bC];conv=>lhs;rw[<-cH l]
  refine bK λp hp=>?_;show p=(MZ _,p.2);rw[<-Y p hp]
 have O:=U.map λv=>(MZ v,v);rw[bC (l:=ms)]at O;rw[e];exact O
def Of(ms:List lW)(L:List dq):Prop:=L.Perm (dU ms ms)/\L.Pairwise λx y=>dY x y=true
def BW(ms:List lW)(l cp:Nat):Prop:=l=0/\cp=0/\Of ms []
def BE(ms:List lW)(off:Nat)(spot:Option Nat)(l cp:Nat)(cs:Array Value)(e:ef)(f:Nat×Nat):Prop:=
 off=0/\spot=none/\e=96/\f=(0,0)/\∃L,Of ms L/\l=L.length/\l<=cp/\cp<=dk/\cs.size=cp*4/\cs.toList.take (l*4)=ir L
section
variable {Z:jN prog} {w:World} {T:List Frame} {dd q K:Nat} {wl:World} {V:Vs}
theorem CM{A:Ask}{es:List dq}{ex:Obj}{sa:Option Addr}{sc bx b s:Nat}{ms ms0:List lW}{a2 a3 a4 a6 a8 a9 a10 a11 a12 bg bh a15 a16 a17 a18 a19 a20 a21 a22 a23 a24 a25 a26 a27 a28 a29 bi bj bk bl bm bn bo bp bq br bs:Value}(hT:∀ps,T=[ps]->ps.mode≠.panicking [ej])
  (hs:s=wl.heap.size) (hA:A.Ok) (hK:K<=s+5) (h5:5<=s) (ah:dd<s) (ai:5<=q) (hq:q<w.heap.size) (ab:w.heap[q]?=some ex) (hM:rA ex es) (ac:∀(r:Nat)a c,wl.heap[r]?≠some (.map a c))
  (hl:es.length<=100000) (aj:∀e∈es,e.name.length<=dk/\e.text.length<=1048576/\(e.gone=false->0<=e.dA/\e.dA<=255)) (hn:n<=6) (hV:∀x∈V,x.1<s)
  (ak:wl.heap[bx]?=some (.cells #[.int .i64 A.m,.string A.q,.int .i64 A.t] 94 (0,0))) (hb:wl.heap[b]?=some (.cells (mz cl) 125 (0,0)))
  (al:∀k,n<=k->cl k=none) (jP:∀k r,k<7->cl k=some r->∃vs,(r,some vs)∈V) (fy:∀x∈V,∃k vs,k<7/\cl k=some x.1/\x.2=some vs) (rX:∀k k' r,k<7->k'<7->cl k=some r->cl k'=some r->k=k') (fG:(V.map kG).Nodup) (ad:V.length=n)
  (am:rQ V=ms0.map lW.val) (an:ms=(fO es).map (qe A n)++ms0) (ae:Fs ms)
  (fin:∀(E₂:Env prog)aO aK aP,E₂.Z=Z->E₂.T=T->E₂.w0=w->(aK=[]\/∃k2,aK=.code .ret::k2)->Bj prog E₂ Tryz.f49 aO aP (BW ms) (BE ms)->dl E₂ [⟨49,aO,aK⟩] aP []) :
  dl (nY prog Z w T dd q K false) [⟨49,#[.slice sa n sc,.map (some dd),a2,a3,a4,.pointer (some ⟨bx,0,none⟩),a6,.pointer (some ⟨b,0,none⟩),a8,a9,a10,a11,a12,bg,bh,a15,a16,a17,a18,a19,a20,a21,a22,a23,a24,a25,a26,a27,a28,a29,bi,bj,bk,bl,bm,bn,bo,bp,bq,br,bs],[.code (K2 (ey Tryz.f49))]⟩] wl V:=by
 have HA:kb _:=And.intro hs (And.intro hA (And.intro hK (And.intro h5 (And.intro ah (And.intro ai (And.intro hq (And.intro ab (And.intro hM (And.intro ac (And.intro hl (And.intro aj (And.intro hn (And.intro hV (And.intro ak hb))))))))))))));have HC:kb _:=And.intro al (And.intro jP (And.intro fy (And.intro rX (And.intro fG (And.intro ad (And.intro am (And.intro an (And.intro ae (And.intro fin hT)))))))));clear hs hA hK h5 ah ai hq ab hM ac hl aj hn hV ak hb al jP fy rX fG ad am an ae fin hT;show dl _ [⟨_,_,[.code (.seq (.region 7 _ false) (.seq (.region 8 _ false) (.seq (.region 9 _ false) (.seq (.region 10 _ false) .ret))))]⟩] _ _;refine dl.sr λkk HK=>?_
 (iterate 5 (refine eQ ?_;go_simp));refine lQ rfl (by rfl) (by kernel_rfl) λy0 Y ap=>?_;have e0:y0.cell? ⟨bx,0,none⟩=some (.int .i64 A.m):=by rw[dh (by rw[Y];exact HA.out.2.2.2.2.2.2.2.2.2.2.2.2.2.2.1)];rfl
 have e1:y0.cell? ⟨bx,1,none⟩=some (.string A.q):=by rw[dh (by rw[Y];exact HA.out.2.2.2.2.2.2.2.2.2.2.2.2.2.2.1)];rfl
 have e2:y0.cell? ⟨bx,2,none⟩=some (.int .i64 A.t):=by rw[dh (by rw[Y];exact HA.out.2.2.2.2.2.2.2.2.2.2.2.2.2.2.1)];rfl
 have HY:kb (y0.heap=wl.heap/\y0.os=wl.os):=⟨Y,ap⟩;clear Y ap;unfold gm;go_simp;simp only[iK];obtain⟨hs,hA,hK,h5,ah,ai,hq,ab,hM,ac,hl,aj,hn,hV,ak,hb⟩:=HA.out;rw[<-HY.out.1]at hs ac ak hb;clear e0 e1 e2;refine dl.qK #[.int .i64 (n:Int),.map (some dd),.agg #[.int .i64 A.m,.string A.q,.int .i64 A.t],mp,mp,mp,mp,mp,mp,mp,mp] (i:=6) (gO:=f80) (c:=ey f80) rfl rfl func80 (by kernel_rfl) ON rfl (by simp[dP]) (by kernel_rfl) ?_;refine Aj n A es ex s hs rfl hA hK h5 ah ai hq ab hM ac hl aj (by omega) hV λw2 z2 o2 aQ p2=>?_;obtain⟨al,jP,fy,rX,fG,ad,am,an,ae,fin,hT⟩:=HC.out;have aw:b<s:=by rw[hs];exact(cT.1 hb).1
 have aB:w2.heap[b]?=some (.cells (mz cl) 125 (0,0)):=(o2 b aw).trans hb;have aR:n<7:=by omega
 have H2:kb _:=And.intro z2 (And.intro o2 (And.intro p2 (And.intro aB aw)));clear al jP fy rX fG ad am an ae fin hT hs hA hK h5 ah ai hq ab hM ac hl aj hV ak hb hn z2 o2 aQ p2 aB aw;rw[gL];go_simp;have aS:(n:Int)<7:=by omega
 (refine eQ ?_;go_simp);clear aS;refine lQ rfl (by rfl) (by kernel_rfl) λy1 ao aq=>?_;have gb:y1.heap[b]?=some (.cells (mz cl) 125 (0,0)):=by rw[ao];exact H2.out.2.2.2.1
 have e0:y1.cell? ⟨b,n,none⟩=some (.chan (cl n)):=by
  rw[dh gb];rcases(by omega:n=0\/n=1\/n=2\/n=3\/n=4\/n=5\/n=6)with rfl|rfl|rfl|rfl|rfl|rfl|rfl<;>rfl
 have f0:y1.frozen? ⟨b,n,none⟩=false:=dI gb n;have aC:kb (y1.heap=w2.heap/\y1.os=w2.os):=⟨ao,aq⟩;have HG:kb _:=gb;clear ao aq gb;unfold gm;go_simp;simp only[iK];clear e0 f0;obtain⟨w3,av⟩:∃w3,w3=y1.setCell ⟨b,n,none⟩ (.chan (some (s+3))):=⟨_,rfl⟩;have g3:w3.heap[b]?=some (.cells (mz (lD cl n (s+3))) 125 (0,0)):=by rw[av,heap_set HG.out n (.chan (some (s+3))),<-J6 aR];simp only[cZ]
 have o3:∀r,r≠b->w3.heap[r]?=w2.heap[r]?:=λr hr=>by rw[av,ez _ _ _ _ hr,aC.out.1]
 have z3:w3.heap.size=s+5:=by rw[av,uj,aC.out.1];exact H2.out.1
 have p3:w3.os=w2.os:=by rw[av,pP];exact aC.out.2
 rw[<-av];clear av HG aC y1;have H3:kb _:=And.intro g3 (And.intro o3 (And.intro z3 p3));clear g3 o3 z3 p3;refine dl.ie HK ?_;clear HK kk;refine dl.sr λkk HK=>?_
 (iterate 3 (refine eQ ?_;go_simp));have aT:IntKind.i64.wrap ((n:Int)+1)=(n:Int)+1:=by simp only[lp];omega
 rw[aT];clear aT;obtain⟨al,jP,fy,rX,fG,ad,am,an,ae,fin,hT⟩:=HC.out;obtain⟨hs,hA,hK,h5,ah,ai,hq,ab,hM,ac,hl,aj,hn,hV,ak,hb⟩:=HA.out;obtain⟨g3,o3,z3,p3⟩:=H3.out;obtain⟨z2,o2,p2,aB,aw⟩:=H2.out;obtain⟨V2,af⟩:∃V2,V2=(s+3,some ((fO es).map (l7 A n)))::V:=⟨_,rfl⟩;have aU:(n:Int)+1=(V2.length:Int):=by rw[af,cw,ad];rfl
 have ax:rQ V2=ms.map lW.val:=by
  rw[af];show(fO es).map (l7 A n)++rQ V=_;rw[am,an,b8,bC];congr 1;refine bK λp _=>(EL A n p).symm
 have aL:∀k r,cl k=some r->k<7->r≠s+3:=λk r hr hk e=>by
  obtain⟨vs,h⟩:=jP k r hk hr;have:=hV _ h;simp only at this;omega
 have aG:∀k r,k<7->lD cl n (s+3) k=some r->∃vs,(r,some vs)∈V2:=λk r hk hr=>by
  unfold lD at hr;rw[af];split at hr
  cases hr;exact⟨_,bE ..⟩;obtain⟨vs,h⟩:=jP k r hk hr;exact⟨vs,bJ _ h⟩
 have ay:∀x∈V2,∃k vs,k<7/\lD cl n (s+3) k=some x.1/\x.2=some vs:=λx hx=>by
  rw[af]at hx;rcases b9.1 hx with rfl|hx
  exact⟨n,_,aR,by unfold lD;rw[if_pos rfl],rfl⟩;obtain⟨k,vs,a1,a2,a3⟩:=fy x hx;refine⟨k,vs,a1,?_,a3⟩;have:k≠n:=λe=>by rw[e,al n (fd _)]at a2;cases a2
  unfold lD;rw[if_neg this];exact a2
 have aH:∀k k' r,k<7->k'<7->lD cl n (s+3) k=some r->lD cl n (s+3) k'=some r->k=k':=λk k' r hk aV h1 h2=>by
  unfold lD at h1 h2;split at h1<;>split at h2;omega
  cases h1;exact absurd rfl (aL k' _ h2 aV)
  cases h2;exact absurd rfl (aL k _ h1 hk);exact rX k k' r hk aV h1 h2
 have ar:(V2.map kG).Nodup:=by
  rw[af,bL,bP];refine⟨λh=>?_,fG⟩;obtain⟨x,hx,e⟩:=b4.1 h;have:=hV x hx;simp only at e;omega
 rw[aU,<-af];refine dl.qK (#[.pointer (some ⟨b,0,none⟩),.int .i64 (V2.length:Int),mp,mp,mp,mp,mp,mp,mp,mp,mp,mp,mp,mp,mp,mp,mp,mp,mp,mp,mp,mp,mp,mp,mp,mp,mp,mp,mp,mp]:Array Value) (i:=3) (gO:=i') (c:=ey i') rfl rfl func82 (by kernel_rfl) FH rfl (by simp[dP]) (by kernel_rfl) ?_;refine FA (mb:=s+5) rfl ae.all z3.symm (by omega) g3 aG ay aH ar (by rw[af,cw,ad];omega) ax ?_;intro w4 l aW aX aY _ _;have aM:IJ w4 (s+5) ms:=aY.perm (Ql aW aX);have aZ:=aM.lt;have ba:kb _:=And.intro aM aZ
 have bc:∀b,w.heap[b]?=some oJ->b<w.heap.size/\(true=true->b≠q):=λb hb=>⟨(cT.1 hb).1,λ_ e=>by
  obtain⟨a,c,hx⟩:=hM.isMap;rw[e,ab,hx]at hb
  cases hb⟩
 have bt:kb _:=bc;clear al jP fy rX fG ad am an hs hA hK h5 ah ai hq ab hM ac hl aj hn hV ak hb g3 o3 z3 p3 z2 o2 p2 aB aw af aU ax aL aG ay aH ar aW aX aY aM aZ HA HC H2 H3;have HF:kb _:=And.intro ae (And.intro fin hT);clear ae fin hT bc;show dl _ [⟨_,eM _ _ _,_⟩] _ _;rw[gL];go_simp;refine lQ rfl (by rfl) (by kernel_rfl) λy0 Y ap=>?_;have bd:IJ y0 (s+5) ms:=iZ.stay ba.out.1 (by rw[Y]);have az:s+6<=y0.heap.size:=by rw[Y];exact ba.out.2
 have aI:=Dt (s+5) ms y0 bd HF.out.1.len λm hm=>⟨(HF.out.1.each m hm).1,(HF.out.1.each m hm).2.2⟩;clear Y ap bd;unfold gm;go_simp;simp only[iK];refine⟨trivial,aI.mono ?_⟩;clear aI;rintro e w5 ⟨v,ag,rfl,O,U,aD,a0⟩;refine⟨v,rfl,?_⟩;obtain⟨aN,aE,rfl,be⟩:=jf U;have HO:kb _:=And.intro O (And.intro U (And.intro aD (And.intro a0 az)));clear O U aD a0 az be
 (refine eQ ?_;go_simp);refine dl.ie HK ?_;clear HK kk;refine dl.sr λkk HK=>?_
 (refine eQ ?_;go_simp);refine lQ rfl (by rfl) (by kernel_rfl) λy1 ao aq=>?_;obtain⟨O,U,aD,a0,az⟩:=HO.out;have eF:(dU ms ag).Perm (dU ms ms):=Er O;have a5:y1.ownsRow y0.heap.size 96 4 (.slice aN (dU ms ag).length aE) (dU ms ag).length (ir (dU ms ag)):=ig U (λk hk=>by rw[ao]);have a':=Nf y0.heap.size aN aE (dU ms ag) y1 a5 ((eF.map _).nodup_iff.2 HF.out.1.names) (by have h1:=B4 ms ag;have h2:=O.length_eq;have h3:=HF.out.1.len;omega) (λe he=>HF.out.1.texts e (eF.mem_iff.1 he)) (a0.stay λg hg=>by rw[ao]);have HP:kb _:=And.intro eF az;clear O U aD a0 az eF a5 ao aq HO;unfold gm;go_simp;simp only[iK];refine⟨trivial,a'.mono ?_⟩;clear a';rintro e w6 ⟨rfl,bu,L,aA,aF,aa,au⟩;refine⟨_,rfl,?_⟩;have H6:kb _:=And.intro aA (And.intro aF (And.intro aa au));clear bu aA aF aa au;refine dl.ie HK ?_;clear HK kk;refine dl.seq ?_;refine dl.region ?_
 (iterate 2 (refine eQ ?_;go_simp));refine dl.inRegion ?_;refine HF.out.2.1 _ _ _ _ rfl rfl rfl (.inr ⟨_,rfl⟩) ⟨⟨.slice aN (dU ms ag).length aE,λτ=>by simp[er,results49,go_sem],?_⟩,bt.out⟩;obtain⟨aA,aF,aa,au⟩:=H6.out;have hL:L.length=(dU ms ag).length:=aA.length_eq;have aJ:Of ms L:=⟨aA.trans HP.out.1,aF⟩;rcases aa.2 with⟨he,bz⟩|⟨g,cap,cur,he,bv,bf,h1,h2,h3,h4⟩
 left;simp only[lw]at he;refine⟨_,_,?_,he.2.1,he.2.2,?_⟩;rw[he.1];have:L=[]:=cy (by omega);rw[<-this];exact aJ;right;simp only[lw]at he;obtain⟨rfl,_,rfl⟩:=he;refine⟨g,0,none,_,aE,cur,_,_,rfl,bf,au g cur _ _ rfl bf,λm hm bw=>?_,rfl,rfl,rfl,rfl,L,aJ,hL.symm,h1,h2,h3,h4⟩;have:=hm.x.2.2 g bw;have:=HP.out.2;omega
end
end
section
open Go.Conc Go.RowKit Go.Maps
theorem atKey_mem{L:List (Lit×DataW Value)}(O:L.Pairwise (λp q=>p.1≠q.1)){k:Lit}{d:DataW Value}(Y:WideAt.IsKeyLit k)(hm:(k,d)∈L)(z:DataW Value):(DataW.map L).atKey k z=d:=by
 unfold DataW.atKey;simp only
 have:L.find? (λp=>p.1.sameKey k)=some (k,d):=by
  induction L with
  |nil=>cases hm
  |cons a L ih=>
   rw[List.pairwise_cons]at O;rw[bR];rcases b9.1 hm with e|hm
   rw[<-e];simp only[WideAt.sameKey_self Y];have U:=O.1 _ hm;rw[sameKey_ne U];exact ih O.2 hm
 rw[this]
theorem OB(e:dq):Flat (jl e).2:=by
 refine .agg λi hi=>?_;have:=hi;match i,this with
 |0,_=>exact .bool _|1,_|2,_=>exact .string _|3,_|4,_=>exact .int ..
theorem O4{x:MapEntry}(O:Flat x.key)(U:Flat x.val)(m:Ren):sV m x x:=⟨O.refl m,U.refl m,rfl⟩
theorem LW{es:List MapEntry}(h:∀x∈es,Flat x.key/\Flat x.val)(m:Ren):dQ (sV m) es es:=by
 induction es with
 |nil=>exact .nil|cons a l O=>exact .cons (O4 (h a (by simp)).1 (h a (by simp)).2 m) (O λx U=>h x (by simp[U]))
theorem QH{es U:List MapEntry}{m:Ren}(h:∀x∈es,Flat x.key/\Flat x.val)(ha:dQ (sV m) es U):U=es:=by
 induction ha with
 |nil=>rfl|@cons a b l l' O _ ih=>
  have Y:=h a (by simp);have e1:=Y.1.eq m _ O.key;have e2:=Y.2.eq m _ O.val;have e3:=O.born;rw[ih λx hx=>h x (by simp[hx])];cases a;subst e1 e2 e3;rfl
theorem FB{w:World}{B:Nat}{es:List dq}(h:e9 w B es):∃ex,w.heap[B]?=some ex/\rA ex es:=by
 obtain⟨D,⟨xs,clock,hb,F,ac,hD⟩,hS⟩:=h
 have aa:∀x∈xs.toList,Flat x.key/\Flat x.val:=by
  intro x hx;obtain⟨y,hy⟩:=F.reads x hx;have gK:=WideElems.rd_key hy;obtain⟨nm,ad,ae⟩:=J3 ga gK
  have af:y=(.string nm,.held x.val):=by
   unfold WideElems.rd at hy;rw[gK]at hy;simp only[lv,lh,ls,kT]at hy;rw[<-hy,ae]
  refine⟨by rw[ad];exact .string _,?_⟩;have ab:(Lit.string nm,DataW.held _)∈(xs.toList.map (WideElems.rg _ 9 lh)).foldr _ []:=mem_sorted.2 (b4.2 ⟨x,hx,by rw[WideElems.rg_of hy,af]⟩);have ag:=(WideShapes.sorted_perm _).symm.pairwise (F.apart (WideMaps.string_law ga)) (λh=>h.symm);have U:=atKey_mem ag (k:=.string nm) trivial ab;rw[<-hD]at U;have O:=has_true_of_atKey U;rw[hS.has nm,List.any_eq_true]at O;obtain⟨p,hp,Y⟩:=O;have Y:=by simpa using Y
  have h2:=hS.at_ p hp (.held x.val);rw[Y,U]at h2;have h3:=by simpa using h2
  rw[h3];obtain⟨e,_,rfl⟩:=b4.1 hp;exact OB e
 refine⟨.map xs clock,hb,⟨xs,clock,rfl⟩,λm=>.map clock (LW aa m),λm o' ho=>?_,λw' B' ah=>?_⟩
 cases ho with
 |@map _ ai _ ha=>
  have:=QH aa ha;simp at this;rw[this]
 exact⟨D,⟨xs,clock,ah,F,ac,hD⟩,hS⟩
end
section
open Go.Conc
variable {q:Nat} {b5:Option Nat} {m:Ren} {w:World}
theorem VR.flatten{x x':Value}(h:VR m x x'):∃y,(∀U,VR U y x')/\(Flat x->y=x)/\∀t z,x=.iface t z->∃z',y=.iface t z':=by
 induction h with
 |fK v hv=>exact⟨_,λ_=>.fK v hv,λO=>(by cases O),λ_ _ e=>(by cases e)⟩|bool b=>exact⟨_,λ_=>.bool b,λ_=>rfl,λ_ _ e=>(by cases e)⟩|int k n=>exact⟨_,λ_=>.int k n,λ_=>rfl,λ_ _ e=>(by cases e)⟩|string s=>exact⟨_,λ_=>.string s,λ_=>rfl,λ_ _ e=>(by cases e)⟩|gQ=>exact⟨_,λ_=>.gQ,nofun,λ_ _ e=>(by cases e)⟩|fu l c=>exact⟨_,λ_=>.fu l c,nofun,λ_ _ e=>(by cases e)⟩|my=>exact⟨_,λ_=>.my,nofun,λ_ _ e=>(by cases e)⟩|iW=>exact⟨_,λ_=>.iW,nofun,λ_ _ e=>(by cases e)⟩|nilFunc=>exact⟨_,λ_=>.nilFunc,nofun,λ_ _ e=>(by cases e)⟩|nilIface=>exact⟨_,λ_=>.nilIface,nofun,λ_ _ e=>(by cases e)⟩|ptr _=>exact⟨_,λ_=>.fK _ trivial,λO=>(by cases O),λ_ _ e=>(by cases e)⟩|slice _ _ _=>exact⟨_,λ_=>.fK _ trivial,λO=>(by cases O),λ_ _ e=>(by cases e)⟩|map _=>exact⟨_,λ_=>.fK _ trivial,λO=>(by cases O),λ_ _ e=>(by cases e)⟩|gone _=>exact⟨_,λ_=>.fK _ trivial,λO=>(by cases O),λ_ _ e=>(by cases e)⟩|chan _=>exact⟨_,λ_=>.fK _ trivial,λO=>(by cases O),λ_ _ e=>(by cases e)⟩|iface t _ ih=>
  obtain⟨y,h1,_,_⟩:=ih;exact⟨.iface t y,λU=>.iface t (h1 U),λO=>(by cases O),λ_ _ e=>(by cases e;exact⟨_,rfl⟩)⟩
 |tuple _ _ _=>exact⟨_,λ_=>.fK _ trivial,λO=>(by cases O),λ_ _ e=>(by cases e)⟩|func O _ _ _ _ _ _=>
  cases O with
  |func f _=>exact⟨_,λ_=>.fK _ trivial,λO=>(by cases O),λ_ _ e=>(by cases e)⟩|yield _=>exact⟨_,λ_=>.fK _ trivial,λO=>(by cases O),λ_ _ e=>(by cases e)⟩
 |@q9 lf n f c hs hi hx ih=>
  have Y:∀i(h:i<lf.size),∃y,(∀U,VR U y (f[i]'(hs▸h)))/\(Flat _->y=lf[i])/\∀t z,lf[i]=.iface t z->∃z',y=.iface t z':=λi h=>ih i h _;refine⟨.func _ (df λi=>kx (Y _ i.2)) _,λU=>.q9 (by simp[hs]) (λi h h'=>?_) (λt w hw=>?_),λO=>(by cases O),λ_ _ e=>(by cases e)⟩;simp only[cW];exact(kt (Y i _)).1 U;obtain⟨x,h0⟩:=hx t w hw;obtain⟨hl,e0⟩:=cT.1 h0;obtain⟨z,hz⟩:=(kt (Y 0 hl)).2.2 t x e0;refine⟨z,?_⟩;rw[cU (by simpa using hl)];simp only[cW];rw[hz]
 |@agg c c' hs hi ih=>
  have Y:∀i(h:i<c.size),∃y,(∀U,VR U y (c'[i]'(hs▸h)))/\(Flat _->y=c[i])/\∀t z,c[i]=.iface t z->∃z',y=.iface t z':=λi h=>ih i h _;refine⟨.agg (df λi=>kx (Y _ i.2)),λU=>.agg (by simp[hs]) λi h h'=>?_,λO=>?_,λ_ _ e=>(by cases e)⟩;simp only[cW];exact(kt (Y i _)).1 U;congr 1;refine dj (by simp) λi h1 h2=>?_;simp only[cW];refine(kt (Y i h2)).2.1 ?_
  cases O with
  |agg O=>exact O i h2
theorem ep.flatten{c Y:Array Value}(h:ep m c Y):∃c1,(∀U,ep U c1 Y)/\c1.size=c.size/\∀i(O:i<c1.size)(h2:i<c.size),Flat c[i]->c1[i]=c[i]:=by
 have hc:∀i(O:i<c.size),∃y,(∀U,VR U y (Y[i]'(h.size▸O)))/\(Flat _->y=c[i]):=λi O=>by
  obtain⟨y,g1,g2,_⟩:=(h.idx i O _).flatten;exact⟨y,g1,g2⟩
 refine⟨df λi=>kx (hc _ i.2),λU=>ep.ii (by simp[h.size]) λi O h2=>?_,by simp,λi O h2 hf=>?_⟩;simp only[cW];exact(kt (hc i _)).1 U;simp only[cW];exact(kt (hc i h2)).2 hf
def xd:Obj:=.cells #[] 0 (0,0)
def UE(o:Obj)(w:World):World:={w with heap:=#[xd,xd,xd,xd,xd,o,xd]}
def TT(b5:Option Nat)(q:Nat)(Y:∀b,b5=some b->5<=b):Ren where
 blk:=λr=>if r=5 then b5 else none
 ch:=λ_=>none
 loose:=λr=>r=5
 ok:=Nd prog MX Ct false
 fw:=λf=>MX f=true
 il:=False
 dead:=λr=>r=6
 dm:=λ_=>q
 rY:=λ_ _=>none
 kI:=λ_=>none
 G:=5
 ou:=λr r' h=>by
  split at h
  .rename_i e
   have:=Y r' h
   omega
  .cases h
 inj:=λr s t O U=>by
  split at O
  .split at U
   .omega
   .cases U
  .cases O
 vm:=λ_ _ _ h=>by cases h
theorem SO{Z:jN prog}{T:List Frame}(O:∀b,b5=some b->5<=b):Rg (nY prog Z w T 6 q 6 false) (TT b5 q O):=
 ⟨CR _ rfl rfl xX.symm,id,λ_ _ h=>(by cases h),rfl,rfl,rfl,rfl,λr U=>by have:r=5:=U;omega⟩
theorem Sq(h5:∀b,b5=some b->5<=b)(hw:5<=w.heap.size){c1:Array Value}{e5:ef}(hb:∀b,b5=some b->∃Y f',w.heap[b]?=some (.cells Y e5 f')/\∀m1,ep m1 c1 Y) :
  WR (TT b5 q h5) (UE (.cells c1 e5 (0,c1.size)) w) w:=by
 have key:∀r r',(TT b5 q h5).blk r=some r'->r=5/\b5=some r':=λr r' h=>by
  have h:(if r=5 then b5 else none)=some r':=h;split at h;exact⟨by assumption,h⟩
  cases h
 refine⟨λr r' O=>?_,λr r' c e f Y e' f' O h1 h2 hn=>?_,λr r' c e f Y e' f' O h1 h2 hl o ho=>?_,λ_ _ h=>(by cases h),by show 5<=7;omega,hw,rfl,λ_ _ h=>(by cases h),λr r' O hl=>?_,λr O=>?_,λr i v hv=>(by cases hv)⟩;obtain⟨rfl,U⟩:=key r r' O;obtain⟨Y,f',g1,g2⟩:=hb r' U;exact⟨_,_,rfl,g1,.cells e5 _ f' (g2 _)⟩;obtain⟨rfl,U⟩:=key r r' O;exact absurd rfl hn;obtain⟨rfl,U⟩:=key r r' O;obtain⟨rfl,_,rfl⟩:=h1;show 0<=o/\o<c1.size;omega;obtain⟨rfl,U⟩:=key r r' O;exact⟨_,_,_,rfl⟩;have:=O;subst this;exact⟨rfl,_,_,_,rfl⟩
end
section
open Go.Conc Go.RowKit Go.Maps
section
variable {A:Ask} {es:List dq}
theorem yO(es:List dq):fO es=(cn es.length).map λk=>(k,(qx es).getD k ⟨[],false,[],0,0⟩):=by
 apply bY;intro k;rw[qG,bW];have O:=(nk es).length_eq;by_cases h:k<es.length;rw[List.getElem?_range h];simp[bD,b6 (show k<(qx es).length by omega)];rw[bI (by omega),bI (by simp;omega)];rfl
theorem iA(num:Nat)(p:Nat×dq):(qe A num p).wN=num/\(qe A num p).at'=p.1/\(qe A num p).name=p.2.name/\(qe A num p).wanted=A.has p.2:=by
 unfold qe;split;exact⟨rfl,rfl,rfl,by simp_all⟩;exact⟨rfl,rfl,rfl,by simp_all⟩
theorem tY{e:dq}(h:A.has e=true):e.gone=false:=by
 unfold Ask.has at h
 cases O:e.gone with
 |false=>rfl|true=>rw[O]at h;simp at h
theorem ED{num:Nat}{p:Nat×dq}(h:A.has p.2=true):(qe A num p).MW=p.2:=by
 have O:=tY h;obtain⟨k,U,Y,tx,wt,tg⟩:=p;subst O;unfold qe;rw[if_pos h];rfl
theorem DL(es:List dq):(fO es).map kN=qx es:=by
 apply bY;intro k;rw[bW,qG];cases(qx es)[k]?<;>rfl
end
theorem Ni:Tryz.f49.name≠ "runtime.NumGoroutine":=by
 decide
end
section
open Go.RowKit Go.Sort
theorem R2:∀n,l1 n=ma n:=by
 intro n;induction n using Nat.strongRecOn with
 |ind n O=>
  have e:∀d,d<=9->UInt8.ofNat (48+d)=48+UInt8.ofNat d:=λd U=>by
   rcases(by omega:d=0\/d=1\/d=2\/d=3\/d=4\/d=5\/d=6\/d=7\/d=8\/d=9)with rfl|rfl|rfl|rfl|rfl|rfl|rfl|rfl|rfl|rfl<;>rfl
  by_cases h:n<=9;rw[pw h,l1,dif_pos (by omega),e n h];rw[mZ h,l1,dif_neg (by omega),O _ (by omega),e _ (by omega)]
theorem Pl(n:Nat)(Y:n<9223372036854775808)(w:World)(O:l2 prog w "internal/strconv.uint64pow10" .u64 l3) :
  dr prog 85 #[.int .i64 (n:Int)] w λe w'=>e=.returned (.string ⟨(ma n).toArray⟩)/\eV w w':=by
 have h:=Any.strconv_Itoa PP n (by omega) (by omega) w O;refine h.mono ?_;rintro e w' ⟨rfl,k,os,rfl⟩;refine⟨?_,⟨rfl,rfl,rfl,by simp[grow,World.drewN],λj U=>?_⟩⟩;unfold Lib.itoa;rw[if_neg (by omega),ly,R2];show(w.heap++os)[j]?=_;rw[Array.getElem?_append_left U]
theorem OT(e:dq)(w:World)(O:0<=e.dp)(hI:∀y,eV w y->dr prog 85 #[.int .i64 e.dp] y λen w'=>en=.returned (.string ⟨(ma e.dp.toNat).toArray⟩)/\eV y w')(hn:e.name.length<=65536)(ht:e.text.length<=1048576)(hd:(ma e.dp.toNat).length<=100) :
  dr prog 51 #[.agg #[.string ⟨e.name.toArray⟩,.string ⟨e.text.toArray⟩,.int .i64 e.dp,.int .i64 e.dA]] w λen w'=>en=.returned (.string ⟨(fq e).toArray⟩)/\eV w w':=by
 obtain⟨nm,gn,tx,wt,tg⟩:=e;simp only at O hI hn ht hd⊢;obtain⟨U,Y⟩:∃U:ByteArray,U=⟨(ma wt.toNat).toArray⟩:=⟨_,rfl⟩;obtain⟨nb,aa⟩:∃nb:ByteArray,nb=⟨nm.toArray⟩:=⟨_,rfl⟩;obtain⟨tb,ab⟩:∃tb:ByteArray,tb=⟨tx.toArray⟩:=⟨_,rfl⟩;have af:nb.size<=65536:=by rw[aa];show nm.toArray.size<=_;simpa using hn
 have ag:tb.size<=1048576:=by rw[ab];show tx.toArray.size<=_;simpa using ht
 have ah:U.size<=100:=by rw[Y];show(ma wt.toNat).toArray.size<=_;simpa using hd
 have k0:¬9223372036854775807<nb.size+1:=by omega
 have k1:¬9223372036854775807<nb.size+1+U.size:=by omega
 have k2:¬9223372036854775807<nb.size+1+U.size+1:=by omega
 have k3:¬9223372036854775807<nb.size+1+U.size+1+tb.size:=by omega
 rw[<-Y]at hI;rw[<-aa,<-ab];have HI:kb (∀y,eV w y->dr prog 85 #[.int .i64 wt] y λen w'=>en=.returned (.string U)/\eV y w'):=hI;have ac:kb (U=⟨(ma wt.toNat).toArray⟩/\nb=⟨nm.toArray⟩/\tb=⟨tx.toArray⟩):=⟨Y,aa,ab⟩;clear hI O hn ht hd Y aa ab;obtain⟨w0,O⟩:∃w0,w0=w.alloc (.cells #[.string nb,.string tb,.int .i64 wt,.int .i64 tg] 96):=⟨_,rfl⟩
 have hA:∀j,w0.cell? ⟨w.heap.size,j,none⟩=(#[Value.string nb,.string tb,.int .i64 wt,.int .i64 tg]:Array Value)[j]?:=λj=>by
  rw[O,ks _ _ _ _ rfl]
 have ad:kb (eV w w0):=by rw[O];exact eV.alloc _ _
 have d0:w0.cell? ⟨w.heap.size,0,none⟩=some (.string nb):=hA 0;have d1:w0.cell? ⟨w.heap.size,1,none⟩=some (.string tb):=hA 1;have d2:w0.cell? ⟨w.heap.size,2,none⟩=some (.int .i64 wt):=hA 2;clear hA;go_enter func51,ntmps51;go_wp2_with fail;rw[<-O];clear O;refine lY (by kernel_rfl) ?_;refine dG 0 ?_ ?_<|dG 1 ?_ ?_<|dG 2 ?_ ?_<|dG 3 ?_ ?_<|dG 4 ?_ ?_ ?_
 any_goals(intro y hy;have q:=eg hy d0;have q1:=eg hy d2;unfold gm;go_simp;refine⟨eV.refl _,?_⟩;with_reducible rfl)
 go_simp;refine dG 5 ?_ ?_ ?_;rotate_left
 .intro y hy;unfold gm;go_simp;refine⟨rfl,(HI.out y ((eV.trans ad.out hy))).mono ?_⟩;rintro e y2 ⟨rfl,h2⟩;refine⟨_,rfl,h2,?_⟩;with_reducible rfl
 go_simp;refine dG 6 ?_ ?_<|dG 7 ?_ ?_<|dG 8 ?_ ?_<|dG 9 ?_ ?_<|dG 10 ?_ ?_<|dG 11 ?_ ?_ ?_
 any_goals(intro y hy;have q:=eg hy d1;unfold gm;go_simp;refine⟨eV.refl _,?_⟩;with_reducible rfl)
 go_simp;refine xC (by kernel_rfl) ?_ _;intro y hy;have ae:kb (eV w y):=eV.trans ad.out hy;clear hy;go_simp;go_wp2;go_ret;refine⟨?_,ae.out⟩;show Ending.returned (.string (nb++⟨#[32]⟩++U++⟨#[32]⟩++tb))=_;obtain⟨rfl,rfl,rfl⟩:=ac.out;congr 2;unfold fq;apply ByteArray.ext;simp[ByteArray.data_append]
end
section
open Go.Conc Go.RowKit Go.Maps
variable {listed:Array Bool} {ops:Array Oper} {c:Code} {rest:List Nat} {b i:Nat} {o:Oper} {md:Region.Mode} {W:World}
noncomputable def marked (W:World) (Mp:Nat->Prop):World:={W with heap:=W.heap.mapIdx λb x=>@ite _ (Mp b) (k4 _) oJ x}
theorem AX{Mp:Nat->Prop}(h:¬Mp b):(marked W Mp).heap[b]?=W.heap[b]?:=by
 show(W.heap.mapIdx _)[b]?=_;rw[db]
 cases W.heap[b]? with
 |none=>rfl|some x=>simp[h]
theorem KZ{Mp:Nat->Prop}(hb:b<W.heap.size)(h:Mp b):(marked W Mp).heap[b]?=some oJ:=by
 show(W.heap.mapIdx _)[b]?=_;rw[db,cU hb];simp[h]
theorem wj(W:World)(Mp:Nat->Prop):(marked W Mp).heap.size=W.heap.size:=by
 show(W.heap.mapIdx _).size=_;simp
noncomputable def fJ (Z:jN prog) (W0:World) (Mp:Nat->Prop):Env prog where
 Z:=Z
 fC:=λb=>b<W0.heap.size/\¬Mp b
 w0:=marked W0 Mp
 T:=[]
 gl:=λg=>qV g=true
 st:=true
 fw:=λf=>uc f=true
 ok:=Nd prog uc qV true
 X:=λm=>(∀r,Mp r->m.blk r=some r)/\∀r o v,Mp r->W0.cell? ⟨r,o,none⟩=some v->m.rY r o=some v
 le:=λ_ _ h x=>⟨λr hr=>h.blk r r (x.1 r hr),λr o v hr hv=>by rw[h.rY];exact x.2 r o v hr hv⟩
theorem EE(Z:jN prog)(W0:World)(Mp:Nat->Prop):∀b,b<(fJ Z W0 Mp).w0.heap.size->(fJ Z W0 Mp).fC b\/(fJ Z W0 Mp).w0.heap[b]?=some oJ:=λb hb=>by
 have hb:b<W0.heap.size:=by rw[<-wj W0 Mp];exact hb
 by_cases h:Mp b;exact .inr (KZ hb h);exact .inl ⟨hb,h⟩
section
variable {Z:jN prog} {W0:World} {Mp:Nat->Prop} {fn:dt} {tm:Array Value} {os:List OF} {wl:World} {V:List (Nat×Option (List Value))} {k:List Item}
theorem SD(hi:ops[i]?=some o)(U:kd o (ee ops tm)=true)(Y:Ga prog uc qV true o.op=true)
  (O:∀τ,gm prog o ⟨tm,[]⟩ (tp wl τ) (λv y=>dl (fJ Z W0 Mp) (⟨fn,(Act.put ⟨tm,[]⟩ o.dst v).tmps,.inRegion ops rest::k⟩::os) y V)):dl (fJ Z W0 Mp) (⟨fn,tm,.inRegion ops (i::rest)::k⟩::os) wl V:=
 dl.Sn hi U (uW Y) O
theorem dT{v:Value}(h:dl (fJ Z W0 Mp) (⟨fn,(Act.put ⟨tm,[]⟩ o.dst v).tmps,.inRegion ops rest::k⟩::os) wl V)(hi:ops[i]?=some o:=by rfl)(U:∀y:World,gm prog o ⟨tm,[]⟩ y (λu Y=>Same y Y/\u=v):=by intro y;unfold gm;go_simp;refine⟨rfl,?_⟩;with_reducible rfl)
  (O:kd o (ee ops tm)=true:=by rfl) (ho:Ga prog uc qV true o.op=true:=by kernel_rfl):dl (fJ Z W0 Mp) (⟨fn,tm,.inRegion ops (i::rest)::k⟩::os) wl V:=dl.pu hi O (uW ho) U h
theorem LK(O:jK (λo=>Ga prog uc qV true o.op) c=true)(Y:k.all kz=true)(hf:os≠[])(h:∀U:World,U.heap=wl.heap->U.os=wl.os->c.wp prog (Io (fJ Z W0 Mp) fn k os V) ⟨tm,[]⟩ U):dl (fJ Z W0 Mp) (⟨fn,tm,.code c::k⟩::os) wl V:=
 dl.Ju (oO O) Y (.inl hf) λτ _=>h _ rfl rfl
theorem Gl(O:jK (λo=>Ga prog uc qV true o.op) c=true)(U:k.all kz=true)(Y:os≠[])(h:∀τ,c.wp prog (Io (fJ Z W0 Mp) fn k os V) ⟨tm,[]⟩ (tp wl τ)):dl (fJ Z W0 Mp) (⟨fn,tm,.code c::k⟩::os) wl V:=
 dl.Ju (oO O) U (.inl Y) λτ _=>h τ
end
theorem QR{acc:List Nat}(Y:ke md ops listed=[]):∀(O t:Nat),lo md ops O t listed acc=acc.reverse
 |0,_=>rfl
 |f+1,t=>by
  simp only[lo]
  split
  .rename_i q hq
   have U:(ke md ops listed)[t % (ke md ops listed).length]?=some q:=hq
   rw[Y]at U;simp at U
  rfl
theorem tK{j:Nat}(h1:ke md ops listed=[j])(h2:ke md ops (listed.setIfInBounds j true)=[])(U t:Nat):lo md ops (U+1) t listed []=[j]:=by
 simp only[lo];split;rename_i q Y;have O:(ke md ops listed)[t % (ke md ops listed).length]?=some q:=Y;rw[h1]at O;have e0:t % ([j]).length=0:=ft t;rw[e0]at O;have hj:=by simpa using O.symm
 subst hj;exact QR h2 ..;rename_i Y;have O:(ke md ops listed)[t % (ke md ops listed).length]?=none:=Y;rw[h1]at O;have e0:t % ([j]).length=0:=ft t;rw[e0]at O;simp at O
theorem SY{last:Nat}{Z:jN prog}{W0:World}{Mp:Nat->Prop}(h:((cn ops.size).all λi=>i==last || (match ops[i]? with|some o=>Ga prog uc qV true o.op|none=>true))=true):∀(i:Nat)o,i≠last->ops[i]?=some o->OkOp prog (fJ Z W0 Mp).fw (fJ Z W0 Mp).gl (fJ Z W0 Mp).st o.op:=by
 intro i o O hi;have U:=(cT.1 hi).1;have:=cR.1 h i (cf.2 U);rw[hi]at this;simp only[Bool.or_eq_true,beq_iff_eq]at this;rcases this with e|e
 exact absurd e O;exact uW e
theorem H8(m:Nat)(hm:m<=3)(w:World):dr prog 46 #[.int .i64 (m:Int)] w λe w'=>e=.returned (.bool true)/\w=w':=by
 have O:(m:Int)<=3:=by omega
 go_wp2;go_ret;exact⟨rfl,rfl⟩
def Qg(w:World)(base:Nat)(es:List dq)(A:Ask)(most:Nat)(v:Value):Prop:=∃L:List dq,L.Perm (es.filter A.has)/\L.Pairwise (λx y=>dY x y=true)/\∃u,v=.tuple #[u,.int .i64 0]/\w.ownsRow base 9 1 u (L.take most).length (dn ((L.take most).map fq))
section
variable {Z:jN prog} {W0:World} {Mp:Nat->Prop} {fn:dt} {tm:Array Value} {os:List OF} {wl:World} {k:List Item}
def Pq(c:Code):Code:=match c with
 |.seq _ (.seq _ (.seq _ (.seq _ y)))=>y|_=>.skip
theorem ui{fa:Option Addr}{l cp most:Nat}{L:List dq}{wl:World}{a0 a1 a2 a3 a5 a6 a7 a8 a9 a10 a11 av aw a15 a16 a17 a18 a19 a20 a21 a22 a23 a24 a25 a26 a27 a28 a29 ax ay az a' aA aB aC aD aE aF aG aH aI aJ aK aL aM aN aO aP aQ aR aS aT aU aV aW aX aY aZ ba bc bd be bf bh bi:Value}(hi:ops[i]?=some o)(hR:tj wl 4 (.slice fa l cp) l (ir L))(hL:l=L.length)(bt:1<=most)(bu:most<=20)(h5:5<=wl.heap.size)
  (O:∀e∈L,∀y:World,(∀r,r<5->y.heap[r]?=wl.heap[r]?)->dr prog 51 #[.agg #[.string ⟨e.name.toArray⟩,.string ⟨e.text.toArray⟩,.int .i64 e.dp,.int .i64 e.dA]] y λen w'=>en=.returned (.string ⟨(fq e).toArray⟩)/\eV y w')
  (hn:∀(w2:World)(u:Value),(∀r,r<wl.heap.size->w2.heap[r]?=wl.heap[r]?)->wl.heap.size<=w2.heap.size->w2.os=wl.os->w2.ownsRow wl.heap.size 9 1 u (L.take most).length (dn ((L.take most).map fq))->dl (fJ Z W0 Mp) (⟨fn,eM o.dst tm (.tuple #[u,.int .i64 0]),.inRegion ops rest::k⟩::os) w2 []) :
  dl (fJ Z W0 Mp) (⟨17,#[a0,a1,a2,a3,.int .i64 (most:Int),a5,a6,a7,a8,a9,a10,a11,.slice fa l cp,av,aw,a15,a16,a17,a18,a19,a20,a21,a22,a23,a24,a25,a26,a27,a28,a29,ax,ay,az,a',aA,aB,aC,aD,aE,aF,aG,aH,aI,aJ,aK,aL,aM,aN,aO,aP,aQ,aR,aS,aT,aU,aV,aW,aX,aY,aZ,ba,bc,bd,be,bf,bh,bi],[.code (Pq (ey f17))]⟩::⟨fn,tm,.inRegion ops (i::rest)::k⟩::os) wl []:=by
 have HA:kb _:=And.intro hR (And.intro hL (And.intro h5 (And.intro O hn)));clear hR h5 O hn;show dl _ (⟨_,_,[.code (.seq (.region 6 _ false) (.seq (.seq (.region 7 _ false) (.block 0 _)) (.seq (.region 12 _ false) .ret)))]⟩::_) _ _;refine dl.sr λkk HK=>?_
 (refine dT ?_;go_simp);refine dl.ie HK ?_;clear HK kk;refine dl.sc λkk HK=>?_;refine LK (by kernel_rfl) (by rw[HK.out];rfl) (by simp) λy0 ah aa=>?_;obtain⟨hR,hL,h5,O,hn⟩:=HA.out;have ai:tj y0 4 (.slice fa l cp) l (ir L):=hR.later λa u h=>by simp only[kr]at h⊢;rw[ah];exact h
 obtain⟨n,aj⟩:∃n,n=min most l:=⟨_,rfl⟩;have br:min (most:Int) (l:Int)=(n:Int):=by omega
 have bv:n<=l:=by omega
 obtain⟨bw,bx,am,bz,an,_,ab⟩:=id ai;simp only[lw]at am;obtain⟨rfl,_,rfl⟩:=am;have b0:n<=cp:=by omega
 have bs:cp<=9223372036854775807:=an;have HR:kb _:=And.intro ai (And.intro ab (And.intro ah (And.intro aa aj)));clear hR hL h5 O hn ai ab ah aa aj an;obtain⟨i9,bj,ao,bk,bl⟩:=ev tW;go_wp2_with fail;go_loopw [13,56] (λu i wr=>∃j:Nat,j<=n/\i=.int .i64 j/\wr.ownsRow y0.heap.size 9 1 u j (dn ((L.take j).map fq))/\Below y0.heap.size y0 wr) (λ_ i _=>n-(intOf i).toNat)
 case atStart=>exact⟨0,fm _,rfl,kj _ _ _ _,e8 _ _⟩
 case round=>
  obtain⟨j,hj,rfl,ac,hb⟩:=hrel;obtain⟨ag,cg,rfl,b1⟩:=dK ac;have HO:kb (wr.ownsRow y0.heap.size 9 1 (.slice ag j cg) j (dn ((L.take j).map fq))):=ac;have HB:kb (Below _ _ _):=hb;clear ac hb;by_cases b2:j<n
  .have ak:j<L.length:=by omega
   obtain⟨e,he⟩:∃e,e=L[j]:=⟨_,rfl⟩;have af:e∈L:=by rw[he];exact bB ak
   have ad:∀c,c<4->(ir L)[j*4+c]?=(mu e)[c]?:=λc hc=>by rw[Bd L j c ak hc,he]
   obtain⟨bg,og,rfl,bm⟩:=HR.out.2.1 (j*4) (.string ⟨e.name.toArray⟩) (ad 0 (by omega))
   have U:∀c u,c<4->(mu e)[c]?=some u->wr.cell? ⟨bg,og+j*4+c,none⟩=some u:=λc u hc hu=>by
    obtain⟨b',o',h1,h2⟩:=HR.out.2.1 (j*4+c) u (by rw[ad c hc];exact hu);simp only[kT,Addr.mk.injEq]at h1;obtain⟨rfl,rfl,_⟩:=h1;rw[Nat.add_assoc];exact eg HB.out h2
   have d0:wr.cell? ⟨bg,og+j*4,none⟩=some (.string ⟨e.name.toArray⟩):=U 0 _ (by omega) rfl;have d1:wr.cell? ⟨bg,og+j*4+1,none⟩=some (.string ⟨e.text.toArray⟩):=U 1 _ (by omega) rfl;have d2:wr.cell? ⟨bg,og+j*4+2,none⟩=some (.int .i64 e.dp):=U 2 _ (by omega) rfl;have d3:wr.cell? ⟨bg,og+j*4+3,none⟩=some (.int .i64 e.dA):=U 3 _ (by omega) rfl;have HE:kb _:=And.intro he af;clear he af ad U bm;go_wp2_with fail;have ap:=HB.out.size;refine(HA.out.2.2.2.1 e HE.out.2 _ (λr hr=>?_)).mono ?_
   .have h5:=HA.out.2.2.1;have Y:=HR.out.2.2.1;rw[fY _ _ (by rw[Y]at ap;omega),HB.out.block r (by rw[Y];omega),Y]
   rintro en w5 ⟨rfl,hx⟩;have bn:=hx.size;simp only[kf]at bn;have al:Below wr.heap.size wr w5:=((e8 _ _).alloc (fd _) _).trans (Below.mono hx (by simp));have bo:kb (Below y0.heap.size y0 w5):=HB.out.trans (al.mono ap);have aq:kb (w5.ownsRow y0.heap.size 9 1 (.slice ag j cg) j (dn ((L.take j).map fq))):=eh HO.out (λg hg=>al.block g (HO.out.lt g hg).2);clear d0 d1 d2 d3 hx al
   go_wp2_with (first
    |(at_builtin;refine fp _ rfl _ _ 31 rfl y0.heap.size 9 i9 (.string ⟨#[]⟩) 16 i7 bj ao bk bl rfl _ _ _ rfl (aq.out.alloc _) ⟨w5.heap.size,0,none⟩ _ rfl (vT rfl) rfl ?c1 ?c2 ?c3 ?_))
   case c1=>omega
   case c2=>unfold dk;omega
   case c3=>first|omega|(simp;omega)
   intro v3 w3 ae ar _
   have HO3:kb (w3.ownsRow y0.heap.size 9 1 v3 (j+1) (dn ((L.take (j+1)).map fq))):=by
    show w3.ownsRow _ _ _ _ _ _;rw[bN ak,b8,<-HE.out.1];rw[show(cS fq (List.take j L)++cS fq [e])=(L.take j).map fq++[fq e]from rfl,kZ,List.map_take];exact ae
   have HB3:kb (Below y0.heap.size y0 w3):=(bo.out.alloc (by omega) _).grown ar (by simp;omega) (λg hg=>(aq.out.lt g hg).1);clear ae ar;go_wp2;go_roundw
   case rel=>exact⟨j+1,by omega,by go_num,HO3.out,HB3.out⟩
   case measure=>simp[intOf];omega
  have bp:j=n:=by omega
  subst bp;go_wp2;refine gr ?_;rw[HK.out];refine dl.seq (dl.region ?_)
  (iterate 3 (refine dT ?_;go_simp));refine dl.inRegion ?_;refine dl.back (v:=.tuple #[.slice ag j cg,.int .i64 0]) (.inr ⟨_,rfl⟩) func17 hi (λτ=>by simp[er,results17,go_sem]) ?_;obtain⟨_,b3,h5,O,hn⟩:=HA.out;obtain⟨_,_,Y,aa,aj⟩:=HR.out;have hO:=HO.out;have hB:=HB.out;rw[Y]at hO hB;have au:(L.take most).length=j:=by rw[ct];omega
  have bq:L.take j=L.take most:=by
   by_cases hc:most<=L.length;rw[show j=most by omega];rw[show j=L.length by omega,cO,cb (by omega)]
  refine hn wr (.slice ag j cg) (λr hr=>?_) (by have:=hB.size;rw[Y]at this;exact this) (hB.os.trans aa) ?_;rw[hB.block r hr,Y];rw[au,<-bq];exact hO
end
end
section
open Go.RowKit Go.Maps
variable {xs:List Wd} {v:Value} {w':World}
structure mU(w0 w:World):Prop where
 os:w.os=w0.os
 size:w0.heap.size<=w.heap.size
 block:∀k,k<w0.heap.size->w.heap[k]?=w0.heap[k]?
theorem mU.trans{a b c:World}(h:mU a b)(O:mU b c):mU a c:=⟨O.os.trans h.os,fk h.size O.size,λk U=>(O.block k (fr U h.size)).trans (h.block k U)⟩
theorem mU.of{w:World}(h:Below w.heap.size w w'):mU w w':=⟨h.os,h.size,h.block⟩
structure AW(w0 w:World)(F1 F2:Nat->Prop)(b:Nat)(buf:List dq)(ss:List (List dq))(ts:List (List Wd)):Prop where
 j:PJ w F1 F2 b buf ss ts
 To:∀k,F1 k->w0.heap.size<=k
 Qj:∀k,F2 k->w0.heap.size<=k
 low:mU w0 w
structure St(w w':World)(F1 F2 F1' F2':Nat->Prop):Prop where
 size:w.heap.size<=w'.heap.size
 block:∀k,k<w.heap.size->¬F1 k->¬F2 k->w'.heap[k]?=w.heap[k]?
 f1:∀k,F1' k->F1 k\/w.heap.size<=k
 f2:∀k,F2' k->F2 k\/w.heap.size<=k
def Kept(w:World)(F1 F2:Nat->Prop)(v:Value)(xs:List Wd):Prop:=w.ownsRow 0 9 1 v xs.length (dn xs)/\∀g,v.ownBlock=some g->¬F1 g/\¬F2 g
theorem Kept.step{w:World}{F1 F2 Y aa:Nat->Prop}(h:Kept w F1 F2 v xs)(st:St w w' F1 F2 Y aa):Kept w' Y aa v xs:=by
 have U:=λg O=>(h.1.lt g O).2;refine⟨eh h.1 λg O=>st.block g (U g O) (h.2 g O).1 (h.2 g O).2,λg O=>⟨λhf=>?_,λhf=>?_⟩⟩;rcases st.f1 g hf with h1|h1
 exact(h.2 g O).1 h1;have:=U g O;omega;rcases st.f2 g hf with h1|h1
 exact(h.2 g O).2 h1;have:=U g O;omega
theorem Kept.new{w0 w:World}{F1 F2:Nat->Prop}{b:Nat}{buf:List dq}{ss:List (List dq)}{ts:List (List Wd)}(h:AW w0 w F1 F2 b buf ss ts)(O:w'.ownsRow w.heap.size 9 1 v xs.length (dn xs)):Kept w' F1 F2 v xs:=
 ⟨jH O (fm _),λg Y=>⟨λU=>by have:=h.j.T3 g U;have:=(O.lt g Y).1;omega,λU=>by have:=h.j.Uz g U;have:=(O.lt g Y).1;omega⟩⟩
theorem St.same{w:World}{F1 F2:Nat->Prop}(h:mU w w'):St w w' F1 F2 F1 F2:=⟨h.size,λk O _ _=>h.block k O,λ_ O=>.inl O,λ_ O=>.inl O⟩
theorem AW.same{w0 w:World}{F1 F2:Nat->Prop}{b:Nat}{buf:List dq}{ss:List (List dq)}{ts:List (List Wd)}(h:AW w0 w F1 F2 b buf ss ts)(O:mU w w'):AW w0 w' F1 F2 b buf ss ts:=⟨h.j.below O.size O.block,h.To,h.Qj,h.low.trans O⟩
section
variable {w0 w:World} {F1 F2:Nat->Prop} {b:Nat} {buf:List dq} {ss:List (List dq)} {ts:List (List Wd)}
theorem AW.MW{f:dt}{args:Array Value}{code:Nat}{U:List dq}{aa:List (List dq)}(h:AW w0 w F1 F2 b buf ss ts)(hc:∀vM vK,tk vM vK w F1 b buf ss->dr prog f args w (SV (tk vM vK) w F1 b code U aa)) :
  dr prog f args w λe w'=>e=.returned (.int .i64 code)/\∃ab,AW w0 w' ab F2 b U aa ts/\St w w' F1 F2 ab F2:=by
 obtain⟨⟨h1,h2,h3,Bb,vS,B,n,vK,kn,h4,h5⟩,k1,k2,k3⟩:=h;refine(hc _ vK ⟨h1,Bb,vS,h4⟩).mono ?_;rintro e w' ⟨rfl,F',hp,hF,O⟩;refine⟨rfl,F',⟨PJ.entries h1 h2 h3 h4 h5 hp hF O,λk Y=>?_,k2,?_⟩,⟨O.size,λk Y hn _=>O.block k Y hn,hF,λ_ Y=>.inl Y⟩⟩;rcases hF k Y with hf|hf
 exact k1 k hf;exact fk k3.size hf;exact⟨O.os.trans k3.os,fk k3.size O.size,λk Y=>(O.block k (fr Y k3.size) λhf=>absurd (k1 k hf) (by omega)).trans (k3.block k Y)⟩
theorem AW.observe(h:AW w0 w F1 F2 b buf ss ts)(s:ByteArray)(hB:gu ts<=16777216)(hs:s.size<=dk) :
  dr prog 34 #[.pointer (some ⟨b,0,none⟩),.string s] w λe w'=>e=.returned (.int .i64 (sW ts s.data.toList).1)/\∃Y,AW w0 w' F1 Y b buf ss (sW ts s.data.toList).2/\St w w' F1 F2 F1 Y:=by
 obtain⟨⟨h1,h2,h3,Bb,vS,B,n,vK,kn,h4,h5⟩,k1,k2,k3⟩:=h;refine(C8 w F2 b ts s ⟨h2,B,n,vK,kn,h5⟩ hB hs).mono ?_;rintro e w' ⟨rfl,F',hp,hF,O⟩;refine⟨rfl,F',⟨PJ.words h1 h2 h3 h4 h5 hp hF O,k1,λk U=>?_,?_⟩,⟨O.size,λk U _ hn=>O.block k U hn,λ_ U=>.inl U,hF⟩⟩;rcases hF k U with hf|hf
 exact k2 k hf;exact fk k3.size hf;exact⟨O.os.trans k3.os,fk k3.size O.size,λk U=>(O.block k (fr U k3.size) λhf=>absurd (k2 k hf) (by omega)).trans (k3.block k U)⟩
theorem AW.Cp(h:AW w0 w F1 F2 b buf ss ts)(O:Nb w)(s:ByteArray)(most:Int)(U:gu ts<=16777216)(Y:s.size<=dk) :
  dr prog 35 #[.pointer (some ⟨b,0,none⟩),.string s,.int .i64 most] w λe w'=>∃v,e=.returned (.tuple #[v,.int .i64 (uT ts s.data.toList most).2])/\Kept w' F1 F2 v (uT ts s.data.toList most).1/\AW w0 w' F1 F2 b buf ss ts/\mU w w':=by
 obtain⟨⟨h1,h2,h3,Bb,vS,B,n,vK,kn,h4,h5⟩,k1,k2,k3⟩:=id h;refine(Ev w F2 b ts s most O ⟨h2,_,_,B,n,vK,kn,h5⟩ U Y).mono ?_;rintro e w' ⟨v,rfl,ho,hb⟩;exact⟨v,rfl,Kept.new h ho,h.same (.of hb),.of hb⟩
theorem AW.Tt(h:AW w0 w F1 F2 b buf ss ts):∃U O,tk U O w F1 b buf ss:=by
 obtain⟨⟨Y,h2,h3,Bb,vS,B,n,O,kn,h4,h5⟩,k1,k2,k3⟩:=h;exact⟨_,_,Y,Bb,vS,h4⟩
theorem AW.del(h:AW w0 w F1 F2 b buf ss ts)(s:ByteArray)(U:s.size<=dk):dr prog 37 #[.pointer (some ⟨b,0,none⟩),.string s] w λe w'=>e=.returned (.int .i64 (kH buf ss s.data.toList).1)/\∃O,AW w0 w' O F2 b (kH buf ss s.data.toList).2 ss ts/\St w w' F1 F2 O F2:=
 h.MW λvM vK Y=>(Rv w F1 b buf ss s Y U).mono λ_ _ h=>⟨h.1,F1,h.2.1,λ_ hk=>.inl hk,h.2.2⟩
theorem AW.RY(h:AW w0 w F1 F2 b buf ss ts)(s t:ByteArray)(x y:Int)(U:s.size<=dk)(Y:t.size<=dk):dr prog 38 #[.pointer (some ⟨b,0,none⟩),.string s,.string t,.int .i64 x,.int .i64 y] w λe w'=>e=.returned (.int .i64 (js buf ss s.data.toList t.data.toList x y).1)/\∃O,AW w0 w' O F2 b (js buf ss s.data.toList t.data.toList x y).2 ss ts/\St w w' F1 F2 O F2:=
 h.MW λvM vK hp=>(Qk w F1 b buf ss s t x y hp U Y).mono λ_ _ h=>⟨h.1,F1,h.2.1,λ_ hk=>.inl hk,h.2.2⟩
theorem AW.flush(h:AW w0 w F1 F2 b buf ss ts):dr prog 29 #[.pointer (some ⟨b,0,none⟩)] w λe w'=>e=.returned (.int .i64 (eX buf ss).1)/\∃O,AW w0 w' O F2 b (eX buf ss).2.1 (eX buf ss).2.2 ts/\St w w' F1 F2 O F2:=
 h.MW λY vK U=>SX w F1 b buf ss U
theorem AW.merge(h:AW w0 w F1 F2 b buf ss ts)(n:Int):dr prog 39 #[.pointer (some ⟨b,0,none⟩),.int .i64 n] w λe w'=>e=.returned (.int .i64 (eP ss n).1)/\∃O,AW w0 w' O F2 b buf (eP ss n).2 ts/\St w w' F1 F2 O F2:=
 h.MW λY vK U=>Tg w F1 b buf ss n U
theorem AW.jp(h:AW w0 w F1 F2 b buf ss ts):dr prog 30 #[.pointer (some ⟨b,0,none⟩)] w λe w'=>e=.returned (.int .i64 ss.length)/\w=w':=by
 obtain⟨U,Y,O⟩:=h.Tt;exact BP w F1 b buf ss O
end
theorem Uv(w:World):dr prog 31 #[] w λe w'=>∃(b:Nat)(F1 F2:Nat->Prop),e=.returned (.pointer (some ⟨b,0,none⟩))/\AW w w' F1 F2 b [] [] []/\Below w.heap.size w w':=by
 have af:=@kc prog;go_enter func31,ntmps31;go_wp2_with fail;refine(Ps _).mono ?_;rintro e w1 ⟨B,rfl,aa,hC,O⟩;go_wp2;go_ret;have U:(w.alloc (Obj.map #[] 0)).heap.size=w.heap.size+1:=by simp
 have ab:e9 (w.alloc (Obj.map #[] 0)) w.heap.size []:=dL.made w;have ac:e9 w1 w.heap.size []:=dL.below ab O;rw[U]at O aa;have ad:=O.size;rw[U]at ad;have hb:Below w.heap.size w w1:=((e8 _ _).alloc (fd _) _).trans (O.mono (by omega));have ae:=hC.lt;have Y:=hb.alloc (o:=.cells #[.map (some w.heap.size),.slice none 0 0,.map (some B),.slice none 0 0] 90) (by omega);refine⟨w1.heap.size,λk=>k=w1.heap.size\/k=w.heap.size,λk=>k=w1.heap.size\/k=B,rfl,⟨⟨?_,?_,?_,w.heap.size,.slice none 0 0,B,0,.slice none 0 0,[],?_,?_⟩,?_,?_,.of Y⟩,Y⟩;rintro k (rfl|rfl);simp;simp;omega;rintro k (rfl|rfl);simp;simp;omega;rintro k (h|h) (h'|h')<;>omega;exact⟨nI ..,Or.inl rfl,Or.inr rfl,dL.stay ac (eC _ _ _ (by omega)),kj ..,nofun,Kv⟩;refine⟨nI ..,Or.inl rfl,Or.inr rfl,?_,by simp[gu],kj ..,nofun,by simp[eJ],nofun,by simp⟩;refine(hC.stay (eC _ _ _ ae)).mono (fd _) (λws _=>by rw[Pc]);rintro k (rfl|rfl)<;>omega;rintro k (rfl|rfl)<;>omega
theorem Bo{w:World}{F1 F2:Nat->Prop}(h:Kept w F1 F2 v xs):∃a c,v=.slice a xs.length c/\xs.length<=c/\c<=dk/\∀i(hi:i<xs.length),∃g,a=some ⟨g,0,none⟩/\w.cell? ⟨g,i,none⟩=some (.string ⟨xs[i].toArray⟩):=by
 rcases h.1.2 with⟨rfl,U⟩|⟨g,cap,cur,rfl,_,Y,h1,h2,h3,h4⟩
 refine⟨none,0,by rw[U],by omega,fm _,λi hi=>?_⟩;omega;refine⟨some _,cap,rfl,h1,h2,λi hi=>⟨g,rfl,?_⟩⟩;rw[dh Y];have O:=gU xs i hi;rw[<-h4,bS,if_pos (by omega)]at O;simpa using O
theorem NI{w:World}{F1 F2:Nat->Prop}(x y:Wd)(h:Kept w F1 F2 v [x,y]):dr prog 27 #[v,.string ⟨x.toArray⟩,.string ⟨y.toArray⟩,.int .i64 2] w λe w'=>e=.returned (.bool true)/\w=w':=by
 obtain⟨a,c,rfl,Y,aa,O⟩:=Bo h;obtain⟨g,rfl,d0⟩:=O 0 (by simp);obtain⟨g',U,d1⟩:=O 1 (by simp);simp only[kT,Addr.mk.injEq,and_true]at U;subst U;go_wp2;go_ret;exact⟨rfl,rfl⟩
theorem TC{w:World}{F1 F2:Nat->Prop}(x:Wd)(y:ByteArray)(h:Kept w F1 F2 v [x]):dr prog 27 #[v,.string ⟨x.toArray⟩,.string y,.int .i64 1] w λe w'=>e=.returned (.bool true)/\w=w':=by
 obtain⟨a,c,rfl,U,Y,O⟩:=Bo h;obtain⟨g,rfl,d0⟩:=O 0 (by simp);go_wp2;go_ret;exact⟨rfl,rfl⟩
end
section
open Go.Conc Go.RowKit Go.Maps
variable {A:Ask} {ms:List Value} {cap num:Nat} {w w':World}
structure SG(w:World)(num:Nat)(A:Ask)(cap:Nat)(ms:List Value):Prop where
 c0:w.heap[5]?=some (.cells #[.chan (some 10)] 167 (0,1))
 c2:w.heap[7]?=some (.cells #[.int .i64 num] 3 (0,1))
 c3:w.heap[8]?=some (.cells #[.int .i64 A.m,.string A.q,.int .i64 A.t] 94 (0,3))
 ch:w.heap[10]?=some (.chan cap ms.toArray false ms.length 0 false)
theorem SG.stay(h:SG w num A cap ms)(hb:∀k,k=5\/k=7\/k=8\/k=10->w'.heap[k]?=w.heap[k]?):SG w' num A cap ms:=
 ⟨(hb 5 (by simp)).trans h.c0,(hb 7 (by simp)).trans h.c2,(hb 8 (by simp)).trans h.c3,(hb 10 (by simp)).trans h.ch⟩
theorem SG.lt(h:SG w num A cap ms):10<w.heap.size:=eS h.ch
theorem SG.uZ(h:SG w num A cap ms)(O:kV w w'):SG w' num A cap ms:=by
 obtain⟨τ,O⟩:=O;have:=h.lt;exact h.stay λk U=>O.block k (by show k<w.heap.size;omega)
theorem SG.gI(h:SG w num A cap ms)(v:Value):SG {w with heap:=w.heap.setIfInBounds 10 (.chan cap (ms.toArray.push v) false (ms.length+1) 0 false)} num A cap (ms++[v]):=by
 have U:=h.lt;have hb:∀k,k≠10->(w.heap.setIfInBounds 10 (.chan cap (ms.toArray.push v) false (ms.length+1) 0 false))[k]?=w.heap[k]?:=λk O=>by rw[cV (Ne.symm O)]
 refine⟨(hb 5 (by omega)).trans h.c0,(hb 7 (by omega)).trans h.c2,(hb 8 (by omega)).trans h.c3,?_⟩;rw[dc (by omega)];simp
theorem Qw{q:Nat}{e:dq}(hA:A.Ok)(h:SG w num A cap ms)(hc:ms.length<cap)(he:Told e) :
  dr prog 118 #[.int .i64 (q:Int),.string ⟨e.name.toArray⟩,qO e,.pointer (some ⟨5,0,none⟩),.pointer (some ⟨7,0,none⟩),.pointer (some ⟨8,0,none⟩)] w λen w'=>en=.returned (.tuple #[])/\SG w' num A cap (ms++[l7 A num (q,e)])/\du (· = 10) w w':=by
 have HS:kb _:=h
 have HM:kb (∀y:World,dr prog 119 #[.agg #[.int .i64 num,.int .i64 q],.string ⟨e.name.toArray⟩,qO e,.agg #[.int .i64 A.m,.string A.q,.int .i64 A.t]] y λx w'=>x=.returned (l7 A num (q,e))/\eV y w'):=λy=>by
  refine(Gb num q ⟨e.name.toArray⟩ e.gone ⟨(uz e).toArray⟩ ⟨e.text.toArray⟩ e.dp e.dA A.m A.t A.q y hA.m hA.t he.2.2 hA.q (by show e.text.toArray.size<=_;have:=he.2.1;simp;omega)).mono ?_;rintro x w' ⟨h1,h2⟩;exact⟨h1,h2⟩
 obtain⟨mv,ac⟩:∃mv,mv=l7 A num (q,e):=⟨_,rfl⟩;rw[<-ac]at HM⊢;obtain⟨w0,ad⟩:∃w0,w.alloc (.cells #[.bool e.gone,.string ⟨(uz e).toArray⟩,.string ⟨e.text.toArray⟩,.int .i64 e.dp,.int .i64 e.dA] 111)=w0:=⟨_,rfl⟩;have ae:kb (Below w.heap.size w w0):=by show Below _ _ _;rw[<-ad];exact(e8 _ _).alloc (fd _) _
 have aa:w0.heap[w.heap.size]?=some (.cells #[.bool e.gone,.string ⟨(uz e).toArray⟩,.string ⟨e.text.toArray⟩,.int .i64 e.dp,.int .i64 e.dA] 111 (0,0)):=by rw[<-ad];exact heap_alloc_new w _
 have Y:kb (SG w0 num A cap ms):=h.stay λk hk=>ae.out.block k (by have:=h.lt;omega);have HY:kb (∀y,kV w0 y->y.heap[w.heap.size]?=some (.cells #[.bool e.gone,.string ⟨(uz e).toArray⟩,.string ⟨e.text.toArray⟩,.int .i64 e.dp,.int .i64 e.dA] 111 (0,0))):=λy ⟨τ,U⟩=>(U.block _ (eS aa)).trans aa;clear h he hA ac aa HS;unfold qO at HM⊢;go_enter func118,ntmps118;go_upto_region 1 with fail;refine gz (Sd:=λa y=>y.tape=w0.tape->mD _ _ _ [8] a y) (last:=8) (tl:=[]) (by kernel_rfl) ?_ (λa y h ht=>h ht);refine dC 0 ?_ ?_ ?_;rotate_left
 .intro y U;have O:=(Y.out.uZ U).c0;have q0:y.cell? ⟨5,0,none⟩=some (.chan (some 10)):=by rw[dh O];rfl
  clear O;unfold gm;go_simp;refine⟨eV.refl _,?_⟩;with_reducible rfl
 go_simp;refine dC 1 ?_ ?_ ?_;rotate_left
 .intro y U;have O:=(Y.out.uZ U).c2;have q0:y.cell? ⟨7,0,none⟩=some (.int .i64 num):=by rw[dh O];rfl
  clear O;unfold gm;go_simp;refine⟨eV.refl _,?_⟩;with_reducible rfl
 go_simp;refine dC 2 ?_ ?_<|dC 3 ?_ ?_<|dC 4 ?_ ?_ ?_
 any_goals(intro y U;unfold gm;go_simp;refine⟨eV.refl _,?_⟩;with_reducible rfl)
 go_simp;refine dC 5 ?_ ?_ ?_;rotate_left
 .intro y U;have O:=HY.out y U;have q0:y.cell? ⟨w.heap.size,0,none⟩=some (.bool e.gone):=by rw[dh O];rfl
  have q1:y.cell? ⟨w.heap.size,1,none⟩=some (.string ⟨(uz e).toArray⟩):=by rw[dh O];rfl
  have q2:y.cell? ⟨w.heap.size,2,none⟩=some (.string ⟨e.text.toArray⟩):=by rw[dh O];rfl
  have q3:y.cell? ⟨w.heap.size,3,none⟩=some (.int .i64 e.dp):=by rw[dh O];rfl
  have q4:y.cell? ⟨w.heap.size,4,none⟩=some (.int .i64 e.dA):=by rw[dh O];rfl
  clear O;unfold gm;go_simp;refine⟨eV.refl _,?_⟩;with_reducible rfl
 go_simp;refine dC 6 ?_ ?_ ?_;rotate_left
 .intro y U;have O:=(Y.out.uZ U).c3;have q0:y.cell? ⟨8,0,none⟩=some (.int .i64 A.m):=by rw[dh O];rfl
  have q1:y.cell? ⟨8,1,none⟩=some (.string A.q):=by rw[dh O];rfl
  have q2:y.cell? ⟨8,2,none⟩=some (.int .i64 A.t):=by rw[dh O];rfl
  clear O;unfold gm;go_simp;refine⟨eV.refl _,?_⟩;with_reducible rfl
 go_simp;refine dC 7 ?_ ?_ ?_;rotate_left
 .intro y U;unfold gm;go_simp;refine⟨rfl,(HM.out y).mono ?_⟩;rintro e y2 ⟨rfl,h2⟩;refine⟨_,rfl,h2,?_⟩;with_reducible rfl
 go_simp;refine mP (by kernel_rfl) (λt=>Cz (by kernel_rfl) _ _) ?_;intro y U ht;have ab:=Y.out.uZ U;refine xV (v:=mv) rfl rfl rfl rfl rfl rfl ab.ch (by simpa using hc) ?_;have af:kb _:=ab.gI mv
 have HF:kb (du (· = 10) w {y with heap:=y.heap.setIfInBounds 10 (.chan cap (ms.toArray.push mv) false (ms.length+1) 0 false)}):=by
  obtain⟨τ,hx⟩:=U;have hb:=ae.out;refine⟨hx.os.trans hb.os,ht.trans hb.tape,hx.output.trans hb.output,?_,λk hk hn=>?_⟩;show _<=(y.heap.setIfInBounds 10 _).size;rw[Array.size_setIfInBounds];exact fk hb.size hx.size;show(y.heap.setIfInBounds 10 _)[k]?=_;rw[cV (Ne.symm hn)];exact(hx.block k (fr hk hb.size)).trans (hb.block k hk)
 clear ab;generalize ({y with heap:=y.heap.setIfInBounds 10 (.chan cap (ms.toArray.push mv) false (ms.length+1) 0 false)}:World)=w3 at *;go_end0;exact⟨rfl,af.out,HF.out⟩
def UF(num:Nat)(A:Ask)(cap:Nat):GI where
 fn:=118
 cp:=#[.pointer (some ⟨5,0,none⟩),.pointer (some ⟨7,0,none⟩),.pointer (some ⟨8,0,none⟩)]
 own k:=k=10
 Qd k:=k=5\/k=7\/k=8\/k=10
 T w told:=SG w num A cap (told.map (l7 A num))
theorem Ra{mx:Nat}(U:A.Ok)(hc:1099511627776<=cap):(UF num A cap).Ok mx where
 gO:=⟨_,_,func118,rfl,by kernel_rfl⟩
 sub _ h:=.inr (.inr (.inr h))
 lt:=by
  rintro w told k h O;have:=SG.lt h;have O:k=5\/k=7\/k=8\/k=10:=O;omega
 stay h hb:=SG.stay h hb
 tell:=by
  intro w q told e h _ hl Y _;refine(Qw (q:=q) U h (by rw[bG];omega) Y).mono ?_;rintro en w' ⟨rfl,g1,g2⟩;exact⟨rfl,by show SG _ _ _ _ _;rw[b8];exact g1,g2⟩
end
section
open Go.Conc Go.RowKit Go.Maps
def Uo(L:List Value)(w:World):Exit->Act->World->Prop:=λe a w'=>(e=.normal\/e=.ret)/\a.defers=rn/\(∃cap buf s r t,w'.heap[10]?=some (.chan cap buf false s r t)/\buf.toList=L)/\du (· = 10) w w'
theorem Uk{num cap:Nat}{A:Ask}{S:ByteArray}{ps qs:List (Nat×dq)}{w:World}(Y:A.Ok)(hc:1099511627776<=cap)(h:SG w num A cap [])(h6:w.heap[6]?=some (.cells #[.string S] 9 (0,1)))(hS:S.size<=1099511627775)(hX:jo S.size S.data.toList=some (ps,qs)) :
  (vf f116).wp prog (Uo ((ps++qs).map (l7 A num)) w) ⟨(uM 116 8 4 .skip).tmps,rn⟩ w:=by
 have O:=BI (Ra (num:=num) (mx:=S.size) Y hc) (w:=w) h hS (fd _) hX;have c6:w.cell? ⟨6,0,none⟩=some (.string S):=by rw[dh h6];rfl
 rw[show(uM _ 8 4 _).tmps=#[.pointer _,.pointer _,.pointer _,.pointer _,.chan _,mp,mp,mp]from rfl];show Code.wp _ (Code.region 1 _ false) ..;obtain⟨L,U⟩:∃L,L=(ps++qs).map (l7 A num):=⟨_,rfl⟩;rw[<-U];have HL:kb _:=U;go_wp2_with fail;refine O.mono ?_;rintro e w2 ⟨rfl,g1,g2⟩;have HG:kb _:=g2;have HF:kb _:=g1;go_wp2;exact⟨.inl rfl,rfl,⟨_,_,_,_,_,HG.out.ch,by rw[HL.out]⟩,HF.out⟩
end
section
open Go.Conc Go.RowKit Go.Maps
def UL(s:Nat)(S:ByteArray)(num:Nat)(A:Ask):Nat->Array Value|0=>#[.chan (some (s+3))]|1=>#[.string S]|2=>#[.int .i64 num]|_=>Md A
def UP(S:ByteArray)(num:Nat)(A:Ask):Nat->Array Value|0=>#[.chan (some 10)]|1=>#[.string S]|2=>#[.int .i64 num]|_=>Md A
def U1:Nat->ef|0=>167|1=>9|2=>3|_=>94
theorem Lh{Z:jN prog}{w:World}{T:List Frame}{dd q K num s:Nat}{A:Ask}{S:ByteArray}{ps qs:List (Nat×dq)}{w6:World}{os:List OF}{lent:Bool}(hA:A.Ok)(hK:K<=s+5)(h5:5<=s)(ab:dd<s)
  (hc:∀i,i<4->w6.heap[bb s i]?=some (.cells (UL s S num A i) (U1 i) (0,0))) (hS:S.size<=1099511627775) (hX:jo S.size S.data.toList=some (ps,qs)) :
  Sends (nY prog Z w T dd q K lent) (nY prog Z w T dd q (s+5) lent) 116 (xh (bb s)) os os w6 (sJ w6 [bb s 0,bb s 1,bb s 2,bb s 3]) (s+3) ((ps++qs).map (l7 A num)):=by
 refine F5 (cm:=UL s S num A) (cd:=UP S num A) (te:=U1) (fz:=λ_=>(0,0)) (M:=none) (ex:=.map #[] 0) (cap:=1099511627776) TU rfl rfl (by decide) (by decide) (by decide) Ur (λv hv=>?_) ⟨rfl,rfl,rfl,rfl,rfl,CR,λm O=>?_,λb=>?_,λi hi=>?_,NX s,hc,λm O i hi=>?_,rfl,rfl,λi h1 h4 m mi w' a' O hw ac Y=>?_,nofun⟩ λτ=>?_;obtain⟨p,_,rfl⟩:=b4.1 hv;exact Gx A num p;obtain⟨x1,x2,x3⟩:=O.x;refine⟨x1,x2,λr O=>?_⟩;rcases O with O|O
 have:=x3 r O;omega;simp only[b9,bM,or_false,bb]at O;omega;exact⟨λh=>⟨h,nofun⟩,λh=>h.1⟩;have:=Ks s i;omega;obtain⟨x1,_,_⟩:=O.x;rw[x1];have:=(Ks s i).1;omega;have:i=1\/i=2\/i=3:=by omega
 rcases this with rfl|rfl|rfl
 exact Flat.arr (c:=#[.string S]) (λj U=>by
  have:=U;match j,this with
  |0,_=>exact .string _) Y
 exact Flat.arr (c:=#[.int _ num]) (λj U=>by
  have:=U;match j,this with
  |0,_=>exact .int ..) Y
 exact Flat.arr (c:=Md A) (λj U=>by
  have:=U;match j,this with
  |0,_=>exact .int ..|1,_=>exact .string _|2,_=>exact .int ..) Y
 have aa:SG (tp (sF w6 (UP S num A) U1 1099511627776 (.map #[] 0)) τ) num A _ []:=⟨rfl,rfl,rfl,rfl⟩;exact BO (Uk hA (fd _) aa rfl hS hX) λe a w' ⟨h1,h2,h3,_⟩=>⟨h1,h2,h3,.inl rfl⟩
end
section
open Go.Conc Go.RowKit Go.Maps
section
variable {Z:jN prog} {w:World} {T:List Frame} {dd q K:Nat} {lent:Bool} {fn:dt} {tm:Array Value} {os:List OF} {wl:World} {V:List (Nat×Option (List Value))} {k:List Item}
theorem wQ(num:Nat)(A:Ask){S:ByteArray}{ps qs:List (Nat×dq)}{ops:Array Oper}{i:Nat}{rest:List Nat}{o:Oper}(s:Nat)(hs:s=wl.heap.size)(hi:ops[i]?=some o)(hA:A.Ok)(hK:K<=s+5)(h5:5<=s)(ai:dd<s)(aj:∀(r:Nat)a c,wl.heap[r]?≠some (.map a c))
  (ak:S.size<=1099511627775) (hX:jo S.size S.data.toList=some (ps,qs)) (hV:∀x∈V,x.1<s)
  (hn:∀w2:World,w2.heap.size=s+5->(∀r,r<s->w2.heap[r]?=wl.heap[r]?)->(∀(r:Nat)a c,w2.heap[r]?≠some (.map a c))->w2.os=wl.os->dl (nY prog Z w T dd q (s+5) lent) (⟨fn,eM o.dst tm (.chan (some (s+3))),.inRegion ops rest::k⟩::os) w2 ((s+3,some ((ps++qs).map (l7 A num)))::V)) :
  dl (nY prog Z w T dd q K lent) (⟨79,#[.int .i64 num,.string S,.agg #[.int .i64 A.m,.string A.q,.int .i64 A.t],mp,mp,mp,mp,mp,mp,mp,mp],[.code (ey f79)]⟩::⟨fn,tm,.inRegion ops (i::rest)::k⟩::os) wl V:=by
 show dl _ (⟨_,_,[.code (.seq (.region 0 _ false) (.seq (.region 1 _ false) (.seq (.region 2 _ false) (.seq (.region 3 _ false) .ret))))]⟩::_) _ _;refine dl.seq ?_;have HS:kb _:=hs;clear hs;refine iP (by kernel_rfl) rfl (.inl (by simp)) λy0 O U=>?_;have HY:kb (y0.heap=wl.heap/\y0.os=wl.os):=⟨O,U⟩;clear O U;go_wp2;refine gr ?_;obtain⟨O,U⟩:=HY.out;obtain⟨w3,aa⟩:∃w3,w3=(((y0.alloc (.cells #[.int .i64 num] 3)).alloc (.cells #[.string S] 9)).alloc (.cells #[.int .i64 A.m,.string A.q,.int .i64 A.t] 94)):=⟨_,rfl⟩;have Y:y0.heap.size=s:=by rw[O];exact HS.out.symm
 have z3:w3.heap.size=s+3:=by rw[aa];simp[Y]
 have o3:∀r,r<s->w3.heap[r]?=wl.heap[r]?:=λr hr=>by
  rw[aa,fY _ _ (by simp[Y];omega),fY _ _ (by simp[Y];omega),fY _ _ (by rw[Y];omega),O]
 have g0:w3.heap[s]?=some (.cells #[.int .i64 num] 3 (0,0)):=by rw[aa,fY _ _ (by simp only[kf,Y];omega),fY _ _ (by simp only[kf,Y];omega),iF _ _ Y.symm]
 have g1:w3.heap[s+1]?=some (.cells #[.string S] 9 (0,0)):=by rw[aa,fY _ _ (by simp[Y]),iF _ _ (by simp[Y])]
 have g2:w3.heap[s+2]?=some (.cells #[.int .i64 A.m,.string A.q,.int .i64 A.t] 94 (0,0)):=by rw[aa,iF _ _ (by simp[Y])]
 have p3:w3.os=wl.os:=by rw[aa];exact U
 rw[<-aa,Y];clear aa O U Y HY y0;refine dl.seq (dl.region ?_);refine dl.B9 (i:=0) rfl rfl (λal w=>by kernel_rfl) ?_;rw[z3];obtain⟨w4,ac⟩:∃w4:World,w4={w3 with heap:=w3.heap.push jn}:=⟨_,rfl⟩;have z4:w4.heap.size=s+4:=by rw[ac];simp[z3]
 have o4:∀r,r<s+3->w4.heap[r]?=w3.heap[r]?:=λr hr=>by rw[ac];show(w3.heap.push _)[r]?=_;rw[de,if_neg (by omega)]
 have g3:w4.heap[s+3]?=some jn:=by rw[ac];show(w3.heap.push _)[s+3]?=_;rw[<-z3];simp
 have p4:w4.os=wl.os:=by rw[ac];exact p3
 rw[<-ac];clear ac;have ag:s+1+1=s+2:=rfl;rw[ag];clear ag;go_simp;refine lQ rfl (by rfl) (by kernel_rfl) λy0 O U=>?_;have HY:kb (y0.heap=w4.heap/\y0.os=w4.os):=⟨O,U⟩;clear O U;unfold gm;go_simp;simp only[iK];obtain⟨O,U⟩:=HY.out;obtain⟨w5,ad⟩:∃w5,w5=y0.alloc (.cells #[.chan none] 167):=⟨_,rfl⟩;have z5:w5.heap.size=s+5:=by rw[ad];simp[O,z4]
 have o5:∀r,r<s+4->w5.heap[r]?=w4.heap[r]?:=λr hr=>by rw[ad,fY _ _ (by rw[O,z4];exact hr),O]
 have g4:w5.heap[s+4]?=some (.cells #[.chan none] 167 (0,0)):=by rw[ad,iF _ _ (by rw[O,z4])]
 have p5:w5.os=wl.os:=by rw[ad];exact U.trans p4
 rw[<-ad,O,z4];clear ad O U HY y0;refine lQ rfl (by rfl) (by kernel_rfl) λy0 O U=>?_;have c4:y0.cell? ⟨s+4,0,none⟩=some (.chan none):=by rw[dh (by rw[O];exact g4)];rfl
 have f4:y0.frozen? ⟨s+4,0,none⟩=false:=dI (by rw[O];exact g4) 0;have HY:kb (y0.heap=w5.heap/\y0.os=w5.os):=⟨O,U⟩;clear O U;unfold gm;go_simp;simp only[iK];obtain⟨O,U⟩:=HY.out;obtain⟨w6,ae⟩:∃w6,w6=y0.setCell ⟨s+4,0,none⟩ (.chan (some (s+3))):=⟨_,rfl⟩;have z6:w6.heap.size=s+5:=by rw[ae];simp[O,z5]
 have o6:∀r,r≠s+4->w6.heap[r]?=w5.heap[r]?:=λr hr=>by rw[ae,ez _ _ _ _ hr,O]
 have g6:w6.heap[s+4]?=some (.cells #[.chan (some (s+3))] 167 (0,0)):=by rw[ae];exact heap_setCell_box_a _ (by rw[O];exact g4)
 have p6:w6.os=wl.os:=by rw[ae];exact U.trans p5
 rw[<-ae];clear ae O U HY c4 f4 y0;refine dl.inRegion (dl.seq (dl.region ?_));have k0:w6.heap[s]?=some (.cells #[.int .i64 num] 3 (0,0)):=by rw[o6 _ (by omega),o5 _ (by omega),o4 _ (by omega)];exact g0
 have k1:w6.heap[s+1]?=some (.cells #[.string S] 9 (0,0)):=by rw[o6 _ (by omega),o5 _ (by omega),o4 _ (by omega)];exact g1
 have k2:w6.heap[s+2]?=some (.cells #[.int .i64 A.m,.string A.q,.int .i64 A.t] 94 (0,0)):=by rw[o6 _ (by omega),o5 _ (by omega),o4 _ (by omega)];exact g2
 have k3:w6.heap[s+3]?=some jn:=by rw[o6 _ (by omega),o5 _ (by omega)];exact g3
 have ko:∀r,r<s->w6.heap[r]?=wl.heap[r]?:=λr hr=>by rw[o6 _ (by omega),o5 _ (by omega),o4 _ (by omega),o3 _ hr]
 clear g0 g1 g2 g3 g4 o3 o4 o5 o6 z3 z4 z5 p3 p4 p5
 have ah:∀j,j<4->w6.heap[bb s j]?=some (.cells (UL s S num A j) (U1 j) (0,0)):=by
  intro j hj;match j,hj with
  |0,_=>exact g6|1,_=>exact k1|2,_=>exact k0|3,_=>exact k2
 have af:∀(r:Nat)a c,w6.heap[r]?≠some (.map a c):=by
  intro r a c h;by_cases h1:r<s;rw[ko r h1]at h;exact aj r a c h;have h2:=(cT.1 h).1;rw[z6]at h2;have:r=s\/r=s+1\/r=s+2\/r=s+3\/r=s+4:=by omega
  rcases this with rfl|rfl|rfl|rfl|rfl
  rw[k0]at h;cases h;rw[k1]at h;cases h;rw[k2]at h;cases h;rw[k3]at h;cases h;rw[g6]at h;cases h
 have hS:=λos=>Lh (Z:=Z) (w:=w) (T:=T) (q:=q) (lent:=lent) (os:=os) hA hK h5 ai ah ak hX;refine dl.go (i:=0) (j:=1) (f:=116) (q:=9) (rc:=s+3) (E₂:=nY prog Z w T dd q (s+5) lent) (wl₂:=sJ w6 [bb s 0,bb s 1,bb s 2,bb s 3]) (L:=(ps++qs).map (l7 A num)) (os₂:=?os2) (V₂:=(s+3,some ((ps++qs).map (l7 A num)))::V) rfl rfl rfl rfl rfl rfl rfl rfl ?hcx ?hq ?hS ?h1 ?h2 ?h3 ?h4 ?h5 ?h6
 case hS=>
  have e:di (iS #[Value.int IntKind.i64 ↑num,Value.string S,Value.agg #[Value.int IntKind.i64 ↑A.m,Value.string A.q,Value.int IntKind.i64 ↑A.t],Value.pointer (some {block:=s,off:=0}),Value.pointer (some {block:=s+1,off:=0}),Value.pointer (some {block:=s+2,off:=0}),Value.chan none,Value.pointer (some {block:=s+4,off:=0}),Value.chan (some (s+3)),mp,mp]) #[Operand.tmp 7,Operand.tmp 4,Operand.tmp 3,Operand.tmp 5]=xh (bb s):=by kernel_rfl
  rw[e];exact hS _
 intro x hx;simp only[b9,bM,or_false]at hx;rcases hx with rfl|rfl|rfl|rfl<;>trivial
 show 9<11;decide;intro q' h1 h2 m Pd ρ gs w' t am an ao j m' r' hr;exact absurd h1 h2;simp;intro x hx;rcases b9.1 hx with rfl|hx
 exact .inl rfl;refine .inr ⟨bJ _ hx,λe=>?_⟩;have:=hV x hx;rw[e]at this;exact absurd this (by show ¬(s+3<s);omega);simp;intro r vs hr;rcases b9.1 hr with hr|hr
 cases hr;exact bJ _ hr;obtain⟨w7,ab⟩:∃w7,w7=sJ w6 [bb s 0,bb s 1,bb s 2,bb s 3]:=⟨_,rfl⟩;have z7:w7.heap.size=s+5:=by rw[ab,ur];exact z6
 have o7:∀r,r<s->w7.heap[r]?=wl.heap[r]?:=λr hr=>by
  rw[ab,pV _ (by simp only[b9,bM,or_false,bb];omega)];exact ko r hr
 have g7:w7.heap[s+4]?=some (.cells #[.chan (some (s+3))] 167 (0,1)):=by
  rw[ab];exact zW w6 (by simp[bb]) g6
 have m7:∀(r:Nat)a c,w7.heap[r]?≠some (.map a c):=by
  intro r a c h;rw[ab,xp]at h
  cases he:w6.heap[r]? with
  |none=>rw[he]at h;cases h
  |some o=>
   rw[he]at h;simp only[ls,kT]at h;split at h
   cases o<;>simp[O9]at h;exact af _ _ _ he;exact af r a c (by rw[he,h])
 have p7:w7.os=wl.os:=by rw[ab];exact p6
 rw[<-ab];clear ab hS ah af k0 k1 k2 k3 ko g6 z6 p6;refine dl.inRegion (dl.seq ?_);refine iP (by kernel_rfl) rfl (.inl (by simp)) λy0 O U=>?_;have c7:y0.cell? ⟨s+4,0,none⟩=some (.chan (some (s+3))):=by rw[dh (by rw[O];exact g7)];rfl
 have HY:kb (y0.heap=w7.heap/\y0.os=w7.os):=⟨O,U⟩;clear O U;simp only[cB,cK,cJ];go_wp2;refine gr ?_;obtain⟨O,U⟩:=HY.out;refine dl.back (v:=.chan (some (s+3))) (.inr ⟨_,rfl⟩) func79 hi (λτ=>?_) (hn y0 (by rw[O];exact z7) (λr hr=>by rw[O];exact o7 r hr) (λr a c=>by rw[O];exact m7 r a c) (U.trans p7));kernel_rfl
end
end
section
open Go.Conc Go.RowKit Go.Maps
def xO(c:Code):Code:=match c with
 |.seq _ (.seq _ (.seq (.seq _ (.block _ (.loop x))) _))=>x|_=>.skip
theorem NH:f79.name≠ "runtime.NumGoroutine":=by
 decide
section
variable {Z:jN prog} {w:World} {T:List Frame} {dd q K:Nat} {wl:World} {V:Vs}
theorem MK{A:Ask}{S:ByteArray}{ps qs:List (Nat×dq)}{cl:Nat->Option Nat}{sb so n sc bx b s k:Nat}{a2 a3 a4 a6 a8 a9 a10 aD a15 a16 a17 a18 a19 a20 a21 a22 a23 a24 a25 a26 a27 a28 a29 ao ap aq ar au av aw ax ay az a0:Value}{td:List Item}(hT:∀ps,T=[ps]->ps.mode≠.panicking [ej])
  (hs:s=wl.heap.size) (hA:A.Ok) (hK:K<=s+5) (h5:5<=s) (Y:dd<s) (O:∀(r:Nat)a c,wl.heap[r]?≠some (.map a c)) (hn:n<=6) (hk:k<n) (hV:∀x∈V,x.1<s)
  (aa:wl.heap[bx]?=some (.cells #[.int .i64 A.m,.string A.q,.int .i64 A.t] 94 (0,0))) (hb:wl.heap[b]?=some (.cells (mz cl) 125 (0,0)))
  (ad:wl.cell? ⟨sb,so+k,none⟩=some (.string S)) (ab:S.size<=1099511627775) (hX:jo S.size S.data.toList=some (ps,qs))
  (fin:∀(w2:World)(c8 c9 aE aF aG aH aI aJ aK aL aM aN aO:Value),w2.heap.size=s+5->(∀r,r<s->r≠b->w2.heap[r]?=wl.heap[r]?)->w2.heap[b]?=some (.cells (mz (lD cl k (s+3))) 125 (0,0))->(∀(r:Nat)a c,w2.heap[r]?≠some (.map a c))->w2.os=wl.os->
    dl (nY prog Z w T dd q (s+5) false) [⟨49,#[.slice (some ⟨sb,so,none⟩) n sc,.map (some dd),a2,a3,a4,.pointer (some ⟨bx,0,none⟩),a6,.pointer (some ⟨b,0,none⟩),c8,c9,a10,.slice (some ⟨sb,so,none⟩) n sc,.int .i64 (n:Int),.int .i64 ((k+1:Nat):Int),aE,aF,aG,aH,aI,aJ,aK,aL,aM,aN,aO,a25,a26,a27,a28,a29,ao,ap,aq,ar,au,av,aw,ax,ay,az,a0],.code (xO (ey Tryz.f49))::.inLoop (xO (ey Tryz.f49))::td⟩] w2 ((s+3,some ((ps++qs).map (l7 A k)))::V)) :
  dl (nY prog Z w T dd q K false) [⟨49,#[.slice (some ⟨sb,so,none⟩) n sc,.map (some dd),a2,a3,a4,.pointer (some ⟨bx,0,none⟩),a6,.pointer (some ⟨b,0,none⟩),a8,a9,a10,.slice (some ⟨sb,so,none⟩) n sc,.int .i64 (n:Int),.int .i64 (k:Int),aD,a15,a16,a17,a18,a19,a20,a21,a22,a23,a24,a25,a26,a27,a28,a29,ao,ap,aq,ar,au,av,aw,ax,ay,az,a0],.code (xO (ey Tryz.f49))::.inLoop (xO (ey Tryz.f49))::td⟩] wl V:=by
 have HA:kb _:=And.intro hs (And.intro hA (And.intro hK (And.intro h5 (And.intro Y (And.intro O (And.intro hV (And.intro aa (And.intro hb (And.intro ad (And.intro ab (And.intro hX (And.intro fin hT))))))))))));clear hs hA hK h5 Y O hV aa hb ad ab hX fin hT;obtain⟨B,hB⟩:∃B,B=Item.inLoop (xO (ey Tryz.f49)):=⟨_,rfl⟩;rw[<-hB];have HB:kb _:=hB;clear hB;show dl _ [⟨_,_,.code (.seq (.region 3 _ false) (.seq (.cond _ .skip (.exit 0)) (.seq (.block 1 (.seq (.region 4 _ false) (.region 5 _ false))) (.region 6 _ false))))::_⟩] _ _;refine dl.sr λkk HK=>?_;have aQ:(k:Int)<(n:Int):=by omega
 (refine eQ ?_;go_simp);refine dl.ie HK ?_;clear HK kk;refine dl.seq (dl.E1 trivial rfl (dl.skip ?_));refine dl.seq (dl.block (dl.sr λkk HK=>?_))
 (iterate 2 (refine eQ ?_;go_simp));refine lQ rfl (by rfl) (by kernel_rfl) λy0 ak ah=>?_
 have e0:y0.cell? ⟨sb,so+k,none⟩=some (.string S):=by
  have:=HA.out.2.2.2.2.2.2.2.2.2.1;unfold kr at this⊢;rw[ak];exact this
 have HY:kb (y0.heap=wl.heap/\y0.os=wl.os):=⟨ak,ah⟩;clear ak ah;unfold gm;go_simp;simp only[iK];clear e0
 (iterate 2 (refine eQ ?_;go_simp));refine dl.ie HK ?_;clear HK kk;refine lO λkk HK=>?_;refine dl.region ?_
 (iterate 3 (refine eQ ?_;go_simp));refine lQ rfl (by rfl) (by kernel_rfl) λy1 a5 ai=>?_;have ae:y1.heap=wl.heap:=a5.trans HY.out.1;have e0:y1.cell? ⟨bx,0,none⟩=some (.int .i64 A.m):=by rw[dh (by rw[ae];exact HA.out.2.2.2.2.2.2.2.1)];rfl
 have e1:y1.cell? ⟨bx,1,none⟩=some (.string A.q):=by rw[dh (by rw[ae];exact HA.out.2.2.2.2.2.2.2.1)];rfl
 have e2:y1.cell? ⟨bx,2,none⟩=some (.int .i64 A.t):=by rw[dh (by rw[ae];exact HA.out.2.2.2.2.2.2.2.1)];rfl
 have al:kb (y1.heap=wl.heap/\y1.os=wl.os):=⟨ae,ai.trans HY.out.2⟩;clear a5 ai ae;unfold gm;go_simp;simp only[iK];obtain⟨hs,hA,hK,h5,Y,O,hV,aa,hb,ad,ab,hX,fin,hT⟩:=HA.out;rw[<-al.out.1]at hs O aa hb;clear e0 e1 e2;refine dl.qK #[.int .i64 (k:Int),.string S,.agg #[.int .i64 A.m,.string A.q,.int .i64 A.t],mp,mp,mp,mp,mp,mp,mp,mp] (i:=4) (gO:=f79) (c:=ey f79) rfl rfl func79 (by kernel_rfl) NH rfl (by simp[dP]) (by kernel_rfl) ?_;refine wQ k A (S:=S) (ps:=ps) (qs:=qs) s hs rfl hA hK h5 Y O ab hX hV λw2 z2 o2 U p2=>?_;have af:b<s:=by rw[hs];exact(cT.1 hb).1
 have am:w2.heap[b]?=some (.cells (mz cl) 125 (0,0)):=(o2 b af).trans hb;have aP:k<7:=by omega
 have a':∀r,r<s->w2.heap[r]?=wl.heap[r]?:=λr hr=>(o2 r hr).trans (by rw[al.out.1]);have aA:w2.os=wl.os:=p2.trans al.out.2;have H2:kb _:=And.intro z2 (And.intro a' (And.intro aA (And.intro am (And.intro af U))));clear hs hA hK h5 Y O hV aa hb ad ab hX fin hT z2 o2 U p2 am af a' aA;rw[gL];go_simp;have aB:(k:Int)<7:=by omega
 (refine eQ ?_;go_simp);clear aB;refine lQ rfl (by rfl) (by kernel_rfl) λy2 an aj=>?_;have gb:y2.heap[b]?=some (.cells (mz cl) 125 (0,0)):=by rw[an];exact H2.out.2.2.2.1
 have e0:y2.cell? ⟨b,k,none⟩=some (.chan (cl k)):=by
  rw[dh gb];rcases(by omega:k=0\/k=1\/k=2\/k=3\/k=4\/k=5\/k=6)with rfl|rfl|rfl|rfl|rfl|rfl|rfl<;>rfl
 have f0:y2.frozen? ⟨b,k,none⟩=false:=dI gb k;have ag:kb (y2.heap=w2.heap/\y2.os=w2.os):=⟨an,aj⟩;have HG:kb _:=gb;clear an aj gb;unfold gm;go_simp;simp only[iK];clear e0 f0;obtain⟨w3,ac⟩:∃w3,w3=y2.setCell ⟨b,k,none⟩ (.chan (some (s+3))):=⟨_,rfl⟩;have g3:w3.heap[b]?=some (.cells (mz (lD cl k (s+3))) 125 (0,0)):=by rw[ac,heap_set HG.out k (.chan (some (s+3))),<-J6 aP];simp only[cZ]
 have o3:∀r,r≠b->w3.heap[r]?=w2.heap[r]?:=λr hr=>by rw[ac,ez _ _ _ _ hr,ag.out.1]
 have z3:w3.heap.size=s+5:=by rw[ac,uj,ag.out.1];exact H2.out.1
 have p3:w3.os=w2.os:=by rw[ac,pP];exact ag.out.2
 rw[<-ac];clear ac HG ag y2;have H3:kb _:=And.intro g3 (And.intro o3 (And.intro z3 p3));clear g3 o3 z3 p3;refine dl.ie HK ?_;clear HK kk;refine dl.inBlock ?_;refine lO λkk HK=>?_;refine dl.region ?_
 (refine eQ ?_;go_simp);have aC:IntKind.i64.wrap ((k:Int)+1)=((k+1:Nat):Int):=by simp only[lp];omega
 rw[aC];clear aC
 (refine eQ ?_;go_simp);refine dl.inRegion ?_;rw[HK.out,HB.out];refine dl.inLoop ?_;obtain⟨hs,hA,hK,h5,Y,O,hV,aa,hb,ad,ab,hX,fin,hT⟩:=HA.out;obtain⟨g3,o3,z3,p3⟩:=H3.out;obtain⟨z2,o2,p2,am,af,U⟩:=H2.out;have ek:(k:Int)+1=((k+1:Nat):Int):=by omega
 rw[<-b8];refine fin w3 _ _ _ _ _ _ _ _ _ _ _ _ _ z3 (λr hr hn=>(o3 r hn).trans (o2 r hr)) g3 (λr a c h=>?_) (p3.trans p2);by_cases hr:r=b;rw[hr,g3]at h;cases h;rw[o3 r hr]at h;exact U r a c h
end
end
section
def jx(A:Ask)(P:Nat->List (Nat×dq)):Nat->List lW
 |0=>[]
 |k+1=>(P k).map (qe A k)++jx A P k
def allM(A:Ask)(P:Nat->List (Nat×dq))(es:List dq)(n:Nat):List lW:=(fO es).map (qe A n)++jx A P n
section
variable {A:Ask} {P Q:Nat->List (Nat×dq)}
def jO(ps:List (Nat×dq)):List Wd:=ps.map λp=>p.2.name
theorem zH:∀n,(∀j,j<n->P j=Q j)->jx A P n=jx A Q n
 |0,_=>rfl|n+1,h=>by simp only[jx];rw[h n (by omega),zH n λj O=>h j (by omega)]
theorem tI:∀n,∀m∈jx A P n,m.wN<n
 |0,m,h=>by simp[jx]at h
 |n+1,m,h=>by
  rcases bA.1 h with h|h
  .obtain⟨p,_,rfl⟩:=b4.1 h
   rw[(iA n p).1];omega
  have:=tI n m h;omega
theorem AE(l r:List lW)(x:Wd):eK (l++r) x=max (eK l x) (eK r x):=by
 induction l with
 |nil=>simp[eK]|cons a l O=>
  simp only[cQ,eK,O];split<;>omega
theorem CG(n:Nat)(ps:List (Nat×dq))(x:Wd):eK (ps.map (qe A n)) x=if x∈jO ps then n else 0:=by
 induction ps with
 |nil=>simp[eK,jO]|cons p ps U=>
  have e:jO (p::ps)=p.2.name::jO ps:=rfl;rw[e,bL];simp only[eK,(iA n p).1,(iA n p).2.2.1,U];by_cases h:p.2.name=x;by_cases O:x∈jO ps<;>simp[h,O];have Y:¬x=p.2.name:=λe=>h e.symm;by_cases O:x∈jO ps<;>simp[h,O,Y]
theorem wE(n:Nat)(x:Wd):eK (jx A P (n+1)) x=if x∈jO (P n)then n else eK (jx A P n) x:=by
 show eK (_++_) x=_;rw[AE,CG];split;have:eK (jx A P n) x<=n:=uA _ _ λm hm=>by have:=tI n m hm;omega
 omega;omega
theorem EN:∀n,∀m∈jx A P n,m.wanted=true->m.MW.name=m.name
 |0,m,h=>by simp[jx]at h
 |n+1,m,h=>by
  intro O
  rcases bA.1 h with h|h
  .obtain⟨p,_,rfl⟩:=b4.1 h
   rw[(iA n p).2.2.2]at O;rw[ED O,(iA n p).2.2.1]
  exact EN n m h O
def Gk(P:Nat->List (Nat×dq)):Nat->List dq
 |0=>[]
 |n+1=>sn (P n)++(Gk P n).filter λe=>!decide (e.name∈jO (P n))
theorem zq:∀n,dU (jx A P n) (jx A P n)=(Gk P n).filter A.has
 |0=>rfl
 |n+1=>by
  have ih:=zq n
  show dU _ ((P n).map _++jx A P n)=(sn _++_).filter _;unfold dU;rw[bU,b8,bU];congr 1;rw[cz,bC]
  have e:(P n).filter ((λm=>m.wanted&&m.wN==eK (jx A P (n+1)) m.name) ∘ qe A n)=(P n).filter (A.has ∘ kN):=by
   apply bX;intro p O;have Y:p.2.name∈jO _:=b4.2 ⟨p,O,rfl⟩;simp only[Function.comp_apply,(iA n p).1,(iA n p).2.2.1,(iA n p).2.2.2,wE,if_pos Y,beq_self_eq_true,Bool.and_true]
  rw[e];rw[cz];apply bK;intro p O;exact ED (b7.1 O).2
  have e:(jx A P n).filter (λm=>m.wanted&&m.wN==eK (jx A P (n+1)) m.name)=((jx A P n).filter λm=>m.wanted&&m.wN==eK (jx A P n) m.name).filter λm=>!decide (m.MW.name∈jO (P n)):=by
   rw[bT];apply bX;intro m hm;have hs:=tI n m hm;rw[wE]
   cases hw:m.wanted with
   |false=>simp|true=>
    rw[EN n m hm hw];by_cases U:m.name∈jO (P n);have:(m.wN==n)=false:=by simp;omega
    simp[U,this];simp[U]
  rw[e];have f:=cz (f:=lW.MW) (p:=λe=>!decide (e.name∈jO (P n))) (l:=(jx A P n).filter λm=>m.wanted&&m.wN==eK (jx A P n) m.name);unfold dU at ih;rw[ih]at f;refine f.symm.trans ?_;rw[bT,bT];congr 1;funext x;exact Bool.and_comm ..
theorem IW(b:List dq)(e:dq):jq b e = !decide (e.name∈b.map dq.name):=by
 unfold jq qk;rw[Bool.eq_iff_iff];simp[List.findIdx?_eq_none_iff]
theorem F8{ss:List (List dq)}(O:∀j(h:j<ss.length),(sn (P j)).Perm ss[j]):∀n,n<=ss.length->(Gk P n).Perm (gf (ss.take n))
 |0,_=>by simp[Gk,gf]
 |n+1,h=>by
  have Y:=F8 O n (by omega)
  have U:=O n (by omega);rw[bN _,fi];refine(ln U ?_).trans cF
  have e:(λe=>!decide (e.name∈jO (P n)))=jq ss[n]:=by
   funext e;rw[IW]
   have h1:e.name∈jO (P n)↔e.name∈ss[n].map dq.name:=by
    have:=(U.map dq.name).mem_iff (a:=e.name);rw[bC]at this;exact this
   rw[decide_eq_decide.2 h1]
  rw[e];exact Y.filter _
theorem yi(U:∀j,(jO (P j)).Nodup):∀n,((Gk P n).map dq.name).Nodup
 |0=>List.Pairwise.nil
 |n+1=>by
  show((sn _++_).map _).Nodup
  rw[b8,bO]
  refine⟨by rw[bC];exact U n,(yi U n).sublist ((ck).map _),?_⟩
  rintro x Y y hy rfl
  obtain⟨e,he,rfl⟩:=b4.1 hy
  have O:=by simpa using(b7.1 he).2
  rw[bC]at Y;exact O Y
end
end
section
open Go.Conc Go.RowKit Go.Maps
section
variable {Z:jN prog} {w:World} {T:List Frame} {dd q:Nat}
theorem O6{A:Ask}{es:List dq}{ex:Obj}{Ss:Nat->ByteArray}{P:Nat->List (Nat×dq)}{sa:Option Addr}{n sc bx b:Nat}{ms:List lW}(hT:∀ps,T=[ps]->ps.mode≠.panicking [ej])
  (hA:A.Ok) (a0:5<=q) (hq:q<w.heap.size) (a5:w.heap[q]?=some ex) (hM:rA ex es) (hl:es.length<=100000) (a':∀e∈es,e.name.length<=dk/\e.text.length<=1048576/\(e.gone=false->0<=e.dA/\e.dA<=255)) (hn:n<=6)
  (hS:∀j,j<n->(Ss j).size<=1099511627775/\∃ps qs,jo (Ss j).size (Ss j).data.toList=some (ps,qs)/\P j=ps++qs) (af:∀a,sa=some a->a.block≠b) (aA:bx≠b)
  (aB:ms=(fO es).map (qe A n)++jx A P n) (aC:Fs ms)
  (fin:∀(E₂:Env prog)av ag aw,E₂.Z=Z->E₂.T=T->E₂.w0=w->(ag=[]\/∃k2,ag=.code .ret::k2)->Bj prog E₂ Tryz.f49 av aw (BW ms) (BE ms)->dl E₂ [⟨49,av,ag⟩] aw []) :
  ∀(d k K s:Nat)(wl:World)(V:Vs)(cl:Nat->Option Nat)(a2 a3 a4 a6 a8 a9 a10 ah a15 a16 a17 a18 a19 a20 a21 a22 a23 a24 a25 a26 a27 a28 a29 ai aj ak al am an ao ap aq ar au:Value),n=k+d->s=wl.heap.size->K<=s->5<=s->dd<s->(∀(r:Nat)a c,wl.heap[r]?≠some (.map a c))->(∀x∈V,x.1<s)->
   wl.heap[bx]?=some (.cells #[.int .i64 A.m,.string A.q,.int .i64 A.t] 94 (0,0))->wl.heap[b]?=some (.cells (mz cl) 125 (0,0))->(∀a,sa=some a->a.block<s)->(∀j,j<n->∃sb so,sa=some ⟨sb,so,none⟩/\wl.cell? ⟨sb,so+j,none⟩=some (.string (Ss j)))->
   (∀j,k<=j->cl j=none)->(∀j r,j<7->cl j=some r->∃vs,(r,some vs)∈V)->(∀x∈V,∃j vs,j<7/\cl j=some x.1/\x.2=some vs)->(∀j j' r,j<7->j'<7->cl j=some r->cl j'=some r->j=j')->(V.map kG).Nodup->V.length=k->rQ V=(jx A P k).map lW.val->
   dl (nY prog Z w T dd q K false) [⟨49,#[.slice sa n sc,.map (some dd),a2,a3,a4,.pointer (some ⟨bx,0,none⟩),a6,.pointer (some ⟨b,0,none⟩),a8,a9,a10,.slice sa n sc,.int .i64 (n:Int),.int .i64 (k:Int),ah,a15,a16,a17,a18,a19,a20,a21,a22,a23,a24,a25,a26,a27,a28,a29,ai,aj,ak,al,am,an,ao,ap,aq,ar,au],.code (xO (ey Tryz.f49))::.inLoop (xO (ey Tryz.f49))::.inBlock 0::[.code (K2 (ey Tryz.f49))]⟩] wl V:=by
 intro d;induction d with
 |zero=>
  intro k K s wl V cl a2 a3 a4 a6 a8 a9 a10 ah a15 a16 a17 a18 a19 a20 a21 a22 a23 a24 a25 a26 a27 a28 a29 ai aj ak al am an ao ap aq ar au ax hs hK h5 Y aa hV O hb ac ae U jP fy rX fG ab ad;obtain rfl:n=k:=ax;have HC:kb _:=And.intro hs (And.intro hK (And.intro h5 (And.intro Y (And.intro aa (And.intro hV (And.intro O (And.intro hb (And.intro U (And.intro jP (And.intro fy (And.intro rX (And.intro fG (And.intro ab ad)))))))))))));clear hs hK h5 Y aa hV O hb ac ae U jP fy rX fG ab ad;show dl _ [⟨_,_,.code (.seq (.region 3 _ false) (.seq (.cond _ .skip (.exit 0)) _))::_⟩] _ _;refine dl.sr λkk HK=>?_
  (refine eQ ?_;go_simp);refine dl.ie HK ?_;clear HK kk;refine dl.seq (dl.qu trivial (by first|rfl|simp[iS]) ?_);refine dl.exit (k':=[.code (K2 (ey Tryz.f49))]) rfl ?_;obtain⟨hs,hK,h5,Y,aa,hV,O,hb,U,jP,fy,rX,fG,ab,ad⟩:=HC.out;exact CM (s:=s) (ms0:=jx A P n) (ms:=ms) hT hs hA (by omega) h5 Y a0 hq a5 hM aa hl a' hn hV O hb U jP fy rX fG ab ad aB aC fin
 |succ d ih=>
  intro k K s wl V cl a2 a3 a4 a6 a8 a9 a10 ah a15 a16 a17 a18 a19 a20 a21 a22 a23 a24 a25 a26 a27 a28 a29 ai aj ak al am an ao ap aq ar au ax hs hK h5 Y aa hV O hb ac ae U jP fy rX fG ab ad;obtain⟨hz,ps,qs,hX,hP⟩:=hS k (by omega);obtain⟨sb,so,rfl,aD⟩:=ae k (by omega);have ac:sb<s:=ac _ rfl;have af:sb≠b:=af _ rfl;refine MK hT hs hA (by omega) h5 Y aa hn (by omega) hV O hb aD hz hX λw2 c8 c9 aH aI aJ aK aL aM aN aO aP aQ aR z2 o2 g2 ay p2=>?_;have aE:bx<s:=by rw[hs];exact(cT.1 O).1
  refine ih (k+1) (s+5) (s+5) w2 _ (lD cl k (s+3)) _ _ _ _ _ _ _ _ _ _ _ _ _ _ _ _ _ _ _ _ _ _ _ _ _ _ _ _ _ _ _ _ _ _ (by omega) z2.symm (fd _) (by omega) (by omega) ay (λx hx=>?_) ((o2 bx aE aA).trans O) g2 (λa e=>by cases e;show sb<s+5;omega) (λj hj=>?_) (λj hj=>?_) (λj r hj hr=>?_) (λx hx=>?_) (λj j' r hj az hr hr'=>?_) ?_ (by simp[ab]) ?_;rcases b9.1 hx with rfl|hx
  show s+3<s+5;omega;have:=hV x hx;omega;obtain⟨aF,aG,e,this⟩:=ae j hj;refine⟨aF,aG,e,?_⟩;cases e;unfold kr at this⊢;rw[o2 sb ac af];exact this;unfold lD;rw[if_neg (by omega)];exact U j (by omega);unfold lD at hr;split at hr
  cases hr;exact⟨_,bE⟩;obtain⟨vs,h⟩:=jP j r hj hr;exact⟨vs,bJ _ h⟩;rcases b9.1 hx with rfl|hx
  exact⟨k,_,by omega,by simp[lD],rfl⟩;obtain⟨j,vs,h1,h2,h3⟩:=fy x hx;refine⟨j,vs,h1,?_,h3⟩;unfold lD;rw[if_neg (λe=>by rw[e,U k (fd _)]at h2;cases h2)];exact h2;unfold lD at hr hr'
  have hold:∀i r,i<7->cl i=some r->r≠s+3:=λi r hi h e=>by
   obtain⟨vs,h⟩:=jP i r hi h;have:=hV _ h;omega
  split at hr<;>split at hr';omega
  cases hr;exact absurd rfl (hold j' _ az hr')
  cases hr';exact absurd rfl (hold j _ hj hr);exact rX j j' r hj az hr hr';rw[bL,bP];refine⟨λh=>?_,fG⟩;obtain⟨x,hx,e⟩:=b4.1 h;have:=hV x hx;omega;show(ps++qs).map _++rQ V=((P k).map _++jx A P k).map _;rw[b8 (l₁:=(P k).map _),bC,hP];congr 1;exact bK λp _=>(EL A k p).symm
end
end
section
open Go.Conc Go.RowKit Go.Maps
section
variable {Z:jN prog} {w:World} {T:List Frame} {dd q K:Nat} {wl:World}
theorem Pm{A:Ask}{es:List dq}{ex:Obj}{Ss:Nat->ByteArray}{P:Nat->List (Nat×dq)}{sa:Option Addr}{n sc s:Nat}{ms:List lW}(hT:∀ps,T=[ps]->ps.mode≠.panicking [ej])
  (hs:s=wl.heap.size) (hA:A.Ok) (hK:K<=s) (h5:5<=s) (ak:dd<s) (ad:5<=q) (hq:q<w.heap.size) (ae:w.heap[q]?=some ex) (hM:rA ex es) (af:∀(r:Nat)a c,wl.heap[r]?≠some (.map a c))
  (hl:es.length<=100000) (ag:∀e∈es,e.name.length<=dk/\e.text.length<=1048576/\(e.gone=false->0<=e.dA/\e.dA<=255))
  (hn:n<=6) (hS:∀j,j<n->(Ss j).size<=1099511627775/\∃ps qs,jo (Ss j).size (Ss j).data.toList=some (ps,qs)/\P j=ps++qs) (Y:∀a,sa=some a->a.block<s) (ah:∀j,j<n->∃sb so,sa=some ⟨sb,so,none⟩/\wl.cell? ⟨sb,so+j,none⟩=some (.string (Ss j)))
  (ai:ms=(fO es).map (qe A n)++jx A P n) (aj:Fs ms)
  (fin:∀(E₂:Env prog)am al an,E₂.Z=Z->E₂.T=T->E₂.w0=w->(al=[]\/∃k2,al=.code .ret::k2)->Bj prog E₂ Tryz.f49 am an (BW ms) (BE ms)->dl E₂ [⟨49,am,al⟩] an []) :
  dl (nY prog Z w T dd q K false) [⟨49,#[.slice sa n sc,.map (some dd),.agg #[.int .i64 A.m,.string A.q,.int .i64 A.t],mp,mp,mp,mp,mp,mp,mp,mp,mp,mp,mp,mp,mp,mp,mp,mp,mp,mp,mp,mp,mp,mp,mp,mp,mp,mp,mp,mp,mp,mp,mp,mp,mp,mp,mp,mp,mp,mp],[.code (ey Tryz.f49)]⟩] wl []:=by
 have HN:kb _:=And.intro hn (And.intro hS (And.intro Y ah));clear hn hS Y ah;have HC:kb _:=And.intro hs (And.intro hA (And.intro hK (And.intro h5 (And.intro ak (And.intro ad (And.intro hq (And.intro ae (And.intro hM (And.intro af (And.intro hl (And.intro ag (And.intro ai (And.intro aj (And.intro fin hT))))))))))))));clear hs hA hK h5 ak ad hq ae hM af hl ag ai aj fin hT;show dl _ [⟨_,_,[.code (.seq (.region 0 _ false) (.seq (.region 1 _ false) (.seq (.seq (.region 2 _ false) (.block 0 (.loop (.seq (.region 3 _ false) (.seq (.cond _ .skip (.exit 0)) _))))) (K2 (ey Tryz.f49)))))]⟩] _ _;refine dl.sc λkk HK=>?_;refine iP (by kernel_rfl) (by rw[HK.out];rfl) (.inr HC.out.2.2.2.2.2.2.2.2.2.2.2.2.2.2.2) λy0 ab U=>?_;have HY:kb (y0.heap=wl.heap/\y0.os=wl.os):=⟨ab,U⟩;clear ab U;go_wp2;refine gr ?_;rw[HK.out];clear HK kk;obtain⟨w3,aa⟩:∃w3,w3=y0.alloc (.cells #[.int .i64 A.m,.string A.q,.int .i64 A.t] 94):=⟨_,rfl⟩;have O:y0.heap.size=s:=by rw[HY.out.1];exact HC.out.1.symm
 have z3:w3.heap.size=s+1:=by rw[aa];simp[O]
 have o3:∀r,r<s->w3.heap[r]?=wl.heap[r]?:=λr hr=>by rw[aa,fY _ _ (by rw[O];omega),HY.out.1]
 have g3:w3.heap[s]?=some (.cells #[.int .i64 A.m,.string A.q,.int .i64 A.t] 94 (0,0)):=by rw[aa,iF _ _ O.symm]
 have p3:w3.os=wl.os:=by rw[aa];exact HY.out.2
 rw[<-aa,O];clear aa HY O y0;have H3:kb _:=And.intro z3 (And.intro o3 (And.intro g3 p3));clear z3 o3 g3 p3;refine dl.sc λkk HK=>?_;refine iP (by kernel_rfl) (by rw[HK.out];rfl) (.inr HC.out.2.2.2.2.2.2.2.2.2.2.2.2.2.2.2) λy0 ab U=>?_;have HY:kb (y0.heap=w3.heap/\y0.os=w3.os):=⟨ab,U⟩;clear ab U;go_wp2;refine gr ?_;rw[HK.out];clear HK kk;obtain⟨w4,ac⟩:∃w4,w4=y0.alloc (.cells (mz λ_=>none) 125):=⟨_,rfl⟩;have O:y0.heap.size=s+1:=by rw[HY.out.1];exact H3.out.1
 have z4:w4.heap.size=s+2:=by rw[ac];simp[O]
 have o4:∀r,r<s+1->w4.heap[r]?=w3.heap[r]?:=λr hr=>by rw[ac,fY _ _ (by rw[O];omega),HY.out.1]
 have g4:w4.heap[s+1]?=some (.cells (mz λ_=>none) 125 (0,0)):=by rw[ac,iF _ _ O.symm]
 rw[show y0.alloc (.cells #[.chan none,.chan none,.chan none,.chan none,.chan none,.chan none,.chan none] 125)=w4 from ac.symm,O];clear ac HY O y0;have H4:kb _:=And.intro z4 (And.intro o4 g4);clear z4 o4 g4;refine dl.seq ?_;refine dl.sr λkk HK=>?_
 (iterate 3 (refine eQ ?_;go_simp));refine dl.ie HK ?_;clear HK kk;refine dl.block (dl.loop ?_);obtain⟨hs,hA,hK,h5,ak,ad,hq,ae,hM,af,hl,ag,ai,aj,fin,hT⟩:=HC.out;obtain⟨z3,o3,g3,p3⟩:=H3.out;obtain⟨z4,o4,g4⟩:=H4.out;obtain⟨hn,hS,Y,ah⟩:=HN.out;refine O6 (b:=s+1) (bx:=s) (Ss:=Ss) (P:=P) hT hA ad hq ae hM hl ag hn hS (λa e=>by have:=Y a e;omega) (by omega) ai aj fin n 0 K (s+2) w4 [] (λ_=>none) _ _ _ _ _ _ _ _ _ _ _ _ _ _ _ _ _ _ _ _ _ _ _ _ _ _ _ _ _ _ _ _ _ _ (by omega) z4.symm (by omega) (by omega) (by omega) (λr a c=>?_) (λx hx=>by cases hx) ((o4 s (by omega)).trans g3) g4 (λa e=>by have:=Y a e;omega) (λj hj=>?_) (λ_ _=>rfl) (λ_ _ _ h=>by cases h) (λx hx=>by cases hx) (λ_ _ _ _ _ h=>by cases h) List.nodup_nil rfl rfl;by_cases h1:r<s;rw[o4 r (by omega),o3 r h1];exact af r a c;by_cases h2:r=s;rw[h2,o4 s (by omega),g3];simp;by_cases h3:r=s+1;rw[h3,g4];simp;rw[cX (by omega)];simp;obtain⟨sb,so,e,this⟩:=ah j hj;have ao:sb<s:=Y _ e;refine⟨sb,so,e,?_⟩;unfold kr at this⊢;rw[o4 sb (by omega),o3 sb ao];exact this
end
end
section
open Go.Conc Go.RowKit Go.Maps
section
variable {E:Env prog} {fn:dt} {tm:Array Value} {os:List OF} {wl:World} {k:List Item}
theorem dl.QN{ops:Array Oper}{i:Nat}{rest:List Nat}{o:Oper}{xs:Array Operand}{ts:Array ef}{A:Ask}{es:List dq}{Ss:Nat->ByteArray}{P:Nat->List (Nat×dq)}{ms:List lW}{sa:Option Addr}{n sc lb:Nat}(ac:∀b,b<E.w0.heap.size->E.fC b\/E.w0.heap[b]?=some oJ)(aN:E.st=true)(hi:ops[i]?=some o)(au:kd o (ee ops tm)=true)(ho:o.op=.call {callee:=.value (.func 49),args:=xs,argTypes:=ts})(av:∀x∈xs.toList,dP E.fw E.gl x)
  (aw:xs.size=3) (ad:xs.map (iS tm)=#[.slice sa n sc,.map (some lb),.agg #[.int .i64 A.m,.string A.q,.int .i64 A.t]]) (hA:A.Ok) (hs:e9 wl lb es) (aO:5<=lb) (ax:(sa=none/\n=0)\/∃sb U c e f,sa=some ⟨sb,U,none⟩/\5<=sb/\wl.heap[sb]?=some (.cells c e f)/\∀j,j<n->c[U+j]?=some (.string (Ss j))) (hn:n<=6) (ay:∀j,j<n->(Ss j).size<=1099511627775/\∃ps qs,jo (Ss j).size (Ss j).data.toList=some (ps,qs)/\P j=ps++qs) (ag:ms=(fO es).map (qe A n)++jx A P n) (az:Fs ms)
  (hl:es.length<=100000) (a0:∀e∈es,e.name.length<=dk/\e.text.length<=1048576/\(e.gone=false->0<=e.dA/\e.dA<=255))
  (a5:∀l cp,BW ms l cp->dl E (⟨fn,eM o.dst tm (.slice none l cp),.inRegion ops rest::k⟩::os) wl [])
  (ae:∀off spot l cp cs e f,BE ms off spot l cp cs e f->(∀v∈cs.toList,Flat v)->dl E (⟨fn,eM o.dst tm (.slice (some ⟨wl.heap.size,off,spot⟩) l cp),.inRegion ops rest::k⟩::os) {wl with heap:=wl.heap.push (.cells cs e f)} []) :
  dl E (⟨fn,tm,.inRegion ops (i::rest)::k⟩::os) wl []:=by
 refine dl.phase (R0:=BW ms) (R1:=BE ms) (gO:=Tryz.f49) (c:=ey Tryz.f49) ac hi au func49 (by kernel_rfl) Ni ho av ?_ a5 ae;intro m w ys T aA hw Y hT;rw[ad]at Y;have hG:m.G=5:=aA.pA.env.G.trans xX;obtain⟨ex,ah,hM⟩:=FB hs;have h0:=Y.idx 0 (by simp) (by rw[<-Y.size];simp);have h1:=Y.idx 1 (by simp) (by rw[<-Y.size];simp);have h2:=Y.idx 2 (by simp) (by rw[<-Y.size];simp);have aB:ys.size=3:=by rw[<-Y.size];rfl
 obtain⟨y0,y1,y2,rfl⟩:∃y0 y1 y2,ys=#[y0,y1,y2]:=⟨ys[0],ys[1],ys[2],by
  refine dj (by simp[aB]) λj h1 h2=>?_;have:j<3:=by omega
  rcases(by omega:j=0\/j=1\/j=2)with rfl|rfl|rfl<;>rfl⟩
 have h0:VR m (.slice sa n sc) y0:=h0;have h1:VR m (.map (some lb)) y1:=h1;have h2:VR m (.agg #[.int .i64 A.m,.string A.q,.int .i64 A.t]) y2:=h2
 have aa:Flat (.agg #[.int .i64 (A.m:Int),.string A.q,.int .i64 (A.t:Int)]):=.agg λi hi=>by
  have:i<3:=hi;match i,this with
  |0,_|2,_=>exact .int _ _|1,_=>exact .string _
 have e2:=aa.eq m _ h2;subst e2
 obtain⟨q,rfl,hq⟩:∃q,y1=.map (some q)/\m.blk lb=some q:=by
  cases h1 with
  |map hb=>exact⟨_,rfl,hb⟩|gone hd=>
   obtain⟨_,c,e,f,hc⟩:=hw.dead lb hd;obtain⟨a,c2,hx⟩:=hM.isMap;rw[ah,hx]at hc;cases hc
 have aC:5<=q:=by
  have:=m.ou lb q hq;omega
 obtain⟨o1,o2,g1,g2,g3⟩:=hw.obj lb q hq;rw[ah]at g1;cases g1;have aD:=hM.inv m _ g3;subst aD;have aE:q<w.heap.size:=(cT.1 g2).1;have aF:5<=w.heap.size:=by have:=hw.JQ;omega
 have fin:∀(b5:Option Nat)(h5:∀b,b5=some b->5<=b)(c1:Array Value)(e5:ef)(hb:∀b,b5=some b->∃c' f',w.heap[b]?=some (.cells c' e5 f')/\∀m1,ep m1 c1 c')(s5:Option Addr)(ai:∀a,s5=some a->a.block<7)(aj:∀j,j<n->∃U,s5=some ⟨5,U,none⟩/\c1[U+j]?=some (.string (Ss j))),VR (TT b5 q h5) (.slice s5 n sc) y0->
   ∃(O:Env prog)(ak:Array Value)(m1:Ren)(al:World),O.Z=E.Z/\O.T=T/\O.w0=w/\(∀b,O.fC b↔b<w.heap.size)/\Rg O m1/\WR m1 al w/\(∀r b,m1.blk r=some b->m1.loose r)/\ep m1 ak (#[y0,.map (some q),.agg #[.int .i64 A.m,.string A.q,.int .i64 A.t]]++da (Tryz.f49.ntmps-xs.size) mp)/\
   ((∀(E₂:Env prog)am af an,E₂.Z=E.Z->E₂.T=T->E₂.w0=w->(af=[]\/∃k2,af=.code .ret::k2)->Bj prog E₂ Tryz.f49 am an (BW ms) (BE ms)->dl E₂ [⟨49,am,af⟩] an [])->dl O [⟨49,ak,[.code (ey Tryz.f49)]⟩] al []):=by
  intro b5 h5 c1 e5 hb s5 ai aj aG;refine⟨nY prog E.Z w T 6 q 6 false,#[.slice s5 n sc,.map (some 6),.agg #[.int .i64 A.m,.string A.q,.int .i64 A.t]]++da 38 mp,TT b5 q h5,UE (.cells c1 e5 (0,c1.size)) w,rfl,rfl,rfl,λb=>⟨λh=>h.1,λh=>⟨h,λh=>by cases h⟩⟩,SO h5,Sq h5 aF hb,λr b hr=>?_,?_,λao=>?_⟩;have hr:(if r=5 then b5 else none)=some b:=hr;split at hr;assumption
  cases hr
  .rw[aw];have hn:Tryz.f49.ntmps-3=38:=by kernel_rfl
   rw[hn];refine ep.append (ep.ii rfl λi h1 h2=>?_) (.replicate _ (.undef _));have:i<3:=h1;match i,this with
   |0,_=>exact aG|1,_=>exact .gone rfl|2,_=>exact aa.refl _
  have ap:(#[.slice s5 n sc,.map (some 6),.agg #[.int .i64 A.m,.string A.q,.int .i64 A.t]]++da 38 mp:Array Value)=#[.slice s5 n sc,.map (some 6),.agg #[.int .i64 A.m,.string A.q,.int .i64 A.t],mp,mp,mp,mp,mp,mp,mp,mp,mp,mp,mp,mp,mp,mp,mp,mp,mp,mp,mp,mp,mp,mp,mp,mp,mp,mp,mp,mp,mp,mp,mp,mp,mp,mp,mp,mp,mp,mp]:=by kernel_rfl
  rw[ap];refine Pm (s:=7) (Ss:=Ss) (P:=P) hT rfl hA (by omega) (by omega) (by omega) aC aE g2 hM (λr a c h=>?_) hl a0 hn ay ai (λj hj=>?_) ag az ao;rotate_left
  .obtain⟨U,e,h⟩:=aj j hj;refine⟨5,U,e,?_⟩;rw[dh (show(UE (.cells c1 e5 (0,c1.size)) w).heap[5]?=some (.cells c1 e5 (0,c1.size))from rfl)];exact h
  have h:(#[xd,xd,xd,xd,xd,Obj.cells c1 e5 (0,c1.size),xd]:Array Obj)[r]?=some (.map a c):=h;match r,h with
  |0,h|1,h|2,h|3,h|4,h|5,h|6,h=>cases h
  |r+7,h=>simp at h
 rcases ax with⟨rfl,rfl⟩|⟨sb,U,c,e,f,rfl,aM,hc,aq⟩
 .cases h0 with
  |fu l c=>exact fin none (λb h=>by cases h) #[] 0 (λb h=>by cases h) none (λa h=>by cases h) (λj hj=>absurd hj (by omega)) (.fu _ _)
 cases h0 with
 |@slice a a' _ _ aH=>
  cases aH with
  |@mk b b' off spot ar=>
   obtain⟨o1,o2,k1,k2,k3⟩:=hw.obj sb b' ar;rw[hc]at k1;cases k1
   cases k3 with
   |@cells _ c' _ _ f' aI=>
    obtain⟨c1,ae,aP,aJ⟩:=aI.flatten
    have aK:5<=b':=by
     have:=m.ou sb b' ar;omega
    refine fin (some b') (λx hx=>by cases hx;exact aK) c1 e (λx hx=>by cases hx;exact⟨c',f',k2,ae⟩) (some ⟨5,U,none⟩) (λa h=>by cases h;show 5<7;omega) (λj hj=>⟨U,rfl,?_⟩) (.slice _ _ (.mk rfl));obtain⟨aL,hv⟩:=cT.1 (aq j hj);have ab:U+j<c1.size:=by omega
    rw[cU ab,aJ _ ab aL (by rw[hv];exact .string _),hv]
end
end
section
open Go.Conc Go.RowKit Go.Maps
section
variable {Z:jN prog} {W0:World} {Mp:Nat->Prop} {fn:dt} {tm:Array Value} {os:List OF} {wl:World} {k:List Item}
theorem LI{ops:Array Oper}{i:Nat}{rest:List Nat}{o:Oper}{b lb:Nat}{vS vM vK:Value}{sa:Option Addr}{n sc mode dA most:Nat}{Ss:Nat->ByteArray}{P:Nat->List (Nat×dq)}{R:List dq}{qb:ByteArray}{es:List dq}(hi:ops[i]?=some o)(al:vS=.slice sa n sc)
  (hb:wl.heap[b]?=some (.cells #[.map (some lb),vS,vM,vK] 90 (0,0))) (hs:e9 wl lb es) (ah:5<=lb) (am:((sa=none/\n=0)\/∃sb so c e f,sa=some ⟨sb,so,none⟩/\5<=sb/\wl.heap[sb]?=some (.cells c e f)/\∀j,j<n->c[so+j]?=some (.string (Ss j)))/\n<=6/\(∀j,j<n->(Ss j).size<=1099511627775/\∃ps qs,jo (Ss j).size (Ss j).data.toList=some (ps,qs)/\P j=ps++qs)/\∀A:Ask,A.Ok->Fs (allM A P es n)/\(dU (allM A P es n) (allM A P es n)).Perm (R.filter A.has))
  (hl:es.length<=100000) (ae:∀e∈es,e.name.length<=65536/\e.text.length<=1048576/\(e.gone=false->0<=e.dA/\e.dA<=255))
  (hm:mode<=3) (ht:dA<=255) (a5:1<=most) (a':most<=20) (hq:eu qb.data.toList=true) (aA:qb.size<=1000)
  (O:∀e∈R,e.gone=false->∀y:World,(∀r,r<5->y.heap[r]?=wl.heap[r]?)->dr prog 51 #[.agg #[.string ⟨e.name.toArray⟩,.string ⟨e.text.toArray⟩,.int .i64 e.dp,.int .i64 e.dA]] y λen w'=>en=.returned (.string ⟨(fq e).toArray⟩)/\eV y w') (h5:5<=wl.heap.size)
  (hn:∀(w2:World)(v:Value),(∀r,r<wl.heap.size->w2.heap[r]?=wl.heap[r]?)->wl.heap.size<=w2.heap.size->w2.os=wl.os->Qg w2 wl.heap.size R ⟨mode,⟨(dO qb.data.toList).toArray⟩,dA⟩ most v->dl (fJ Z W0 Mp) (⟨fn,eM o.dst tm v,.inRegion ops rest::k⟩::os) w2 []) :
  dl (fJ Z W0 Mp) (⟨17,#[.pointer (some ⟨b,0,none⟩),.int .i64 (mode:Int),.string qb,.int .i64 (dA:Int),.int .i64 (most:Int),mp,mp,mp,mp,mp,mp,mp,mp,mp,mp,mp,mp,mp,mp,mp,mp,mp,mp,mp,mp,mp,mp,mp,mp,mp,mp,mp,mp,mp,mp,mp,mp,mp,mp,mp,mp,mp,mp,mp,mp,mp,mp,mp,mp,mp,mp,mp,mp,mp,mp,mp,mp,mp,mp,mp,mp,mp,mp,mp,mp,mp,mp],[.code (ey f17)]⟩::⟨fn,tm,.inRegion ops (i::rest)::k⟩::os) wl []:=by
 have HA:kb _:=And.intro hb (And.intro hs (And.intro ah (And.intro am (And.intro hl (And.intro ae (And.intro O (And.intro h5 (And.intro hn al))))))));have HM:kb _:=And.intro hm (And.intro ht (And.intro a5 (And.intro a' (And.intro hq aA))));clear hb hs ah am hl ae O h5 hn al;show dl _ (⟨_,_,[.code (.seq (.region 0 _ false) (.seq (.seq (.region 1 _ false) (.cond _ _ .skip)) (.seq (.seq (.region 3 _ false) (.cond _ _ .skip)) (.seq (.region 5 _ true) (.seq (.region 6 _ false) (.seq (.seq (.region 7 _ false) (.block 0 _)) (.seq (.region 12 _ false) .ret)))))))]⟩::_) _ _;refine dl.sr λkk HK=>?_
 (iterate 2 (refine dT ?_;go_simp));refine dl.ie HK ?_;clear HK kk;refine dl.seq (dl.sc λkk HK=>?_);refine Gl (by kernel_rfl) (by rw[HK.out];rfl) (by simp) λτ=>?_;have g1:¬((dA:Int)<0):=by omega
 have g2:¬((255:Int)<(dA:Int)):=by omega
 have c1:=H8 mode hm (tp wl τ);have c2:=Gi (most:Int) (tp wl τ);rw[decide_eq_true (show(1:Int)<=most/\(most:Int)<=20 by omega)]at c2;have c3:=λτ=>qS qb (tp wl τ) (by unfold dk;omega);rw[hq]at c3;have C3:kb _:=c3;clear hm ht a5 a' hq aA c3;go_wp2_with fail;refine c1.mono ?_;rintro e w' ⟨rfl,rfl⟩;clear c1;go_wp2_with fail;refine c2.mono ?_;rintro e w' ⟨rfl,rfl⟩;clear c2;go_wp2;refine gr (dl.Cy τ ?_);rw[HK.out];simp only[decide_eq_false (l0.2 g1),decide_eq_false (l0.2 g2),Bool.or_false];clear HK kk g1 g2;refine dl.qu trivial rfl (dl.skip (dl.seq (dl.sc λkk HK=>?_)));refine Gl (by kernel_rfl) (by rw[HK.out];rfl) (by simp) λτ=>?_;have c3:=C3.out τ;clear C3;go_wp2_with fail;refine c3.mono ?_;rintro e w' ⟨rfl,rfl⟩;clear c3;go_wp2;refine gr (dl.Cy τ ?_);rw[HK.out];clear HK kk;refine dl.qu trivial rfl (dl.skip (dl.sc λkk HK=>?_))
 have ao:kb (∀y,kV wl y->y.cell? ⟨b,1,none⟩=some vS):=λy hy=>by
  obtain⟨τ,h⟩:=hy;exact eg h (show(tp wl τ).cell? _=_ by rw[dh (w:=tp wl τ) (show(tp wl τ).heap[b]?=_ from HA.out.1)];rfl)
 have ap:kb (∀y,kV wl y->y.cell? ⟨b,0,none⟩=some (.map (some lb))):=λy hy=>by
  obtain⟨τ,h⟩:=hy;exact eg h (show(tp wl τ).cell? _=_ by rw[dh (w:=tp wl τ) (show(tp wl τ).heap[b]?=_ from HA.out.1)];rfl)
 obtain⟨fb,aq⟩:∃fb:ByteArray,fb=⟨(dO qb.data.toList).toArray⟩:=⟨_,rfl⟩;have ar:kb (∀y:World,dr prog 50 #[.string qb] y λe w'=>e=.returned (.string fb)/\eV y w'):=λy=>by rw[aq];exact oL qb y (by have:=HM.out;omega)
 have au:kb _:=aq;clear aq;refine dl.Hg (Sd:=λa y=>kV wl y/\a.defers=[]/\dl _ (⟨_,a.tmps,.inRegion _ [13,14]::_⟩::_) y _) (last:=13) (tl:=[14]) (by kernel_rfl) (SY (by kernel_rfl)) ?_ (λa y h=>h.2);refine dC 0 ?_ ?_<|dC 1 ?_ ?_<|dC 2 ?_ ?_<|dC 3 ?_ ?_<|dC 4 ?_ ?_<|dC 5 ?_ ?_<|dC 6 ?_ ?_<|dC 7 ?_ ?_<|dC 8 ?_ ?_<|dC 9 ?_ ?_ ?_
 any_goals(intro y hy;have q:=ao.out y hy;have q1:=ap.out y hy;unfold gm;go_simp;refine⟨eV.refl _,?_⟩;with_reducible rfl)
 go_simp;refine dC 10 ?_ ?_ ?_;rotate_left
 .intro y hy;unfold gm;go_simp;refine⟨rfl,(ar.out y).mono ?_⟩;rintro e y2 ⟨rfl,h2⟩;refine⟨_,rfl,h2,?_⟩;with_reducible rfl
 go_simp;refine dC 11 ?_ ?_<|dC 12 ?_ ?_ ?_
 any_goals(intro y hy;unfold gm;go_simp;refine⟨eV.refl _,?_⟩;with_reducible rfl)
 go_simp;refine mP (by kernel_rfl) (λt=>tK (by kernel_rfl) (by kernel_rfl) _ _) ?_;intro y hy;refine⟨hy,rfl,?_⟩;obtain⟨τ,hx⟩:=hy;obtain⟨hb,hs,ah,am,hl,ae,O,h5,hn,al⟩:=HA.out;have af:wl.heap.size<=y.heap.size:=hx.size;have hold:∀r,r<wl.heap.size->y.heap[r]?=wl.heap[r]?:=λr hr=>hx.block r hr;have ab:y.os=wl.os:=hx.os;have av:e9 y lb es:=dL.stay hs (hold lb (dL.lt hs));subst al;have ag:Ask.Ok ⟨mode,fb,dA⟩:=⟨HM.out.1,by show dA<256;have:=HM.out;omega,by rw[au.out];show(dO qb.data.toList).toArray.size<=_;rw[List.size_toArray,fx];have:=HM.out;simp;omega⟩;obtain⟨aw,ax,ay,az⟩:=am;have ai:=az ⟨mode,fb,dA⟩ ag;refine dl.QN (A:=⟨mode,fb,dA⟩) (es:=es) (Ss:=Ss) (P:=P) (ms:=allM ⟨mode,fb,dA⟩ P es n) (sa:=sa) (n:=n) (sc:=sc) (lb:=lb) (xs:=#[.tmp 38,.tmp 42,.tmp 47]) (EE _ _ _) rfl rfl rfl rfl (by simp[dP]) rfl (by kernel_rfl) ag av ah (aw.imp id λ⟨sb,so,c,e,f,h1,h2,h3,h4⟩=>⟨sb,so,c,e,f,h1,h2,by rw[hold _ (cT.1 h3).1];exact h3,h4⟩) ax ay rfl ai.1 hl (λe he=>⟨by have:=(ae e he).1;unfold dk;omega,(ae e he).2⟩) ?_ ?_
 .intro l cp hr;obtain⟨rfl,rfl,_⟩:=id hr;have ad:tj y 4 (.slice none 0 0) 0 (ir []):=tj.nil y 4;have U:Of (allM ⟨mode,fb,dA⟩ P es n) []:=hr.2.2;have Y:List.Perm [] (R.filter (Ask.has ⟨mode,fb,dA⟩)):=U.1.trans ai.2;have HH:kb _:=And.intro Y (And.intro U.2 (And.intro hold (And.intro af (And.intro ab (And.intro h5 (And.intro O (And.intro hn ad)))))));clear hb hs ah aw ax ay az ai hl ae O h5 hn af hold ab av ag U Y ad HA ap ao ar hx;rw[gL];go_simp
  (refine dT ?_;go_simp);refine dl.ie HK ?_;show dl _ (⟨_,_,[.code (Pq (ey f17))]⟩::_) _ _;obtain⟨Y,a0,hold,af,ab,h5,O,hn,ad⟩:=HH.out;refine ui (L:=[]) hi ad rfl HM.out.2.2.1 HM.out.2.2.2.1 (by omega) (λe he y2 ac=>?_) (λw2 u h1 h2 h3 h4=>?_);have aa:=(Y.mem_iff.1 he);rw[b7]at aa;exact O e aa.1 (tY aa.2) y2 (λr hr=>(ac r hr).trans (hold r (by omega)));refine hn w2 _ (λr hr=>(h1 r (by omega)).trans (hold r hr)) (by omega) (h3.trans ab) ⟨[],?_,a0,u,rfl,jH h4 (by omega)⟩;rw[<-au.out];exact Y
 intro off spot l cp cs e f hr aG;obtain⟨rfl,rfl,rfl,rfl,L,aB,rfl,aC,aD,an,aj⟩:=hr;obtain⟨y2,ac⟩:∃y2:World,y2={y with heap:=y.heap.push (.cells cs 96 (0,0))}:=⟨_,rfl⟩;have ak:∀r,r<y.heap.size->y2.heap[r]?=y.heap[r]?:=λr hr=>by rw[ac];show(y.heap.push _)[r]?=_;rw[de,if_neg (by omega)]
 have aH:y2.heap.size=y.heap.size+1:=by rw[ac];simp
 have aE:y2.os=y.os:=by rw[ac]
 have aF:y2.heap[y.heap.size]?=some (.cells cs 96 (0,0)):=by rw[ac];simp
 have ad:tj y2 4 (.slice (some ⟨y.heap.size,0,none⟩) L.length cp) L.length (ir L):=tj.jb (base:=0) (e:=96) ⟨by rw[vp],.inr ⟨y.heap.size,cp,cs,rfl,fm _,aF,aC,aD,an,aj⟩⟩;rw[<-ac];have hold:∀r,r<wl.heap.size->y2.heap[r]?=wl.heap[r]?:=λr hr=>(ak r (by omega)).trans (hold r hr);have af:wl.heap.size<=y2.heap.size:=by omega
 have ab:y2.os=wl.os:=aE.trans ab;clear ak aH aE aF aC aD an aj aG ac;have U:Of (allM ⟨mode,fb,dA⟩ P es n) L:=aB;have Y:List.Perm L (R.filter (Ask.has ⟨mode,fb,dA⟩)):=U.1.trans ai.2;have HH:kb _:=And.intro Y (And.intro U.2 (And.intro hold (And.intro af (And.intro ab (And.intro h5 (And.intro O (And.intro hn ad)))))));clear hb hs ah aw ax ay az ai hl ae O h5 hn af hold ab av ag U aB Y ad HA ap ao ar hx;rw[gL];go_simp
 (refine dT ?_;go_simp);refine dl.ie HK ?_;show dl _ (⟨_,_,[.code (Pq (ey f17))]⟩::_) _ _;obtain⟨Y,a0,hold,af,ab,h5,O,hn,ad⟩:=HH.out;refine ui (L:=L) hi ad rfl HM.out.2.2.1 HM.out.2.2.2.1 (by omega) (λe he y2 ac=>?_) (λw2 u h1 h2 h3 h4=>?_);have aa:=(Y.mem_iff.1 he);rw[b7]at aa;exact O e aa.1 (tY aa.2) y2 (λr hr=>(ac r hr).trans (hold r (by omega)));refine hn w2 _ (λr hr=>(h1 r (by omega)).trans (hold r hr)) (by omega) (h3.trans ab) ⟨L,?_,a0,u,rfl,jH h4 (by omega)⟩;rw[<-au.out];exact Y
end
end
section
section
variable {A:Ask} {P:Nat->List (Nat×dq)}
theorem En(O:∀j,(P j).length<=130):∀n,(jx A P n).length<=n*130
 |0=>by simp[jx]
 |n+1=>by
  have:=En O n
  have:=O n;simp only[jx,bF,bG];omega
theorem EG:∀n,∀m∈jx A P n,∃j,j<n/\∃p∈P j,m=qe A j p
 |0,m,h=>by simp[jx]at h
 |n+1,m,h=>by
  rcases bA.1 h with h|h
  .obtain⟨p,O,rfl⟩:=b4.1 h
   exact⟨n,by omega,p,O,rfl⟩
  obtain⟨j,U,x⟩:=EG n m h;exact⟨j,by omega,x⟩
theorem wC(O:∀j,((P j).map kG).Nodup):∀n,((jx A P n).map λm=>(m.wN,m.at')).Nodup
 |0=>List.Pairwise.nil
 |n+1=>by
  show((_++_:List lW).map _).Nodup
  rw[b8,bO]
  refine⟨?_,wC O n,?_⟩
  .rw[bC]
   have e:((λm=>(m.wN,m.at')) ∘ qe A n)=(λk=>(n,k)) ∘ kG:=by
    funext p;simp only[Function.comp_apply,(iA n p).1,(iA n p).2.1]
   rw[e,<-bC];have h:=O n;unfold cC at h⊢;rw[bV];exact h.imp λh e=>h (Prod.mk.inj e).2
  rintro x U y Y rfl;rw[bC]at U;obtain⟨p,_,rfl⟩:=b4.1 U;obtain⟨m,hm,he⟩:=b4.1 Y;have:=tI n m hm;have:=(Prod.mk.inj he).1;simp only[(iA n p).1]at this;omega
theorem FQ:∀n,∀e∈Gk P n,∃j,j<n/\e∈sn (P j)
 |0,e,h=>by simp[Gk]at h
 |n+1,e,h=>by
  rcases bA.1 h with h|h
  .exact⟨n,by omega,h⟩
  .obtain⟨j,O,x⟩:=FQ n e (b7.1 h).1
   exact⟨j,by omega,x⟩
end
theorem Ia(A:Ask)(l:List dq):(dw l).filter A.has=l.filter A.has:=by
 unfold dw;rw[bT];apply bX;intro e _
 cases h:A.has e with
 |false=>rfl|true=>rw[tY h];rfl
theorem vk{e:dq}(h:Qa e):e.name.length<=dk/\e.text.length<=1048576:=by
 have O:=(gN (qR h)).2;refine⟨by unfold dk;omega,?_⟩;rcases h with h|h
 have:=(jI h.2.2.1);omega;rw[h.1];simp
theorem OW{buf:List dq}{ss:List (List dq)}(hI:Inv buf ss):∃P:Nat->List (Nat×dq),
  (∀j(h:j<ss.length),∃ps qs,jo (dW ss[j]).length (dW ss[j])=some (ps,qs)/\P j=ps++qs)/\
  ∀A:Ask,Fs (allM A P buf ss.length)/\(dU (allM A P buf ss.length) (allM A P buf ss.length)).Perm ((eO ss buf).filter A.has):=by
 have ac:∀j,∃p:List (Nat×dq),∀h:j<ss.length,∃ps qs,jo (dW ss[j]).length (dW ss[j])=some (ps,qs)/\p=ps++qs/\(sn p).Perm ss[j]/\pM 0 (dW ss[j]).length p:=by
  intro j;by_cases h:j<ss.length;obtain⟨gs,es,Y,h2⟩:=yz (hI.jp _ (bB h));obtain⟨ps,qs,h3,h4,h5,h6⟩:=BZ Y;exact⟨ps++qs,λ_=>⟨ps,qs,h3,rfl,by rw[show sn (ps++qs)=sn ps++sn qs from b8,h4,h5];exact h2,h6⟩⟩;exact⟨[],λh'=>absurd h' h⟩
 obtain⟨P0,ab⟩:=kB ac;refine⟨P0,λj h=>?_,λA=>?_⟩
 .obtain⟨ps,qs,Y,h2,_⟩:=ab j h;exact⟨ps,qs,Y,h2⟩
 obtain⟨P,hP⟩:∃P:Nat->List (Nat×dq),P=λj=>if j<ss.length then P0 j else if j=ss.length then fO buf else []:=⟨_,rfl⟩
 have aa:P ss.length=fO buf:=by rw[hP];simp
 have fy:allM A P0 buf ss.length=jx A P (ss.length+1):=by
  show _++_=_++_;rw[aa,zH (P:=P0) (Q:=P) ss.length λj hj=>by rw[hP];simp[hj]]
 have af:(dw buf).length<=30:=fk (kU _ _) hI.all
 have ad:buf.length<=130:=by
  have Y:=jB buf;have h2:=hI.gone;have:=oT buf;omega
 have ae:∀j(h:j<ss.length),ss[j].length<=130:=λj h=>mV (hI.jp _ (bB h))
 have U:∀j,∃l:List dq,(sn (P j)).Perm l/\(l.map dq.name).Nodup/\l.length<=130/\(∀e∈l,Qa e)/\((P j).map kG).Nodup/\(∀p∈P j,p.1<4611686018427387904)/\(∀h:j<(ss++[buf]).length,l=(ss++[buf])[j]):=by
  intro j;rcases Nat.lt_trichotomy j ss.length with h|h|h
  obtain⟨ps,qs,_,_,h2,h3⟩:=ab j h;have e:P j=P0 j:=by rw[hP];simp[h]
  have hs:=hI.jp _ (bB h);refine⟨ss[j],by rw[e];exact h2,hs.nodup,ae j h,hs.each,?_,λp hp=>?_,λ_=>by rw[List.getElem_append_left h]⟩;rw[e];unfold cC;rw[bV];exact h3.2.2.imp λh=>Nat.ne_of_lt h;rw[e]at hp;have:=(h3.2.1 p hp).2;have:=rB hs;omega;subst h;refine⟨buf,by rw[aa];show(cS _ _).Perm _;rw[DL];exact nk buf,hI.nodup,ad,hI.each,?_,λp hp=>?_,λ_=>by simp⟩;rw[aa,yO,bC];exact(List.nodup_range).map _ (λ_ _ h e=>h e);rw[aa,yO]at hp;obtain⟨k,hk,rfl⟩:=b4.1 hp;have:=cf.1 hk;omega;have e:P j=[]:=by rw[hP];simp[show ¬j<ss.length by omega,show ¬j=ss.length by omega]
  exact⟨[],by rw[e];exact .refl _,List.Pairwise.nil,by simp,by simp,by rw[e];exact List.Pairwise.nil,by rw[e];simp,λh'=>by simp at h';omega⟩
 have hL:∀j,(P j).length<=130:=λj=>by
  obtain⟨l,Y,_,h3,_⟩:=U j;have:=Y.length_eq;rw[bG]at this;omega
 have hN:∀j,(jO _).Nodup:=λj=>by
  obtain⟨l,Y,h2,_⟩:=U j;have:=(Y.map _).nodup_iff.2 h2;rw[bC]at this;exact this
 have hG:∀j,∀p∈P j,Qa _:=λj p hp=>by
  obtain⟨l,Y,_,_,h4,_⟩:=U j;exact h4 _ (Y.mem_iff.1 (b4.2 ⟨p,hp,rfl⟩))
 have ag:=hI.ql;have O:dU (allM A P0 buf ss.length) (allM A P0 buf ss.length)=(Gk P (ss.length+1)).filter A.has:=by rw[fy,zq]
 constructor;refine⟨?_,λm hm=>?_,?_,?_,?_⟩;rw[fy];have:=En (A:=A) hL (ss.length+1);omega;rw[fy]at hm;obtain⟨j,hj,p,hp,rfl⟩:=EG _ m hm;rw[(iA j p).1,(iA j p).2.1,(iA j p).2.2.1];obtain⟨l,_,_,_,_,_,h6,_⟩:=U j;exact⟨by omega,h6 p hp,(vk (hG j p hp)).1⟩;rw[fy];exact wC (λj=>(U j).elim λl h=>h.2.2.2.2.1) _;rw[O];exact(yi hN _).sublist ((ck).map _);rw[O];intro e he;obtain⟨j,_,h⟩:=FQ _ e (b7.1 he).1;obtain⟨p,hp,rfl⟩:=b4.1 h;exact(vk (hG j p hp)).2;rw[O,fQ,Ia]
 have:=F8 (P:=P) (ss:=ss++[buf]) (λj h=>by
  obtain⟨l,Y,_,_,_,_,_,h7⟩:=U j;rw[<-h7 h]
  exact Y) (ss.length+1) (by simp)
 rw[cb (by simp)]at this;exact this.filter _
end
section
open Go.Conc Go.RowKit Go.Maps
variable {ops:Array Oper} {qb:ByteArray} {e:dq} {rest:List Nat} {i:Nat} {o:Oper}
theorem xK:∀(ss:List (List dq))(a:List dq),(a.map dq.name).Nodup->(∀s∈ss,(s.map dq.name).Nodup)->((ss.foldl dH a).map dq.name).Nodup
 |[],_,h,_=>h|s::ss,a,h,O=>xK ss _ (pU h (O s (by simp))) λx U=>O x (by simp[U])
theorem rh{buf:List dq}{ss:List (List dq)}(h:Inv buf ss):((eO ss buf).map dq.name).Nodup:=by
 rw[fQ];refine mG (xK _ [] List.Pairwise.nil λs U=>?_);rcases bA.1 U with O|O
 exact(h.jp s O).nodup;simp only[bH]at O;rw[O];exact h.nodup
theorem vI{R L:List dq}{mode dA most:Nat}(O:(R.map dq.name).Nodup)(Y:∀e∈R,e.gone=false)(hm:mode<=3)(ht:dA<=255)(aa:1<=most)(ab:most<=20)(hq:eu qb.data.toList=true)
  (U:L.Perm (R.filter (Ask.has ⟨mode,⟨(dO qb.data.toList).toArray⟩,dA⟩))) (hs:L.Pairwise λx y=>dY x y=true):(L.take most).map fq=(um R mode qb.data.toList dA most).1:=by
 have e1:R.filter (Ask.has ⟨mode,⟨(dO qb.data.toList).toArray⟩,dA⟩)=R.filter λe=>lG mode dA qb.data.toList e:=by
  refine bX λe he=>?_;unfold Ask.has lG dE;rw[Y e he];simp
 rw[e1]at U;have h:=tX (mode:=mode) (dA:=dA) (most:=most) (q:=qb.data.toList) O hs (by simpa using U);unfold um;rw[if_neg (by omega),if_pos hq];rw[h];simp
abbrev lX(w:World):Prop:=l2 prog w "internal/strconv.uint64pow10" .u64 l3
theorem GS{w y:World}(h:lX w)(hb:∀r,r<5->y.heap[r]?=w.heap[r]?):lX y:=by
 unfold lX l2 World.var? at h⊢;have U:∃g,g<5/\prog.globalNamed "internal/strconv.uint64pow10" = some g:=⟨2,by omega,by kernel_rfl⟩;obtain⟨g,O,e⟩:=U;rw[e]at h⊢;simp only[lv]at h⊢;rw[hb g O];exact h
theorem Ov(h:Ke e)(y:World)(U:lX y)(h5:5<=y.heap.size):dr prog 51 #[.agg #[.string ⟨e.name.toArray⟩,.string ⟨e.text.toArray⟩,.int .i64 e.dp,.int .i64 e.dA]] y λY w'=>Y=.returned (.string ⟨(fq e).toArray⟩)/\eV y w':=by
 obtain⟨_,h1,h2,_,h3,h4,_⟩:=h;have hn:=(gN h1).2;have aa:=jI h2;refine OT e y h3 (λy2 O=>?_) (by omega) (by omega) ?_;have:=Pl e.dp.toNat (by omega) y2 (GS U λr hr=>O.block r (by omega));rw[show e.dp.toNat=e.dp by omega]at this;exact this;have:=EX 7 e.dp.toNat (by omega) (by omega);omega
theorem JX:∀(L:List (List dq))(a:List dq){e:dq},e∈L.foldl dH a->e∈a\/∃l∈L,e∈l
 |[],_,_,h=>.inl h|l::L,a,e,h=>by
  rcases JX L _ h with h|⟨m,hm,h⟩
  rcases kL.1 h with h|h
  exact .inl h.1;exact .inr ⟨l,by simp,h⟩;exact .inr ⟨m,by simp[hm],h⟩
theorem Bf{buf:List dq}{ss:List (List dq)}(h:Inv buf ss)(he:e∈eO ss buf):Ke e:=by
 rw[fQ]at he;obtain⟨h1,h2⟩:=b7.1 he
 have O:Qa e:=by
  rcases JX _ _ h1 with U|⟨l,hl,U⟩
  simp at U;rcases bA.1 hl with Y|Y
  exact(h.jp l Y).each e U;simp only[bH]at Y;subst Y;exact h.each e U
 rcases O with O|O
 exact O;rw[O.1]at h2;simp at h2
theorem KN:f17.name≠ "runtime.NumGoroutine":=by
 decide
section
variable {Z:jN prog} {W0:World} {Mp:Nat->Prop} {fn:dt} {tm:Array Value} {os:List OF} {wl w0:World} {k:List Item} {F1 F2:Nat->Prop} {b:Nat} {buf:List dq} {ss:List (List dq)} {ts:List (List Wd)}
theorem AW.KJ{mode dA most:Nat}(hi:ops[i]?=some o)(h:AW w0 wl F1 F2 b buf ss ts)(h5:5<=w0.heap.size)(ac:lX wl)
  (hm:mode<=3) (ht:dA<=255) (ag:1<=most) (ah:most<=20) (hq:eu qb.data.toList=true)
  (hn:∀(w2:World)(u:Value)(L:List dq),AW w0 w2 F1 F2 b buf ss ts->mU wl w2->L.Perm ((eO ss buf).filter (Ask.has ⟨mode,⟨(dO qb.data.toList).toArray⟩,dA⟩))->(L.Pairwise λx y=>dY x y=true)->Kept w2 F1 F2 u ((L.take most).map fq)->dl (fJ Z W0 Mp) (⟨fn,eM o.dst tm (.tuple #[u,.int .i64 0]),.inRegion ops rest::k⟩::os) w2 []) :
  dl (fJ Z W0 Mp) (⟨17,#[.pointer (some ⟨b,0,none⟩),.int .i64 (mode:Int),.string qb,.int .i64 (dA:Int),.int .i64 (most:Int),mp,mp,mp,mp,mp,mp,mp,mp,mp,mp,mp,mp,mp,mp,mp,mp,mp,mp,mp,mp,mp,mp,mp,mp,mp,mp,mp,mp,mp,mp,mp,mp,mp,mp,mp,mp,mp,mp,mp,mp,mp,mp,mp,mp,mp,mp,mp,mp,mp,mp,mp,mp,mp,mp,mp,mp,mp,mp,mp,mp,mp,mp],[.code (ey f17)]⟩::⟨fn,tm,.inRegion ops (i::rest)::k⟩::os) wl []:=by
 obtain⟨⟨h1,h2,h3,Bb,vS,B,n,vK,kn,h4,h6⟩,k1,k2,k3⟩:=id h
 have ai:qb.size<=1000:=by
  have:=jI hq;have e:qb.size=qb.data.toList.length:=by show qb.data.size=_;rw[Array.length_toList]
  omega
 have aj:=fk h5 k3.size;have hI:=h4.inv;have ar:=rF hI
 have ak:∀e∈buf,e.name.length<=65536/\e.text.length<=1048576/\(e.gone=false->0<=e.dA/\e.dA<=255):=λe he=>by
  have O:=hI.each e he;have h1:=(gN (qR O)).2;refine⟨by omega,(vk O).2,λe0=>?_⟩;rcases O with O|O
  exact⟨O.2.2.2.2.2.2.1,O.2.2.2.2.2.2.2⟩;rw[O.1]at e0;cases e0
 have ad:=h4.row;obtain⟨P,al,am⟩:=OW hI
 have aa:∃sa sc,vS=.slice sa ss.length sc/\((sa=none/\ss.length=0)\/∃sb so c e f,sa=some ⟨sb,so,none⟩/\5<=sb/\wl.heap[sb]?=some (.cells c e f)/\∀j,j<ss.length->c[so+j]?=some (.string ⟨(dW (ss.getD j [])).toArray⟩)):=by
  rcases ad.2 with⟨rfl,h0⟩|⟨g,cap,cur,rfl,_,O,c1,c2,c3,c4⟩
  exact⟨none,0,by rw[h0],.inl ⟨rfl,h0⟩⟩;refine⟨_,cap,rfl,.inr ⟨g,0,cur,_,_,rfl,fk h5 (k1 g (h4.lq g rfl)),O,λj U=>?_⟩⟩;have ab:=gU (ss.map dW) j (by simpa using U);rw[<-c4,bS,if_pos (by simpa using U)]at ab
  have e1:(ss.map dW)[j]'(by simpa using U)=dW (ss.getD j []):=by
   rw[List.getElem_map,bD,b6 U];rfl
  rw[e1]at ab;simpa using ab
 obtain⟨sa,sc,an,ao⟩:=aa;refine LI (es:=buf) (R:=eO ss buf) (P:=P) (Ss:=λj=>⟨(dW _).toArray⟩) hi an h4.blk h4.say (fk h5 (k1 Bb h4.fB)) ⟨ao,hI.ql,λj U=>?_,λA _=>am A⟩ (by omega) ak hm ht ag ah hq ai (λe he O y hy=>?_) aj ?_;have e1:ss.getD j []=ss[j]:=by rw[bD,b6 U];rfl
 have hl:=rB (hI.jp _ (bB U));obtain⟨ps,qs,q1,q2⟩:=al j U;simp only[e1];have e2:(⟨(dW ss[j]).toArray⟩:ByteArray).size=(dW ss[j]).length:=by simp[ByteArray.size]
 exact⟨by omega,ps,qs,q1,q2⟩;exact Ov (Bf hI he) y (GS ac hy) (by have:=hy 4 (by omega);rw[cU (show 4<wl.heap.size by omega)]at this;have:=(cT.1 this).1;omega);intro w2 v hb hz ho ae;obtain⟨L,ap,aq,u,rfl,af⟩:=ae;have Y:mU wl w2:=⟨ho,hz,hb⟩;refine hn w2 u L (h.same Y) Y ap aq (Kept.new h ?_);rw[bG];exact af
theorem AW.RP{xs:Array Operand}{U:Array ef}{mode dA most:Nat}(h:AW w0 wl F1 F2 b buf ss ts)(h5:5<=w0.heap.size)(O:lX wl)(hq:eu qb.data.toList=true)
  (hn:∀(w2:World)(u:Value)(L:List dq),AW w0 w2 F1 F2 b buf ss ts->mU wl w2->L.Perm ((eO ss buf).filter (Ask.has ⟨mode,⟨(dO qb.data.toList).toArray⟩,dA⟩))->(L.Pairwise λx y=>dY x y=true)->Kept w2 F1 F2 u ((L.take most).map fq)->dl (fJ Z W0 Mp) (⟨fn,eM o.dst tm (.tuple #[u,.int .i64 0]),.inRegion ops rest::k⟩::os) w2 [])
  (hi:ops[i]?=some o) (Y:kd o (ee ops tm)=true) (ho:o.op=.call {callee:=.value (.func 17),args:=xs,argTypes:=U}) (aa:∀x∈xs.toList,dP (fJ Z W0 Mp).fw (fJ Z W0 Mp).gl x)
  (ha:xs.map (iS tm)=#[.pointer (some ⟨b,0,none⟩),.int .i64 (mode:Int),.string qb,.int .i64 (dA:Int),.int .i64 (most:Int)]) (hm:mode<=3) (ht:dA<=255) (ab:1<=most) (ac:most<=20):dl (fJ Z W0 Mp) (⟨fn,tm,.inRegion ops (i::rest)::k⟩::os) wl []:=by
 have ad:xs.size=5:=by have:=congrArg Array.size ha;simpa using this
 refine dl.qK _ (gO:=f17) (c:=ey f17) hi Y func17 (by kernel_rfl) KN ho aa ?_ (h.KJ hi h5 O hm ht ab ac hq hn);rw[ha,ad];kernel_rfl
end
end
section
structure np where
 name:Wd
 text:Wd
 dp:Int
 dA:Int
 there:Bool
def eU:np:=⟨[],[],0,0,false⟩
structure Raw where
 name:Int
 text:Int
 dp:Int
 dA:Int
def qW(k:np):dq:=⟨k.name,false,k.text,k.dp,k.dA⟩
def k6(x:Raw):np:=⟨sT (pk x.name 12),Ap (pk x.text 258),(x.dp.natAbs % 1000001:Nat),(pk x.dA 256:Nat),true⟩
def qA(K:List np)(x:Raw):List np:=
 if x.dp<0 then K.set (pk x.name 12) {K.getD (pk x.name 12) eU with there:=false}else K.set (pk x.name 12) (k6 x)
def De(l:List dq):Prop:=∀e∈l,∃k,k<12/\e.name=sT k
theorem Hq{i j:Nat}(hi:i<12)(Y:j<12)(h:sT i=sT j):i=j:=by
 have O:=by simpa[sT]using h
 have U:=congrArg UInt8.toNat O;simp only[UInt8.toNat_ofNat']at U;omega
theorem PN{k:Nat}(h:k<12):iU (sT k)=true:=by
 rcases(by omega:k=0\/k=1\/k=2\/k=3\/k=4\/k=5\/k=6\/k=7\/k=8\/k=9\/k=10\/k=11)with rfl|rfl|rfl|rfl|rfl|rfl|rfl|rfl|rfl|rfl|rfl|rfl<;>decide
def TZ(n:Nat):Bool:=eu (Ap n) && !(Ap n).isEmpty&&decide ((Ap n).length<=20)
theorem Sv:(cn 258).all TZ=true:=by kernel_rfl
theorem Kr{n:Nat}(h:n<258):eu (Ap n)=true/\Ap n≠[]/\(Ap n).length<=20:=by
 have:=cR.1 Sv n (cf.2 h);simp only[TZ,Bool.and_eq_true,decide_eq_true_eq,Bool.not_eq_true',List.isEmpty_eq_false_iff]at this;exact⟨this.1.1,this.1.2,this.2⟩
theorem Nk{l m:List Wd}(U:l.Nodup)(hm:m.Nodup)(h:∀x∈l,x∈m):l.length<=m.length:=by
 have Y:(m.filter λx=>decide (x∈l)).Perm l:=by
  rw[List.perm_ext_iff_of_nodup (hm.sublist ck) U];intro x;rw[b7];exact⟨λh=>of_decide_eq_true h.2,λO=>⟨h x O,decide_eq_true O⟩⟩
 have h1:=Y.length_eq;have h2:=ce (λx=>decide (x∈l)) m;omega
theorem zT{l:List dq}(O:(l.map dq.name).Nodup)(h:De l):l.length<=12:=by
 have:=Nk O (m:=(cn 12).map sT) (by decide) λx U=>by
  obtain⟨e,Y,rfl⟩:=b4.1 U;obtain⟨k,hk,e1⟩:=h e Y;exact b4.2 ⟨k,cf.2 hk,e1.symm⟩
 simpa using this
theorem Bm{a b:List dq}(O:De a)(hb:De b):De (dH a b):=λe U=>by
 rcases kL.1 U with h|h
 exact O e h.1;exact hb e h
theorem wA{a:List dq}(O:De a):De (dw a):=λe U=>O e (b7.1 U).1
structure Sk(K:List np)(buf:List dq)(ss:List (List dq)):Prop where
 len:K.length=12
 inv:Inv buf ss
 ql:De buf
 D6:∀s∈ss,De s
 tq:∀k(h:k<K.length),K[k].there=true->K[k].name=sT k/\(∃n,n<258/\K[k].text=Ap n)/\0<=K[k].dp/\K[k].dp<=1000000/\0<=K[k].dA/\K[k].dA<=255
 there:∀e,e∈eO ss buf↔∃i,∃h:i<K.length,K[i].there=true/\e=qW K[i]
theorem Sk.new:Sk (List.replicate 12 eU) [] [] where
 len:=by simp
 inv:=Kv;ql:=λe h=>by simp at h
 D6:=λs h=>by simp at h
 tq:=λk h O=>by rw[cE]at O;cases O
 there:=λe=>by
  constructor;intro h;simp[eO,lV,dH,dw]at h;rintro⟨i,h,O,_⟩;rw[cE]at O;cases O
section
variable {K:List np} {buf:List dq} {ss:List (List dq)}
theorem Sk.Kt(h:Sk K buf ss):(eO ss buf).length<=12:=zT (rh h.inv) λe O=>by
 obtain⟨i,hi,U,rfl⟩:=(h.there e).1 O;exact⟨i,by rw[<-h.len];exact hi,(h.tq i hi U).1⟩
theorem Sk.GB(h:Sk K buf ss){k:Nat}(hk:k<12){e:dq}{kn:np}(hI:Inv (dH buf [e]) ss)(hn:e.name=sT k)(hg:kn.there = !e.gone)
  (hq:kn.there=true->qW kn=e/\(∃n,n<258/\kn.text=Ap n)/\0<=kn.dp/\kn.dp<=1000000/\0<=kn.dA/\kn.dA<=255):Sk (K.set k kn) (dH buf [e]) ss where
 len:=by rw[bQ];exact h.len
 inv:=hI
 ql:=Bm h.ql λx hx=>by
  simp only[bH]at hx;rw[hx];exact⟨k,hk,hn⟩
 D6:=h.D6
 tq:=λi hi ht=>by
  rw[bQ]at hi;rw[ca]at ht⊢;split at ht;rename_i e1;subst e1;simp only[if_true];obtain⟨O,U⟩:=hq ht;refine⟨?_,U⟩;rw[<-hn,<-O];rfl;rename_i e1;rw[if_neg e1];exact h.tq i hi ht
 there:=λx=>by
  have hT:=h.there x;rw[qH,qh];rw[fQ]at hT;rw[bA,b7,iq,hT];have e1:x.name ∉ names [e]↔x.name≠sT k:=by simp[names,hn]
  rw[e1];constructor;rintro(⟨⟨i,hi,O,rfl⟩,U⟩|O);refine⟨i,by rw[bQ];exact hi,?_⟩;rw[ca];have:k≠i:=λY=>U (by rw[show(qW K[i]).name=K[i].name from rfl,(h.tq i hi O).1,Y]);rw[if_neg this];exact⟨O,rfl⟩;obtain⟨U,h3⟩:=b7.1 O;simp only[bH]at U;subst U;have h4:kn.there=true:=by rw[hg];exact h3
  refine⟨k,by rw[bQ,h.len];exact hk,?_⟩;rw[ca];simp only[if_true];exact⟨h4,(hq h4).1.symm⟩;rintro⟨i,hi,O,rfl⟩;rw[bQ]at hi;rw[ca]at O⊢;split at O;rename_i Y;subst Y;simp only[if_true];refine .inr (b7.2 ?_);rw[(hq O).1];exact⟨by simp,by rw[<-hg];exact O⟩
  rename_i Y;rw[if_neg Y];refine .inl ⟨⟨i,hi,O,rfl⟩,λe3=>Y ?_⟩;rw[show(qW K[i]).name=K[i].name from rfl,(h.tq i hi O).1]at e3;exact(Hq (by rw[<-h.len];exact hi) hk e3).symm
theorem Sk.RY(h:Sk K buf ss)(x:Raw)(hx:¬x.dp<0) :
  (js buf ss (k6 x).name (k6 x).text (k6 x).dp (k6 x).dA).1=0/\Sk (qA K x) (js buf ss (k6 x).name (k6 x).text (k6 x).dp (k6 x).dA).2 ss:=by
 have O:=lA x.name 12 (by omega);have U:=Kr (lA x.text _ (by omega));have hg:=lA x.dA 256 (by omega);have aa:=h.Kt;have Y:=JY h.inv (k6 x).name (k6 x).text (k6 x).dp (k6 x).dA;have hw:(k6 x).dp=((x.dp.natAbs % 1000001)):=rfl;have ab:(k6 x).dA=((pk _ _)):=rfl
 have e:js buf ss (k6 x).name (k6 x).text (k6 x).dp (k6 x).dA=(0,dH buf [qW (k6 x)]):=by
  unfold js;rw[if_pos (show iU (k6 x).name=true from PN O),if_pos (show eu (k6 x).text=true/\(k6 x).text≠[]from⟨U.1,U.2.1⟩),if_neg (by omega),if_neg (by omega)];rfl
 rw[e]at Y⊢;refine⟨rfl,?_⟩;unfold qA;rw[if_neg hx];exact h.GB O Y rfl rfl λ_=>⟨rfl,⟨_,lA _ _ (by omega),rfl⟩,by omega,by omega,by omega,by omega⟩
theorem Sk.del(h:Sk K buf ss)(x:Raw)(hx:x.dp<0) :
  (kH buf ss (sT (pk x.name 12))).1=(if(K.getD (pk x.name 12) eU).there then 0 else 5)/\Sk (qA K x) (kH buf ss (sT (pk x.name 12))).2 ss:=by
 have U:=lA x.name 12 (by omega);obtain⟨k,ek⟩:∃k,k=pk x.name 12:=⟨_,rfl⟩;rw[<-ek]at U;have O:k<K.length:=by rw[h.len];exact U
 have hI:=K3 h.inv (sT k);have Y:K.getD k eU=K[k]:=by rw[bD,b6 O];rfl
 unfold qA;rw[<-ek,if_pos hx,Y]
 cases ht:K[k].there with
 |false=>
  have hn:=pK λhm=>by
   obtain⟨e,he,e1⟩:=b4.1 hm;obtain⟨i,hi,h1,rfl⟩:=(h.there e).1 he;rw[show(qW _).name=K[i].name from rfl,(h.tq i hi h1).1]at e1;have:=Hq (by rw[<-h.len];exact hi) U e1;subst this;rw[ht]at h1;cases h1
  have e:kH buf ss (sT k)=(5,buf):=by
   unfold kH;rw[if_pos (PN U),if_pos hn]
  rw[e]
  have e2:K.set k {K[k]with there:=false}=K:=by
   have:({K[k]with there:=false})=K[k]:=by rw[<-ht]
   rw[this,List.set_getElem_self]
  rw[e2];exact⟨rfl,h⟩
 |true=>
  have hn:=λhf=>vv hf (b4.2 ⟨qW _,(h.there _).2 ⟨k,O,ht,rfl⟩,(h.tq k O ht).1⟩);have hb:=zT h.inv.nodup h.ql
  have e:kH buf ss (sT k)=(0,dH buf [⟨sT k,true,[],0,0⟩]):=by
   unfold kH;rw[if_pos (PN U),if_neg hn,if_neg (by omega)]
  rw[e]at hI⊢;exact⟨rfl,h.GB U hI rfl rfl nofun⟩
theorem Sk.flush(h:Sk K buf ss):Sk K (eX buf ss).2.1 (eX buf ss).2.2/\
  (((eX buf ss).1=0/\((eX buf ss).2.2.length=ss.length+1\/(ss.length=0/\(eX buf ss).2.2.length=0)))\/(((eX buf ss).1=5\/(eX buf ss).1=4)/\(eX buf ss).2.2.length=ss.length)):=by
 have hI:=Ci h.inv;unfold eX at hI⊢;split;exact⟨h,.inr ⟨.inl rfl,rfl⟩⟩;split;exact⟨h,.inr ⟨.inr rfl,rfl⟩⟩;rename_i hb h6;rw[if_neg hb,if_neg h6]at hI;simp only at hI⊢
 have hT:eO (if 0<(eZ buf ss).length then ss++[eZ buf ss]else ss) []=eO ss buf:=by
  by_cases O:ss.length=0;have:=bZ.1 O;subst this;have U:eZ buf []=dw buf:=by simp[eZ]
  rw[U];split;rw[fQ];show dw (dH _ [])=dw (dH [] buf);rw[oW,mf,mf,jV];have aa:dw buf=[]:=bZ.1 (by omega);show dw (dH [] [])=dw (dH [] buf);rw[mf,mf,aa];rfl;have U:eZ buf ss=buf:=by simp[eZ,O]
  rw[U,if_pos (by omega),fQ,fQ,fi _,oW]
 refine⟨⟨h.len,hI,nofun,λs hs=>?_,h.tq,λe=>by rw[hT];exact h.there e⟩,.inl ⟨trivial,?_⟩⟩;split at hs;rcases bA.1 hs with Y|Y
 exact h.D6 s Y;simp only[bH]at Y;rw[Y];unfold eZ;split;exact wA h.ql;exact h.ql;exact h.D6 s hs;split;simp;rename_i hz;right
 have O:ss.length=0:=by
  by_cases O:ss.length=0;exact O;have U:eZ buf ss=buf:=by simp[eZ,O]
  rw[U]at hz;omega
 exact⟨O,O⟩
theorem Sk.merge(h:Sk K buf ss)(n:Int):Sk K buf (eP ss n).2/\
  (((eP ss n).1=0/\((eP ss n).2.length+1=ss.length\/(eP ss n).2.length+2=ss.length))\/((eP ss n).1=6/\(eP ss n).2.length=ss.length)):=by
 have hI:=B8 h.inv n;by_cases h0:n<0\/ss.length-1<=n;have e:eP ss n=(6,ss):=by unfold eP;rw[if_pos h0]
 rw[e];exact⟨h,.inr ⟨rfl,rfl⟩⟩;obtain⟨k,rfl⟩:∃k:Nat,n=k:=⟨n.toNat,by omega⟩;have hk:k+1<ss.length:=by omega
 have ha:ss.getD k []∈ss:=by
  rw[bD,b6 (by omega)];exact bB _
 have hb:ss.getD (k+1) []∈ss:=by
  rw[bD,b6 hk];exact bB _
 have O:=Bm (h.D6 _ ha) (h.D6 _ hb);have U:=pU (h.inv.jp _ ha).nodup (h.inv.jp _ hb).nodup
 have hm:De (ja ss k):=by
  unfold ja;split;exact wA O;exact O
 have hl:=by
  refine zT ?_ hm;unfold ja;split;exact mG U;exact U
 have e:eP ss k=(0,ss.take k++(pb k (ss.getD k []) (ss.getD (k+1) [])++ss.drop (k+2))):=by
  unfold eP;rw[if_neg h0,ly,if_neg (by omega),zP]
 rw[e]at hI⊢;simp only at hI⊢;refine⟨⟨h.len,hI,h.ql,λs hs=>?_,h.tq,λx=>?_⟩,.inl ⟨trivial,?_⟩⟩;rcases bA.1 hs with Y|Y
 exact h.D6 s (List.mem_of_mem_take Y);rcases bA.1 Y with h2|h2
 rw[(JH h2).1];exact hm;exact h.D6 s (List.mem_of_mem_drop h2);have:=vE ss k hk [buf];rw[fQ,this,<-fQ];exact h.there x;have Y:=Kf k (ss.getD k []) (ss.getD (k+1) []);simp only[bF,ct,List.length_drop];omega
end
end
section
open Go.RowKit
variable {w y:World}
theorem na{P:Program}{ops:Array Oper}{Q:Exit->Act->World->Prop}{a:Act}(h:Q .normal a w):mD P ops Q [] a w:=λ_ _ _=>⟨.normal,a,w,h,.one step_region_end⟩
def rk(x:Raw):Value:=.agg #[.int .i64 x.name,.int .i64 x.text,.int .i64 x.dp,.int .i64 x.dA]
def Kx(k:np):Value:=.agg #[.string ⟨k.name.toArray⟩,.string ⟨k.text.toArray⟩,.int .i64 k.dp,.int .i64 k.dA,.bool k.there]
structure Raw.Ok(x:Raw):Prop where
 n0 : -9223372036854775808<=x.name
 n1:x.name<=9223372036854775807
 t0 : -9223372036854775808<=x.text
 t1:x.text<=9223372036854775807
 w0 : -9223372036854775808<=x.dp
 w1:x.dp<=9223372036854775807
 g0 : -9223372036854775808<=x.dA
 g1:x.dA<=9223372036854775807
theorem eN{a:Addr}{v:Value}(h:kV w y)(O:w.cell? a=some v):y.cell? a=some v:=by
 obtain⟨τ,U⟩:=h;exact gp a v _ _ (show(tp w τ).cell? a=some v from O) U
theorem Gh(w:World)(a:Addr)(v:Value):(w.setCell a v).os=w.os:=rfl
theorem tv(w:World)(a:Addr)(v:Value):(w.setCell a v).tape=w.tape:=rfl
theorem yP(w:World)(a:Addr)(v:Value):(w.setCell a v).output=w.output:=rfl
structure Un(y y5:World)(b o:Nat)(cs:Array Value)(t:ef)(v0 v1 v2 v3 v4:Value):Prop where
 blk:y5.heap[b]?=some (.cells (((((cs.setIfInBounds o v0).setIfInBounds (o+1) v1).setIfInBounds (o+2) v2).setIfInBounds (o+3) v3).setIfInBounds (o+4) v4) t (0,0))
 other:∀k,k≠b->y5.heap[k]?=y.heap[k]?
 size:y5.heap.size=y.heap.size
 os:y5.os=y.os
 tape:y5.tape=y.tape
 output:y5.output=y.output
theorem JR{b o:Nat}{cs:Array Value}{t:ef}(h:y.heap[b]?=some (.cells cs t (0,0)))(v0 v1 v2 v3 v4:Value):Un y (((((y.setCell ⟨b,o,none⟩ v0).setCell ⟨b,o+1,none⟩ v1).setCell ⟨b,o+2,none⟩ v2).setCell ⟨b,o+3,none⟩ v3).setCell ⟨b,o+4,none⟩ v4) b o cs t v0 v1 v2 v3 v4 where
 blk:=by
  have O:=heap_set h o v0;have U:=heap_set O (o+1) v1;have Y:=heap_set U (o+2) v2;have h3:=heap_set Y (o+3) v3;exact heap_set h3 (o+4) v4
 other k hk:=by rw[ez _ _ _ _ hk,ez _ _ _ _ hk,ez _ _ _ _ hk,ez _ _ _ _ hk,ez _ _ _ _ hk]
 size:=by simp
 os:=by rw[Gh,Gh,Gh,Gh,Gh]
 tape:=by rw[tv,tv,tv,tv,tv]
 output:=by rw[yP,yP,yP,yP,yP]
theorem Gy(h:kV w y)(O:y.tape=w.tape):eV w y:=by
 obtain⟨τ,U,h2,Y,h4,h5⟩:=h;exact⟨U,O,Y,h4,h5⟩
theorem Hs(x:Raw)(hx:x.Ok)(w:World):dr prog 22 #[rk x] w λe w'=>e=.returned (Kx (k6 x))/\eV w w':=by
 obtain⟨xn,xt,xw,xg⟩:=x;obtain⟨n0,n1,t0,t1,w0,w1,g0,g1⟩:=hx;simp only at n0 n1 t0 t1 w0 w1 g0 g1;unfold rk;simp only;obtain⟨q,hq⟩:∃q:Int,q=((xw.natAbs % 1000001:Nat):Int):=⟨_,rfl⟩;have ac:0<=q:=by omega
 have ad:q<=1000000:=by omega
 obtain⟨wa,Y⟩:∃wa,wa=(w.alloc (.cells #[.int .i64 xn,.int .i64 xt,.int .i64 xw,.int .i64 xg] 48)).alloc (.cells #[.string ⟨#[]⟩,.string ⟨#[]⟩,.int .i64 0,.int .i64 0,.bool false] 36):=⟨_,rfl⟩;have aa:kb (eV w wa):=by rw[Y];exact(eV.alloc _ _).trans (eV.alloc _ _)
 have hA:wa.heap[w.heap.size]?=some (.cells #[.int .i64 xn,.int .i64 xt,.int .i64 xw,.int .i64 xg] 48 (0,0)):=by rw[Y,(eV.alloc _ _).block _ (by simp)];exact o8 _ _
 have hB:wa.heap[w.heap.size+1]?=some (.cells #[.string ⟨#[]⟩,.string ⟨#[]⟩,.int .i64 0,.int .i64 0,.bool false] 36 (0,0)):=by
  rw[Y,<-kf];exact o8 _ _
 have HB:kb _:=hB;have d0:wa.cell? ⟨w.heap.size,0,none⟩=some (.int .i64 xn):=by rw[dh hA];rfl
 have d1:wa.cell? ⟨w.heap.size,1,none⟩=some (.int .i64 xt):=by rw[dh hA];rfl
 have d2:wa.cell? ⟨w.heap.size,2,none⟩=some (.int .i64 xw):=by rw[dh hA];rfl
 have d3:wa.cell? ⟨w.heap.size,3,none⟩=some (.int .i64 xg):=by rw[dh hA];rfl
 have HN:kb (∀y,dr prog 23 #[.int .i64 xn] y λe w'=>e=.returned (.string ⟨(sT (pk xn 12)).toArray⟩)/\y=w'):=λy=>BQ xn y n0 n1;have HT:kb (∀y,dr prog 45 #[.int .i64 xt] y λe w'=>e=.returned (.string ⟨(Ap (pk xt 258)).toArray⟩)/\eV y w'):=λy=>Bu xt y t0 t1;have HP:kb (∀y,dr prog 15 #[.int .i64 xg,.int .i64 256] y λe w'=>e=.returned (.int .i64 (pk xg 256:Nat))/\y=w'):=λy=>fS xg 256 y g0 g1 (by omega) (by omega)
 have HK:kb (Kx (k6 ⟨xn,xt,xw,xg⟩)=.agg #[.string ⟨(sT (pk xn 12)).toArray⟩,.string ⟨(Ap (pk xt 258)).toArray⟩,.int .i64 q,.int .i64 (pk xg 256:Nat),.bool true]):=by
  show Kx _=_;rw[hq];rfl
 rw[HK.out];clear hA hB HK;generalize (⟨(sT (pk xn 12)).toArray⟩:ByteArray)=sn at *;generalize (⟨(Ap (pk xt 258)).toArray⟩:ByteArray)=st at *;generalize ((pk xg 256:Nat):Int)=gg at *
 have key:(xw.tmod 1000001 = -q/\-q<0)\/(xw.tmod 1000001=q/\¬q<0):=by
  by_cases ab:0<=xw;have:=lx (a:=xw) (b:=1000001) ab;omega;have:=lx (a:=-xw) (b:=1000001) (by omega);rw[Int.neg_tmod]at this;omega
 have k1:IntKind.i64.wrap (-q) = -q:=by simp only[lp];omega
 have k2:IntKind.i64.wrap q=q:=by simp only[lp];omega
 clear hq;rcases key with⟨hr,hl⟩|⟨hr,hl⟩
 all_goals
  go_enter func22,ntmps22;go_wp2_with fail;rw[<-Y];clear Y;refine gz (Sd:=λa y=>y.tape=wa.tape->mD _ _ _ [11] a y) (last:=11) (tl:=[]) (by kernel_rfl) ?_ (λa y h ht=>h ht);refine dC 0 ?_ ?_<|dC 1 ?_ ?_ ?_
  any_goals(intro y U;have q0:=eN U d0;unfold gm;go_simp;refine⟨eV.refl _,?_⟩;with_reducible rfl)
  go_simp;refine dC 2 ?_ ?_ ?_;rotate_left
  .intro y U;unfold gm;go_simp;refine⟨rfl,(HN.out y).mono ?_⟩;rintro e y2 ⟨rfl,rfl⟩;refine⟨_,rfl,eV.refl _,?_⟩;with_reducible rfl
  go_simp;refine dC 3 ?_ ?_<|dC 4 ?_ ?_ ?_
  any_goals(intro y U;have q0:=eN U d1;unfold gm;go_simp;refine⟨eV.refl _,?_⟩;with_reducible rfl)
  go_simp;refine dC 5 ?_ ?_ ?_;rotate_left
  .intro y U;unfold gm;go_simp;refine⟨rfl,(HT.out y).mono ?_⟩;rintro e y2 ⟨rfl,h2⟩;refine⟨_,rfl,h2,?_⟩;with_reducible rfl
  go_simp;refine dC 6 ?_ ?_<|dC 7 ?_ ?_<|dC 8 ?_ ?_ ?_
  any_goals(intro y U;have q0:=eN U d3;unfold gm;go_simp;refine⟨eV.refl _,?_⟩;with_reducible rfl)
  go_simp;refine dC 9 ?_ ?_ ?_;rotate_left
  .intro y U;unfold gm;go_simp;refine⟨rfl,(HP.out y).mono ?_⟩;rintro e y2 ⟨rfl,rfl⟩;refine⟨_,rfl,eV.refl _,?_⟩;with_reducible rfl
  go_simp;refine dC 10 ?_ ?_ ?_
  any_goals(intro y U;unfold gm;go_simp;refine⟨eV.refl _,?_⟩;with_reducible rfl)
  go_simp;refine mP (by kernel_rfl) (λt=>Cz (by kernel_rfl) _ _) ?_;intro y U ht;refine jv rfl rfl ?_
  have O:y.heap[w.heap.size+1]?=some (.cells #[.string ⟨#[]⟩,.string ⟨#[]⟩,.int .i64 0,.int .i64 0,.bool false] 36 (0,0)):=by
   obtain⟨τ,he⟩:=U;exact(he.block _ (cT.1 HB.out).1).trans HB.out
  have c0:y.cell? ⟨w.heap.size+1,0,none⟩=some (.string ⟨#[]⟩):=by rw[dh O];rfl
  have c1:y.cell? ⟨w.heap.size+1,1,none⟩=some (.string ⟨#[]⟩):=by rw[dh O];rfl
  have c2:y.cell? ⟨w.heap.size+1,2,none⟩=some (.int .i64 0):=by rw[dh O];rfl
  have c3:y.cell? ⟨w.heap.size+1,3,none⟩=some (.int .i64 0):=by rw[dh O];rfl
  have c4:y.cell? ⟨w.heap.size+1,4,none⟩=some (.bool false):=by rw[dh O];rfl
  have f0:=dI O;unfold gm;go_simp;refine na ?_;have S:=JR (o:=0) O (.string sn) (.string st) (.int .i64 q) (.int .i64 gg) (.bool true);have hE:eV w y:=aa.out.trans (Gy U ht);clear c0 c1 c2 c3 c4 f0 O U ht;change Un y (((((y.setCell ⟨w.heap.size+1,0,none⟩ (.string sn)).setCell ⟨w.heap.size+1,1,none⟩ (.string st)).setCell ⟨w.heap.size+1,2,none⟩ (.int .i64 q)).setCell ⟨w.heap.size+1,3,none⟩ (.int .i64 gg)).setCell ⟨w.heap.size+1,4,none⟩ (.bool true)) _ _ _ _ _ _ _ _ _ at S;generalize ((((y.setCell ⟨w.heap.size+1,0,none⟩ (.string sn)).setCell ⟨w.heap.size+1,1,none⟩ (.string st)).setCell ⟨w.heap.size+1,2,none⟩ (.int .i64 q)).setCell ⟨w.heap.size+1,3,none⟩ (.int .i64 gg)).setCell ⟨w.heap.size+1,4,none⟩ (.bool true)=y5 at *;have e0:y5.cell? ⟨w.heap.size+1,0,none⟩=some (.string sn):=by rw[dh S.blk];rfl
  have e1:y5.cell? ⟨w.heap.size+1,1,none⟩=some (.string st):=by rw[dh S.blk];rfl
  have e2:y5.cell? ⟨w.heap.size+1,2,none⟩=some (.int .i64 q):=by rw[dh S.blk];rfl
  have e3:y5.cell? ⟨w.heap.size+1,3,none⟩=some (.int .i64 gg):=by rw[dh S.blk];rfl
  have e4:y5.cell? ⟨w.heap.size+1,4,none⟩=some (.bool true):=by rw[dh S.blk];rfl
  have HE:kb (eV w y5):=⟨S.os.trans hE.os,S.tape.trans hE.tape,S.output.trans hE.output,by rw[S.size];exact hE.size,λk hk=>(S.other k (by omega)).trans (hE.block k hk)⟩;clear S hE HN HT HP aa HB;go_wp2
  try simp only[Exit.inBlock,Exit.then]
  exact bodyPost_ret (v:=.agg #[.string sn,.string st,.int .i64 q,.int .i64 gg,.bool true]) (by simp[er,results22,go_sem,e0,e1,e2,e3,e4]) rfl ⟨rfl,HE.out⟩
end
section
def ea:dq:=⟨[97],false,[78,101,119,32,89,111,114,107],50,1⟩
def eb:dq:=⟨[98],false,[78,101,119,97,114,107],70,3⟩
def ec:dq:=⟨[99],false,[89,111,114,107],60,1⟩
def gb:dq:=⟨[98],true,[],0,0⟩
theorem t1:js [] [] ea.name ea.text 50 1=(0,[ea]):=by kernel_rfl
theorem t2:js [ea] [] eb.name eb.text 70 3=(0,[ea,eb]):=by kernel_rfl
theorem t3:js [ea,eb] [] ec.name ec.text 60 1=(0,[ea,eb,ec]):=by kernel_rfl
theorem t4:(um (eO [] [ea,eb,ec]) 0 [110,101,119] 0 5).1=[fq eb,fq ea]:=by kernel_rfl
theorem t5:(um (eO [] [ea,eb,ec]) 1 [89,79,82,75] 0 5).1=[fq ec,fq ea]:=by kernel_rfl
theorem t6:(um (eO [] [ea,eb,ec]) 2 [110,119,101] 2 5).1=[fq eb]:=by kernel_rfl
theorem t7:(eX [ea,eb,ec] [])=(0,[],[[ea,eb,ec]]):=by kernel_rfl
theorem t8:kH [] [[ea,eb,ec]] [98]=(0,[gb]):=by kernel_rfl
theorem t9:(eX [gb] [[ea,eb,ec]])=(0,[],[[ea,eb,ec],[gb]]):=by kernel_rfl
theorem t10:ru [[ea,eb,ec],[gb]] 1=([1,1,98,0,0,0,0,0,0],0):=by kernel_rfl
theorem t11:(eP [[ea,eb,ec],[gb]] 0).1=0/\(eP [[ea,eb,ec],[gb]] 0).2.length=1:=by constructor<;>kernel_rfl
def UZ:List (List Wd):=[[[116,104,101],[99,97,116],[115,97,116]]]
def UW:List (List Wd):=[[[116,104,101],[99,97,116],[115,97,116]],[[116,104,101],[99,97,116],[114,97,110]]]
theorem t12:sW [] [116,104,101,32,99,97,116,32,115,97,116]=(0,UZ):=by kernel_rfl
theorem t13:sW UZ [116,104,101,32,99,97,116,32,114,97,110]=(0,UW):=by kernel_rfl
theorem t14:uT UW [116,104,101,32,99,97,116] 2=([[114,97,110],[115,97,116]],0):=by kernel_rfl
theorem t15:fq ea=[97,32,53,48,32,78,101,119,32,89,111,114,107]:=by
 unfold fq;rw[show ea.dp.toNat=50 from rfl,mZ (by omega),pw (by omega)];rfl
theorem t16:fq eb=[98,32,55,48,32,78,101,119,97,114,107]:=by
 unfold fq;rw[show eb.dp.toNat=70 from rfl,mZ (by omega),pw (by omega)];rfl
theorem t17:fq ec=[99,32,54,48,32,89,111,114,107]:=by
 unfold fq;rw[show ec.dp.toNat=60 from rfl,mZ (by omega),pw (by omega)];rfl
end

end
end Go.Proofs.YtocbogeoffeolaaGreatDoor
