import Derived.Test.YtocbogeoffeolaaGreatDoorWidAG
import Derived.Shelf.SlIter.Sorted
import Derived.Shelf.Strconv.Itoa3
set_option linter.all false
set_option maxHeartbeats 8000000
set_option maxRecDepth 1000000
open List renaming mem_map->b4,getElem?_eq_getElem->b6,mem_filter->b7,map_append->b8,mem_cons->b9,mem_append->bA,getElem_mem->bB,map_map->bC,getD_eq_getElem?_getD->bD,mem_cons_self->bE,length_append->bF,length_map->bG,mem_singleton->bH,getElem?_eq_none->bI,mem_cons_of_mem->bJ,map_congr_left->bK,map_cons->bL,not_mem_nil->bM,take_succ_eq_append_getElem->bN,nodup_append->bO,nodup_cons->bP,length_set->bQ,find?_cons->bR,getElem?_take->bS,filter_filter->bT,filter_append->bU,pairwise_map->bV,getElem?_map->bW,filter_congr->bX,ext_getElem?->bY,length_eq_zero_iff->bZ,getElem_set->ca,take_of_length_le->cb,mem_append_right->cc,length_filter_le->ce,mem_range->cf,filter_sublist->ck,range->cn,append_of_mem->cq,perm_middle->cr,length_take->ct,length_cons->cw,filter_cons->cx,eq_nil_of_length_eq_zero->cy,filter_map->cz,append_nil->cA,setIfInBounds_toArray->cB,Nodup->cC,pairwise_iff_getElem->cD,getElem_replicate->cE,perm_append_comm->cF,length_singleton->cG,map_id->cH,filter_eq_self->cI,set_cons_zero->cJ,set_cons_succ->cK,find?_eq_none->cL,find?_append->cM,append_assoc->cN,take_length->cO,mem_flatMap->cP,cons_append->cQ,all_eq_true->cR,map->cS
open Array renaming getElem?_eq_some_iff->cT,getElem?_eq_getElem->cU,getElem?_setIfInBounds_ne->cV,getElem_ofFn->cW,getElem?_eq_none->cX,getElem?_toList->cY,set!_eq_setIfInBounds->cZ,replicate->da,getElem?_mapIdx->db,getElem?_setIfInBounds_self_of_lt->dc,getElem?_push->de,ofFn->df,ext_getElem?->dg,map->di,ext->dj
open Go renaming maxLen->dk,Calls->dl,FuncId->dr,yielded->dt,TypeId->ee,cell_later->ef,callsIn_wide->eg,goexitEntry->ei,results->ej,wpList->er,info_parts->et
open Nat renaming le_refl->ev,le_trans->ew,zero_le->ez,lt_of_lt_of_le->e8,lt_trans->eC,mod_one->fd
open Go.RowKit.Below renaming heap_setCell->fk,refl->fm,heap_alloc->fr
open Go.Proofs.Tryz renaming underlying9->fs,underlying0->ga,zeroValue9->gc,zeroValue0->gd,underlying179->ge,underlying4->gt,zeroValue4->gv,sizeOf9->gx,sizeOf0->gy,isAgg9->g8,isAgg0->g9,underlying229->gA,underlying184->gB,underlying177->hH,underlying141->hJ,underlying129->hU,zeroValue229->hW,zeroValue184->hY,zeroValue177->hZ,zeroValue141->ip,underlying85->iv,underlying82->i1,underlying31->i6,sizeOf4->i7,f82->i8,f123->i',underlying5->jt,underlying3->j1,zeroValue5->j2,zeroValue3->j3,isAgg4->j4
open Go.RowKit renaming Hid->ka,run_makeMap->kb
open Go.Region renaming wanted->kc,ready->kd
open Go.World renaming size_alloc->ke,ownsRow_nil->kf,cell?->kj,cell?_alloc_at->kr
open Classical renaming choose_spec->ks,choose->kt,not_not->kx,propDecidable->ky,byContradiction->k4,axiomOfChoice->k5
open Prod renaming fst->kB,snd->kG
open Option.some renaming injEq->kN,inj->kT
open List.Perm renaming append_left->kW,refl->la,cons_inv->lc,append->ld
open Go.Region.linearise renaming go->ln
open Go.IntKind renaming wrap_i64->lo
open Option renaming map_some->lp,bind_some->ls
open Int renaming tmod_eq_emod_of_nonneg->lv,toNat_natCast->lw,not_lt->lx
open Go.Lib renaming decDigits->ly,TabIs->l0,pow10Tab->l1
open Go.Value.slice renaming injEq->l2
open Go.Sort renaming putCells->l3,flatK->l4,size_flatK->lB
open Go renaming undef->mj
namespace Go.Proofs.YtocbogeoffeolaaGreatDoor
open Go.Proofs.Tryz
section
open Go.Shelf
def AC:Go.Shelf.Ren:=⟨fun|7=>122|10=>163|n=>n,fun|23=>85|26=>9|3=>111|28=>177|0=>0|27=>176|33=>81|4=>4|n=>n,fun|n=>n⟩
theorem R2:Go.Proofs.SlLaysZ.n7 prog AC:={
 mixed:=by kernel_rfl
 f7:=⟨f122.name,by decide,func122.trans (congrArg some (by kernel_rfl))⟩,f10:=⟨f163.name,by decide,func163.trans (congrArg some (by kernel_rfl))⟩,t0:=ga,a0:=g9,z0:=gy,v0:=gd,t4:=gt,a4:=j4,z4:=i7,v4:=gv,t23:=iv,a23:=isAgg85,z23:=sizeOf85,v23:=zeroValue85,t26:=fs,a26:=g8,z26:=gx,v26:=gc,t27:=underlying176,a27:=isAgg176,z27:=sizeOf176,v27:=zeroValue176,t28:=hH,a28:=isAgg177,z28:=sizeOf177,v28:=hZ,t33:=underlying81,a33:=isAgg81,z33:=sizeOf81
 v33:=zeroValue81}
def we:Go.Shelf.Ren:=⟨fun|6=>121|8=>161|9=>162|11=>216|13=>125|12=>217|23=>172|24=>173|14=>243|15=>244|16=>245|17=>246|18=>247|19=>248|20=>249|21=>250|22=>251|25=>271|26=>219|27=>220|28=>272|29=>273|30=>175|31=>279|n=>n,fun|26=>9|28=>177|24=>31|0=>0|3=>3|37=>184|48=>229|50=>141|4=>4|40=>222|39=>221|45=>226|5=>5|9=>9|51=>272|55=>276|57=>292|58=>212|33=>81|n=>n,fun|n=>n⟩
theorem Qx:Go.Proofs.SlLaysZ.n6 prog we:={
 mixed:=by kernel_rfl
 f6:=⟨f121.name,by decide,func121.trans (congrArg some (by kernel_rfl))⟩,f8:=⟨f161.name,by decide,func161.trans (congrArg some (by kernel_rfl))⟩,f11:=⟨f216.name,by decide,func216.trans (congrArg some (by kernel_rfl))⟩,t0:=ga,a0:=g9,z0:=gy,v0:=gd,t24:=i6,a24:=isAgg31,z24:=sizeOf31,v24:=zeroValue31,t26:=fs,a26:=g8,z26:=gx,v26:=gc,t28:=hH,a28:=isAgg177,z28:=sizeOf177,v28:=hZ
 i26:=by kernel_rfl}
def Fc:Go.Shelf.Ren:=⟨fun|6=>83|15=>125|14=>124|28=>172|29=>173|20=>164|21=>165|22=>166|23=>167|24=>168|25=>169|26=>170|27=>171|46=>218|47=>219|48=>220|49=>221|50=>222|57=>252|n=>n,fun|22=>82|24=>96|25=>133|3=>3|39=>184|0=>0|53=>229|55=>141|4=>4|46=>222|45=>221|50=>226|5=>5|9=>9|66=>272|70=>276|76=>292|77=>212|n=>n,fun|n=>n⟩
theorem JW:Go.Proofs.SlLaysF0.n6 prog Fc:={
 mixed:=by kernel_rfl
 f6:=⟨f83.name,by decide,func83.trans (congrArg some (by kernel_rfl))⟩,f14:=⟨f124.name,by decide,func124.trans (congrArg some (by kernel_rfl))⟩,f15:=func125.trans (congrArg some (by kernel_rfl)),f20:=⟨f164.name,by decide,func164.trans (congrArg some (by kernel_rfl))⟩,f21:=⟨f165.name,by decide,func165.trans (congrArg some (by kernel_rfl))⟩,f22:=⟨f166.name,by decide,func166.trans (congrArg some (by kernel_rfl))⟩,f23:=⟨f167.name,by decide,func167.trans (congrArg some (by kernel_rfl))⟩,f24:=⟨f168.name,by decide,func168.trans (congrArg some (by kernel_rfl))⟩,f25:=⟨f169.name,by decide,func169.trans (congrArg some (by kernel_rfl))⟩,f26:=⟨f170.name,by decide,func170.trans (congrArg some (by kernel_rfl))⟩,f27:=⟨Tryz.f171.name,by decide,func171.trans (congrArg some (by kernel_rfl))⟩,f28:=func172.trans (congrArg some (by kernel_rfl)),f29:=func173.trans (congrArg some (by kernel_rfl)),f46:=⟨f218.name,by decide,func218.trans (congrArg some (by kernel_rfl))⟩,f47:=func219.trans (congrArg some (by kernel_rfl)),f48:=func220.trans (congrArg some (by kernel_rfl)),f49:=⟨f221.name,by decide,func221.trans (congrArg some (by kernel_rfl))⟩,f50:=⟨f222.name,by decide,func222.trans (congrArg some (by kernel_rfl))⟩,f57:=⟨f252.name,by decide,func252.trans (congrArg some (by kernel_rfl))⟩,t0:=ga,a0:=g9,z0:=gy,v0:=gd,t3:=j1,a3:=isAgg3,z3:=sizeOf3,v3:=j3,t4:=gt,a4:=j4,z4:=i7,v4:=gv,t5:=jt,a5:=isAgg5,z5:=sizeOf5,v5:=j2,t9:=fs,a9:=g8,z9:=gx,v9:=gc,t22:=i1,a22:=isAgg82,z22:=sizeOf82,v22:=zeroValue82,t25:=underlying133,a25:=isAgg133,z25:=sizeOf133,v25:=zeroValue133,t39:=gB,a39:=isAgg184,z39:=sizeOf184,v39:=hY,t45:=underlying221,a45:=isAgg221,z45:=sizeOf221,v45:=zeroValue221,t46:=underlying222,a46:=isAgg222,z46:=sizeOf222,v46:=zeroValue222,t50:=underlying226,a50:=isAgg226,z50:=sizeOf226,v50:=zeroValue226,t53:=gA,a53:=isAgg229,z53:=sizeOf229,v53:=hW,t55:=hJ,a55:=isAgg141,z55:=sizeOf141,v55:=ip,t66:=underlying272,a66:=isAgg272,z66:=sizeOf272,v66:=zeroValue272,t70:=underlying276,a70:=isAgg276,z70:=sizeOf276,v70:=zeroValue276,t76:=underlying292,a76:=isAgg292,z76:=sizeOf292,v76:=zeroValue292,t77:=underlying212,a77:=isAgg212,z77:=sizeOf212
 v77:=zeroValue212}
def Du:Go.Shelf.Ren:=⟨fun|171=>85|243=>129|246=>176|283=>223|284=>224|285=>225|286=>226|129=>173|317=>253|318=>254|319=>255|320=>256|337=>274|338=>275|n=>n,fun|3=>3|9=>9|2=>2|4=>4|171=>278|0=>0|53=>141|37=>60|5=>5|173=>280|212=>295|51=>229|20=>20|213=>296|46=>184|232=>312|233=>313|n=>n,fun|17=>2|18=>3|19=>4|n=>n⟩
theorem NS:Go.Proofs.LaysM.n171 prog Du:={
 mixed:=by kernel_rfl
 f129:=func173.trans (congrArg some (by kernel_rfl)),f171:=func85.trans (congrArg some (by kernel_rfl)),f243:=func129.trans (congrArg some (by kernel_rfl)),f246:=func176.trans (congrArg some (by kernel_rfl)),f283:=func223.trans (congrArg some (by kernel_rfl)),f284:=func224.trans (congrArg some (by kernel_rfl)),f285:=func225.trans (congrArg some (by kernel_rfl)),f286:=func226.trans (congrArg some (by kernel_rfl)),f317:=func253.trans (congrArg some (by kernel_rfl)),f318:=func254.trans (congrArg some (by kernel_rfl)),f319:=func255.trans (congrArg some (by kernel_rfl)),f320:=func256.trans (congrArg some (by kernel_rfl)),f337:=func274.trans (congrArg some (by kernel_rfl)),f338:=func275.trans (congrArg some (by kernel_rfl)),t0:=ga,a0:=g9,z0:=gy,v0:=gd,t2:=underlying2,a2:=isAgg2,z2:=sizeOf2,v2:=zeroValue2,t3:=j1,a3:=isAgg3,z3:=sizeOf3,v3:=j3,t4:=gt,a4:=j4,z4:=i7,v4:=gv,t5:=jt,a5:=isAgg5,z5:=sizeOf5,v5:=j2,t9:=fs,a9:=g8,z9:=gx,v9:=gc,t20:=underlying20,a20:=isAgg20,z20:=sizeOf20,v20:=zeroValue20,t37:=underlying60,a37:=isAgg60,z37:=sizeOf60,v37:=zeroValue60,t46:=gB,a46:=isAgg184,z46:=sizeOf184,v46:=hY,t51:=gA,a51:=isAgg229,z51:=sizeOf229,v51:=hW,t53:=hJ,a53:=isAgg141,z53:=sizeOf141,v53:=ip,t171:=underlying278,a171:=isAgg278,z171:=sizeOf278,v171:=zeroValue278,t173:=underlying280,a173:=isAgg280,z173:=sizeOf280,v173:=zeroValue280,t212:=underlying295,a212:=isAgg295,z212:=sizeOf295,v212:=zeroValue295,t213:=underlying296,a213:=isAgg296,z213:=sizeOf296,t232:=underlying312,a232:=isAgg312,z232:=sizeOf312,v232:=zeroValue312,t233:=underlying313,a233:=isAgg313,z233:=sizeOf313,v233:=zeroValue313,g17:=by kernel_rfl
 g18:=by kernel_rfl
 g19:=by kernel_rfl
 i0:=by kernel_rfl
 i2:=by kernel_rfl
 i3:=by kernel_rfl
 i4:=by kernel_rfl
 i5:=by kernel_rfl
 i9:=by kernel_rfl
 i20:=by kernel_rfl
 i37:=by kernel_rfl
 i46:=by kernel_rfl
 i51:=by kernel_rfl
 i53:=by kernel_rfl
 i171:=by kernel_rfl
 i173:=by kernel_rfl
 i212:=by kernel_rfl
 i232:=by kernel_rfl
 i233:=by kernel_rfl
 m17:=by kernel_rfl
 m18:=by kernel_rfl
 m19:=by kernel_rfl}
end
section
open Go.RowKit Go.Maps Go.Sort Go.Shelf
theorem MS(m:Nat):AnyZ.SortsIn prog we Fence.wide m:=
 ⟨λblk off cap ss W Y O U=>eg.2 (Any.slices_Sort_string xj blk off cap ss W Y O U),
  λp cap W=>eg.2 (Any.slices_Sort_string_none xj p cap W)⟩
theorem MZ(B:Nat)(w:World):dl prog 122 #[.map (some B)] w λe w'=>e=.returned (.func (.func 163) #[] #[.pointer (some ⟨w.heap.size,0,none⟩)])/\w'=w.alloc (.cells #[.map (some B)] 85):=
 eg.1 (AnyZ.keys_in R2 _ 5 trivial rfl _ w)
theorem Fz(B:Nat)(l:List (Wd×Value))(w:World)(h:dM prog 9 w B l)(hl:l.length<=100000) :
  dl prog 121 #[.func (.func 163) #[] #[.pointer (some ⟨w.heap.size,0,none⟩)]] (w.alloc (.cells #[.map (some B)] 85)) λe w'=>∃v,e=.returned v/\
   w'.ownsRow (w.heap.size+1) 9 1 v l.length (dp ((l.map kB).mergeSort λx y=>decide (x<=y)))/\Below (w.heap.size+1) (w.alloc (.cells #[.map (some B)] 85)) w':=by
 obtain⟨D,O,Y⟩:=h;have ae:=O.lt
 have aa:SeqGives Fence.wide 2 _ _ #[.pointer (some ⟨w.heap.size,0,none⟩)] encStr _ _ (w.alloc (.cells #[.map (some B)] 85)):=
  AnyZ.keys_gives (ρ:=AC) {R2 with} _ _ trivial rfl (by omega) _ B _ D _ (by simp) (by simp) (by
   obtain⟨es,clock,hb,Ft,Y,hD⟩:=O
   exact⟨es,clock,(fr _ _ B ae).trans hb,Ft,Y,hD⟩)
 have hc:=eg.1 (AnyZ.sorted_in Qx _ 5 trivial trivial trivial trivial rfl (by omega) (MS _) (enters_of func162 (by kernel_rfl) rfl) _ _ trivial (enters_of func163 (by kernel_rfl) rfl) _ _ (by rw[Y.size]; unfold dk; omega) (by rw[Y.size]; omega) _ aa);refine hc.mono ?_;rintro e w' ⟨v,ss,rfl,hp,U,_,hb⟩
 have ab:Collected D (λ_=>false) _:=⟨Y.nodup,λx=>by
  rw[Y.has x]
  simp⟩
 have ac:=hp.trans (ab.perm O (string_keyed (by kernel_rfl)) (by kernel_rfl) (λ_=>rfl)).symm;have ad:ss.length=l.length:=by rw[ac.length_eq]; simp
 rw[ke]at U hb;refine⟨v,rfl,?_,hb⟩;rw[ad,mergeSort_of_perm ac]at U;exact U
end
section
open Go.Conc Go.RowKit Go.Maps
variable {es:List dq} {ms:List Value} {cap num:Nat} {w w':World}
structure Ask where
 m:Nat
 q:ByteArray
 t:Nat
structure Ask.Ok(A:Ask):Prop where
 m:A.m<=3
 t:A.t<256
 q:A.q.size<=1048576
def Ask.has(A:Ask)(e:dq):Bool:=!e.gone&&(oq A.t e.dD.toNat&&jo A.m A.q.data.toList (ed e.text))
def bytes(l:Wd):ByteArray:=⟨l.toArray⟩
def l7(A:Ask)(k:Nat)(p:Nat×dq):Value:=if A.has p.2=true then Az k p.1 (bytes p.2.name) true (bytes (ui p.2)) (bytes p.2.text) p.2.du p.2.dD else Az k p.1 (bytes p.2.name) false MT MT 0 0
def qp(es:List dq):List dq:=es.mergeSort λa b=>decide (a.name<=b.name)
def fM(es:List dq):List (Nat×dq):=(qp es).zipIdx.map λp=>(p.2,p.1)
theorem nu(es:List dq):(qp es).Perm es:=List.mergeSort_perm ..
theorem DS(es:List dq):(qp es).map dq.name=(es.map dq.name).mergeSort λx y=>decide (x<=y):=List.map_mergeSort λ_ _ _ _=>rfl
theorem qL(es:List dq)(k:Nat):(fM es)[k]?=((qp es)[k]?).map λe=>(k,e):=by
 simp[fM,List.getElem?_zipIdx];cases(qp es)[k]?<;>rfl
theorem E4(es:List dq):(fM es).length=es.length:=by simp[fM,(nu es).length_eq]
theorem Ej{k:Nat}(O:k<es.length):∃e,(qp es)[k]?=some e/\e∈es/\((es.map dq.name).mergeSort λx y=>decide (x<=y))[k]?=some e.name:=by
 have h:k<(qp es).length:=by rw[(nu es).length_eq]; exact O
 refine⟨(qp es)[k],b6 h,(nu es).mem_iff.1 (bB h),?_⟩;rw[<-DS,bW,b6 h];rfl
theorem Ks(O:(es.map dq.name).Nodup){e:dq}(U:e∈es)(z:Value):mC (es.map jj) e.name z=qF e:=by
 have:(es.map jj).find? (λp=>p.1==e.name)=some (jj e):=by
  induction es with
  |nil=>cases U
  |cons x es ih=>
   rw[bL,bP]at O;rw[bL,bR];by_cases Y:x.name=e.name
   .rcases b9.1 U with rfl|h
    .simp[jj]
    .exact absurd (List.mem_map_of_mem h) (Y▸O.1)
   .have:((jj x).1==e.name)=false:=by simpa[jj]using Y
    rw[this];rcases b9.1 U with rfl|h
    .exact absurd rfl Y
    .exact ih O.2 h
 unfold mC;rw[this];rfl
structure SW(w:World)(num:Nat)(es:List dq)(A:Ask)(cap:Nat)(ms:List Value):Prop where
 c0:w.cell? ⟨5,0,none⟩=some (.chan (some 10))
 c1:w.cell? ⟨6,0,none⟩=some (.map (some 11))
 c2:w.cell? ⟨7,0,none⟩=some (.int .i64 num)
 c3:w.cell? ⟨8,0,none⟩=some (.int .i64 A.m)
 c4:w.cell? ⟨8,1,none⟩=some (.string A.q)
 c5:w.cell? ⟨8,2,none⟩=some (.int .i64 A.t)
 ch:w.heap[10]?=some (.chan cap ms.toArray false ms.length 0 false)
 sm:ey w 11 es
theorem SW.lt{A:Ask}(h:SW w num es A cap ms):11<w.heap.size:=h.sm.lt
theorem SW.ext{A:Ask}(h:SW w num es A cap ms)(O:eU w w'):SW w' num es A cap ms:=by
 have U:=h.lt;exact⟨(O.cell (p:=⟨5,0,none⟩) (by show(5)<_; omega)).trans h.c0,(O.cell (p:=⟨6,0,none⟩) (by show(6)<_; omega)).trans h.c1,(O.cell (p:=⟨7,0,none⟩) (by show(7)<_; omega)).trans h.c2,(O.cell (p:=⟨8,0,none⟩) (by show(8)<_; omega)).trans h.c3,(O.cell (p:=⟨8,1,none⟩) (by show(8)<_; omega)).trans h.c4,(O.cell (p:=⟨8,2,none⟩) (by show(8)<_; omega)).trans h.c5,(O.block 10 (by omega)).trans h.ch,h.sm.below O⟩
theorem SW.tp{A:Ask}(h:SW w num es A cap ms)(τ:Tape):SW (tp w τ) num es A cap ms:=by
 obtain⟨O,U,Y,h4,h5,h6,h7,D,h8,h9⟩:=h;exact⟨O,U,Y,h4,h5,h6,h7,D,h8,h9⟩
theorem SW.uG{A:Ask}(h:SW w num es A cap ms)(O:kY w w'):SW w' num es A cap ms:=by
 obtain⟨τ,O⟩:=O;exact(h.tp τ).ext O
theorem SW.gG{A:Ask}(h:SW w num es A cap ms)(v:Value):SW {w with heap:=w.heap.setIfInBounds 10 (.chan cap (ms.toArray.push v) false (ms.length+1) 0 false)} num es A cap (ms++[v]):=by
 have Y:=h.lt;have hb:∀k,k≠10->(w.heap.setIfInBounds 10 (.chan cap (ms.toArray.push v) false (ms.length+1) 0 false))[k]?=w.heap[k]?:=λk U=>by rw[cV (Ne.symm U)]
 have O:∀(k o:Nat),k≠10->kj {w with heap:=w.heap.setIfInBounds 10 (.chan cap (ms.toArray.push v) false (ms.length+1) 0 false)} ⟨k,o,none⟩=w.cell? ⟨k,o,none⟩:=λk o U=>by
  simp only[kj,hb k U]
 refine⟨(O 5 0 (by omega)).trans h.c0,(O 6 0 (by omega)).trans h.c1,(O 7 0 (by omega)).trans h.c2,(O 8 0 (by omega)).trans h.c3,(O 8 1 (by omega)).trans h.c4,(O 8 2 (by omega)).trans h.c5,?_,h.sm.stay (hb 11 (by omega))⟩;rw[dc (by omega)];simp
end
section
open Go.Conc Go.RowKit Go.Maps
def re:List Deferred:=[⟨.collected 9,#[.chan (some 10)]⟩]
theorem Ca{f:dr}{tm:Array Value}{rest:Code}{w:World}{L:List Value}{Kp:World->Prop}{Q:Exit->Act->World->Prop}(h:rest.wp prog Q ⟨tm,re⟩ w)
  (hQ:∀e a w',Q e a w'->(e=.normal\/e=.ret)/\a.defers=re/\(∃cap buf s r t,w'.heap[10]?=some (.chan cap buf false s r t)/\buf.toList=L)/\Kp w') :
  ∃n O,runN prog n (lone ⟨f,tm,[.code rest],re,.run,.normal,none⟩ [door prog] w)=.next (LS.m O)/\Pe prog f L Kp O:=by
 obtain⟨e,a,w',hq,U⟩:=h ⟨f,#[],[],[],.run,.normal,none⟩ [] _;obtain⟨he,hd,hh,hk⟩:=hQ e a w' hq
 have hr:∃td n,runN prog n (lone ⟨f,tm,[.code rest],re,.run,.normal,none⟩ [door prog] w)=.next (lone ⟨f,a.tmps,td,a.defers,.returning,.normal,none⟩ [door prog] w'):=by
  rcases he with rfl|rfl
  .obtain⟨n,Y⟩:=(show Steps .. from U).trans (.one step_end);exact⟨[],n,Y⟩
  .obtain⟨td,n,Y⟩:=U;exact⟨td,n,Y⟩
 obtain⟨td,n,Y⟩:=hr;exact⟨n,⟨⟨f,a.tmps,td,a.defers,.returning,.normal,none⟩,[door _],w'⟩,Y,rfl,rfl,hd,rfl,hh,hk⟩
def T'(L:List Value)(o:Option Obj):Exit->Act->World->Prop:=λe a w'=>(e=.normal\/e=.ret)/\a.defers=re/\(∃cap buf s r t,w'.heap[10]?=some (.chan cap buf false s r t)/\buf.toList=L)/\w'.heap[11]?=o
theorem Md{w w':World}{base e sz n:Nat}{v:Value}{xs:List Value}(h:w.ownsRow base e sz v n xs)(hb:∀g,base<=g->g<w.heap.size->w'.heap[g]?=w.heap[g]?):w'.ownsRow base e sz v n xs:=by
 obtain⟨h0,O⟩:=h;refine⟨h0,?_⟩;rcases O with O|⟨g,cap,cur,h2,U,Y,h5⟩
 .exact .inl O
 .exact .inr ⟨g,cap,cur,h2,U,(hb g U (cT.1 Y).1).trans Y,h5⟩
theorem zq{w y:World}(h:kY w y)(g:Nat)(O:g<w.heap.size):y.heap[g]?=w.heap[g]?:=by
 obtain⟨τ,h⟩:=h;exact h.block g O
theorem TS(num:Nat)(es:List dq)(A:Ask)(hA:A.Ok)(cap:Nat)(w:World)(h:SW w num es A cap [])(ak:es.length<=cap)(hl:es.length<=100000)(al:∀e∈es,e.name.length<=dk/\e.text.length<=1048576/\(e.gone=false->0<=e.dD/\e.dD<=255))(aI:num<=1000) :
  (uS f120).wp prog (T' ((fM es).map (l7 A num)) (w.heap[11]?)) ⟨(ul 120 27 6 .skip).tmps,re⟩ w:=by
 have HS:ka (SW _ _ _ _ _ _):=h;have c1:=h.c1;obtain⟨D,hD⟩:∃D,D=(fM es).map (l7 A num):=⟨_,rfl⟩;have HD:ka (D=(fM es).map (l7 A num)):=hD;rw[<-hD];clear hD;have aa:=Fz 11 (es.map jj) w h.sm (by simpa using hl);have HK:ka (∀y,y=w->dl prog 122 #[.map (some 11)] y λe w'=>e=.returned (.func (.func 163) #[] #[.pointer (some ⟨w.heap.size,0,none⟩)])/\w'=w.alloc (.cells #[.map (some 11)] 85)):=λy U=>by subst U; exact MZ 11 _
 rw[show(ul 120 27 6 .skip).tmps=#[.pointer (some ⟨5,0,none⟩),.pointer (some ⟨6,0,none⟩),.pointer (some ⟨7,0,none⟩),.pointer (some ⟨8,0,none⟩),mj,mj,.chan (some 10),mj,mj,mj,mj,mj,mj,mj,mj,mj,mj,mj,mj,mj,mj,mj,mj,mj,mj,mj,mj]from rfl];show Code.wp prog (Code.seq (Code.region 1 _ false) (Code.block 0 (Code.loop _))) _ _ _;obtain⟨N,hN⟩:∃N,N=(es.map dq.name).mergeSort λx y=>decide (x<=y):=⟨_,rfl⟩;have am:(es.map jj).map kB=es.map dq.name:=by simp[jj]
 rw[am,<-hN,bG]at aa;have ab:es.length=N.length:=by rw[hN]; simp
 rw[ab]at aa ak hl;have an:=aa;have HN:ka (N=(es.map dq.name).mergeSort λx y=>decide (x<=y)):=hN;have ao:ka (es.length=N.length):=ab;have aD:ka (∀e∈es,e.name.length<=dk/\e.text.length<=1048576/\(e.gone=false->0<=e.dD/\e.dD<=255)):=al;have aE:=h.lt;clear aa hN ab am al h;go_wp2_with (go_at_call 122; refine(HK.out _ rfl).mono ?_; rintro e y ⟨rfl,rfl⟩);refine an.mono ?_;rintro e y ⟨v,rfl,Y,hb⟩;obtain⟨av,cv,rfl,aJ⟩:=dN Y
 have HX:ka (eU w y):=by
  show Below _ _ _;exact((fm _ _).alloc (ev _) _).trans (Below.mono hb (by omega))
 have HR:ka (y.ownsRow 12 9 1 (.slice av N.length cv) N.length (dp N)):=ownsRow_base_a Y (by omega);clear Y hb HK an;have HS1:ka (SW y num es A cap []):=HS.out.ext HX.out;have HK1:ka (y.heap[11]?=w.heap[11]?):=HX.out.block 11 aE;clear HX HS c1;go_wp2_with fail;go_loopw [11] (λi wr=>∃k:Nat,k<=N.length/\i=.int .i64 k/\SW wr num es A cap (D.take k)/\wr.ownsRow 12 9 1 (.slice av N.length cv) N.length (dp N)/\wr.heap[11]?=w.heap[11]?) (λi _=>N.length-(intOf i).toNat)
 case atStart=>exact⟨0,ez _,rfl,HS1.out,HR.out,HK1.out⟩
 case round=>
  obtain⟨k,hk,rfl,ap,aq,ar⟩:=hrel;have O:ka (SW _ _ _ _ _ _):=ap;have ac:ka (wr.ownsRow 12 9 1 (.slice av N.length cv) N.length (dp N)):=aq;have ad:ka (wr.heap[11]?=w.heap[11]?):=ar;clear ap aq ar HS1 HR HK1;have au:ka (D.length=N.length):=by show _=_; rw[HD.out,bG,E4,ao.out]
  by_cases hlt:k<N.length
  .obtain⟨bg,og,rfl,ae⟩:=iZ ac.out k _ (gO N k hlt);go_upto_region 4 with fail;obtain⟨e,aw,af,ag⟩:=Ej (es:=es) (k:=k) (by rw[ao.out]; exact hlt)
   have ax:N[k]=e.name:=by
    rw[<-HN.out,b6 hlt,kN]at ag;exact ag
   rw[ax];obtain⟨ay,az,a0⟩:=aD.out e af
   have HM:ka (∀y:World,dl prog 119 #[.agg #[.int .i64 num,.int .i64 k],.string ⟨e.name.toArray⟩,qF e,.agg #[.int .i64 A.m,.string A.q,.int .i64 A.t]] y λx w'=>x=.returned (l7 A num (k,e))/\eU y w'):=λy=>by
    refine(DZ num k ⟨e.name.toArray⟩ e.gone ⟨(ui e).toArray⟩ ⟨e.text.toArray⟩ e.du e.dD A.m A.t A.q y hA.m hA.t a0 hA.q (by show e.text.toArray.size<=_; simpa using az)).mono ?_;rintro x w' ⟨h1,h2⟩;exact⟨h1,h2⟩
   have ah:ka (∀y,SW y num es A cap (D.take k)->(Instr.lookup 85 (.map (some 11)) (.string ⟨e.name.toArray⟩) false).run prog y=.ok (qF e) y):=λy U=>by
    rw[(dM.look U.sm fs iv (Jn y) e.name ay).1,Ks (by have:=U.sm.nodup; simpa[jj]using this) af]
   have a5:D[k]?=some (l7 A num (k,e)):=by rw[HD.out,bW,qL,aw]; rfl
   have HT:ka (D.take (k+1)=D.take k++[l7 A num (k,e)]):=by
    obtain⟨aF,aG⟩:=List.getElem?_eq_some_iff.1 a5;show _=_;rw[bN aF,aG]
   obtain⟨sv,a'⟩:∃sv,sv=qF e:=⟨_,rfl⟩;obtain⟨mv,aA⟩:∃mv,mv=l7 A num (k,e):=⟨_,rfl⟩;rw[<-a']at HM ah;rw[<-aA]at HM HT;clear a' aA ax ay az a0 aw af ag a5 ae;refine gX (Sd:=λa y=>nh _ _ _ [10] a y) (last:=10) (tl:=[]) (by kernel_rfl) ?_ (λa y h _=>h);refine dB 0 ?_ ?_<|dB 1 ?_ ?_<|dB 2 ?_ ?_<|dB 3 ?_ ?_<|dB 4 ?_ ?_<|dB 5 ?_ ?_<|dB 6 ?_ ?_<|dB 7 ?_ ?_<|dB 8 ?_ ?_ ?_
   any_goals(intro y U; have q:=(O.out.uG U).c0; have q1:=(O.out.uG U).c2; have q2:=(O.out.uG U).c1; have q3:=ah.out y (O.out.uG U); have q4:=(O.out.uG U).c3; have q5:=(O.out.uG U).c4; have q6:=(O.out.uG U).c5; unfold gh; go_simp; refine⟨eU.refl _,?_⟩; with_reducible rfl)
   go_simp;refine dB 9 ?_ ?_ ?_;rotate_left
   .intro y U; unfold gh; go_simp; refine⟨rfl,(HM.out y).mono ?_⟩; rintro e y2 ⟨rfl,h2⟩; refine⟨_,rfl,h2,?_⟩; with_reducible rfl
   go_simp;refine mF (by kernel_rfl) (λt=>CU (by kernel_rfl) _ _) ?_;intro y U;have ai:=O.out.uG U;have aH:=au.out;refine zn (v:=mv) rfl rfl rfl rfl rfl rfl ai.ch (by simp; omega) ?_;have aj:=ai.gG mv;rw[<-HT.out]at aj
   have aB:=Md (w':={y with heap:=y.heap.setIfInBounds 10 (.chan cap ((D.take k).toArray.push mv) false ((D.take k).length+1) 0 false)}) ac.out (λg h1 h2=>by
    show(y.heap.setIfInBounds 10 _)[g]?=_;rw[cV (by omega)]
    exact zq U g h2)
   have aC:({y with heap:=y.heap.setIfInBounds 10 (.chan cap ((D.take k).toArray.push mv) false ((D.take k).length+1) 0 false)}:World).heap[11]?=w.heap[11]?:=by
    show(y.heap.setIfInBounds 10 _)[11]?=_;rw[cV (by omega),zq U 11 O.out.lt];exact ad.out
   generalize ({y with heap:=y.heap.setIfInBounds 10 (.chan cap ((D.take k).toArray.push mv) false ((D.take k).length+1) 0 false)}:World)=w3 at *;have HS4:ka (SW _ _ _ _ _ _):=aj;have HR4:ka (w3.ownsRow 12 9 1 (.slice (some ⟨bg,og,none⟩) N.length cv) N.length (dp N)):=aB;have HK4:ka (w3.heap[11]?=w.heap[11]?):=aC;clear aj aB aC U ai aH HM ah HT O ac ad;go_wp2;go_roundw
   case rel=>exact⟨k+1,hlt,by simp,HS4.out,HR4.out,HK4.out⟩
   case measure=>simp[intOf]; omega
  .obtain rfl:k=N.length:=by omega
   go_wp2;exact⟨.inl rfl,rfl,⟨_,_,_,_,_,O.out.ch,by rw[List.toList_toArray,<-au.out,cO]⟩,ad.out⟩
end
section
open Go.Conc Go.RowKit Go.Maps
variable {ops:Array Oper} {c x y:Code} {rest:List Nat} {i:Nat} {o:Oper} {v:Value}
def UI(dd q K:Nat)(m:Ren):Prop:=(m.dead=λr=>r=dd)/\m.dm dd=q/\∀r,m.loose r->r<K
def nR(P:Program)(Z:iS P)(w:World)(T:List Frame)(dd q K:Nat)(lent:Bool):Env P where
 Z:=Z
 fA:=λb=>b<w.heap.size/\(lent=true->b≠q)
 w0:=w
 T:=T
 gl:=λg=>D6 g=true
 st:=false
 fu:=λf=>MA f=true
 ok:=Nf P MA D6 false
 X:=UI dd q K
 le:=λm O h ⟨U,Y,h3⟩=>⟨h.dead.trans U,by rw[h.dm]; exact Y,λr hr=>h3 r (h.less r hr)⟩
theorem DD{Z:iS prog}{w:World}{T:List Frame}{dd q K:Nat}{lent:Bool}(m:Ren)(O:m.ok=(nR prog Z w T dd q K lent).ok)(U:m.fu=(nR prog Z w T dd q K lent).fu)(Y:m.G=prog.globals.size):l6 prog m (nR prog Z w T dd q K lent).gl (nR prog Z w T dd q K lent).st:=TJ O U (Y.trans ya)
section
variable {P:Program} {E:Env P} {fn:dr} {tm:Array Value} {os:List OF} {wl:World} {V:List (Nat×Option (List Value))} {k:List Item}
theorem dn.CL(τ:Nat->Question->Nat)(h:dn E os wl V):dn E os (tp wl τ) V:=dn.tape (τ:=wl.tape) h
def EV(E:Env P)(fn:dr)(k:List Item)(os:List OF)(V:List (Nat×Option (List Value))):Exit->Act->World->Prop:=λe a w'=>a.defers=[]/\∃k',((e=.normal/\k'=k)\/∃id,e=.exit id/\exitTo id k=some k')/\dn E (⟨fn,a.tmps,k'⟩::os) w' V
theorem dn.EC(O:fD E.ok c)(U:k.all jL=true)(Y:uW E os)(h:∀τ,Ak τ wl->c.wp P (EV E fn k os V) ⟨tm,[]⟩ (tp wl τ)):dn E (⟨fn,tm,.code c::k⟩::os) wl V:=dn.code O U Y h λ_ _ _ h=>h
theorem dn.S4(hi:ops[i]?=some o)(U:kc o (dt ops tm)=true)(Y:OkOp P E.fu E.gl E.st o.op)
  (O:∀τ,gh P o ⟨tm,[]⟩ (tp wl τ) (λv y=>dn E (⟨fn,(Act.put ⟨tm,[]⟩ o.dst v).tmps,.inRegion ops rest::k⟩::os) y V)):dn E (⟨fn,tm,.inRegion ops (i::rest)::k⟩::os) wl V:=by
 refine dn.any hi U Y λτ=>?_;have:=O τ;refine iM.mono (λv y h=>?_) this;rw[tC]at h;exact h
def Same(y O:World):Prop:=O=y
theorem dn.pu(hi:ops[i]?=some o)(O:kc o (dt ops tm)=true)(U:OkOp P E.fu E.gl E.st o.op)(Y:∀y,gh P o ⟨tm,[]⟩ y λu y'=>Same y y'/\u=v)
  (h:dn E (⟨fn,(Act.put ⟨tm,[]⟩ o.dst v).tmps,.inRegion ops rest::k⟩::os) wl V):dn E (⟨fn,tm,.inRegion ops (i::rest)::k⟩::os) wl V:=
 dn.S4 hi O U λτ=>(Y _).mono λ_ _ hh=>by
  obtain⟨rfl,rfl⟩:=hh;exact dn.CL τ h
end
section
variable {Z:iS prog} {w:World} {T:List Frame} {dd q K:Nat} {lent:Bool} {fn:dr} {tm:Array Value} {os:List OF} {wl:World} {V:List (Nat×Option (List Value))} {k:List Item}
theorem SY(hi:ops[i]?=some o)(U:kc o (dt ops tm)=true)(Y:Cu prog MA D6 false o.op=true)
  (O:∀τ,gh prog o ⟨tm,[]⟩ (tp wl τ) (λv y=>dn (nR prog Z w T dd q K lent) (⟨fn,(Act.put ⟨tm,[]⟩ o.dst v).tmps,.inRegion ops rest::k⟩::os) y V)):dn (nR prog Z w T dd q K lent) (⟨fn,tm,.inRegion ops (i::rest)::k⟩::os) wl V:=
 dn.S4 hi U (uu Y) O
theorem eT(h:dn (nR prog Z w T dd q K lent) (⟨fn,(Act.put ⟨tm,[]⟩ o.dst v).tmps,.inRegion ops rest::k⟩::os) wl V)(hi:ops[i]?=some o:=by rfl)(U:∀y:World,gh prog o ⟨tm,[]⟩ y (λu Y=>Same y Y/\u=v):=by intro y; unfold gh; go_simp; refine⟨rfl,?_⟩; with_reducible rfl)
  (O:kc o (dt ops tm)=true:=by rfl) (ho:Cu prog MA D6 false o.op=true:=by kernel_rfl):dn (nR prog Z w T dd q K lent) (⟨fn,tm,.inRegion ops (i::rest)::k⟩::os) wl V:=dn.pu hi O (uu ho) U h
theorem lL(hi:ops[i]?=some o)(U:kc o (dt ops tm)=true)(ho:Cu prog MA D6 false o.op=true)
  (O:∀Y:World,Y.heap=wl.heap->Y.os=wl.os->gh prog o ⟨tm,[]⟩ Y (λv y=>dn (nR prog Z w T dd q K lent) (⟨fn,(Act.put ⟨tm,[]⟩ o.dst v).tmps,.inRegion ops rest::k⟩::os) y V)):dn (nR prog Z w T dd q K lent) (⟨fn,tm,.inRegion ops (i::rest)::k⟩::os) wl V:=
 SY hi U ho λτ=>O _ rfl rfl
theorem iF(O:js (λo=>Cu prog MA D6 false o.op) c=true)(Y:k.all jL=true)(hf:uW (nR prog Z w T dd q K lent) os)(h:∀U:World,U.heap=wl.heap->U.os=wl.os->c.wp prog (EV (nR prog Z w T dd q K lent) fn k os V) ⟨tm,[]⟩ U):dn (nR prog Z w T dd q K lent) (⟨fn,tm,.code c::k⟩::os) wl V:=
 dn.EC (nf O) Y hf λτ _=>h _ rfl rfl
theorem dn.yS{P:Program}{E:Env P}{c:Operand}(O:uH c)(e:iJ tm c=.bool true)(h:dn E (⟨fn,tm,.code x::k⟩::os) wl V):dn E (⟨fn,tm,.code (.cond c x y)::k⟩::os) wl V:=dn.cond O e h
theorem dn.lY{P:Program}{E:Env P}{c:Operand}(O:uH c)(e:iJ tm c=.bool false)(h:dn E (⟨fn,tm,.code y::k⟩::os) wl V):dn E (⟨fn,tm,.code (.cond c x y)::k⟩::os) wl V:=dn.cond O e h
theorem fF(d:Option Tmp)(tm:Array Value)(v:Value):eI d tm v=(Act.put ⟨tm,[]⟩ d v).tmps:=by rw[tC]
theorem gp{P:Program}{E:Env P}{tmps:Array Value}{w':World}(h:dn E (⟨fn,tmps,k⟩::os) w' V):EV E fn k os V .normal ⟨tmps,[]⟩ w':=⟨rfl,k,.inl ⟨rfl,rfl⟩,h⟩
end
end
section
open Go.Conc Go.RowKit Go.Maps
structure rz(ex:Obj)(es:List dq):Prop where
 isMap:∃a c,ex=.map a c
 Un:∀m:Ren,OR m ex ex
 inv:∀(m:Ren)o',OR m ex o'->o'=ex
 say:∀(w:World)(B:Nat),w.heap[B]?=some ex->ey w B es
def bb(s:Nat):Nat->Nat|0=>s+4|1=>s+1|2=>s|_=>s+2
def KM(A:Ask):Array Value:=#[.int .i64 A.m,.string A.q,.int .i64 A.t]
def TZ(s dd num:Nat)(A:Ask):Nat->Array Value|0=>#[.chan (some (s+3))]|1=>#[.map (some dd)]|2=>#[.int .i64 num]|_=>KM A
def U8(num:Nat)(A:Ask):Nat->Array Value|0=>#[.chan (some 10)]|1=>#[.map (some 11)]|2=>#[.int .i64 num]|_=>KM A
def TW:Nat->ee|0=>167|1=>85|2=>3|_=>94
theorem JV(s i:Nat):s<=bb s i/\bb s i<s+5:=by
 unfold bb;split<;>omega
theorem NL(s:Nat):∀i j,i<4->j<4->bb s i=bb s j->i=j:=by
 intro i j hi O h;have:i=0\/i=1\/i=2\/i=3:=by omega
 have:j=0\/j=1\/j=2\/j=3:=by omega
 rcases ‹i=0\/_› with rfl|rfl|rfl|rfl<;>rcases ‹j=0\/_› with rfl|rfl|rfl|rfl<;>simp[bb]at h⊢
theorem Flat.arr{c:Array Value}(h:∀i(hi:i<c.size),Flat c[i]){m mi:Ren}{O:Array Value}(U:ep m c O):ep mi c O:=by
 have:O=c:=by
  apply dg;intro i;by_cases hi:i<c.size
  .obtain⟨Y,h1,h2⟩:=U.get (cU hi);rw[h1,(h i hi).eq m Y h2,cU hi]
  .rw[cX (by rw[<-U.size]; omega),cX (by omega)]
 subst this;exact ep.ib rfl λi hi _=>(h i hi).refl mi
theorem Ex(A:Ask)(k:Nat)(p:Nat×dq):Flat (l7 A k p):=by
 unfold l7;split
 .refine .agg λi hi=>?_;have:=hi
  match i,this with
  |0,_|1,_|6,_|7,_=>exact .int ..
  |2,_|4,_|5,_=>exact .string _
  |3,_=>exact .bool _
 .refine .agg λi hi=>?_;have:=hi
  match i,this with
  |0,_|1,_|6,_|7,_=>exact .int ..
  |2,_|4,_|5,_=>exact .string _
  |3,_=>exact .bool _
theorem Lu{Z:iS prog}{w:World}{T:List Frame}{dd q K num s:Nat}{A:Ask}{es:List dq}{ex:Obj}{w6:World}{os:List OF}(hA:A.Ok)(hK:K<=s+5)(h5:5<=s)(ag:dd<s)
  (hc:∀i,i<4->w6.heap[bb s i]?=some (.cells (TZ s dd num A i) (TW i) (0,0))) (aa:5<=q) (hq:q<w.heap.size) (ab:w.heap[q]?=some ex) (hM:rz ex es) (ac:∀(m:Ren)(r:Nat)(o:Obj),w6.heap[r]?=some o->¬OR m o ex)
  (hl:es.length<=100000) (ad:∀e∈es,e.name.length<=dk/\e.text.length<=1048576/\(e.gone=false->0<=e.dD/\e.dD<=255)) (Y:num<=1000) :
  Sends (nR prog Z w T dd q K false) (nR prog Z w T dd q (s+5) true) 120 (wY (bb s)) os os w6 (sJ w6 [bb s 0,bb s 1,bb s 2,bb s 3]) (s+3) ((fM es).map (l7 A num)):=by
 refine F8 (cm:=TZ s dd num A) (cd:=U8 num A) (te:=TW) (fz:=λ_=>(0,0)) (M:=some q) (ex:=ex) (cap:=es.length) Tn rfl rfl (by decide) (by decide) (by decide) SS (λv hv=>?_) ⟨rfl,rfl,rfl,rfl,rfl,DD,λm O=>?_,λb=>?_,λi hi=>?_,NL s,hc,λm O i hi=>?_,rfl,rfl,λi U h4 m mi w' a' O hw ae ha=>?_,λb hb=>?_⟩ λτ=>?_
 .obtain⟨p,_,rfl⟩:=b4.1 hv;exact Ex A num p
 .obtain⟨x1,x2,x3⟩:=O.x;refine⟨x1,x2,λr O=>?_⟩;rcases O with O|O
  .have:=x3 r O; omega
  .simp only[b9,bM,or_false,bb]at O;omega
 .simp only[nR,ne_eq,kN];constructor
  .rintro⟨U,h2⟩; exact⟨⟨U,λh=>by cases h⟩,λe=>h2 trivial e.symm⟩
  .rintro⟨⟨U,_⟩,h2⟩; exact⟨U,λ_ e=>h2 e.symm⟩
 .have:=JV s i; omega
 .obtain⟨x1,_,_⟩:=O.x;rw[x1];have:=(JV s i).1;show ¬(bb s i=dd);omega
 .obtain⟨x1,x2,_⟩:=O.x;have:i=1\/i=2\/i=3:=by omega
  rcases this with rfl|rfl|rfl
  .have hz:=ha.size;obtain⟨v',e1,e2⟩:=ha.get (show(TZ s dd num A 1)[0]?=some (.map (some dd))from rfl)
   have hv:v'=.map (some q):=by
    cases e2 with
    |gone hd=>rw[x2]
    |map hb=>
     rw[(hw.dead dd (by rw[x1])).1]at hb;cases hb
   subst hv
   have:a'=#[.map (some q)]:=by
    apply dg;intro j
    match j with
    |0=>rw[e1]; rfl
    |j+1=>rw[cX (by rw[<-hz]; show 1<=j+1; omega),cX (by show 1<=j+1; omega)]
   subst this;exact ep.one (.map (ae q rfl))
  .exact Flat.arr (c:=#[.int _ num]) (λj hj=>by
    have:=hj
    match j,this with
    |0,_=>exact .int ..) ha
  .exact Flat.arr (c:=KM A) (λj hj=>by
    have:=hj
    match j,this with
    |0,_=>exact .int ..
    |1,_=>exact .string _
    |2,_=>exact .int ..) ha
 .cases hb;obtain⟨a,c,e⟩:=hM.isMap;exact⟨aa,⟨hq,nofun⟩,ab,hM.Un,hM.inv,λa' e' f' h=>(by rw[h]at e; cases e),ac⟩
 .have af:SW (tp (sU w6 (U8 num A) TW es.length ex) τ) num es A es.length []:=by
   refine⟨rfl,rfl,rfl,rfl,rfl,rfl,rfl,hM.say _ _ rfl⟩
  exact Ca (TS num es A hA _ _ af (ev _) hl ad Y) λe a w' ⟨U,h2,h3,h4⟩=>⟨U,h2,h3,.inr (h4.trans rfl)⟩
end
section
open Go.Conc Go.RowKit Go.Maps
variable {ops:Array Oper} {rest:List Nat} {o:Oper} {P:Program} {E:Env P}
def dT(f:Func):Code:=match f.body with
 |some c=>c
 |none=>.skip
theorem dn.BJ{fn:dr}{tm:Array Value}{os:List OF}{wl:World}{V:List (Nat×Option (List Value))}{k:List Item}{i:Nat}(hi:ops[i]?=some o)(O:kc o (dt ops tm)=true)
  (U:∀(Y:Array Value)(w:World),(execOp (iJ Y) o).runT P w #[]=(.ok (.value (.chan (some w.heap.size))) {w with heap:=w.heap.push (.chan 0 #[] false 0 0 false)},#[]))
  (h:dn E (⟨fn,(Act.put ⟨tm,[]⟩ o.dst (.chan (some wl.heap.size))).tmps,.inRegion ops rest::k⟩::os) {wl with heap:=wl.heap.push jh} ((wl.heap.size,none)::V)):dn E (⟨fn,tm,.inRegion ops (i::rest)::k⟩::os) wl V:=
 dn.makeChan hi O U (by rw[tC]at h; exact h)
section
variable {Z:iS prog} {w:World} {T:List Frame} {dd q K:Nat} {lent:Bool} {fn:dr} {tm:Array Value} {os:List OF} {wl:World} {V:List (Nat×Option (List Value))} {k:List Item}
theorem K3{m:Ren}{Pd:Nat->Prop}{ρ:Nat->e9}{gs:Array Goroutine}{w':World}{t:Trace}{q:Nat}{a:Array MapEntry}{c:Nat}(hq:E.fA q)(hw:E.w0.heap[q]?=some (.map a c))(O:Co P E.fA E.w0 Pd ρ m wl gs w' t)(j:Nat)(Y:Ren)(r':Nat)(hr:(ρ j).mN=some Y):Y.blk r'≠some q:=by
 intro hb;have hl:=O.ff j Y hr r' q hb hq;obtain⟨aa,U⟩:=O.wr hr;obtain⟨c1,e1,f1,hc⟩:=U.lk r' q hb hl;obtain⟨o,o',h1,h2,h3⟩:=U.obj r' q hb;rw[(O.fix q hq).2,hw]at h2;cases h2;rw[hc]at h1;cases h1;cases h3
theorem zR(num:Nat)(A:Ask)(es:List dq)(ex:Obj){i:Nat}(s:Nat)(hs:s=wl.heap.size)(hi:ops[i]?=some o)(hA:A.Ok)(hK:K<=s+5)(h5:5<=s)(al:dd<s)(am:5<=q)(hq:q<w.heap.size)(ah:w.heap[q]?=some ex)(hM:rz ex es)(an:∀(r:Nat)a c,wl.heap[r]?≠some (.map a c))
  (hl:es.length<=100000) (ao:∀e∈es,e.name.length<=dk/\e.text.length<=1048576/\(e.gone=false->0<=e.dD/\e.dD<=255)) (ai:num<=1000) (hV:∀x∈V,x.1<s)
  (hn:∀w2:World,w2.heap.size=s+5->(∀r,r<s->w2.heap[r]?=wl.heap[r]?)->(∀(r:Nat)a c,w2.heap[r]?≠some (.map a c))->w2.os=wl.os->dn (nR prog Z w T dd q (s+5) true) (⟨fn,eI o.dst tm (.chan (some (s+3))),.inRegion ops rest::k⟩::os) w2 ((s+3,some ((fM es).map (l7 A num)))::V)) :
  dn (nR prog Z w T dd q K false) (⟨80,#[.int .i64 num,.map (some dd),.agg #[.int .i64 A.m,.string A.q,.int .i64 A.t],mj,mj,mj,mj,mj,mj,mj,mj],[.code (dT f80)]⟩::⟨fn,tm,.inRegion ops (i::rest)::k⟩::os) wl V:=by
 show dn _ (⟨_,_,[.code (.seq (.region 0 _ false) (.seq (.region 1 _ false) (.seq (.region 2 _ false) (.seq (.region 3 _ false) .ret))))]⟩::_) _ _;refine dn.seq ?_;have HS:ka (s=wl.heap.size):=hs;clear hs;refine iF (by kernel_rfl) rfl (.inl (by simp)) λy0 O U=>?_;have HY:ka (y0.heap=wl.heap/\y0.os=wl.os):=⟨O,U⟩;clear O U;go_wp2;refine gp ?_;obtain⟨O,U⟩:=HY.out;obtain⟨w3,aa⟩:∃w3,w3=(((y0.alloc (.cells #[.int .i64 num] 3)).alloc (.cells #[.map (some dd)] 85)).alloc (.cells #[.int .i64 A.m,.string A.q,.int .i64 A.t] 94)):=⟨_,rfl⟩;have Y:y0.heap.size=s:=by rw[O]; exact HS.out.symm
 have z3:w3.heap.size=s+3:=by rw[aa]; simp[Y]
 have o3:∀r,r<s->w3.heap[r]?=wl.heap[r]?:=λr hr=>by
  rw[aa,fV _ _ (by simp[Y]; omega),fV _ _ (by simp[Y]; omega),fV _ _ (by rw[Y]; omega),O]
 have g0:w3.heap[s]?=some (.cells #[.int .i64 num] 3 (0,0)):=by rw[aa,fV _ _ (by simp only[ke,Y]; omega),fV _ _ (by simp only[ke,Y]; omega),iz _ _ Y.symm]
 have g1:w3.heap[s+1]?=some (.cells #[.map (some dd)] 85 (0,0)):=by rw[aa,fV _ _ (by simp[Y]),iz _ _ (by simp[Y])]
 have g2:w3.heap[s+2]?=some (.cells #[.int .i64 A.m,.string A.q,.int .i64 A.t] 94 (0,0)):=by rw[aa,iz _ _ (by simp[Y])]
 have p3:w3.os=wl.os:=by rw[aa]; exact U
 rw[<-aa,Y];clear aa O U Y HY y0;refine dn.seq (dn.region ?_);refine dn.BJ (i:=0) rfl rfl (λar w=>by kernel_rfl) ?_;rw[z3];obtain⟨w4,ac⟩:∃w4:World,w4={w3 with heap:=w3.heap.push jh}:=⟨_,rfl⟩;have z4:w4.heap.size=s+4:=by rw[ac]; simp[z3]
 have o4:∀r,r<s+3->w4.heap[r]?=w3.heap[r]?:=λr hr=>by rw[ac]; show(w3.heap.push _)[r]?=_; rw[de,if_neg (by omega)]
 have g3:w4.heap[s+3]?=some jh:=by rw[ac]; show(w3.heap.push _)[s+3]?=_; rw[<-z3]; simp
 have p4:w4.os=wl.os:=by rw[ac]; exact p3
 rw[<-ac];clear ac;have aj:s+1+1=s+2:=rfl;rw[aj];clear aj;go_simp;refine lL rfl (by rfl) (by kernel_rfl) λy0 O U=>?_;have HY:ka (y0.heap=w4.heap/\y0.os=w4.os):=⟨O,U⟩;clear O U;unfold gh;go_simp;simp only[iM];obtain⟨O,U⟩:=HY.out;obtain⟨w5,ad⟩:∃w5,w5=y0.alloc (.cells #[.chan none] 167):=⟨_,rfl⟩;have z5:w5.heap.size=s+5:=by rw[ad]; simp[O,z4]
 have o5:∀r,r<s+4->w5.heap[r]?=w4.heap[r]?:=λr hr=>by rw[ad,fV _ _ (by rw[O,z4]; exact hr),O]
 have g4:w5.heap[s+4]?=some (.cells #[.chan none] 167 (0,0)):=by rw[ad,iz _ _ (by rw[O,z4])]
 have p5:w5.os=wl.os:=by rw[ad]; exact U.trans p4
 rw[<-ad,O,z4];clear ad O U HY y0;refine lL rfl (by rfl) (by kernel_rfl) λy0 O U=>?_;have c4:y0.cell? ⟨s+4,0,none⟩=some (.chan none):=by rw[dh (by rw[O]; exact g4)]; rfl
 have f4:y0.frozen? ⟨s+4,0,none⟩=false:=dK (by rw[O]; exact g4) 0;have HY:ka (y0.heap=w5.heap/\y0.os=w5.os):=⟨O,U⟩;clear O U;unfold gh;go_simp;simp only[iM];obtain⟨O,U⟩:=HY.out;obtain⟨w6,ae⟩:∃w6,w6=y0.setCell ⟨s+4,0,none⟩ (.chan (some (s+3))):=⟨_,rfl⟩;have z6:w6.heap.size=s+5:=by rw[ae]; simp[O,z5]
 have o6:∀r,r≠s+4->w6.heap[r]?=w5.heap[r]?:=λr hr=>by rw[ae,fk _ _ _ _ hr,O]
 have g6:w6.heap[s+4]?=some (.cells #[.chan (some (s+3))] 167 (0,0)):=by rw[ae]; exact heap_setCell_box_a _ (by rw[O]; exact g4)
 have p6:w6.os=wl.os:=by rw[ae]; exact U.trans p5
 rw[<-ae];clear ae O U HY c4 f4 y0;refine dn.inRegion (dn.seq (dn.region ?_));have k0:w6.heap[s]?=some (.cells #[.int .i64 num] 3 (0,0)):=by rw[o6 _ (by omega),o5 _ (by omega),o4 _ (by omega)]; exact g0
 have k1:w6.heap[s+1]?=some (.cells #[.map (some dd)] 85 (0,0)):=by rw[o6 _ (by omega),o5 _ (by omega),o4 _ (by omega)]; exact g1
 have k2:w6.heap[s+2]?=some (.cells #[.int .i64 A.m,.string A.q,.int .i64 A.t] 94 (0,0)):=by rw[o6 _ (by omega),o5 _ (by omega),o4 _ (by omega)]; exact g2
 have k3:w6.heap[s+3]?=some jh:=by rw[o6 _ (by omega),o5 _ (by omega)]; exact g3
 have ko:∀r,r<s->w6.heap[r]?=wl.heap[r]?:=λr hr=>by rw[o6 _ (by omega),o5 _ (by omega),o4 _ (by omega),o3 _ hr]
 clear g0 g1 g2 g3 g4 o3 o4 o5 o6 z3 z4 z5 p3 p4 p5
 have ak:∀j,j<4->w6.heap[bb s j]?=some (.cells (TZ s dd num A j) (TW j) (0,0)):=by
  intro j hj
  match j,hj with
  |0,_=>exact g6
  |1,_=>exact k1
  |2,_=>exact k0
  |3,_=>exact k2
 have af:∀(r:Nat)a c,w6.heap[r]?≠some (.map a c):=by
  intro r a c h;by_cases h1:r<s
  .rw[ko r h1]at h; exact an r a c h
  .have h2:=(cT.1 h).1;rw[z6]at h2;have:r=s\/r=s+1\/r=s+2\/r=s+3\/r=s+4:=by omega
   rcases this with rfl|rfl|rfl|rfl|rfl
   .rw[k0]at h; cases h
   .rw[k1]at h; cases h
   .rw[k2]at h; cases h
   .rw[k3]at h; cases h
   .rw[g6]at h; cases h
 obtain⟨au,av,ag⟩:=hM.isMap
 have hS:=λos=>Lu (Z:=Z) (T:=T) (os:=os) hA hK h5 al ak am hq ah hM (λm r o h1 h2=>by
  rw[ag]at h2;cases h2
  exact af _ _ _ h1) hl ao ai
 refine dn.go (i:=0) (j:=1) (f:=120) (q:=9) (rc:=s+3) (E₂:=nR prog Z w T dd q (s+5) true) (wl₂:=sJ w6 [bb s 0,bb s 1,bb s 2,bb s 3]) (L:=(fM es).map (l7 A num)) (os₂:=?os2) (V₂:=(s+3,some ((fM es).map (l7 A num)))::V) rfl rfl rfl rfl rfl rfl rfl rfl ?hcx ?hq ?hS ?h1 ?h2 ?h3 ?h4 ?h5 ?h6
 case hS=>
  have e:di (iJ #[Value.int IntKind.i64 ↑num,Value.map (some dd),Value.agg #[Value.int IntKind.i64 ↑A.m,Value.string A.q,Value.int IntKind.i64 ↑A.t],Value.pointer (some {block:=s,off:=0}),Value.pointer (some {block:=s+1,off:=0}),Value.pointer (some {block:=s+2,off:=0}),Value.chan none,Value.pointer (some {block:=s+4,off:=0}),Value.chan (some (s+3)),mj,mj]) #[Operand.tmp 7,Operand.tmp 4,Operand.tmp 3,Operand.tmp 5]=wY (bb s):=by kernel_rfl
  rw[e];exact hS _
 .intro x hx;simp only[b9,bM,or_false]at hx;rcases hx with rfl|rfl|rfl|rfl<;>trivial
 .show 9<11;decide
 .intro q' h1 h2 m Pd ρ gs w' t aw ap ax j m' r' hr;have:q'=q:=k4 λaq=>h2 ⟨h1.1,λ_=>aq⟩;subst this;exact K3 h1 (ah.trans (by rw[ag])) ap j m' r' hr
 .simp
 .intro x hx;rcases b9.1 hx with rfl|hx
  .exact .inl rfl
  .refine .inr ⟨bJ _ hx,λe=>?_⟩;have:=hV x hx;rw[e]at this;exact absurd this (by show ¬(s+3<s); omega)
 .simp
 .intro r vs hr;rcases b9.1 hr with hr|hr
  .cases hr
  .exact bJ _ hr
 .obtain⟨w7,ab⟩:∃w7,w7=sJ w6 [bb s 0,bb s 1,bb s 2,bb s 3]:=⟨_,rfl⟩;have z7:w7.heap.size=s+5:=by rw[ab,tP]; exact z6
  have o7:∀r,r<s->w7.heap[r]?=wl.heap[r]?:=λr hr=>by
   rw[ab,po _ (by simp only[b9,bM,or_false,bb]; omega)];exact ko r hr
  have g7:w7.heap[s+4]?=some (.cells #[.chan (some (s+3))] 167 (0,1)):=by
   rw[ab];exact y8 w6 (by simp[bb]) g6
  have m7:∀(r:Nat)a c,w7.heap[r]?≠some (.map a c):=by
   intro r a c h;rw[ab,xu]at h
   cases he:w6.heap[r]? with
   |none=>rw[he]at h; cases h
   |some o=>
    rw[he]at h;simp only[lp,kN]at h;split at h
    .cases o<;>simp[N6]at h;exact af _ _ _ he
    .exact af r a c (by rw[he,h])
  have p7:w7.os=wl.os:=by rw[ab]; exact p6
  rw[<-ab];clear ab hS ak af k0 k1 k2 k3 ko g6 z6 p6;refine dn.inRegion (dn.seq ?_);refine iF (by kernel_rfl) rfl (.inl (by simp)) λy0 O U=>?_;have c7:y0.cell? ⟨s+4,0,none⟩=some (.chan (some (s+3))):=by rw[dh (by rw[O]; exact g7)]; rfl
  have HY:ka (y0.heap=w7.heap/\y0.os=w7.os):=⟨O,U⟩;clear O U;simp only[cB,cK,cJ];go_wp2;refine gp ?_;obtain⟨O,U⟩:=HY.out;refine dn.back (v:=.chan (some (s+3))) (.inr ⟨_,rfl⟩) func80 hi (λτ=>?_) (hn y0 (by rw[O]; exact z7) (λr hr=>by rw[O]; exact o7 r hr) (λr a c=>by rw[O]; exact m7 r a c) (U.trans p7));kernel_rfl
end
end
section
open Go.Conc Go.RowKit Go.Maps
variable {xh v3:Bool} {v2 v4 v5:ByteArray} {v0 v1 v6 v7:Int} {s:Nat}
def LC:Value:=.agg #[.int .i64 0,.int .i64 0,.string ⟨#[]⟩,.bool false,.string ⟨#[]⟩,.string ⟨#[]⟩,.int .i64 0,.int .i64 0]
def mB(cl:Nat->Option Nat):Array Value:=#[.chan (cl 0),.chan (cl 1),.chan (cl 2),.chan (cl 3),.chan (cl 4),.chan (cl 5),.chan (cl 6)]
def N9(v:Value):Prop:=∃(a b:Int)(c:ByteArray)(d:Bool)(e f:ByteArray)(g h:Int),v=.agg #[.int .i64 a,.int .i64 b,.string c,.bool d,.string e,.string f,.int .i64 g,.int .i64 h]
def tR(w:World)(s:Nat)(v0 v1 v2 v3 v4 v5 v6 v7:Value):World:=(((((((w.setCell ⟨s,0,none⟩ v0).setCell ⟨s,1,none⟩ v1).setCell ⟨s,2,none⟩ v2).setCell ⟨s,3,none⟩ v3).setCell ⟨s,4,none⟩ v4).setCell ⟨s,5,none⟩ v5).setCell ⟨s,6,none⟩ v6).setCell ⟨s,7,none⟩ v7
theorem y9{w:World}{v0 v1 v2 v3 v4 v5 v6 v7 O U Y u3 u4 u5 u6 u7:Value}{t:ee}{f:Nat×Nat}(h:w.heap[s]?=some (.cells #[O,U,Y,u3,u4,u5,u6,u7] t f)):(tR w s v0 v1 v2 v3 v4 v5 v6 v7).heap[s]?=some (.cells #[v0,v1,v2,v3,v4,v5,v6,v7] t f):=by
 unfold tR;rw[heap_set (heap_set (heap_set (heap_set (heap_set (heap_set (heap_set (heap_set h 0 v0) 1 v1) 2 v2) 3 v3) 4 v4) 5 v5) 6 v6) 7 v7];rfl
theorem yk(w:World){r:Nat}(v0 v1 v2 v3 v4 v5 v6 v7:Value)(h:r≠s):(tR w s v0 v1 v2 v3 v4 v5 v6 v7).heap[r]?=w.heap[r]?:=by
 unfold tR;rw[fk _ _ _ _ h,fk _ _ _ _ h,fk _ _ _ _ h,fk _ _ _ _ h,fk _ _ _ _ h,fk _ _ _ _ h,fk _ _ _ _ h,fk _ _ _ _ h]
theorem um(w:World)(s:Nat)(v0 v1 v2 v3 v4 v5 v6 v7:Value):(tR w s v0 v1 v2 v3 v4 v5 v6 v7).heap.size=w.heap.size:=by
 unfold tR;simp
theorem pB(w:World)(p:Addr)(v:Value):(w.setCell p v).os=w.os:=by
 unfold World.setCell;split <;>(try split) <;>(try split)<;>rfl
theorem Cf(w:World)(s:Nat)(v0 v1 v2 v3 v4 v5 v6 v7:Value):(tR w s v0 v1 v2 v3 v4 v5 v6 v7).os=w.os:=by
 unfold tR;simp only[pB]
def nb:Code->Nat->Code
 |.cond _ x _,0=>x
 |.cond _ _ y,n+1=>nb y n
 |_,_=>.skip
def Qm(c:Code):Code:=match c with
 |.seq _ (.seq _ (.seq _ (.block _ c)))=>c
 |_=>.skip
def TI(xh:Bool)(v x0 x2 x3 x4 x5 x6 O U:Value):Nat->Array Value
 |0=>#[x0,.bool xh,v,x3,x4,x5,x6,O,U]
 |1=>#[x0,.bool xh,x2,v,x4,x5,x6,O,U]
 |2=>#[x0,.bool xh,x2,x3,v,x5,x6,O,U]
 |3=>#[x0,.bool xh,x2,x3,x4,v,x6,O,U]
 |4=>#[x0,.bool xh,x2,x3,x4,x5,v,O,U]
 |5=>#[x0,.bool xh,x2,x3,x4,x5,x6,v,U]
 |_=>#[x0,.bool xh,x2,x3,x4,x5,x6,O,v]
section
variable {Z:iS prog} {w:World} {T:List Frame} {dd q K:Nat} {lent:Bool} {fn:dr} {tm:Array Value} {os:List OF} {wl:World} {V:List (Nat×Option (List Value))} {k:List Item}
theorem Nk{tmps:Array Value}{k:Int}{w3:World}(g1:w3.heap[s]?=some (.cells #[.int .i64 v0,.int .i64 v1,.string v2,.bool v3,.string v4,.string v5,.int .i64 v6,.int .i64 v7] 172 (0,0)))(τ)(O:tmps[2]?=some (.int .i64 k))(U:tmps[3]?=some (.pointer (some ⟨s,0,none⟩)))(Y:tmps[4]?=some (.bool xh)) :
  (ej i' tmps).run prog (tp w3 τ)=.ok (.tuple #[.int .i64 k,.agg #[.int .i64 v0,.int .i64 v1,.string v2,.bool v3,.string v4,.string v5,.int .i64 v6,.int .i64 v7],.bool xh]) (tp w3 τ):=by
 have g1:(tp w3 τ).heap[s]?=some (.cells #[.int .i64 v0,.int .i64 v1,.string v2,.bool v3,.string v4,.string v5,.int .i64 v6,.int .i64 v7] 172 (0,0)):=g1;generalize tp w3 τ=w4 at *;have e0:w4.cell? ⟨s,0,none⟩=some (.int .i64 v0):=by rw[dh g1]; rfl
 have f0:w4.frozen? ⟨s,0,none⟩=false:=dK g1 0;have e1:w4.cell? ⟨s,1,none⟩=some (.int .i64 v1):=by rw[dh g1]; rfl
 have f1:w4.frozen? ⟨s,1,none⟩=false:=dK g1 1;have e2:w4.cell? ⟨s,2,none⟩=some (.string v2):=by rw[dh g1]; rfl
 have f2:w4.frozen? ⟨s,2,none⟩=false:=dK g1 2;have e3:w4.cell? ⟨s,3,none⟩=some (.bool v3):=by rw[dh g1]; rfl
 have f3:w4.frozen? ⟨s,3,none⟩=false:=dK g1 3;have e4:w4.cell? ⟨s,4,none⟩=some (.string v4):=by rw[dh g1]; rfl
 have f4:w4.frozen? ⟨s,4,none⟩=false:=dK g1 4;have e5:w4.cell? ⟨s,5,none⟩=some (.string v5):=by rw[dh g1]; rfl
 have f5:w4.frozen? ⟨s,5,none⟩=false:=dK g1 5;have e6:w4.cell? ⟨s,6,none⟩=some (.int .i64 v6):=by rw[dh g1]; rfl
 have f6:w4.frozen? ⟨s,6,none⟩=false:=dK g1 6;have e7:w4.cell? ⟨s,7,none⟩=some (.int .i64 v7):=by rw[dh g1]; rfl
 have f7:w4.frozen? ⟨s,7,none⟩=false:=dK g1 7;simp[ej,results123,go_sem,e0,e1,e2,e3,e4,e5,e6,e7,O,U,Y]
theorem vR{ops:Array Oper}{i:Nat}{rest:List Nat}{o:Oper}{a0 a1 a2 a4 a5 a6 a7 a8 a9 a10 a11 a12 ac ad a15 a16 a17 a18 a19 a20 a21 a22 a23 a24 a25 a26 a27 a28 a29 ae af ag ah ai aj ak al am an ao ap aq ar au av aw ax ay az a' aA aB aC aD aE aF aG aH aI aJ aK aL aM aN aO aP aQ aR x0 x2 x3 x4 x5 x6 x7 x8:Value}(j:Nat)(hj:j<7)(hi:ops[i]?=some o)(z1:wl.heap.size=s+1)(g1:wl.heap[s]?=some (.cells #[.int .i64 0,.int .i64 0,.string ⟨#[]⟩,.bool false,.string ⟨#[]⟩,.string ⟨#[]⟩,.int .i64 0,.int .i64 0] 172 (0,0)))
  (hn:∀w2:World,w2.heap.size=s+1->(∀r,r<s->w2.heap[r]?=wl.heap[r]?)->w2.os=wl.os->dn (nR prog Z w T dd q K lent) (⟨fn,eI o.dst tm (.tuple #[.int .i64 (j:Int),.agg #[.int .i64 v0,.int .i64 v1,.string v2,.bool v3,.string v4,.string v5,.int .i64 v6,.int .i64 v7],.bool xh]),.inRegion ops rest::k⟩::os) w2 V) :
  dn (nR prog Z w T dd q K lent) (⟨123,#[a0,a1,a2,.pointer (some ⟨s,0,none⟩),a4,a5,a6,a7,a8,a9,a10,a11,a12,ac,ad,a15,a16,a17,a18,a19,a20,a21,a22,a23,a24,a25,a26,a27,a28,a29,ae,af,ag,.tuple (TI xh (.agg #[.int .i64 v0,.int .i64 v1,.string v2,.bool v3,.string v4,.string v5,.int .i64 v6,.int .i64 v7]) x0 x2 x3 x4 x5 x6 x7 x8 j),ah,ai,aj,ak,al,am,an,ao,ap,aq,ar,au,av,aw,ax,ay,az,a',aA,aB,aC,aD,aE,aF,aG,aH,aI,aJ,aK,aL,aM,aN,aO,aP,aQ,aR],[.code (nb (Qm (dT i')) j),.inBlock 0]⟩::⟨fn,tm,.inRegion ops (i::rest)::k⟩::os) wl V:=by
 obtain⟨P1,U⟩:∃x,wl.os=x:=⟨_,rfl⟩;obtain⟨H0,h0⟩:∃x,wl.heap=x:=⟨_,rfl⟩;rw[U,h0]at hn;have o1:∀r,r<s->wl.heap[r]?=H0[r]?:=λr _=>by rw[h0]
 clear h0;have HC:ka _:=hn;clear hn;rcases(by omega:j=0\/j=1\/j=2\/j=3\/j=4\/j=5\/j=6)with rfl|rfl|rfl|rfl|rfl|rfl|rfl
 all_goals
  show dn _ (⟨_,_,[.code (.seq (.region _ _ false) (.seq (.region _ _ true) .ret)),.inBlock 0]⟩::_) _ _;dsimp only[TI];refine dn.seq ?_;refine iF (by kernel_rfl) rfl (.inl (by simp)) λO ab Y=>?_;rw[<-ab]at z1 o1 g1;have U:=Y.trans U;clear ab Y;have e0:O.cell? ⟨s,0,none⟩=some (.int .i64 0):=by rw[dh g1]; rfl
  have f0:O.frozen? ⟨s,0,none⟩=false:=dK g1 0;have e1:O.cell? ⟨s,1,none⟩=some (.int .i64 0):=by rw[dh g1]; rfl
  have f1:O.frozen? ⟨s,1,none⟩=false:=dK g1 1;have e2:O.cell? ⟨s,2,none⟩=some (.string ⟨#[]⟩):=by rw[dh g1]; rfl
  have f2:O.frozen? ⟨s,2,none⟩=false:=dK g1 2;have e3:O.cell? ⟨s,3,none⟩=some (.bool false):=by rw[dh g1]; rfl
  have f3:O.frozen? ⟨s,3,none⟩=false:=dK g1 3;have e4:O.cell? ⟨s,4,none⟩=some (.string ⟨#[]⟩):=by rw[dh g1]; rfl
  have f4:O.frozen? ⟨s,4,none⟩=false:=dK g1 4;have e5:O.cell? ⟨s,5,none⟩=some (.string ⟨#[]⟩):=by rw[dh g1]; rfl
  have f5:O.frozen? ⟨s,5,none⟩=false:=dK g1 5;have e6:O.cell? ⟨s,6,none⟩=some (.int .i64 0):=by rw[dh g1]; rfl
  have f6:O.frozen? ⟨s,6,none⟩=false:=dK g1 6;have e7:O.cell? ⟨s,7,none⟩=some (.int .i64 0):=by rw[dh g1]; rfl
  have f7:O.frozen? ⟨s,7,none⟩=false:=dK g1 7;have HZ:ka _:=And.intro z1 (And.intro o1 U);have HG:=g1;clear z1 o1 U g1;go_wp2;refine gp ?_;clear e0 e1 e2 e3 e4 e5 e6 e7 f0 f1 f2 f3 f4 f5 f6 f7;obtain⟨z1,o1,U⟩:=HZ.out;obtain⟨w2,hw2⟩:∃w2,w2=tR O s (.int .i64 v0) (.int .i64 v1) (.string v2) (.bool v3) (.string v4) (.string v5) (.int .i64 v6) (.int .i64 v7):=⟨_,rfl⟩;replace z1:w2.heap.size=s+1:=by rw[hw2,um]; exact z1
  replace o1:∀r,r<s->w2.heap[r]?=H0[r]?:=λr hr=>by rw[hw2,yk _ _ _ _ _ _ _ _ _ (by omega)]; exact o1 r hr
  have g1:w2.heap[s]?=some (.cells #[.int .i64 v0,.int .i64 v1,.string v2,.bool v3,.string v4,.string v5,.int .i64 v6,.int .i64 v7] 172 (0,0)):=by rw[hw2]; exact y9 HG
  replace U:w2.os=P1:=by rw[hw2,Cf]; exact U
  unfold tR at hw2;rw[<-hw2];clear hw2 HZ HG;refine dn.seq ?_;refine iF (by kernel_rfl) rfl (.inl (by simp)) λO ab Y=>?_;rw[<-ab]at z1 o1 g1;have U:=Y.trans U;clear ab Y;have e0:O.cell? ⟨s,0,none⟩=some (.int .i64 v0):=by rw[dh g1]; rfl
  have f0:O.frozen? ⟨s,0,none⟩=false:=dK g1 0;have e1:O.cell? ⟨s,1,none⟩=some (.int .i64 v1):=by rw[dh g1]; rfl
  have f1:O.frozen? ⟨s,1,none⟩=false:=dK g1 1;have e2:O.cell? ⟨s,2,none⟩=some (.string v2):=by rw[dh g1]; rfl
  have f2:O.frozen? ⟨s,2,none⟩=false:=dK g1 2;have e3:O.cell? ⟨s,3,none⟩=some (.bool v3):=by rw[dh g1]; rfl
  have f3:O.frozen? ⟨s,3,none⟩=false:=dK g1 3;have e4:O.cell? ⟨s,4,none⟩=some (.string v4):=by rw[dh g1]; rfl
  have f4:O.frozen? ⟨s,4,none⟩=false:=dK g1 4;have e5:O.cell? ⟨s,5,none⟩=some (.string v5):=by rw[dh g1]; rfl
  have f5:O.frozen? ⟨s,5,none⟩=false:=dK g1 5;have e6:O.cell? ⟨s,6,none⟩=some (.int .i64 v6):=by rw[dh g1]; rfl
  have f6:O.frozen? ⟨s,6,none⟩=false:=dK g1 6;have e7:O.cell? ⟨s,7,none⟩=some (.int .i64 v7):=by rw[dh g1]; rfl
  have f7:O.frozen? ⟨s,7,none⟩=false:=dK g1 7;have HZ:ka _:=And.intro z1 (And.intro o1 U);have HG:=g1;clear z1 o1 U g1;go_region;refine gp ?_;clear e0 e1 e2 e3 e4 e5 e6 e7 f0 f1 f2 f3 f4 f5 f6 f7;obtain⟨z1,o1,U⟩:=HZ.out;obtain⟨w2,hw2⟩:∃w2,w2=tR O s (.int .i64 v0) (.int .i64 v1) (.string v2) (.bool v3) (.string v4) (.string v5) (.int .i64 v6) (.int .i64 v7):=⟨_,rfl⟩;replace z1:w2.heap.size=s+1:=by rw[hw2,um]; exact z1
  replace o1:∀r,r<s->w2.heap[r]?=H0[r]?:=λr hr=>by rw[hw2,yk _ _ _ _ _ _ _ _ _ (by omega)]; exact o1 r hr
  have g1:w2.heap[s]?=some (.cells #[.int .i64 v0,.int .i64 v1,.string v2,.bool v3,.string v4,.string v5,.int .i64 v6,.int .i64 v7] 172 (0,0)):=by rw[hw2]; exact y9 HG
  replace U:w2.os=P1:=by rw[hw2,Cf]; exact U
  unfold tR at hw2;rw[<-hw2];clear hw2 HZ HG;obtain⟨w3,aa⟩:∃w3,w3=w2.drew:=⟨_,rfl⟩;replace g1:w3.heap[s]?=some (.cells #[.int .i64 v0,.int .i64 v1,.string v2,.bool v3,.string v4,.string v5,.int .i64 v6,.int .i64 v7] 172 (0,0)):=by rw[aa]; exact g1
  have HC:=HC.out w3 (by rw[aa]; exact z1) (λr hr=>by rw[aa]; exact o1 r hr) (by rw[aa]; exact U);rw[<-aa];clear aa z1 o1 U;exact dn.back (.inr ⟨_,rfl⟩) func123 hi (λτ=>Nk g1 τ rfl rfl rfl) HC
end
end
section
open Go.Conc Go.RowKit Go.Maps
theorem BW{v:Value}(h:N9 v):Flat v:=by
 obtain⟨a,b,c,d,e,f,g,h,rfl⟩:=h;refine .agg λi hi=>?_;have:=hi
 match i,this with
 |0,_|1,_|6,_|7,_=>exact .int ..
 |2,_|4,_|5,_=>exact .string _
 |3,_=>exact .bool _
theorem Ki:N9 LC:=⟨0,0,⟨#[]⟩,false,⟨#[]⟩,⟨#[]⟩,0,0,rfl⟩
section
variable {Z:iS prog} {w:World} {T:List Frame} {dd q K:Nat} {lent:Bool} {fn:dr} {tm:Array Value} {os:List OF} {wl:World} {V:List (Nat×Option (List Value))} {k:List Item}
theorem LM{ops:Array Oper}{i:Nat}{rest:List Nat}{o:Oper}{cl:Nat->Option Nat}(b s:Nat)(hs:s=wl.heap.size)(ad:b<s)(hi:ops[i]?=some o)(hb:wl.heap[b]?=some (.cells (mB cl) 125 (0,0)))
  (jQ:∀k r,k<7->cl k=some r->∃vs,(r,some vs)∈V) (rN:∀k k' r,k<7->k'<7->cl k=some r->cl k'=some r->k=k') (Y:∃k r,k<7/\cl k=some r) (fE:(V.map kB).Nodup) (h8:∀r vs,(r,some vs)∈V->∀v∈vs,N9 v)
  (hv:∀(k' r:Nat)v vs(w2:World),k'<7->cl k'=some r->(r,some (v::vs))∈V->w2.heap.size=s+1->(∀r,r<s->w2.heap[r]?=wl.heap[r]?)->w2.os=wl.os->dn (nR prog Z w T dd q K lent) (⟨fn,eI o.dst tm (.tuple #[.int .i64 k',v,.bool true]),.inRegion ops rest::k⟩::os) w2 (rU V r vs))
  (he:∀(k' r:Nat)(w2:World),k'<7->cl k'=some r->(r,some [])∈V->w2.heap.size=s+1->(∀r,r<s->w2.heap[r]?=wl.heap[r]?)->w2.os=wl.os->dn (nR prog Z w T dd q K lent) (⟨fn,eI o.dst tm (.tuple #[.int .i64 k',LC,.bool false]),.inRegion ops rest::k⟩::os) w2 (ud V r)) :
  dn (nR prog Z w T dd q K lent) (⟨123,#[.pointer (some ⟨b,0,none⟩),mj,mj,mj,mj,mj,mj,mj,mj,mj,mj,mj,mj,mj,mj,mj,mj,mj,mj,mj,mj,mj,mj,mj,mj,mj,mj,mj,mj,mj,mj,mj,mj,mj,mj,mj,mj,mj,mj,mj,mj,mj,mj,mj,mj,mj,mj,mj,mj,mj,mj,mj,mj,mj,mj,mj,mj,mj,mj,mj,mj,mj,mj,mj,mj,mj,mj,mj,mj,mj],[.code (dT i')]⟩::⟨fn,tm,.inRegion ops (i::rest)::k⟩::os) wl V:=by
 show dn _ (⟨_,_,[.code (.seq (.region 0 _ false) (.seq (.seq (.region 1 _ false) (.seq (.region 2 _ false) (.seq (.region 3 _ false) (.seq (.region 4 _ false) (.seq (.region 5 _ false) (.seq (.region 6 _ false) (.region 7 _ false))))))) (.seq (.region 8 _ false) (.block 0 _))))]⟩::_) _ _
 have HC:ka ((∀(k' r:Nat)v vs(w2:World),k'<7->cl k'=some r->(r,some (v::vs))∈V->w2.heap.size=s+1->(∀r,r<s->w2.heap[r]?=wl.heap[r]?)->w2.os=wl.os->dn (nR prog Z w T dd q K lent) (⟨fn,eI o.dst tm (.tuple #[.int .i64 k',v,.bool true]),.inRegion ops rest::k⟩::os) w2 (rU V r vs))/\
  (∀(k' r:Nat)(w2:World),k'<7->cl k'=some r->(r,some [])∈V->w2.heap.size=s+1->(∀r,r<s->w2.heap[r]?=wl.heap[r]?)->w2.os=wl.os->dn (nR prog Z w T dd q K lent) (⟨fn,eI o.dst tm (.tuple #[.int .i64 k',LC,.bool false]),.inRegion ops rest::k⟩::os) w2 (ud V r))/\
  (∀k r,k<7->cl k=some r->∃vs,(r,some vs)∈V)/\(∀k k' r,k<7->k'<7->cl k=some r->cl k'=some r->k=k')/\(∃k r,k<7/\cl k=some r)/\(V.map kB).Nodup/\(∀r vs,(r,some vs)∈V->∀v∈vs,N9 v)):=⟨hv,he,jQ,rN,Y,fE,h8⟩
 have HS:ka (s=wl.heap.size/\b<s):=⟨hs,ad⟩;have HB:ka (wl.heap[b]?=some (.cells (mB cl) 125 (0,0))):=hb;clear hv he jQ rN Y fE h8 hs ad hb;refine dn.seq ?_;refine iF (by kernel_rfl) rfl (.inl (by simp)) λy0 O U=>?_;have HY:ka (y0.heap=wl.heap/\y0.os=wl.os):=⟨O,U⟩;clear O U;go_wp2;refine gp ?_;obtain⟨O,U⟩:=HY.out;obtain⟨w3,aa⟩:∃w3,w3=y0.alloc (.cells #[.int .i64 0,.int .i64 0,.string ⟨#[]⟩,.bool false,.string ⟨#[]⟩,.string ⟨#[]⟩,.int .i64 0,.int .i64 0] 172):=⟨_,rfl⟩;have ab:y0.heap.size=s:=by rw[O]; exact HS.out.1.symm
 have z3:w3.heap.size=s+1:=by rw[aa]; simp[ab]
 have o3:∀r,r<s->w3.heap[r]?=wl.heap[r]?:=λr hr=>by
  rw[aa,fV _ _ (by rw[ab]; omega),O]
 have g0:w3.heap[s]?=some (.cells #[.int .i64 0,.int .i64 0,.string ⟨#[]⟩,.bool false,.string ⟨#[]⟩,.string ⟨#[]⟩,.int .i64 0,.int .i64 0] 172 (0,0)):=by rw[aa,iz _ _ ab.symm]
 have p3:w3.os=wl.os:=by rw[aa]; exact U
 rw[<-aa,ab];clear aa O U ab HY y0;have gb:w3.heap[b]?=some (.cells (mB cl) 125 (0,0)):=by rw[o3 b HS.out.2]; exact HB.out
 refine dn.seq ?_;refine iF (by kernel_rfl) rfl (.inl (by simp)) λy0 O U=>?_;have d0:y0.cell? ⟨b,0,none⟩=some (.chan (cl 0)):=by rw[dh (by rw[O]; exact gb)]; rfl
 have d1:y0.cell? ⟨b,1,none⟩=some (.chan (cl 1)):=by rw[dh (by rw[O]; exact gb)]; rfl
 have d2:y0.cell? ⟨b,2,none⟩=some (.chan (cl 2)):=by rw[dh (by rw[O]; exact gb)]; rfl
 have d3:y0.cell? ⟨b,3,none⟩=some (.chan (cl 3)):=by rw[dh (by rw[O]; exact gb)]; rfl
 have d4:y0.cell? ⟨b,4,none⟩=some (.chan (cl 4)):=by rw[dh (by rw[O]; exact gb)]; rfl
 have d5:y0.cell? ⟨b,5,none⟩=some (.chan (cl 5)):=by rw[dh (by rw[O]; exact gb)]; rfl
 have d6:y0.cell? ⟨b,6,none⟩=some (.chan (cl 6)):=by rw[dh (by rw[O]; exact gb)]; rfl
 have HY:ka (y0.heap=w3.heap/\y0.os=w3.os):=⟨O,U⟩;have HW:ka (w3.heap.size=s+1/\(∀r,r<s->w3.heap[r]?=wl.heap[r]?)/\w3.heap[s]?=some (.cells #[.int .i64 0,.int .i64 0,.string ⟨#[]⟩,.bool false,.string ⟨#[]⟩,.string ⟨#[]⟩,.int .i64 0,.int .i64 0] 172 (0,0))/\w3.os=wl.os):=⟨z3,o3,g0,p3⟩;clear O U z3 o3 g0 p3 gb;go_wp2;refine gp ?_;clear d0 d1 d2 d3 d4 d5 d6;obtain⟨z3,o3,g0,p3⟩:=HW.out;obtain⟨O,U⟩:=HY.out;rw[<-O]at z3 o3 g0;have p3:=U.trans p3;clear O U HY HW;obtain⟨hv,he,jQ,rN,Y,fE,h8⟩:=HC.out;refine dn.seq (dn.region ?_);refine dn.select (i:=0) (x0:=8) (x1:=12) (x2:=16) (x3:=20) (x4:=24) (x5:=28) (x6:=32) (z:=LC) (cl:=cl) rfl rfl (λae w=>by kernel_rfl) (BW Ki) rfl rfl rfl rfl rfl rfl rfl jQ rN Y fE (λr vs hr v hv=>BW (h8 r vs hr v hv)) ?_ ?_
 .intro k' r v vs ac hr hm;have hn:=λ(w2:World) a b c=>hv k' r v vs w2 ac hr hm a b c;obtain⟨v0,v1,v2,v3,v4,v5,v6,v7,rfl⟩:=h8 r _ hm v (bE ..);have HN:ka _:=hn;clear hv he jQ rN Y fE h8 HC hn hm HS HB;rcases(by omega:k'=0\/k'=1\/k'=2\/k'=3\/k'=4\/k'=5\/k'=6)with rfl|rfl|rfl|rfl|rfl|rfl|rfl
  all_goals
   rw[fF];simp only[xf,goInt];go_simp
   iterate 8 (refine eT ?_; go_simp)
   refine dn.inRegion (dn.block ?_)
   repeat refine dn.lY trivial rfl ?_
   refine dn.yS trivial rfl ?_;apply vR _ (by decide) hi z3 g0 λw2 a b c=>HN.out w2 a (λr hr=>(b r hr).trans (o3 r hr)) (c.trans p3);exact mj
 .intro k' r ac hr hm;have hn:=λ(w2:World) a b c=>he k' r w2 ac hr hm a b c;have HN:ka _:=hn;clear hv he jQ rN Y fE h8 HC hn hm HS HB;rcases(by omega:k'=0\/k'=1\/k'=2\/k'=3\/k'=4\/k'=5\/k'=6)with rfl|rfl|rfl|rfl|rfl|rfl|rfl
  all_goals
   rw[fF];simp only[xf,goInt,LC];go_simp
   iterate 8 (refine eT ?_; go_simp)
   refine dn.inRegion (dn.block ?_)
   repeat refine dn.lY trivial rfl ?_
   refine dn.yS trivial rfl ?_;apply vR _ (by decide) hi z3 g0 λw2 a b c=>HN.out w2 a (λr hr=>(b r hr).trans (o3 r hr)) (c.trans p3);exact mj
end
end
section
open Go.Conc Go.RowKit Go.Maps
variable {vs:List Value} {k' r:Nat} {a:Option (List Value)} {v:Value} {w2:World}
abbrev Vs:=List (Nat×Option (List Value))
def rS(V:Vs):List Value:=V.flatMap λx=>x.2.getD []
theorem GL{X Y:Vs}(h:((X++(r,a)::Y).map kB).Nodup):rU (X++(r,a)::Y) r vs=X++(r,some vs)::Y:=by
 rw[b8,bL,bO,bP]at h;obtain⟨h1,⟨U,h3⟩,h4⟩:=h;unfold rU;rw[b8,bL,if_pos rfl];congr 1
 .conv=>rhs; rw[<-cH X]
  refine bK λx O=>?_;rw[if_neg λe=>h4 _ (b4.2 ⟨x,O,rfl⟩) r (by simp) e];rfl
 .congr 1;conv=>rhs; rw[<-cH Y]
  refine bK λx O=>?_;rw[if_neg λe=>U (b4.2 ⟨x,O,e⟩)];rfl
theorem IE{X Y:Vs}(h:((X++(r,a)::Y).map kB).Nodup):ud (X++(r,a)::Y) r=X++Y:=by
 rw[b8,bL,bO,bP]at h;obtain⟨h1,⟨U,h3⟩,h4⟩:=h;unfold ud;rw[bU,cx,if_neg (by simp)];congr 1
 .rw[cI];intro x O;simpa using λe=>h4 _ (b4.2 ⟨x,O,rfl⟩) r (by simp) e
 .rw[cI];intro x O;simpa using λe=>U (b4.2 ⟨x,O,e⟩)
theorem rI{V:Vs}(U:(V.map kB).Nodup)(h:(r,some (v::vs))∈V):(rS V).Perm (v::rS (rU V r vs))/\(rU V r vs).length=V.length/\(rU V r vs).map kB=V.map kB/\∀x∈rU V r vs,x∈V\/x=(r,some vs):=by
 obtain⟨X,Y,rfl⟩:=cq h;rw[GL U];refine⟨?_,by simp,by simp,?_⟩
 .unfold rS;simp only[List.flatMap_append,List.flatMap_cons,Option.getD_some,cQ];exact cr
 .intro x O;simp only[bA,b9]at O⊢;rcases O with h|h|h
  .exact .inl (.inl h)
  .exact .inr h
  .exact .inl (.inr (.inr h))
theorem yf{V:Vs}(U:(V.map kB).Nodup)(h:(r,some [])∈V):(rS V).Perm (rS (ud V r))/\(ud V r).length+1=V.length/\((ud V r).map kB).Nodup/\∀x∈ud V r,x∈V/\x.1≠r:=by
 obtain⟨X,Y,rfl⟩:=cq h;have O:=IE U;refine⟨?_,?_,?_,?_⟩
 .rw[O];unfold rS;simp
 .rw[O];simp;omega
 .rw[O];refine U.sublist (List.Sublist.map _ ?_);exact List.Sublist.append_left (List.sublist_cons_self ..) X
 .intro x hx;have:=b7.1 hx;exact⟨this.1,by simpa using this.2⟩
def Met(v:Value):Prop:=∃(a b:Nat)(c:ByteArray)(d:Bool)(e f:ByteArray)(g h:Int),a<4611686018427387904/\b<4611686018427387904/\v=.agg #[.int .i64 (a:Int),.int .i64 (b:Int),.string c,.bool d,.string e,.string f,.int .i64 g,.int .i64 h]
theorem Met.Ur(h:Met v):N9 v:=by
 obtain⟨a,b,c,d,e,f,g,h,_,_,rfl⟩:=h;exact⟨a,b,c,d,e,f,g,h,rfl⟩
def M8:Value->Value
 |.agg a=>.agg #[a.getD 0 mj,a.getD 1 mj]
 |v=>v
theorem Met.key(h:Met v):∃O,keyOf prog 170 (M8 v)=some O:=by
 obtain⟨a,b,c,d,e,f,g,h,U,hb,rfl⟩:=h;exact Sc a b U hb
structure sR(M0:List Value)(H0:Array Obj)(P0:Os)(b mb:Nat)(cl:Nat->Option Nat)(l:List (Value×Value))(V:Vs)(wl:World):Prop where
 hb:wl.heap[b]?=some (.cells (mB cl) 125 (0,0))
 Aa:b<mb
 hm:iV prog 170 wl mb l
 jQ:∀k r,k<7->cl k=some r->∃vs,(r,some vs)∈V
 fv:∀x∈V,∃k vs,k<7/\cl k=some x.1/\x.2=some vs
 rN:∀k k' r,k<7->k'<7->cl k=some r->cl k'=some r->k=k'
 fE:(V.map kB).Nodup
 eE:(l.map kG++rS V).Perm M0
 gJ:∀p∈l,p.1=M8 p.2
 old:∀r,r<mb->r≠b->wl.heap[r]?=H0[r]?
 os:wl.os=P0
structure NM(M0:List Value):Prop where
 met:∀v∈M0,Met v
 nodup:(M0.map M8).Nodup
 len:M0.length<dk
variable {M0:List Value} {H0:Array Obj} {P0:Os} {b mb:Nat} {cl:Nat->Option Nat} {l:List (Value×Value)} {V:Vs} {wl:World}
theorem sR.h8(G:NM M0)(I:sR M0 H0 P0 b mb cl l V wl):∀r vs,(r,some vs)∈V->∀v∈vs,Met v:=λr vs h v O=>G.met v (I.eE.mem_iff.1 (cc _ (cP.2 ⟨_,h,O⟩)))
theorem sR.TG(I:sR M0 H0 P0 b mb cl l V wl)(h:V≠[]):∃k r,k<7/\cl k=some r:=by
 cases V with
 |nil=>exact absurd rfl h
 |cons x V=>
  obtain⟨k,vs,O,U,_⟩:=I.fv x (by simp);exact⟨k,x.1,O,U⟩
theorem sR.fresh(G:NM M0)(I:sR M0 H0 P0 b mb cl l V wl)(h:(r,some (v::vs))∈V):(∀p∈l,p.1≠M8 v)/\l.length<dk:=by
 obtain⟨Y,_⟩:=rI I.fE h;have U:=((I.eE.symm.trans (kW _ Y)).map M8).nodup_iff.1 G.nodup;constructor
 .intro p O e;rw[b8,bO]at U;exact U.2.2 _ (b4.2 ⟨p.2,b4.2 ⟨p,O,rfl⟩,rfl⟩) _ (by simp) ((I.gJ p O).symm.trans e)
 .have:=I.eE.length_eq;have h2:=G.len;simp only[bF,bG]at this;omega
theorem sR.take(I:sR M0 H0 P0 b mb cl l V wl)(h:(r,some (v::vs))∈V)(hm:iV prog 170 w2 mb (l++[(M8 v,v)]))(hold:∀r,r<mb->w2.heap[r]?=wl.heap[r]?)(ab:w2.os=wl.os) :
  sR M0 H0 P0 b mb cl (l++[(M8 v,v)]) (rU V r vs) w2:=by
 obtain⟨hp,h1,h2,h3⟩:=rI I.fE h
 have O:∀r' vs',(r',some vs')∈V->∃U,(r',some U)∈rU V r vs:=λr' vs' Y=>by
  by_cases e:r'=r
  .subst e;exact⟨vs,b4.2 ⟨_,h,if_pos rfl⟩⟩
  .exact⟨vs',b4.2 ⟨_,Y,if_neg e⟩⟩
 refine⟨(hold b I.Aa).trans I.hb,I.Aa,hm,λk r' hk hr=>?_,λx hx=>?_,I.rN,by rw[h2]; exact I.fE,?_,?_,λr' aa ac=>(hold r' aa).trans (I.old r' aa ac),ab.trans I.os⟩
 .obtain⟨vs',Y⟩:=I.jQ k r' hk hr;exact O r' vs' Y
 .rcases h3 x hx with Y|rfl
  .exact I.fv x Y
  .obtain⟨k,vs',a,b,_⟩:=I.fv _ h;exact⟨k,vs,a,b,rfl⟩
 .refine List.Perm.trans ?_ I.eE;rw[b8,cN];exact kW _ hp.symm
 .intro p hp;rcases bA.1 hp with h|h
  .exact I.gJ p h
  .simp only[bH]at h;subst h;rfl
def vC(cl:Nat->Option Nat)(k':Nat):Nat->Option Nat:=λk=>if k=k' then none else cl k
theorem Rf(h:k'<7):(mB cl).set! k' (.chan none)=mB (vC cl k'):=by
 rcases(by omega:k'=0\/k'=1\/k'=2\/k'=3\/k'=4\/k'=5\/k'=6)with rfl|rfl|rfl|rfl|rfl|rfl|rfl<;>rfl
theorem sR.ends(I:sR M0 H0 P0 b mb cl l V wl)(ab:k'<7)(hr:cl k'=some r)(h:(r,some [])∈V)(hb:w2.heap[b]?=some (.cells (mB (vC cl k')) 125 (0,0)))(hm:iV prog 170 w2 mb l)(hold:∀r,r<mb->r≠b->w2.heap[r]?=wl.heap[r]?)(ac:w2.os=wl.os) :
  sR M0 H0 P0 b mb (vC cl k') l (ud V r) w2:=by
 obtain⟨hp,h1,h2,h3⟩:=yf I.fE h
 have U:∀k r',vC cl k' k=some r'->k≠k'/\cl k=some r':=λk r' e=>by
  unfold vC at e;split at e
  .cases e
  .exact⟨by assumption,e⟩
 refine⟨hb,I.Aa,hm,λk Y hk e=>?_,λx hx=>?_,λk k2 Y a b e1 e2=>I.rN k k2 Y a b (U _ _ e1).2 (U _ _ e2).2,h2,?_,I.gJ,λr' aa O=>(hold r' aa O).trans (I.old r' aa O),ac.trans I.os⟩
 .obtain⟨O,e⟩:=U _ _ e;obtain⟨vs,h'⟩:=I.jQ k Y hk e;have:Y≠r:=λe2=>O (I.rN k k' Y hk ab e (e2▸hr));exact⟨vs,b7.2 ⟨h',by simpa using this⟩⟩
 .obtain⟨ad,O⟩:=h3 x hx;obtain⟨k,vs,a,b,c⟩:=I.fv x ad;refine⟨k,vs,a,?_,c⟩;have:k≠k':=λe=>O (by rw[e,hr]at b; exact(kT b).symm);unfold vC;rw[if_neg this];exact b
 .exact(kW _ hp.symm).trans I.eE
end
section
open Go.Conc Go.RowKit Go.Maps
variable {ops:Array Oper} {d:Code} {n:Int} {kk:List Item} {rest:List Nat} {cl:Nat->Option Nat} {o:Oper} {a10 a11 a12 a15 a16 a17 a18 a19 a2 a20 a21 a22 a23 a24 a25 a26 a27 a28 a29 a3 a4 a6 a7 a8 a9:Value}
def EK(c:Code):Code:=match c with
 |.seq _ (.seq _ (.seq (.block _ (.loop x)) _))=>x
 |_=>.skip
def SX(c:Code):Code:=match c with
 |.seq _ (.seq _ (.seq _ y))=>y
 |_=>.skip
theorem K5:i'.name≠ "runtime.NumGoroutine":=by
 decide
section
variable {P:Program} {E:Env P} {fn:dr} {tm:Array Value} {os:List OF} {wl:World} {V:List (Nat×Option (List Value))} {k:List Item}
theorem k9{x:Item}(h:∀kk,ka (kk=k)->dn E (⟨fn,tm,x::kk⟩::os) wl V):dn E (⟨fn,tm,x::k⟩::os) wl V:=h k rfl
theorem dn.sc{c:Code}(h:∀kk,ka (kk=.code d::k)->dn E (⟨fn,tm,.code c::kk⟩::os) wl V):dn E (⟨fn,tm,.code (.seq c d)::k⟩::os) wl V:=dn.seq (h _ rfl)
theorem dn.sr{id:Nat}(h:∀kk,ka (kk=.code d::k)->dn E (⟨fn,tm,.inRegion ops (cn ops.size)::kk⟩::os) wl V):dn E (⟨fn,tm,.code (.seq (.region id ops false) d)::k⟩::os) wl V:=dn.seq (dn.region (h _ rfl))
theorem dn.ie(O:ka (kk=k))(h:dn E (⟨fn,tm,k⟩::os) wl V):dn E (⟨fn,tm,.inRegion ops []::kk⟩::os) wl V:=by
 rw[O.out];exact dn.inRegion h
theorem dn.qA{i:Nat}{f:dr}{gK:Func}{c:Code}{xs:Array Operand}{ts:Array ee}(Y:Array Value)(hi:ops[i]?=some o)(O:kc o (dt ops tm)=true)(hf:P.funcs[f]?=some gK)(hb:gK.body=some c)(hn:gK.name≠ "runtime.NumGoroutine") (ho:o.op=.call {callee:=.value (.func f),args:=xs,argTypes:=ts}) (U:∀x∈xs.toList,dP E.fu E.gl x)
  (ha:xs.map (iJ tm)++da (gK.ntmps-xs.size) mj=Y) (h:dn E (⟨f,Y,[.code c]⟩::⟨fn,tm,.inRegion ops (i::rest)::k⟩::os) wl V):dn E (⟨fn,tm,.inRegion ops (i::rest)::k⟩::os) wl V:=
 dn.outer hi O hf hb hn ho U (by rw[ha]; exact h)
end
section
variable {Z:iS prog} {w:World} {T:List Frame} {dd q K:Nat} {lent:Bool} {fn:dr} {tm:Array Value} {os:List OF} {k:List Item} {M0:List Value} {H0:Array Obj} {P0:Os} {b mb:Nat}
def RP(Z:iS prog)(w:World)(T:List Frame)(dd q K:Nat)(lent:Bool)(M0:List Value)(H0:Array Obj)(P0:Os)(b mb:Nat)(f:Value->List OF):Prop:=∀(w2:World)(l:List (Value×Value)),(l.map kG).Perm M0->(∀p∈l,p.1=M8 p.2)->iV prog 170 w2 mb l->(∀r,r<mb->r≠b->w2.heap[r]?=H0[r]?)->w2.os=P0->dn (nR prog Z w T dd q K lent) (f (.map (some mb))) w2 []
def UR(c:Code):Array Oper:=match c with
 |.seq _ (.block _ (.seq (.region _ ops _) _))=>ops
 |_=>#[]
theorem yv{xh:Bool}{V:Vs}{wl:World}{ac:List OF}{s:Nat}{k':Int}{v0 v1:Int}{v2:ByteArray}{v3:Bool}{v4 v5:ByteArray}{v6 v7:Int}(z:wl.heap.size=s)
  (hn:∀w2:World,w2.heap.size=s+1->(∀r,r<s->w2.heap[r]?=wl.heap[r]?)->w2.heap[s]?=some (.cells #[.int .i64 v0,.int .i64 v1,.string v2,.bool v3,.string v4,.string v5,.int .i64 v6,.int .i64 v7] 172 (0,0))->w2.os=wl.os->dn (nR prog Z w T dd q K lent) (⟨82,#[.pointer (some ⟨b,0,none⟩),.int .i64 n,a2,a3,a4,.map (some mb),.int .i64 k',.pointer (some ⟨s,0,none⟩),.bool xh,a9,a10,a11,.tuple #[.int .i64 k',.agg #[.int .i64 v0,.int .i64 v1,.string v2,.bool v3,.string v4,.string v5,.int .i64 v6,.int .i64 v7],.bool xh],.pointer (some ⟨b,0,none⟩),.tuple #[.int .i64 k',.agg #[.int .i64 v0,.int .i64 v1,.string v2,.bool v3,.string v4,.string v5,.int .i64 v6,.int .i64 v7],.bool xh],.int .i64 k',.agg #[.int .i64 v0,.int .i64 v1,.string v2,.bool v3,.string v4,.string v5,.int .i64 v6,.int .i64 v7],.bool xh,a18,a19,a20,a21,a22,a23,a24,a25,a26,a27,a28,a29],kk⟩::ac) w2 V) :
  dn (nR prog Z w T dd q K lent) (⟨82,#[.pointer (some ⟨b,0,none⟩),.int .i64 n,a2,a3,a4,.map (some mb),a6,a7,a8,a9,a10,a11,a12,.pointer (some ⟨b,0,none⟩),.tuple #[.int .i64 k',.agg #[.int .i64 v0,.int .i64 v1,.string v2,.bool v3,.string v4,.string v5,.int .i64 v6,.int .i64 v7],.bool xh],a15,a16,a17,a18,a19,a20,a21,a22,a23,a24,a25,a26,a27,a28,a29],.inRegion (UR (EK (dT i8))) [2,3,4,5,6,7,8,9]::kk⟩::ac) wl V:=by
 have HN:ka _:=hn;clear hn;have HZ:ka (wl.heap.size=s):=z;clear z;show dn _ (⟨_,_,.inRegion #[_,_,_,_,_,_,_,_,_,_] _::_⟩::_) _ _
 (iterate 4 (refine eT ?_; go_simp));refine lL rfl (by rfl) (by kernel_rfl) λO Y U=>?_;have HY:ka (O.heap=wl.heap/\O.os=wl.os):=⟨Y,U⟩;clear Y U;unfold gh;go_simp;simp only[iM];obtain⟨Y,U⟩:=HY.out;obtain⟨w5,aa⟩:∃w5,w5=O.alloc (.cells #[.int .i64 0,.int .i64 0,.string ⟨#[]⟩,.bool false,.string ⟨#[]⟩,.string ⟨#[]⟩,.int .i64 0,.int .i64 0] 172):=⟨_,rfl⟩;have ab:O.heap.size=s:=by rw[Y]; exact HZ.out
 have z5:w5.heap.size=s+1:=by rw[aa]; simp[ab]
 have o5:∀r,r<s->w5.heap[r]?=wl.heap[r]?:=λr hr=>by rw[aa,fV _ _ (by rw[ab]; exact hr),Y]
 have g5:w5.heap[s]?=some (.cells #[.int .i64 0,.int .i64 0,.string ⟨#[]⟩,.bool false,.string ⟨#[]⟩,.string ⟨#[]⟩,.int .i64 0,.int .i64 0] 172 (0,0)):=by rw[aa,iz _ _ ab.symm]
 have p5:w5.os=wl.os:=by rw[aa]; exact U
 rw[<-aa,ab];clear aa Y U HY ab O;have HW:ka (w5.heap.size=s+1/\(∀r,r<s->w5.heap[r]?=wl.heap[r]?)/\w5.heap[s]?=some (.cells #[.int .i64 0,.int .i64 0,.string ⟨#[]⟩,.bool false,.string ⟨#[]⟩,.string ⟨#[]⟩,.int .i64 0,.int .i64 0] 172 (0,0))/\w5.os=wl.os):=⟨z5,o5,g5,p5⟩;clear z5 o5 g5 p5
 (refine eT ?_; go_simp);refine lL rfl (by rfl) (by kernel_rfl) λO Y U=>?_;obtain⟨z5,o5,g5,p5⟩:=HW.out;rw[<-Y]at z5 o5 g5;have p5:=U.trans p5;have g1:=g5;clear Y U HW g5;have e0:O.cell? ⟨s,0,none⟩=some (.int .i64 0):=by rw[dh g1]; rfl
 have f0:O.frozen? ⟨s,0,none⟩=false:=dK g1 0;have e1:O.cell? ⟨s,1,none⟩=some (.int .i64 0):=by rw[dh g1]; rfl
 have f1:O.frozen? ⟨s,1,none⟩=false:=dK g1 1;have e2:O.cell? ⟨s,2,none⟩=some (.string ⟨#[]⟩):=by rw[dh g1]; rfl
 have f2:O.frozen? ⟨s,2,none⟩=false:=dK g1 2;have e3:O.cell? ⟨s,3,none⟩=some (.bool false):=by rw[dh g1]; rfl
 have f3:O.frozen? ⟨s,3,none⟩=false:=dK g1 3;have e4:O.cell? ⟨s,4,none⟩=some (.string ⟨#[]⟩):=by rw[dh g1]; rfl
 have f4:O.frozen? ⟨s,4,none⟩=false:=dK g1 4;have e5:O.cell? ⟨s,5,none⟩=some (.string ⟨#[]⟩):=by rw[dh g1]; rfl
 have f5:O.frozen? ⟨s,5,none⟩=false:=dK g1 5;have e6:O.cell? ⟨s,6,none⟩=some (.int .i64 0):=by rw[dh g1]; rfl
 have f6:O.frozen? ⟨s,6,none⟩=false:=dK g1 6;have e7:O.cell? ⟨s,7,none⟩=some (.int .i64 0):=by rw[dh g1]; rfl
 have f7:O.frozen? ⟨s,7,none⟩=false:=dK g1 7;have HY:ka (O.heap.size=s+1/\(∀r,r<s->O.heap[r]?=wl.heap[r]?)/\O.os=wl.os):=⟨z5,o5,p5⟩;have HG:ka _:=g1;clear z5 o5 p5 g1;unfold gh;go_simp;simp only[iM];clear e0 e1 e2 e3 e4 e5 e6 e7 f0 f1 f2 f3 f4 f5 f6 f7;obtain⟨z5,o5,p5⟩:=HY.out;obtain⟨w2,hw2⟩:∃w2,w2=tR O s (.int .i64 v0) (.int .i64 v1) (.string v2) (.bool v3) (.string v4) (.string v5) (.int .i64 v6) (.int .i64 v7):=⟨_,rfl⟩;have z1:w2.heap.size=s+1:=by rw[hw2,um]; exact z5
 have o1:∀r,r<s->w2.heap[r]?=wl.heap[r]?:=λr hr=>by rw[hw2,yk _ _ _ _ _ _ _ _ _ (by omega)]; exact o5 r hr
 have g1:w2.heap[s]?=some (.cells #[.int .i64 v0,.int .i64 v1,.string v2,.bool v3,.string v4,.string v5,.int .i64 v6,.int .i64 v7] 172 (0,0)):=by rw[hw2]; exact y9 HG.out
 have p1:w2.os=wl.os:=by rw[hw2,Cf]; exact p5
 unfold tR at hw2;rw[<-hw2];clear hw2 HG HY z5 o5 p5;have HN:=HN.out w2 z1 o1 g1 p1;have HN:ka _:=HN;clear z1 o1 g1 p1
 (refine eT ?_; go_simp);exact dn.inRegion HN.out
set_option linter.unusedVariables false in
theorem vJ{i:Nat}{wl:World}{V:Vs}{l:List (Value×Value)}{Y aa:Value}(I:sR M0 H0 P0 b mb cl l V wl)(hV:V=[])(hn:n=V.length)(hi:ops[i]?=some o)(O:RP Z w T dd q K lent M0 H0 P0 b mb λv=>⟨fn,eI o.dst tm v,.inRegion ops rest::k⟩::os) :
  dn (nR prog Z w T dd q K lent) (⟨82,#[.pointer (some ⟨b,0,none⟩),.int .i64 n,a2,a3,a4,.map (some mb),a6,a7,a8,a9,a10,a11,a12,Y,aa,a15,a16,a17,a18,a19,a20,a21,a22,a23,a24,a25,a26,a27,a28,a29],[.code (EK (dT i8)),.inLoop (EK (dT i8)),.inBlock 0,.code (SX (dT i8))]⟩::⟨fn,tm,.inRegion ops (i::rest)::k⟩::os) wl V:=by
 subst hV;have hp:¬(0<n):=by rw[hn]; simp
 have HN:ka (n=0):=hn;clear hn;have U:ka _:=I;have HE:ka _:=O;clear I O;show dn _ (⟨_,_,[.code (.seq (.seq _ _) _),.inLoop _,.inBlock 0,.code _]⟩::_) ..;refine dn.sc λkk HK=>?_;refine dn.seq (dn.region ?_)
 (iterate 2 (refine eT ?_; go_simp));refine dn.inRegion ?_;refine dn.lY trivial rfl ?_;rw[HK.out];refine dn.exit (k':=[.code _]) rfl ?_;refine dn.seq (dn.region ?_)
 (iterate 2 (refine eT ?_; go_simp));refine dn.inRegion ?_;refine dn.back (v:=.map (some mb)) (.inr ⟨_,rfl⟩) func82 hi (λτ=>by simp[ej,results82,go_sem]) ?_;have hp:=U.out.eE;simp only[rS,List.flatMap_nil,cA]at hp;exact HE.out wl l hp U.out.gJ U.out.hm U.out.old U.out.os
set_option linter.unusedVariables false in
theorem DU{i:Nat}(G:NM M0)(hi:ops[i]?=some o)(ad:RP Z w T dd q K lent M0 H0 P0 b mb λv=>⟨fn,eI o.dst tm v,.inRegion ops rest::k⟩::os) :
  ∀(N:Nat)(wl:World)(V:Vs)(cl:Nat->Option Nat)(l:List (Value×Value))(a2 a3 a4 a6 a7 a8 a9 a10 a11 a12 ak al a15 a16 a17 a18 a19 a20 a21 a22 a23 a24 a25 a26 a27 a28 a29:Value)(n:Int),(rS V).length+V.length<=N->n=V.length->V.length<=1000->sR M0 H0 P0 b mb cl l V wl->
  dn (nR prog Z w T dd q K lent) (⟨82,#[.pointer (some ⟨b,0,none⟩),.int .i64 n,a2,a3,a4,.map (some mb),a6,a7,a8,a9,a10,a11,a12,ak,al,a15,a16,a17,a18,a19,a20,a21,a22,a23,a24,a25,a26,a27,a28,a29],[.code (EK (dT i8)),.inLoop (EK (dT i8)),.inBlock 0,.code (SX (dT i8))]⟩::⟨fn,tm,.inRegion ops (i::rest)::k⟩::os) wl V:=by
 intro N
 induction N with
 |zero=>
  intro wl V cl l a2 a3 a4 a6 a7 a8 a9 a10 a11 a12 ak al a15 a16 a17 a18 a19 a20 a21 a22 a23 a24 a25 a26 a27 a28 a29 n hN hn hB I;have hV:V=[]:=cy (by omega);exact vJ I hV hn hi ad
 |succ N ih=>
  intro wl V cl l a2 a3 a4 a6 a7 a8 a9 a10 a11 a12 ak al a15 a16 a17 a18 a19 a20 a21 a22 a23 a24 a25 a26 a27 a28 a29 n hN hn hB I;by_cases hV:V=[]
  .exact vJ I hV hn hi ad
  have hp:0<n:=by rw[hn]; exact Int.natCast_pos.2 (List.length_pos_iff.2 hV)
  have HI:ka ((rS V).length+V.length<=N+1/\n=V.length/\sR M0 H0 P0 b mb cl l V wl/\V≠[]/\0<n/\V.length<=1000):=⟨hN,hn,I,hV,hp,hB⟩;have IH:ka _:=ih;have HE:ka _:=ad;clear hN hn I hV ih ad hB;show dn _ (⟨_,_,[.code (.seq (.seq (.region 2 _ false) (.cond _ .skip (.exit 0))) (.block 1 (.seq (.region 3 _ false) (.seq (.seq (.region 4 _ false) (.cond _ (.seq (.region 5 _ false) (.exit 1)) .skip)) (.seq (.region 6 _ false) (.region 7 _ false)))))),.inLoop _,.inBlock 0,_]⟩::_) _ _;refine dn.sc λkk U=>?_;refine dn.seq (dn.region ?_)
  (iterate 2 (refine eT ?_; go_simp));refine dn.inRegion ?_;refine dn.yS trivial rfl (dn.skip ?_);clear hp;rw[U.out];clear U kk;refine dn.block (dn.sr λkk U=>?_)
  (refine eT ?_; go_simp);obtain⟨hN,hn,I,hV,hp,hB⟩:=HI.out;refine dn.qA #[.pointer (some ⟨b,0,none⟩),mj,mj,mj,mj,mj,mj,mj,mj,mj,mj,mj,mj,mj,mj,mj,mj,mj,mj,mj,mj,mj,mj,mj,mj,mj,mj,mj,mj,mj,mj,mj,mj,mj,mj,mj,mj,mj,mj,mj,mj,mj,mj,mj,mj,mj,mj,mj,mj,mj,mj,mj,mj,mj,mj,mj,mj,mj,mj,mj,mj,mj,mj,mj,mj,mj,mj,mj,mj,mj] (i:=1) (gK:=i') (c:=dT i') rfl rfl func123 (by kernel_rfl) K5 rfl (by simp[dP]) (by kernel_rfl) ?_;refine LM b wl.heap.size rfl (eC I.Aa I.hm.lt) rfl I.hb I.jQ I.rN (I.TG hV) I.fE (λr vs h v hv=>(I.h8 G r vs h v hv).Ur) ?_ ?_
  .intro k' r v vs w2 am hr hm z2 o2 p2;obtain⟨v0,v1,v2,v3,v4,v5,v6,v7,ha,hb,hv⟩:=I.h8 G r _ hm v (bE ..);obtain⟨kl,af⟩:=(I.h8 G r _ hm v (bE ..)).key;obtain⟨ag,ah⟩:=I.fresh G hm;have hT:=λ(w3:World) a b c=>I.take hm (w2:=w3) a b c;have hL:=(rI I.fE hm).1.length_eq;have ab:=(rI I.fE hm).2.1;have ai:iV prog 170 w2 mb l:=I.hm.stay (o2 mb I.hm.lt);have ac:=I.hm.lt;have Aa:=I.Aa;subst hv;obtain⟨s,hs⟩:∃s,s=wl.heap.size+1:=⟨_,rfl⟩;rw[<-hs]at z2;have ac:mb<s:=by omega
   clear hs;have HA:ka _:=(And.intro hT (And.intro hL (And.intro ab (And.intro af (And.intro ag (And.intro ah (And.intro o2 (And.intro p2 (And.intro ac Aa)))))))));have HM:ka (iV _ _ _ _ _):=ai;clear hT hL ab af ag ah o2 p2 hm hr I ai Aa ac hn hp hV hN hB;rw[fF];go_simp;refine yv z2 λw3 z3 o3 g3 p3=>?_;have HW:ka _:=And.intro z3 (And.intro o3 p3);have HG:ka _:=g3;clear z3 o3 p3 g3 z2;rw[U.out];refine dn.seq (dn.seq ?_);clear U kk;refine k9 λkk U=>?_;refine dn.region ?_
   (refine eT ?_; go_simp);refine dn.ie U ?_;clear U kk;refine dn.yS trivial rfl (dn.sc λkk U=>?_);refine iF (by kernel_rfl) (by rw[U.out]; rfl) (.inl (by simp)) λO Y aa=>?_;have g1:=HG.out;rw[<-Y]at g1;have e0:O.cell? ⟨s,0,none⟩=some (.int .i64 (v0:Int)):=by rw[dh g1]; rfl
   have f0:O.frozen? ⟨s,0,none⟩=false:=dK g1 0;have e1:O.cell? ⟨s,1,none⟩=some (.int .i64 (v1:Int)):=by rw[dh g1]; rfl
   have f1:O.frozen? ⟨s,1,none⟩=false:=dK g1 1;have e2:O.cell? ⟨s,2,none⟩=some (.string v2):=by rw[dh g1]; rfl
   have f2:O.frozen? ⟨s,2,none⟩=false:=dK g1 2;have e3:O.cell? ⟨s,3,none⟩=some (.bool v3):=by rw[dh g1]; rfl
   have f3:O.frozen? ⟨s,3,none⟩=false:=dK g1 3;have e4:O.cell? ⟨s,4,none⟩=some (.string v4):=by rw[dh g1]; rfl
   have f4:O.frozen? ⟨s,4,none⟩=false:=dK g1 4;have e5:O.cell? ⟨s,5,none⟩=some (.string v5):=by rw[dh g1]; rfl
   have f5:O.frozen? ⟨s,5,none⟩=false:=dK g1 5;have e6:O.cell? ⟨s,6,none⟩=some (.int .i64 v6):=by rw[dh g1]; rfl
   have f6:O.frozen? ⟨s,6,none⟩=false:=dK g1 6;have e7:O.cell? ⟨s,7,none⟩=some (.int .i64 v7):=by rw[dh g1]; rfl
   have f7:O.frozen? ⟨s,7,none⟩=false:=dK g1 7;have an:iV prog 170 O mb l:=HM.out.stay (by rw[Y]; exact HW.out.2.1 mb HA.out.2.2.2.2.2.2.2.2.1);have af:=HA.out.2.2.2.1;have ag:=HA.out.2.2.2.2.1;have ah:=HA.out.2.2.2.2.2.1;have HY:ka (O.heap=w3.heap/\O.os=w3.os):=⟨Y,aa⟩;have H1:ka _:=an;have H2:ka _:=af;have H3:ka _:=ag;have H4:ka _:=ah;clear Y aa g1 an af ag ah;go_wp2_with (first|(at_mapUpdate; refine Gz _ rfl _ _ _ 129 rfl 172 Cz hU rfl H1.out H4.out H2.out H3.out rfl _ rfl ?_; intro w4 au ao aw));refine gp ?_;rw[U.out];clear U e0 e1 e2 e3 e4 e5 e6 e7 f0 f1 f2 f3 f4 f5 f6 f7;refine dn.exit (k':=[.inLoop _,.inBlock 0,.code _]) rfl (dn.inLoop ?_);obtain⟨hT,hL,ab,af,ag,ah,o2,p2,ac,Aa⟩:=HA.out;obtain⟨hN,hn,I,hV,hp,hB⟩:=HI.out;obtain⟨Y,aa⟩:=HY.out;obtain⟨z3,o3,p3⟩:=HW.out;refine IH.out w4 (rU V r vs) cl _ _ _ _ _ _ _ _ _ _ _ _ _ _ _ _ _ _ _ _ _ _ _ _ _ _ _ _ n ?_ ?_ (by rw[ab]; exact hB) (hT w4 au (λr' ap=>?_) ?_)
   .simp only[cw]at hL;rw[ab];omega
   .rw[ab]; exact hn
   .rw[ao.block r' (by rw[Y,z3]; omega) (by simp; omega),Y,o3 r' (by omega),o2 r' (eC ap I.hm.lt)]
   .rw[ao.os,aa,p3,p2]
  .intro k' r w2 am hr hm z2 o2 p2;have hE:=λ(w3:World) a b c d=>I.ends am hr hm (w2:=w3) a b c d;have hL:=(yf I.fE hm).1.length_eq;have ab:=(yf I.fE hm).2.1;have ai:iV prog 170 w2 mb l:=I.hm.stay (o2 mb I.hm.lt);have ac:=I.hm.lt;have Aa:=I.Aa;have aq:w2.heap[b]?=some (.cells (mB cl) 125 (0,0)):=(o2 b (by omega)).trans I.hb;obtain⟨s,hs⟩:∃s,s=wl.heap.size+1:=⟨_,rfl⟩;rw[<-hs]at z2;have ae:mb<s:=by omega
   clear hs;have HA:ka _:=And.intro hE (And.intro hL (And.intro ab (And.intro o2 (And.intro p2 (And.intro ae (And.intro Aa ac))))));have HM:ka (iV _ _ _ _ _):=ai;have HB:ka (w2.heap[b]?=some (.cells (mB cl) 125 (0,0))):=aq;clear hE hL ab o2 p2 hm hr I ai Aa ac ae hn hp hV hN hB aq;rw[fF];simp only[LC];go_simp;refine yv z2 λw3 z3 o3 g3 p3=>?_;have HW:ka _:=And.intro z3 (And.intro o3 p3);clear z3 o3 p3 g3 z2;rw[U.out];refine dn.seq (dn.seq ?_);clear U kk;refine k9 λkk U=>?_;refine dn.region ?_
   (refine eT ?_; go_simp);refine dn.ie U ?_;clear U kk;refine dn.lY trivial rfl (dn.skip (dn.sc λkk U=>?_));refine iF (by kernel_rfl) (by rw[U.out]; rfl) (.inl (by simp)) λO Y aa=>?_;have gb:O.heap[b]?=some (.cells (mB cl) 125 (0,0)):=by rw[Y,HW.out.2.1 b (by have:=HA.out; omega)]; exact HB.out
   have e0:O.cell? ⟨b,k',none⟩=some (.chan (cl k')):=by
    rw[dh gb];rcases(by omega:k'=0\/k'=1\/k'=2\/k'=3\/k'=4\/k'=5\/k'=6)with rfl|rfl|rfl|rfl|rfl|rfl|rfl<;>rfl
   have f0:O.frozen? ⟨b,k',none⟩=false:=dK gb k';have HY:ka (O.heap=w3.heap/\O.os=w3.os):=⟨Y,aa⟩;have HG:ka _:=gb;clear Y aa gb;go_wp2;refine gp ?_;clear e0 f0;obtain⟨w4,aj⟩:∃w4,w4=O.setCell ⟨b,k',none⟩ (.chan none):=⟨_,rfl⟩;have g4:w4.heap[b]?=some (.cells (mB (vC cl k')) 125 (0,0)):=by rw[aj,heap_set HG.out k' (.chan none),<-Rf am]; simp only[cZ]
   have o4:∀r,r≠b->w4.heap[r]?=w3.heap[r]?:=λr hr=>by rw[aj,fk _ _ _ _ hr,HY.out.1]
   have p4:w4.os=w3.os:=by rw[aj,pB]; exact HY.out.2
   rw[<-aj];clear aj HG HY O;have HG:ka _:=And.intro g4 (And.intro o4 p4);clear g4 o4 p4;rw[U.out];clear U kk;refine k9 λkk U=>?_;refine dn.region ?_;have h1 : -9223372036854775808<=n-1:=by have:=HI.out.2.2.2.2.1; omega
   have h2:n-1<=9223372036854775807:=by have:=HI.out.2.1; have:=HI.out.2.2.2.2.2; omega
   (iterate 3 (refine eT ?_; go_simp));refine dn.ie U ?_;have ar:IntKind.i64.wrap (n-1)=n-1:=by simp only[lo]; omega
   rw[ar];clear U h1 h2 ar;refine dn.inBlock (dn.inLoop ?_);obtain⟨hE,hL,ab,o2,p2,ae,Aa,ac⟩:=HA.out;obtain⟨hN,hn,I,hV,hp,hB⟩:=HI.out;obtain⟨g4,o4,p4⟩:=HG.out;obtain⟨z3,o3,p3⟩:=HW.out;refine IH.out w4 (ud V r) (vC cl k') l _ _ _ _ _ _ _ _ _ _ _ _ _ _ _ _ _ _ _ _ _ _ _ _ _ _ _ (n-1) ?_ ?_ (by omega) (hE w4 g4 (HM.out.stay ?_) (λr' ap av=>?_) ?_)
   .omega
   .rw[hn]; omega
   .rw[o4 mb (by omega),o3 mb ae]
   .rw[o4 r' av,o3 r' (by omega),o2 r' (by omega)]
   .rw[p4,p3,p2]
theorem ED{i:Nat}{wl:World}{V:Vs}(hi:ops[i]?=some o)(G:NM M0)(Y:mb=wl.heap.size)(Aa:b<mb)
  (hb:wl.heap[b]?=some (.cells (mB cl) 125 (0,0))) (jQ:∀k r,k<7->cl k=some r->∃vs,(r,some vs)∈V) (fv:∀x∈V,∃k vs,k<7/\cl k=some x.1/\x.2=some vs) (rN:∀k k' r,k<7->k'<7->cl k=some r->cl k'=some r->k=k') (fE:(V.map kB).Nodup) (hB:V.length<=1000) (hM:rS V=M0)
  (ab:RP Z w T dd q K lent M0 wl.heap wl.os b mb λv=>⟨fn,eI o.dst tm v,.inRegion ops rest::k⟩::os) :
  dn (nR prog Z w T dd q K lent) (⟨82,#[.pointer (some ⟨b,0,none⟩),.int .i64 (V.length:Int),mj,mj,mj,mj,mj,mj,mj,mj,mj,mj,mj,mj,mj,mj,mj,mj,mj,mj,mj,mj,mj,mj,mj,mj,mj,mj,mj,mj],[.code (dT i8)]⟩::⟨fn,tm,.inRegion ops (i::rest)::k⟩::os) wl V:=by
 have HL:=DU G hi ab;obtain⟨n,hn⟩:∃n:Int,n=V.length:=⟨_,rfl⟩;have HA:ka _:=And.intro hb (And.intro jQ (And.intro fv (And.intro rN (And.intro fE (And.intro hB (And.intro hM (And.intro Y (And.intro Aa hn))))))));have HL:ka _:=HL;rw[<-hn];clear hb jQ fv rN fE hB hM Y ab hn Aa;refine dn.sr λkk HK=>?_
 (refine eT ?_; go_simp);refine dn.ie HK ?_;refine dn.sc λkk HK=>?_;refine iF (by kernel_rfl) (by rw[HK.out]; rfl) (.inl (by simp)) λy0 U O=>?_;have HY:ka (y0.heap=wl.heap/\y0.os=wl.os):=⟨U,O⟩;clear U O;have ad:=@kb prog;go_wp2;refine gp ?_;rw[HK.out];obtain⟨hb,jQ,fv,rN,fE,hB,hM,Y,Aa,hn⟩:=HA.out;obtain⟨U,O⟩:=HY.out;have hz:y0.heap.size=mb:=by rw[U,Y]
 obtain⟨w2,aa⟩:∃w2,w2=y0.alloc (.map #[] 0):=⟨_,rfl⟩;have ac:iV prog 170 w2 mb []:=by rw[aa,<-hz]; exact iV.made y0
 have o2:∀r,r<mb->w2.heap[r]?=wl.heap[r]?:=λr hr=>by rw[aa,fV _ _ (by rw[hz]; exact hr),U]
 have p2:w2.os=wl.os:=by rw[aa]; exact O
 rw[<-aa,hz];refine dn.seq (dn.block (dn.loop ?_));exact HL.out _ w2 V cl [] _ _ _ _ _ _ _ _ _ _ _ _ _ _ _ _ _ _ _ _ _ _ _ _ _ _ _ n (ev _) hn hB ⟨(o2 b Aa).trans hb,Aa,ac,jQ,fv,rN,fE,by rw[hM]; exact .refl _,nofun,λr hr _=>o2 r hr,p2⟩
end
end
section
open Go.RowKit Go.Maps
structure lT where
 wZ:Nat
 at':Nat
 name:Wd
 wanted:Bool
 n2:Wd
 tx:Wd
 wt:Int
 tg:Int
def lT.val(m:lT):Value:=.agg #[.int .i64 (m.wZ:Int),.int .i64 (m.at':Int),.string ⟨m.name.toArray⟩,.bool m.wanted,.string ⟨m.n2.toArray⟩,.string ⟨m.tx.toArray⟩,.int .i64 m.wt,.int .i64 m.tg]
def lT.kv(m:lT):Value×Value:=(P3 m.wZ m.at',m.val)
def lT.M6(m:lT):dq:=⟨m.n2,false,m.tx,m.wt,m.tg⟩
def eJ:List lT->Wd->Nat
 |[],_=>0
 |m::l,x=>if m.name=x then max m.wZ (eJ l x)else eJ l x
theorem vO{l m:List lT}(h:l.Perm m)(x:Wd):eJ l x=eJ m x:=by
 induction h with
 |nil=>rfl
 |cons a _ O=>simp only[eJ,O]
 |swap a b l=>
  simp only[eJ];split<;>split<;>omega
 |trans _ _ U Y=>rw[U,Y]
theorem G3(l:List lT)(m:lT)(x:Wd):eJ (l++[m]) x=if m.name=x then max (eJ l x) m.wZ else eJ l x:=by
 rw[vO (cF (l₁:=l) (l₂:=[m]))];show(if m.name=x then max _ (eJ l x)else eJ l x)=_;split
 .rw[Nat.max_comm]
 .rfl
theorem uL{n:Nat}:∀(l:List lT)(x:Wd),(∀m∈l,m.wZ<=n)->eJ l x<=n
 |[],_,_=>ez _
 |m::l,x,h=>by
  have O:=h m (by simp)
  have U:=uL l x (λm hm=>h m (by simp[hm]));simp only[eJ];split<;>omega
def dV(all l:List lT):List dq:=(l.filter λm=>m.wanted&&m.wZ==eJ all m.name).map lT.M6
theorem EQ(all l:List lT)(m:lT):dV all (l++[m])=dV all l++(if(m.wanted&&m.wZ==eJ all m.name)=true then [m.M6]else []):=by
 unfold dV;rw[bU,b8];rw[cx];split<;>rfl
theorem Bn(all l:List lT):(dV all l).length<=l.length:=by unfold dV; rw[bG]; exact ce ..
theorem Fl{all l m:List lT}(h:l.Perm m):(dV all l).Perm (dV all m):=(h.filter _).map _
def my(e:dq):List Value:=[.string ⟨e.name.toArray⟩,.string ⟨e.text.toArray⟩,.int .i64 e.du,.int .i64 e.dD]
def io(es:List dq):List Value:=es.flatMap my
theorem GV(es:List dq)(x:dq):io (es++[x])=io es++my x:=by simp[io]
theorem BK:∀(ws:List dq)(i c:Nat)(h:i<ws.length),c<4->(io ws)[i*4+c]?=(my ws[i])[c]?:=by
 intro ws
 induction ws with
 |nil=>intro i c h; simp at h
 |cons a l O=>
  intro i c h U;have e:io (a::l)=my a++io l:=by simp[io]
  rw[e]
  cases i with
  |zero=>rw[List.getElem?_append_left (by simp[my]; omega)]; simp
  |succ i=>
   rw[List.getElem?_append_right (by simp[my]; omega)];have Y:(my a).length=4:=rfl;rw[Y,show(i+1)*4+c-4=i*4+c by omega,O i c (by simpa using h) U];simp
theorem EJ(x:dq):∀v∈my x,v.oneCell'=true:=by
 intro v O;simp[my]at O;rcases O with rfl|rfl|rfl|rfl<;>rfl
theorem Mo(l:List (Wd×Value)){x y:Wd}(e:y≠x):(l.filter λp=>p.1 != x).find? (λp=>p.1==y)=l.find? (λp=>p.1==y):=by
 induction l with
 |nil=>rfl
 |cons p l U=>
  rw[cx];by_cases O:p.1=x
  .rw[if_neg (by simpa using O),bR];have:(p.1==y)=false:=by simpa[O]using λh=>e h.symm
   rw[this];exact U
  .rw[if_pos (by simpa using O),bR,bR];split
   .rfl
   .exact U
theorem M3(l:List (Wd×Value))(x y:Wd)(v z:Value):mC (qU l x v) y z=if y=x then v else mC l y z:=by
 by_cases e:y=x
 .subst e;unfold mC qU
  have:(l.filter λp=>p.1 != y).find? (λp=>p.1==y)=none:=by
   rw[cL];intro p O;have:=(b7.1 O).2;simpa using this
  rw[cM,this];simp
 .rw[if_neg e];unfold mC qU
  have U:([(x,v)]).find? (λp=>p.1==y)=none:=by
   rw[cL];intro p O;simp only[bH]at O;subst O;simpa using λh=>e h.symm
  rw[cM,U,Option.or_none,Mo l e]
theorem Om(l:List (Wd×Value))(x:Wd)(v:Value):(qU l x v).length<=l.length+1:=by
 unfold qU;rw[bF,cG];have:=ce (λp=>p.1 != x) l;omega
theorem fT.TA{P:Program}{k:ee}{w:World}{B r:Nat}{l rest O:List (Value×Value)}(h:fT P k w B r l rest)(U:rest.Perm O):fT P k w B r l O:=by
 obtain⟨a,b,D,left,cnt,Y,h2,h3⟩:=h;exact⟨(U.map _).nodup_iff.1 a,λp hm=>b p (U.mem_iff.2 hm),D,left,cnt,Y,h2,λkey kl hk=>(h3 key kl hk).trans ⟨λ⟨p,x,y⟩=>⟨p,U.mem_iff.1 x,y⟩,λ⟨p,x,y⟩=>⟨p,U.mem_iff.2 x,y⟩⟩⟩
theorem Af{U O:Type}(f:U->O){l:List U}{p:O}{t:List O}(h:(l.map f).Perm (p::t)):∃m Y,l.Perm (m::Y)/\p=f m/\t.Perm (Y.map f):=by
 obtain⟨m,hm,e⟩:=b4.1 (h.mem_iff.2 (bE ..));obtain⟨a,b,rfl⟩:=cq hm;refine⟨m,a++b,cr,e.symm,?_⟩
 have h1:((a++m::b).map f).Perm (f m::(a++b).map f):=by
  exact cr.map f
 rw[<-e]at h;exact(lc (h.symm.trans h1))
abbrev G7(w:World)(B:Nat)(ms:List lT):Prop:=iV prog 170 w B (ms.map lT.kv)
abbrev lM(w:World)(B r:Nat)(ms O:List lT):Prop:=fT prog 170 w B r (ms.map lT.kv) (O.map lT.kv)
section
variable {B:Nat} {ms:List lT} (w:World) {ops:Array Oper} {rest:List Oper} {o:Oper} {a:Act} {Q:Exit->Act->World->Prop}
theorem se(U:o.guard=none)(m:Operand)(O:o.op=Op.range 129 m)(hm:a.eval m=.map (some B))(h:G7 w B ms)
  (Y:∀w',lM w' B w.heap.size ms ms->w.grownBy w' none->w'.heap.size=w.heap.size+1->er prog ops Q rest (a.put o.dst (.pointer (some ⟨w.heap.size,0,none⟩))) w') :
  er prog ops Q (o::rest) a w:=
 Ae w U m _ O _ Cz hU hm h Y
theorem tH(hg:o.guard=none)(it:Operand)(aa:o.op=Op.next it false)(r:Nat)(U:List lT)(ab:a.eval it=.pointer (some ⟨r,0,none⟩))(h:lM w B r ms U)
  (Y:U=[]->er prog ops Q rest (a.put o.dst (.tuple #[.bool false])) w)
  (hMore:∀(m:lT)(O:List lT)(w':World),U.Perm (m::O)->lM w' B r ms O->w'.rangeLeft B r<w.rangeLeft B r->w.grownBy w' (some r)->w'.heap.size=w.heap.size->(Instr.entry (.pointer (some ⟨r,0,none⟩))).run prog w'=.ok (.tuple #[P3 m.wZ m.at',m.val]) w'->
    er prog ops Q rest (a.put o.dst (.tuple #[.bool true,P3 m.wZ m.at',m.val])) w') :
  er prog ops Q (o::rest) a w:=by
 refine CE w hg it aa Cz r _ ab h (λh0=>Y (by simpa using h0)) ?_;intro p ac w' hp hr ad ae hs he;obtain⟨m,l',h1,rfl,h2⟩:=Af _ hp;exact hMore m l' w' h1 (hr.TA h2) ad ae hs he
end
end
section
open Go.RowKit Go.Maps
theorem Ml:(prog.info? 96).map (λi=>(i.zero,i.size,i.bytes))=some (some (.agg #[.string ⟨#[]⟩,.string ⟨#[]⟩,.int .i64 0,.int .i64 0]),4,48):=by kernel_rfl
theorem pq{α:Type}{U Y O es:List α}{e:α}(h:(U++Y).Perm es)(hp:Y.Perm (e::O)):((U++[e])++O).Perm es:=by
 refine List.Perm.trans ?_ h;rw[cN];exact(la U).append hp.symm
theorem wI{w:World}{base e size n:Nat}{v:Value}{xs:List Value}(h:w.ownsRow base e size v n xs)(o:Obj):(w.alloc o).ownsRow base e size v n xs:=gY h (λk O=>by rw[fV _ _ (h.lt k O).2])
theorem BV(x:dq):∀v∈my x,Flat v:=by
 intro v O;simp[my]at O;rcases O with rfl|rfl|rfl|rfl
 .exact .string _
 .exact .string _
 .exact .int ..
 .exact .int ..
theorem KH:∀u∈(Value.agg #[.string ⟨#[]⟩,.string ⟨#[]⟩,.int .i64 0,.int .i64 0]).cells.toList,Flat u:=by
 intro v O;simp[Value.cells]at O;rcases O with rfl|rfl
 .exact .string _
 .exact .int ..
theorem O2{w:World}{b:Nat}{e:dq}{t:ee}(hb:b=w.heap.size):ql (w.alloc (.cells #[.string ⟨e.name.toArray⟩,.string ⟨e.text.toArray⟩,.int .i64 e.du,.int .i64 e.dD] t)) 4 (.slice (some ⟨b,0,none⟩) 1 1) 1 (my e):=by
 refine⟨some _,1,rfl,ev _,by unfold dk; omega,rfl,λj u O=>⟨b,0,rfl,?_⟩⟩;rw[kr _ _ _ _ hb]
 match j,O with
 |0,O=>simpa[my]using O
 |1,O=>simpa[my]using O
 |2,O=>simpa[my]using O
 |3,O=>simpa[my]using O
 |j+4,O=>simp[my]at O
theorem Dm(B:Nat)(ms:List lT)(w:World)(hs:G7 w B ms)(hl:ms.length<=1048576)(aK:∀m∈ms,m.wZ<=1000/\m.name.length<=dk) :
  dl prog 81 #[.map (some B)] w λen w'=>∃v U,en=.returned v/\List.Perm U ms/\w'.ownsRow w.heap.size 96 4 v (dV ms U).length (io (dV ms U))/\Below w.heap.size w w'/\jK Flat w' v:=by
 obtain⟨i0,hi,aW,aX,aY⟩:=et Ml;have bo:=@kb prog;have HS:ka (G7 _ _ _):=hs;have aC:ka (∀m∈ms,m.wZ<=1000/\m.name.length<=dk):=aK;have bp:=hs.lt;obtain⟨w0,ay⟩:∃w0,w.alloc (.map #[] 0)=w0:=⟨_,rfl⟩;have aA:w0.heap.size=w.heap.size+1:=by rw[<-ay]; simp
 have hb0:Below w.heap.size w w0:=by rw[<-ay]; exact(fm _ _).alloc (ev _) _
 have hM0:dM prog 9 w0 w.heap.size []:=by rw[<-ay]; exact dM.made w
 have aL:ka (G7 w0 B ms):=iV.below hs hb0;clear hs aK;go_enter func81,ntmps81;go_wp2_with (first|(at_range; refine se _ rfl _ rfl rfl aL.out ?_; intro w1 hrg0 hg0 al));rw[aA]at hrg0 al⊢;clear ay;go_frame;go_loopw [4] (λ_ wr=>∃(U ab:List lT)(nl:List (Wd×Value)),(U++ab).Perm ms/\lM wr B (w.heap.size+1) ms ab/\dM prog 9 wr w.heap.size nl/\nl.length<=U.length/\(∀x,mC nl x (.int .i64 0)=.int .i64 (eJ U x:Nat))/\Below w.heap.size w wr/\w.heap.size+2<=wr.heap.size) (λ_ wr=>wr.rangeLeft B (w.heap.size+1))
 case atStart=>exact⟨[],ms,[],la _,hrg0,dM.kept hM0 hg0 (by simp),ev _,λ_=>rfl,hb0.grown hg0 hb0.size (λk hk=>by cases hk),by omega⟩
 case round=>
  obtain⟨U,ab,nl,eE,hr,hm,aZ,aM,hb,hz⟩:=hrel;have HP:ka ((U++ab).Perm ms):=eE;have HR:ka (lM _ _ _ _ _):=hr;have HM:ka (dM _ _ _ _ _):=hm;have az:ka (∀x,mC nl x (.int .i64 0)=.int .i64 (eJ U x:Nat)):=aM;have HB:ka (Below _ _ _):=hb
  have aN:U.length<=ms.length:=by
   have h2:=eE.length_eq;rw[bF]at h2;omega
  clear eE hr hb hm aM aL hM0 hb0 aA hrg0 hg0 al;go_wp2_with (first|(at_next; refine tH _ rfl _ rfl (w.heap.size+1) ab rfl HR.out ?_ ?_))
  .intro h0
   have hE:U.Perm ms:=by
    have:=HP.out;rw[h0,cA]at this;exact this
   have ba:ka (∀x,mC nl x (.int .i64 0)=.int .i64 (eJ ms x:Nat)):=by
    intro x;rw[az.out x,vO hE]
   have aO:ka (G7 wr B ms):=fT.owns HR.out;clear h0 hE HP HR az;go_wp2_with (first|(at_range; refine se _ rfl _ rfl rfl aO.out ?_; intro w1 hrg0 hg0 al));have aP:w.heap.size+3<=w1.heap.size:=by omega
   have aQ:wr.heap.size<w1.heap.size:=by omega
   have HB1:ka (Below w.heap.size w w1):=HB.out.grown hg0 HB.out.size (λk hk=>by cases hk);have HM1:ka (dM prog 9 w1 w.heap.size nl):=dM.kept HM.out hg0 (by simp);have HR1:ka (lM _ _ _ _ _):=hrg0;obtain⟨r,hr⟩:∃r,r=wr.heap.size:=⟨_,rfl⟩;rw[<-hr]at HR1 aQ hz al⊢;have bq:w.heap.size+2<=r:=hz;clear hrg0 hg0 aO HM HB aZ aN hz HS;clear hr;generalize wr=wo at *;go_frame;go_loopw [6] (λg wr=>∃(U ab:List lT),(U++ab).Perm ms/\lM wr B r ms ab/\dM prog 9 wr w.heap.size nl/\wr.ownsRow (r+1) 96 4 g (dV ms U).length (io (dV ms U))/\Below w.heap.size w wr/\r+1<=wr.heap.size/\jK Flat wr g) (λ_ wr=>wr.rangeLeft B r)
   case atStart=>exact⟨[],ms,la _,HR1.out,HM1.out,kf _ _ _ _,HB1.out,by omega,Iw _ _ _ _⟩
   case round=>
    obtain⟨O,am,eE,hr,hm,an,hb,hz,aR⟩:=hrel;have HP:ka ((O++am).Perm ms):=eE;have HR:ka (lM _ _ _ _ _):=hr;have HM:ka (dM _ _ _ _ _):=hm;obtain⟨ag,cg,rfl,br⟩:=iX an;have HO:ka (wr.ownsRow (r+1) 96 4 (.slice ag (dV ms O).length cg) (dV ms O).length (io (dV ms O))):=an;have HB:ka (Below _ _ _):=hb;have HF:ka (jK Flat wr (.slice ag (dV ms O).length cg)):=aR;clear aR
    have aN:(dV ms O).length<=ms.length:=by
     have h1:=Bn ms O;have h2:=eE.length_eq;rw[bF]at h2;omega
    clear eE hr hb hm an HR1 HM1 HB1 al aP aQ;go_wp2_with (first|(at_next; refine tH _ rfl _ rfl r am rfl HR.out ?_ ?_))
    .intro h0
     have hE:O.Perm ms:=by
      have:=HP.out;rw[h0,cA]at this;exact this
     have HE:ka _:=hE;clear h0 hE HP HR;go_wp2;go_ret;exact⟨_,O,rfl,HE.out,jE HO.out (by omega),HB.out,HF.out⟩
    .intro m Y w2 ai ac ae ad aD ao;have ap:=fT.lt ac;have aq:=iV.lt (fT.owns ac);have HB1:ka (Below w.heap.size w w2):=lG HB.out ad (by omega);have HR1:ka (lM _ _ _ _ _):=ac;have HM1:ka (dM prog 9 w2 w.heap.size nl):=dM.stay HM.out (ad.block _ (by omega) (by simp; omega));have aE:ka (w2.rangeLeft B r<wr.rangeLeft B r):=ae;have ar:ka (am.Perm (m::Y)):=ai;have aF:ka (w2.ownsRow (r+1) 96 4 (.slice ag (dV ms O).length cg) (dV ms O).length (io (dV ms O))):=gY HO.out (λk hk=>ad.block k (HO.out.lt k hk).2 (by have:=(HO.out.lt k hk).1; intro e; cases e; omega));have bc:ka (jK Flat w2 (.slice ag (dV ms O).length cg)):=HF.out.stay (λk hk=>ad.block k (HO.out.lt k hk).2 (by have:=(HO.out.lt k hk).1; intro e; cases e; omega));have aS:r+1<=w2.heap.size:=by omega
     have au:=aC.out m (HP.out.mem_iff.1 (cc _ (ai.mem_iff.2 (bE ..))));have av:ka _:=EQ ms O m;have a0:ka _:=au;have bs:eJ ms m.name<=1000:=uL ms m.name (λm hm=>(aC.out m hm).1);clear ai ac ae ad aD au HR HM HB HO;obtain⟨sg,at',nm,wd,n2,tx,wt,tg⟩:=m;simp only[lT.val,P3]at ao⊢;obtain⟨wa,af⟩:∃wa,wa=((w2.alloc (.cells #[.int .i64 (sg:Int),.int .i64 (at':Int)] 170)).alloc (.cells #[.int .i64 (sg:Int),.int .i64 (at':Int),.string ⟨nm.toArray⟩,.bool wd,.string ⟨n2.toArray⟩,.string ⟨tx.toArray⟩,.int .i64 wt,.int .i64 tg] 172)):=⟨_,rfl⟩;have aa:Below w2.heap.size w2 wa:=by rw[af]; exact(((fm _ _).alloc (ev _) _).alloc (by simp) _)
     have bt:wa.heap.size=w2.heap.size+2:=by rw[af]; simp
     have a5:ka (lM wa B r ms Y):=fT.stay HR1.out (aa.block B aq) (aa.block _ ap);have a':ka (dM prog 9 wa w.heap.size nl):=dM.below HM1.out aa;have aj:ka (wa.ownsRow (r+1) 96 4 (.slice ag (dV ms O).length cg) (dV ms O).length (io (dV ms O))):=gY aF.out (λk hk=>aa.block k (aF.out.lt k hk).2);have aG:ka (jK Flat wa (.slice ag (dV ms O).length cg)):=bc.out.stay (λk hk=>aa.block k (aF.out.lt k hk).2);have aH:ka (Below w.heap.size w wa):=HB1.out.trans (aa.mono (by omega))
     have HLa:ka (wa.rangeLeft B r<wr.rangeLeft B r):=by
      show _<_;rw[eu.jG (aa.block B aq) (aa.block _ ap)];exact aE.out
     cases wd with
     |false=>
      have ah:ka (dV ms (O++[⟨sg,at',nm,false,n2,tx,wt,tg⟩])=dV ms O):=by show _=_; rw[av.out]; simp
      clear aa;go_wp2;rw[<-af];go_roundw
      case rel=>
       exact⟨O++[⟨sg,at',nm,false,n2,tx,wt,tg⟩],Y,pq HP.out ar.out,a5.out,a'.out,by rw[ah.out]; exact aj.out,aH.out,by omega,aG.out⟩
      case measure=>exact HLa.out
     |true=>
      have ak:=(a'.out.look (z:=.int .i64 0) fs ge (by kernel_rfl) nm a0.out.2).1;rw[ba.out nm,af]at ak;by_cases hq:sg=eJ ms nm
      .have ah:ka (dV ms (O++[⟨sg,at',nm,true,n2,tx,wt,tg⟩])=dV ms O++[⟨n2,false,tx,wt,tg⟩]):=by show _=_; rw[av.out]; simp[hq,lT.M6]
       rw[<-hq]at ak;clear aa hq
       go_wp2_with (first
        |(at_builtin; rw[<-af]; refine uw (F:=Flat) _ rfl _ _ 82 rfl (r+1) 96 i0 _ 4 48 i1 hi aW aX aY rfl (by decide) _ _ _ rfl (wI aj.out _) _ 1 _ rfl (O2 (e:=⟨n2,false,tx,wt,tg⟩) (by omega)) (EJ _) ?c1 ?c2 ?c3 (by decide) (aG.out.stay (λk hk=>fV _ _ (aj.out.lt k hk).2)) (BV _) KH ?_))
       case c1=>omega
       case c2=>unfold dk; omega
       case c3=>first|omega|(simp; omega)
       intro v3 w3 aw ax aB;rw[<-af]at ax;have bn:wa.heap.size<=w3.heap.size:=by have:=ax.size; simp at this; omega
       have hold:∀j,j<wa.heap.size->j<r+1->w3.heap[j]?=wa.heap[j]?:=λj hj bu=>by
        rw[ax.block j (by simp; omega) (λe=>by have:=(aj.out.lt j e.symm).1; omega),fV _ _ hj]
       have aT:B<wa.heap.size:=iV.lt (fT.owns a5.out);have bd:ka (lM w3 B r ms Y):=fT.stay a5.out (hold B aT (by omega)) (hold r (by omega) (by omega));have be:ka (dM prog 9 w3 w.heap.size nl):=dM.stay a'.out (hold _ (by omega) (by omega))
       have bf:ka (w3.ownsRow (r+1) 96 4 v3 (dV ms (O++[⟨sg,at',nm,true,n2,tx,wt,tg⟩])).length (io (dV ms (O++[⟨sg,at',nm,true,n2,tx,wt,tg⟩])))):=by
        show w3.ownsRow _ _ _ _ _ _;rw[ah.out,GV,bF];exact aw
       have bg:ka (Below w.heap.size w w3):=(aH.out.alloc (by omega) _).grown ax (by simp; omega) (λb hb=>by have:=(aj.out.lt b hb).1; omega)
       have HL3:ka (w3.rangeLeft B r<wr.rangeLeft B r):=by
        show _<_;rw[eu.jG (hold B aT (by omega)) (hold r (by omega) (by omega))];exact HLa.out
       have bh:ka (jK Flat w3 v3):=aB;clear aB aw ax hold ak ao af;go_wp2;go_roundw
       case rel=>
        exact⟨O++[⟨sg,at',nm,true,n2,tx,wt,tg⟩],Y,pq HP.out ar.out,bd.out,be.out,bf.out,bg.out,by omega,bh.out⟩
       case measure=>exact HL3.out
      .have ah:ka (dV ms (O++[⟨sg,at',nm,true,n2,tx,wt,tg⟩])=dV ms O):=by show _=_; rw[av.out]; simp[hq]
       have bv:¬((sg:Int)=(eJ ms nm:Int)):=by omega
       clear aa;go_wp2;rw[<-af];go_roundw
       case rel=>
        exact⟨O++[⟨sg,at',nm,true,n2,tx,wt,tg⟩],Y,pq HP.out ar.out,a5.out,a'.out,by rw[ah.out]; exact aj.out,aH.out,by omega,aG.out⟩
       case measure=>exact HLa.out
  .intro m Y w2 ai ac ae ad aD ao;have ap:=fT.lt ac;have aq:=iV.lt (fT.owns ac);have HB1:ka (Below w.heap.size w w2):=lG HB.out ad (by omega);have HR1:ka (lM _ _ _ _ _):=ac;have HM1:ka (dM prog 9 w2 w.heap.size nl):=dM.stay HM.out (ad.block _ (by omega) (by simp));have aE:ka (w2.rangeLeft B (w.heap.size+1)<wr.rangeLeft B (w.heap.size+1)):=ae;have ar:ka (ab.Perm (m::Y)):=ai;have aS:w.heap.size+2<=w2.heap.size:=by omega
   have au:=aC.out m (HP.out.mem_iff.1 (cc _ (ai.mem_iff.2 (bE ..))));have aU:=G3 U m;have av:ka _:=aU;have a0:ka _:=au;clear ai ac ae ad aD aU au;obtain⟨sg,at',nm,wd,n2,tx,wt,tg⟩:=m;simp only[lT.val,P3]at ao⊢
   have aI:ka (dM prog 9 ((w2.alloc (.cells #[.int .i64 (sg:Int),.int .i64 (at':Int)] 170)).alloc (.cells #[.int .i64 (sg:Int),.int .i64 (at':Int),.string ⟨nm.toArray⟩,.bool wd,.string ⟨n2.toArray⟩,.string ⟨tx.toArray⟩,.int .i64 wt,.int .i64 tg] 172)) w.heap.size nl):=
    dM.below HM1.out (((fm _ _).alloc (ev _) _).alloc (by simp) _)
   have ak:=(aI.out.look (z:=.int .i64 0) fs ge (by kernel_rfl) nm a0.out.2).1;rw[az.out nm]at ak;go_wp2_with (first|(at_mapUpdate; refine jq _ rfl _ _ _ 179 rfl 3 fs ge rfl aI.out ?c1 nm a0.out.2 rfl _ rfl ?_))
   case c1=>unfold dk; omega
   intro w5 aV aJ bw;have bi:ka _:=aV;have aa:Below w2.heap.size w2 ((w2.alloc (.cells #[.int .i64 (sg:Int),.int .i64 (at':Int)] 170)).alloc (.cells #[.int .i64 (sg:Int),.int .i64 (at':Int),.string ⟨nm.toArray⟩,.bool wd,.string ⟨n2.toArray⟩,.string ⟨tx.toArray⟩,.int .i64 wt,.int .i64 tg] 172)):=(((fm _ _).alloc (ev _) _).alloc (by simp) _);have hold:∀j,j<w2.heap.size->j≠w.heap.size->w5.heap[j]?=w2.heap[j]?:=λj hj bj=>(aJ.block j (by simp; omega) (by simp; exact λe=>bj e)).trans (aa.block j hj);have bk:ka (lM w5 B (w.heap.size+1) ms Y):=fT.stay HR1.out (hold B aq (by omega)) (hold _ ap (by omega))
   have HL5:ka (w5.rangeLeft B (w.heap.size+1)<wr.rangeLeft B (w.heap.size+1)):=by
    show _<_;rw[eu.jG (hold B aq (by omega)) (hold _ ap (by omega))];exact aE.out
   have bl:ka (Below w.heap.size w w5):=by
    show Below _ _ _;refine(HB1.out.trans (aa.mono (by omega))).grown aJ (by simp; omega) (λb hb=>?_);cases hb;exact ev _
   have bm:w.heap.size+2<=w5.heap.size:=by omega
   clear ak aJ aV hold aa aI ao;go_wp2;go_roundw
   case rel=>
    refine⟨U++[⟨sg,at',nm,wd,n2,tx,wt,tg⟩],Y,_,pq HP.out ar.out,bk.out,bi.out,?_,λx=>?_,bl.out,bm⟩
    .have:=Om nl nm (.int .i64 (max (eJ U nm) sg));rw[bF,cG];omega
    .rw[M3,av.out x,az.out x];by_cases e:x=nm
     .subst e;simp;omega
     .rw[if_neg e,if_neg (λh=>e h.symm)]
   case measure=>exact HL5.out
end
section
open Go.RowKit Go.Sort D
variable {F cur:Array Value}
theorem PY(x y:Int):CV x y<0↔x<y:=by
 unfold CV;split
 .exact⟨λ_=>by assumption,λ_=>by omega⟩
 .split<;>constructor<;>intro h<;>omega
theorem BZ(x y:Int):CV x y=0↔x=y:=by
 unfold CV;split
 .constructor<;>intro h<;>omega
 .split<;>constructor<;>intro h<;>omega
theorem SF(x y:dq):ltOf TQ x y=true↔eK x y=true:=by
 unfold ltOf TQ eK;rw[decide_eq_true_eq];by_cases h:x.du=y.du
 .rw[if_pos h,if_neg (by rw[kx]; exact(BZ ..).2 h.symm)];by_cases O:dF x=dF y
  .rw[if_pos O,if_neg (by rw[kx]; exact(ry ..).2 O),xi]
  .rw[if_neg O,if_pos (λe=>O ((ry ..).1 e)),xi]
 .rw[if_neg h,if_pos (λe=>h ((BZ ..).1 e).symm),PY];simp
theorem AM(x y:dq):eK x y=true\/(x.du=y.du/\dF x=dF y/\x.name=y.name)\/eK y x=true:=by
 unfold eK;by_cases h:x.du=y.du
 .rw[if_pos h,if_pos h.symm];by_cases U:dF x=dF y
  .rw[if_pos U,if_pos U.symm];rcases il .. with O|O|O
   .exact .inl O
   .exact .inr (.inl ⟨h,U,O⟩)
   .exact .inr (.inr O)
  .rw[if_neg U,if_neg (λe=>U e.symm)];rcases il .. with O|O|O
   .exact .inl O
   .exact absurd O U
   .exact .inr (.inr O)
 .rw[if_neg h,if_neg (λe=>h e.symm)];simp only[decide_eq_true_eq];omega
theorem IL{x y z:dq}(h:x.du=y.du/\dF x=dF y/\x.name=y.name)(O:eK x z=true):eK y z=true:=by
 unfold eK at *;rw[<-h.1,<-h.2.1,<-h.2.2];exact O
def uc(e:dq):dq:={e with text:=e.text.take 1048576}
theorem Dd{e:dq}(h:e.text.length<=1048576):uc e=e:=by
 unfold uc;rw[cb h]
theorem ET(e:dq):(uc e).text.length<=1048576:=by
 show(e.text.take _).length<=_;rw[ct];omega
def RH(x y:dq):Int:=TQ (uc x) (uc y)
def vf(e:dq):List Value:=my (uc e)
theorem uI(x y:dq):ltOf RH x y=true↔eK (uc x) (uc y)=true:=SF ..
theorem Q7:SWO (ltOf RH) where
 irrefl x:=by
  cases h:ltOf RH x x with
  |false=>rfl
  |true=>rw[uI,tw]at h; cases h
 trans x y z h1 h2:=by rw[uI]at *; exact mf h1 h2
 ntrans x y z h1 h2:=by
  cases O:ltOf RH x z with
  |false=>rfl
  |true=>
   rw[uI]at O;have n1:¬eK (uc x) (uc y)=true:=by rw[<-uI,h1]; simp
   have n2:¬eK (uc y) (uc z)=true:=by rw[<-uI,h2]; simp
   rcases AM (uc x) (uc y)with h|h|h
   .exact absurd h n1
   .exact absurd (IL h O) n2
   .exact absurd (mf h O) n2
theorem Pn(blk off size:Nat)(w:World):CmpLays prog 84 #[] vf 4 RH blk off size w:=by
 intro m os O _ x y;refine(Gn _ _ _ (ET x) (ET y)).mono ?_;rintro e w' ⟨rfl,h⟩;exact⟨rfl,Ou h⟩
theorem MJ(x:dq):∀v∈vf x,v.oneCell'=true:=EJ _
theorem uj(es:List dq):(io es).length=es.length*4:=by
 induction es with
 |nil=>rfl
 |cons a l O=>
  have e:io (a::l)=my a++io l:=by simp[io]
  rw[e];simp[my];omega
theorem yR(es:List dq)(h:∀e∈es,e.text.length<=1048576):(l4 vf 4 es.toArray).toList=io es:=by
 apply bY;intro j;by_cases Y:j<es.length*4
 .have hs:j<(l4 vf 4 es.toArray).size:=by simpa using Y
  have U:j / 4<es.length:=by omega
  have e1:es.toArray[j / 4]! = es[j / 4]:=by rw[getElem!_pos _ _ (by simpa using U)]; simp
  have g:=get_flatK vf 4 es.toArray j (by simpa using Y);rw[e1]at g;have O:=Dd (h _ (bB U));unfold vf at g;rw[O]at g;have:=BK es _ (j % 4) U (by omega);rw[show j / 4*4+j % 4=j by omega]at this;rw[this];have O:j % 4<(my es[j / 4]).length:=by simp[my]; omega
  rw[getElem!_pos (my _) _ O,getElem!_pos _ j hs]at g;rw[b6 O,<-g,cY,cU hs];rfl
 .rw[bI (by simp; omega),bI (by rw[uj]; omega)]
theorem LL{w:World}{base e n m cap g:Nat}{ws:List dq}(h:w.ownsRow base e 4 (.slice (some ⟨g,0,none⟩) m cap) n (io ws))(hn:n=ws.length)(hb:∀e∈ws,e.text.length<=1048576):HoldsK vf 4 w g 0 ws.toArray:=by
 subst hn;intro j Y;rw[lB]at Y;have hs:j<(l4 vf 4 ws.toArray).size:=by simpa using Y
 have O:(io ws)[j]?=some ((l4 vf 4 ws.toArray)[j]!):=by
  rw[<-yR ws hb,getElem!_pos _ j hs,cY,cU hs]
 rcases h.2 with⟨h0,_⟩|⟨g',aa,cur,he,_,hg,_,_,ab,U⟩
 .simp at h0
 .obtain⟨⟨rfl,_⟩,_,rfl⟩:=he;refine⟨?_,?_⟩
  .rw[dh hg];rw[<-U,bS,if_pos (by omega)]at O;simpa using O
  .simp[World.frozen?,hg]
theorem Nb(h:F.size<=cur.size):(l3 id 0 F cur).toList.take F.size=F.toList:=by
 apply bY;intro j;by_cases O:j<F.size
 .rw[bS,cY];unfold l3;rw[db,cU (by omega)];simp only[lp,ez,Nat.zero_add,true_and,O,if_true,Nat.sub_zero,id];rw[getElem!_pos F j O,cY,cU O]
 .rw[bI (by simp; omega),bI (by simp; omega)]
theorem PF{u:Value}(h:u∈(l3 id 0 F cur).toList):u∈F.toList\/u∈cur.toList:=by
 unfold l3 at h;simp at h;obtain⟨i,hi,rfl⟩:=h;split
 .rename_i O;rw[getElem!_pos F i O];simp
 .simp
theorem OX(base:Nat)(au:Option Addr)(cu:Nat)(es:List dq)(w:World)(U:w.ownsRow base 96 4 (.slice au es.length cu) es.length (io es))(am:(es.map dq.name).Nodup)(hl:es.length<=1048576)(hb:∀e∈es,e.text.length<=1048576)(ah:jK Flat w (.slice au es.length cu)) :
  dl prog 83 #[.slice au es.length cu,.func (.func 84) #[] #[]] w λe w2=>e=.returned (.tuple #[])/\Below base w w2/\
   ∃L:List dq,L.Perm es/\L.Pairwise (λx y=>eK x y=true)/\w2.ownsRow base 96 4 (.slice au es.length cu) es.length (io L)/\jK Flat w2 (.slice au es.length cu):=by
 rcases U.2 with⟨he,hn⟩|⟨g,cap,cur,he,Y,ac,h1,h2,h3,h4⟩
 .have hG:es=[]:=bZ.1 (by simpa using hn);subst hG;have O:=AnyF.slices_SortFunc_none JW au cu (.func (.func 84) #[] #[]) w;change dl prog 83 _ _ _ at O;refine O.mono ?_;rintro e w2 ⟨rfl,rfl⟩;exact⟨rfl,fm _ _,[],la _,List.Pairwise.nil,U,ah⟩
 .simp only[l2]at he;obtain⟨rfl,_,rfl⟩:=he;have ad:g<w.heap.size:=(cT.1 ac).1
  have O:=AnyQ.slices_SortFunc JW 4 isAgg96 sizeOf96 vf (λ_=>rfl) MJ RH Q7 84 #[] g 0 cu es.toArray w
   (enters_of func84 (by kernel_rfl) rfl) (Pn g 0 _ w) (LL U rfl hb) ad (by simp; omega)
  change dl prog 83 _ _ _ at O;refine O.mono ?_;rintro e w2 ⟨rfl,d',nq,os,hp,hs,rfl⟩;have ae:d'.size=es.length:=by rw[hp.1]; simp
  have ai:(sortWorldK vf 4 w g 0 nq d' os).heap[g]?=some (.cells (l3 id 0 (l4 vf 4 d') cur) 96 (0,0)):=by
   unfold sortWorldK putRowK;rw[heap_grow_old _ _ (by simpa using ad)];simp[putRow,mapBlock,Sort.ahead,Array.getElem?_modify,ac,onCells]
  have eE:d'.toList.Perm es:=by
   have e1:d'.extract 0 es.toArray.size=d':=by rw[<-hp.1]; simp
   have e2:es.toArray.extract 0 es.toArray.size=es.toArray:=by simp
   have p3:=hp.2.2;rw[e1,e2]at p3;exact p3
  have af:∀e∈d'.toList,e.text.length<=1048576:=λe he=>hb e (eE.mem_iff.1 he)
  have hF:=by
   have:=yR _ af;simpa using this
  have aj:(l4 vf 4 d').size=es.length*4:=by rw[lB,ae]
  have ag:d'.toList.Pairwise (λx y=>eK x y=true):=by
   have aa:=(eE.map _).nodup_iff.2 am;rw[cD];intro i j hi hj ak;have an:d'.toList.length=es.toArray.size:=by simpa using ae
   have h:=hs i j (ez _) ak (by omega);have gi:d'[i]! = d'.toList[i]:=by rw[getElem!_pos d' i _]; rfl
   have gj:d'[j]! = d'.toList[j]:=by rw[getElem!_pos d' j _]; rfl
   rw[gi,gj]at h;have ci:=Dd (af _ (bB hi));have cj:=Dd (af _ (bB hj));rcases AM _ _ with h'|h'|h'
   .exact h'
   .rw[cC,bV,cD]at aa;exact absurd h'.2.2 (aa i j hi hj ak)
   .have:ltOf RH d'.toList[j] _=true:=(uI ..).2 (by rw[ci,cj]; exact h');rw[h]at this;cases this
  refine⟨rfl,vk Y ad,d'.toList,eE,ag,⟨by rw[uj]; simp[ae],.inr ⟨g,cu,_,rfl,Y,ai,h1,h2,by simp[l3,h3],?_⟩⟩,?_⟩
  .rw[<-aj,Nb (by rw[aj,h3]; exact Nat.mul_le_mul_right _ h1),hF]
  .intro g' cs e' f al ab u hu;simp only[Value.ownBlock,kN]at al;subst al;rw[ai]at ab;obtain⟨rfl,_⟩:=ab;rcases PF hu with h|h
   .rw[hF]at h;obtain⟨x,_,hx⟩:=cP.1 h;exact BV x u hx
   .exact ah g cur _ _ rfl ac u h
end
section
open Go.Conc Go.RowKit Go.Maps
variable {n:Nat} {cl:Nat->Option Nat}
theorem tO(w:World)(a:Addr)(v:Value):(w.setCell a v).heap.size=w.heap.size:=by simp
def JG(c:Code):Code:=match c with
 |.seq _ (.seq _ (.seq _ y))=>y
 |_=>.skip
theorem NG:f80.name≠ "runtime.NumGoroutine":=by
 decide
theorem E6:i8.name≠ "runtime.NumGoroutine":=by
 decide
def l9(cl:Nat->Option Nat)(n r:Nat):Nat->Option Nat:=λk=>if k=n then some r else cl k
theorem Jk{r:Nat}(h:n<7):(mB cl).set! n (.chan (some r))=mB (l9 cl n r):=by
 rcases(by omega:n=0\/n=1\/n=2\/n=3\/n=4\/n=5\/n=6)with rfl|rfl|rfl|rfl|rfl|rfl|rfl<;>rfl
def pF(A:Ask)(num:Nat)(p:Nat×dq):lT:=if A.has p.2=true then⟨num,p.1,p.2.name,true,ui p.2,p.2.text,p.2.du,p.2.dD⟩else⟨num,p.1,p.2.name,false,[],[],0,0⟩
theorem Fv(A:Ask)(num:Nat)(p:Nat×dq):(pF A num p).val=l7 A num p:=by
 unfold pF l7;split<;>rfl
structure Et(ms:List lT):Prop where
 len:ms.length<=1048576
 each:∀m∈ms,m.wZ<=1000/\m.at'<4611686018427387904/\m.name.length<=dk
 places:(ms.map λm=>(m.wZ,m.at')).Nodup
 names:((dV ms ms).map dq.name).Nodup
 texts:∀e∈dV ms ms,e.text.length<=1048576
theorem PA{a b c d:Nat}(h:P3 a b=P3 c d):a=c/\b=d:=by
 unfold P3 at h;simp only[Value.agg.injEq,Array.mk.injEq,List.cons.injEq,Value.int.injEq,true_and,and_true]at h;omega
theorem Et.all{ms:List lT}(h:Et ms):NM (ms.map lT.val) where
 met:=λv U=>by
  obtain⟨m,hm,rfl⟩:=b4.1 U;have:=h.each m hm;exact⟨m.wZ,m.at',_,_,_,_,_,_,by omega,this.2.1,rfl⟩
 nodup:=by
  rw[bC];have O:=h.places;rw[cC,bV]at O⊢;refine O.imp fun {x y} hne e=>hne ?_;have:=PA (a:=x.wZ) (b:=x.at') (c:=y.wZ) (d:=y.at') e;rw[this.1,this.2]
 len:=by
  rw[bG];have:=h.len;unfold dk;omega
theorem QT{ms:List lT}{l:List (Value×Value)}(U:(l.map kG).Perm (ms.map lT.val))(Y:∀p∈l,p.1=M8 p.2):l.Perm (ms.map lT.kv):=by
 have e:l=(l.map kG).map λv=>(M8 v,v):=by
  rw[bC];conv=>lhs; rw[<-cH l]
  refine bK λp hp=>?_;show p=(M8 _,p.2);rw[<-Y p hp]
 have O:=U.map λv=>(M8 v,v);rw[bC (l:=ms)]at O;rw[e];exact O
def N8(ms:List lT)(L:List dq):Prop:=L.Perm (dV ms ms)/\L.Pairwise λx y=>eK x y=true
def BS(ms:List lT)(l cp:Nat):Prop:=l=0/\cp=0/\N8 ms []
def BR(ms:List lT)(off:Nat)(spot:Option Nat)(l cp:Nat)(cs:Array Value)(e:ee)(f:Nat×Nat):Prop:=
 off=0/\spot=none/\e=96/\f=(0,0)/\∃L,N8 ms L/\l=L.length/\l<=cp/\cp<=dk/\cs.size=cp*4/\cs.toList.take (l*4)=io L
section
variable {Z:iS prog} {w:World} {T:List Frame} {dd q K:Nat} {wl:World} {V:Vs}
theorem CB{A:Ask}{es:List dq}{ex:Obj}{sa:Option Addr}{sc bx b s:Nat}{ms ms0:List lT}{a2 a3 a4 a6 a8 a9 a10 a11 a12 bg bh a15 a16 a17 a18 a19 a20 a21 a22 a23 a24 a25 a26 a27 a28 a29 bi bj bk bl bm bn bo bp bq br bs:Value}(hT:∀ps,T=[ps]->ps.mode≠.panicking [ei])
  (hs:s=wl.heap.size) (hA:A.Ok) (hK:K<=s+5) (h5:5<=s) (ah:dd<s) (ai:5<=q) (hq:q<w.heap.size) (ab:w.heap[q]?=some ex) (hM:rz ex es) (ac:∀(r:Nat)a c,wl.heap[r]?≠some (.map a c))
  (hl:es.length<=100000) (aj:∀e∈es,e.name.length<=dk/\e.text.length<=1048576/\(e.gone=false->0<=e.dD/\e.dD<=255)) (hn:n<=6) (hV:∀x∈V,x.1<s)
  (ak:wl.heap[bx]?=some (.cells #[.int .i64 A.m,.string A.q,.int .i64 A.t] 94 (0,0))) (hb:wl.heap[b]?=some (.cells (mB cl) 125 (0,0)))
  (al:∀k,n<=k->cl k=none) (jQ:∀k r,k<7->cl k=some r->∃vs,(r,some vs)∈V) (fv:∀x∈V,∃k vs,k<7/\cl k=some x.1/\x.2=some vs) (rN:∀k k' r,k<7->k'<7->cl k=some r->cl k'=some r->k=k') (fE:(V.map kB).Nodup) (ad:V.length=n)
  (am:rS V=ms0.map lT.val) (an:ms=(fM es).map (pF A n)++ms0) (ae:Et ms)
  (fin:∀(E₂:Env prog)aO aK aP,E₂.Z=Z->E₂.T=T->E₂.w0=w->(aK=[]\/∃k2,aK=.code .ret::k2)->BH prog E₂ Tryz.f49 aO aP (BS ms) (BR ms)->dn E₂ [⟨49,aO,aK⟩] aP []) :
  dn (nR prog Z w T dd q K false) [⟨49,#[.slice sa n sc,.map (some dd),a2,a3,a4,.pointer (some ⟨bx,0,none⟩),a6,.pointer (some ⟨b,0,none⟩),a8,a9,a10,a11,a12,bg,bh,a15,a16,a17,a18,a19,a20,a21,a22,a23,a24,a25,a26,a27,a28,a29,bi,bj,bk,bl,bm,bn,bo,bp,bq,br,bs],[.code (JG (dT Tryz.f49))]⟩] wl V:=by
 have HA:ka _:=And.intro hs (And.intro hA (And.intro hK (And.intro h5 (And.intro ah (And.intro ai (And.intro hq (And.intro ab (And.intro hM (And.intro ac (And.intro hl (And.intro aj (And.intro hn (And.intro hV (And.intro ak hb))))))))))))));have HC:ka _:=And.intro al (And.intro jQ (And.intro fv (And.intro rN (And.intro fE (And.intro ad (And.intro am (And.intro an (And.intro ae (And.intro fin hT)))))))));clear hs hA hK h5 ah ai hq ab hM ac hl aj hn hV ak hb al jQ fv rN fE ad am an ae fin hT;show dn _ [⟨_,_,[.code (.seq (.region 7 _ false) (.seq (.region 8 _ false) (.seq (.region 9 _ false) (.seq (.region 10 _ false) .ret))))]⟩] _ _;refine dn.sr λkk HK=>?_
 (iterate 5 (refine eT ?_; go_simp));refine lL rfl (by rfl) (by kernel_rfl) λy0 Y ap=>?_;have e0:y0.cell? ⟨bx,0,none⟩=some (.int .i64 A.m):=by rw[dh (by rw[Y]; exact HA.out.2.2.2.2.2.2.2.2.2.2.2.2.2.2.1)]; rfl
 have e1:y0.cell? ⟨bx,1,none⟩=some (.string A.q):=by rw[dh (by rw[Y]; exact HA.out.2.2.2.2.2.2.2.2.2.2.2.2.2.2.1)]; rfl
 have e2:y0.cell? ⟨bx,2,none⟩=some (.int .i64 A.t):=by rw[dh (by rw[Y]; exact HA.out.2.2.2.2.2.2.2.2.2.2.2.2.2.2.1)]; rfl
 have HY:ka (y0.heap=wl.heap/\y0.os=wl.os):=⟨Y,ap⟩;clear Y ap;unfold gh;go_simp;simp only[iM];obtain⟨hs,hA,hK,h5,ah,ai,hq,ab,hM,ac,hl,aj,hn,hV,ak,hb⟩:=HA.out;rw[<-HY.out.1]at hs ac ak hb;clear e0 e1 e2;refine dn.qA #[.int .i64 (n:Int),.map (some dd),.agg #[.int .i64 A.m,.string A.q,.int .i64 A.t],mj,mj,mj,mj,mj,mj,mj,mj] (i:=6) (gK:=f80) (c:=dT f80) rfl rfl func80 (by kernel_rfl) NG rfl (by simp[dP]) (by kernel_rfl) ?_;refine zR n A es ex s hs rfl hA hK h5 ah ai hq ab hM ac hl aj (by omega) hV λw2 z2 o2 aQ p2=>?_;obtain⟨al,jQ,fv,rN,fE,ad,am,an,ae,fin,hT⟩:=HC.out;have aw:b<s:=by rw[hs]; exact(cT.1 hb).1
 have aB:w2.heap[b]?=some (.cells (mB cl) 125 (0,0)):=(o2 b aw).trans hb;have aR:n<7:=by omega
 have H2:ka _:=And.intro z2 (And.intro o2 (And.intro p2 (And.intro aB aw)));clear al jQ fv rN fE ad am an ae fin hT hs hA hK h5 ah ai hq ab hM ac hl aj hV ak hb hn z2 o2 aQ p2 aB aw;rw[fF];go_simp;have aS:(n:Int)<7:=by omega
 (refine eT ?_; go_simp);clear aS;refine lL rfl (by rfl) (by kernel_rfl) λy1 ao aq=>?_;have gb:y1.heap[b]?=some (.cells (mB cl) 125 (0,0)):=by rw[ao]; exact H2.out.2.2.2.1
 have e0:y1.cell? ⟨b,n,none⟩=some (.chan (cl n)):=by
  rw[dh gb];rcases(by omega:n=0\/n=1\/n=2\/n=3\/n=4\/n=5\/n=6)with rfl|rfl|rfl|rfl|rfl|rfl|rfl<;>rfl
 have f0:y1.frozen? ⟨b,n,none⟩=false:=dK gb n;have aC:ka (y1.heap=w2.heap/\y1.os=w2.os):=⟨ao,aq⟩;have HG:ka _:=gb;clear ao aq gb;unfold gh;go_simp;simp only[iM];clear e0 f0;obtain⟨w3,av⟩:∃w3,w3=y1.setCell ⟨b,n,none⟩ (.chan (some (s+3))):=⟨_,rfl⟩;have g3:w3.heap[b]?=some (.cells (mB (l9 cl n (s+3))) 125 (0,0)):=by rw[av,heap_set HG.out n (.chan (some (s+3))),<-Jk aR]; simp only[cZ]
 have o3:∀r,r≠b->w3.heap[r]?=w2.heap[r]?:=λr hr=>by rw[av,fk _ _ _ _ hr,aC.out.1]
 have z3:w3.heap.size=s+5:=by rw[av,tO,aC.out.1]; exact H2.out.1
 have p3:w3.os=w2.os:=by rw[av,pB]; exact aC.out.2
 rw[<-av];clear av HG aC y1;have H3:ka _:=And.intro g3 (And.intro o3 (And.intro z3 p3));clear g3 o3 z3 p3;refine dn.ie HK ?_;clear HK kk;refine dn.sr λkk HK=>?_
 (iterate 3 (refine eT ?_; go_simp));have aT:IntKind.i64.wrap ((n:Int)+1)=(n:Int)+1:=by simp only[lo]; omega
 rw[aT];clear aT;obtain⟨al,jQ,fv,rN,fE,ad,am,an,ae,fin,hT⟩:=HC.out;obtain⟨hs,hA,hK,h5,ah,ai,hq,ab,hM,ac,hl,aj,hn,hV,ak,hb⟩:=HA.out;obtain⟨g3,o3,z3,p3⟩:=H3.out;obtain⟨z2,o2,p2,aB,aw⟩:=H2.out;obtain⟨V2,af⟩:∃V2,V2=(s+3,some ((fM es).map (l7 A n)))::V:=⟨_,rfl⟩;have aU:(n:Int)+1=(V2.length:Int):=by rw[af,cw,ad]; rfl
 have ax:rS V2=ms.map lT.val:=by
  rw[af];show(fM es).map (l7 A n)++rS V=_;rw[am,an,b8,bC];congr 1;refine bK λp _=>(Fv A n p).symm
 have aL:∀k r,cl k=some r->k<7->r≠s+3:=λk r hr hk e=>by
  obtain⟨vs,h⟩:=jQ k r hk hr;have:=hV _ h;simp only at this;omega
 have aG:∀k r,k<7->l9 cl n (s+3) k=some r->∃vs,(r,some vs)∈V2:=λk r hk hr=>by
  unfold l9 at hr;rw[af];split at hr
  .cases hr;exact⟨_,bE ..⟩
  .obtain⟨vs,h⟩:=jQ k r hk hr;exact⟨vs,bJ _ h⟩
 have ay:∀x∈V2,∃k vs,k<7/\l9 cl n (s+3) k=some x.1/\x.2=some vs:=λx hx=>by
  rw[af]at hx;rcases b9.1 hx with rfl|hx
  .exact⟨n,_,aR,by unfold l9; rw[if_pos rfl],rfl⟩
  .obtain⟨k,vs,a1,a2,a3⟩:=fv x hx;refine⟨k,vs,a1,?_,a3⟩;have:k≠n:=λe=>by rw[e,al n (ev _)]at a2; cases a2
   unfold l9;rw[if_neg this];exact a2
 have aH:∀k k' r,k<7->k'<7->l9 cl n (s+3) k=some r->l9 cl n (s+3) k'=some r->k=k':=λk k' r hk aV h1 h2=>by
  unfold l9 at h1 h2;split at h1<;>split at h2
  .omega
  .cases h1;exact absurd rfl (aL k' _ h2 aV)
  .cases h2;exact absurd rfl (aL k _ h1 hk)
  .exact rN k k' r hk aV h1 h2
 have ar:(V2.map kB).Nodup:=by
  rw[af,bL,bP];refine⟨λh=>?_,fE⟩;obtain⟨x,hx,e⟩:=b4.1 h;have:=hV x hx;simp only at e;omega
 rw[aU,<-af];refine dn.qA (#[.pointer (some ⟨b,0,none⟩),.int .i64 (V2.length:Int),mj,mj,mj,mj,mj,mj,mj,mj,mj,mj,mj,mj,mj,mj,mj,mj,mj,mj,mj,mj,mj,mj,mj,mj,mj,mj,mj,mj]:Array Value) (i:=3) (gK:=i8) (c:=dT i8) rfl rfl func82 (by kernel_rfl) E6 rfl (by simp[dP]) (by kernel_rfl) ?_;refine ED (mb:=s+5) rfl ae.all z3.symm (by omega) g3 aG ay aH ar (by rw[af,cw,ad]; omega) ax ?_;intro w4 l aW aX aY _ _;have aM:G7 w4 (s+5) ms:=aY.perm (QT aW aX);have aZ:=aM.lt;have ba:ka _:=And.intro aM aZ
 have bc:∀b,w.heap[b]?=some oY->b<w.heap.size/\(true=true->b≠q):=λb hb=>⟨(cT.1 hb).1,λ_ e=>by
  obtain⟨a,c,hx⟩:=hM.isMap;rw[e,ab,hx]at hb
  cases hb⟩
 have bt:ka _:=bc;clear al jQ fv rN fE ad am an hs hA hK h5 ah ai hq ab hM ac hl aj hn hV ak hb g3 o3 z3 p3 z2 o2 p2 aB aw af aU ax aL aG ay aH ar aW aX aY aM aZ HA HC H2 H3;have HF:ka _:=And.intro ae (And.intro fin hT);clear ae fin hT bc;show dn _ [⟨_,eI _ _ _,_⟩] _ _;rw[fF];go_simp;refine lL rfl (by rfl) (by kernel_rfl) λy0 Y ap=>?_;have bd:G7 y0 (s+5) ms:=iV.stay ba.out.1 (by rw[Y]);have az:s+6<=y0.heap.size:=by rw[Y]; exact ba.out.2
 have aI:=Dm (s+5) ms y0 bd HF.out.1.len λm hm=>⟨(HF.out.1.each m hm).1,(HF.out.1.each m hm).2.2⟩;clear Y ap bd;unfold gh;go_simp;simp only[iM];refine⟨trivial,aI.mono ?_⟩;clear aI;rintro e w5 ⟨v,ag,rfl,O,U,aD,a0⟩;refine⟨v,rfl,?_⟩;obtain⟨aN,aE,rfl,be⟩:=iX U;have HO:ka _:=And.intro O (And.intro U (And.intro aD (And.intro a0 az)));clear O U aD a0 az be
 (refine eT ?_; go_simp);refine dn.ie HK ?_;clear HK kk;refine dn.sr λkk HK=>?_
 (refine eT ?_; go_simp);refine lL rfl (by rfl) (by kernel_rfl) λy1 ao aq=>?_;obtain⟨O,U,aD,a0,az⟩:=HO.out;have eE:(dV ms ag).Perm (dV ms ms):=Fl O;have a5:y1.ownsRow y0.heap.size 96 4 (.slice aN (dV ms ag).length aE) (dV ms ag).length (io (dV ms ag)):=gY U (λk hk=>by rw[ao]);have a':=OX y0.heap.size aN aE (dV ms ag) y1 a5 ((eE.map _).nodup_iff.2 HF.out.1.names) (by have h1:=Bn ms ag; have h2:=O.length_eq; have h3:=HF.out.1.len; omega) (λe he=>HF.out.1.texts e (eE.mem_iff.1 he)) (a0.stay λg hg=>by rw[ao]);have HP:ka _:=And.intro eE az;clear O U aD a0 az eE a5 ao aq HO;unfold gh;go_simp;simp only[iM];refine⟨trivial,a'.mono ?_⟩;clear a';rintro e w6 ⟨rfl,bu,L,aA,aF,aa,au⟩;refine⟨_,rfl,?_⟩;have H6:ka _:=And.intro aA (And.intro aF (And.intro aa au));clear bu aA aF aa au;refine dn.ie HK ?_;clear HK kk;refine dn.seq ?_;refine dn.region ?_
 (iterate 2 (refine eT ?_; go_simp));refine dn.inRegion ?_;refine HF.out.2.1 _ _ _ _ rfl rfl rfl (.inr ⟨_,rfl⟩) ⟨⟨.slice aN (dV ms ag).length aE,λτ=>by simp[ej,results49,go_sem],?_⟩,bt.out⟩;obtain⟨aA,aF,aa,au⟩:=H6.out;have hL:L.length=(dV ms ag).length:=aA.length_eq;have aJ:N8 ms L:=⟨aA.trans HP.out.1,aF⟩;rcases aa.2 with⟨he,bz⟩|⟨g,cap,cur,he,bv,bf,h1,h2,h3,h4⟩
 .left;simp only[l2]at he;refine⟨_,_,?_,he.2.1,he.2.2,?_⟩
  .rw[he.1]
  .have:L=[]:=cy (by omega);rw[<-this];exact aJ
 .right;obtain⟨rfl,_,rfl⟩:=he;refine⟨g,0,none,_,aE,cur,_,_,rfl,bf,au g cur _ _ rfl bf,λm hm bw=>?_,rfl,rfl,rfl,rfl,L,aJ,hL.symm,h1,h2,h3,h4⟩;have:=hm.x.2.2 g bw;have:=HP.out.2;omega
end
end
section
open Go.Conc Go.RowKit Go.Maps
theorem atKey_mem{L:List (Lit×DataW Value)}(O:L.Pairwise (λp q=>p.1≠q.1)){k:Lit}{d:DataW Value}(Y:WideAt.IsKeyLit k)(hm:(k,d)∈L)(z:DataW Value):(DataW.map L).atKey k z=d:=by
 unfold DataW.atKey;simp only
 have:L.find? (λp=>p.1.sameKey k)=some (k,d):=by
  induction L with
  |nil=>cases hm
  |cons a L ih=>
   rw[List.pairwise_cons]at O;rw[bR];rcases b9.1 hm with e|hm
   .rw[<-e];simp only[WideAt.sameKey_self Y]
   .have U:=O.1 _ hm;rw[sameKey_ne U];exact ih O.2 hm
 rw[this]
theorem NT(e:dq):Flat (jj e).2:=by
 refine .agg λi hi=>?_;have:=hi
 match i,this with
 |0,_=>exact .bool _
 |1,_|2,_=>exact .string _
 |3,_|4,_=>exact .int ..
theorem Nl{x:MapEntry}(O:Flat x.key)(U:Flat x.val)(m:Ren):sQ m x x:=⟨O.refl m,U.refl m,rfl⟩
theorem Lw{es:List MapEntry}(h:∀x∈es,Flat x.key/\Flat x.val)(m:Ren):dO (sQ m) es es:=by
 induction es with
 |nil=>exact .nil
 |cons a l O=>exact .cons (Nl (h a (by simp)).1 (h a (by simp)).2 m) (O λx U=>h x (by simp[U]))
theorem Ri{es U:List MapEntry}{m:Ren}(h:∀x∈es,Flat x.key/\Flat x.val)(ha:dO (sQ m) es U):U=es:=by
 induction ha with
 |nil=>rfl
 |@cons a b l l' O _ ih=>
  have Y:=h a (by simp);have e1:=Y.1.eq m _ O.key;have e2:=Y.2.eq m _ O.val;have e3:=O.born;rw[ih λx hx=>h x (by simp[hx])];cases a;subst e1 e2 e3;rfl
theorem Gu{w:World}{B:Nat}{es:List dq}(h:ey w B es):∃ex,w.heap[B]?=some ex/\rz ex es:=by
 obtain⟨D,⟨xs,clock,hb,F,ac,hD⟩,hS⟩:=h
 have aa:∀x∈xs.toList,Flat x.key/\Flat x.val:=by
  intro x hx;obtain⟨y,hy⟩:=F.reads x hx;have gJ:=WideElems.rd_key hy;obtain⟨nm,ad,ae⟩:=Jy fs gJ
  have af:y=(.string nm,.held x.val):=by
   unfold WideElems.rd at hy;rw[gJ]at hy;simp only[ls,li,lp,kN]at hy;rw[<-hy,ae]
  refine⟨by rw[ad]; exact .string _,?_⟩;have ab:(Lit.string nm,DataW.held _)∈(xs.toList.map (WideElems.rg _ 9 li)).foldr _ []:=mem_sorted.2 (b4.2 ⟨x,hx,by rw[WideElems.rg_of hy,af]⟩);have ag:=(WideShapes.sorted_perm _).symm.pairwise (F.apart (WideMaps.string_law fs)) (λh=>h.symm);have U:=atKey_mem ag (k:=.string nm) trivial ab;rw[<-hD]at U;have O:=has_true_of_atKey U;rw[hS.has nm,List.any_eq_true]at O;obtain⟨p,hp,Y⟩:=O;have Y:=by simpa using Y
  have h2:=hS.at_ p hp (.held x.val);rw[Y,U]at h2;have h3:=by simpa using h2
  rw[h3];obtain⟨e,_,rfl⟩:=b4.1 hp;exact NT e
 refine⟨.map xs clock,hb,⟨xs,clock,rfl⟩,λm=>.map clock (Lw aa m),λm o' ho=>?_,λw' B' ah=>?_⟩
 .cases ho with
  |@map _ ai _ ha=>
   have:=Ri aa ha;simp at this; rw[this]
 .exact⟨D,⟨xs,clock,ah,F,ac,hD⟩,hS⟩
end
section
open Go.Conc
variable {q:Nat} {b5:Option Nat} {m:Ren} {w:World}
theorem VR.flatten{x x':Value}(h:VR m x x'):∃y,(∀U,VR U y x')/\(Flat x->y=x)/\∀t z,x=.iface t z->∃z',y=.iface t z':=by
 induction h with
 |fJ v hv=>exact⟨_,λ_=>.fJ v hv,λO=>(by cases O),λ_ _ e=>(by cases e)⟩
 |bool b=>exact⟨_,λ_=>.bool b,λ_=>rfl,λ_ _ e=>(by cases e)⟩
 |int k n=>exact⟨_,λ_=>.int k n,λ_=>rfl,λ_ _ e=>(by cases e)⟩
 |string s=>exact⟨_,λ_=>.string s,λ_=>rfl,λ_ _ e=>(by cases e)⟩
 |gM=>exact⟨_,λ_=>.gM,nofun,λ_ _ e=>(by cases e)⟩
 |ft l c=>exact⟨_,λ_=>.ft l c,nofun,λ_ _ e=>(by cases e)⟩
 |mz=>exact⟨_,λ_=>.mz,nofun,λ_ _ e=>(by cases e)⟩
 |iR=>exact⟨_,λ_=>.iR,nofun,λ_ _ e=>(by cases e)⟩
 |nilFunc=>exact⟨_,λ_=>.nilFunc,nofun,λ_ _ e=>(by cases e)⟩
 |nilIface=>exact⟨_,λ_=>.nilIface,nofun,λ_ _ e=>(by cases e)⟩
 |ptr _=>exact⟨_,λ_=>.fJ _ trivial,λO=>(by cases O),λ_ _ e=>(by cases e)⟩
 |slice _ _ _=>exact⟨_,λ_=>.fJ _ trivial,λO=>(by cases O),λ_ _ e=>(by cases e)⟩
 |map _=>exact⟨_,λ_=>.fJ _ trivial,λO=>(by cases O),λ_ _ e=>(by cases e)⟩
 |gone _=>exact⟨_,λ_=>.fJ _ trivial,λO=>(by cases O),λ_ _ e=>(by cases e)⟩
 |chan _=>exact⟨_,λ_=>.fJ _ trivial,λO=>(by cases O),λ_ _ e=>(by cases e)⟩
 |iface t _ ih=>
  obtain⟨y,h1,_,_⟩:=ih;exact⟨.iface t y,λU=>.iface t (h1 U),λO=>(by cases O),λ_ _ e=>(by cases e; exact⟨_,rfl⟩)⟩
 |tuple _ _ _=>exact⟨_,λ_=>.fJ _ trivial,λO=>(by cases O),λ_ _ e=>(by cases e)⟩
 |func O _ _ _ _ _ _=>
  cases O with
  |func f _=>exact⟨_,λ_=>.fJ _ trivial,λO=>(by cases O),λ_ _ e=>(by cases e)⟩
  |yield _=>exact⟨_,λ_=>.fJ _ trivial,λO=>(by cases O),λ_ _ e=>(by cases e)⟩
 |@qx lf n f c hs hi hx ih=>
  have Y:∀i(h:i<lf.size),∃y,(∀U,VR U y (f[i]'(hs▸h)))/\(Flat _->y=lf[i])/\∀t z,lf[i]=.iface t z->∃z',y=.iface t z':=λi h=>ih i h _;refine⟨.func _ (df λi=>kt (Y _ i.2)) _,λU=>.qx (by simp[hs]) (λi h h'=>?_) (λt w hw=>?_),λO=>(by cases O),λ_ _ e=>(by cases e)⟩
  .simp only[cW];exact(ks (Y i _)).1 U
  .obtain⟨x,h0⟩:=hx t w hw;obtain⟨hl,e0⟩:=cT.1 h0;obtain⟨z,hz⟩:=(ks (Y 0 hl)).2.2 t x e0;refine⟨z,?_⟩;rw[cU (by simpa using hl)];simp only[cW];rw[hz]
 |@agg c c' hs hi ih=>
  have Y:∀i(h:i<c.size),∃y,(∀U,VR U y (c'[i]'(hs▸h)))/\(Flat _->y=c[i])/\∀t z,c[i]=.iface t z->∃z',y=.iface t z':=λi h=>ih i h _;refine⟨.agg (df λi=>kt (Y _ i.2)),λU=>.agg (by simp[hs]) λi h h'=>?_,λO=>?_,λ_ _ e=>(by cases e)⟩
  .simp only[cW];exact(ks (Y i _)).1 U
  .congr 1;refine dj (by simp) λi h1 h2=>?_;simp only[cW];refine(ks (Y i h2)).2.1 ?_
   cases O with
   |agg O=>exact O i h2
theorem ep.flatten{c Y:Array Value}(h:ep m c Y):∃c1,(∀U,ep U c1 Y)/\c1.size=c.size/\∀i(O:i<c1.size)(h2:i<c.size),Flat c[i]->c1[i]=c[i]:=by
 have hc:∀i(O:i<c.size),∃y,(∀U,VR U y (Y[i]'(h.size▸O)))/\(Flat _->y=c[i]):=λi O=>by
  obtain⟨y,g1,g2,_⟩:=(h.idx i O _).flatten;exact⟨y,g1,g2⟩
 refine⟨df λi=>kt (hc _ i.2),λU=>ep.ib (by simp[h.size]) λi O h2=>?_,by simp,λi O h2 hf=>?_⟩
 .simp only[cW];exact(ks (hc i _)).1 U
 .simp only[cW];exact(ks (hc i h2)).2 hf
def xc:Obj:=.cells #[] 0 (0,0)
def Ui(o:Obj)(w:World):World:={w with heap:=#[xc,xc,xc,xc,xc,o,xc]}
def TN(b5:Option Nat)(q:Nat)(Y:∀b,b5=some b->5<=b):Ren where
 blk:=λr=>if r=5 then b5 else none
 ch:=λ_=>none
 loose:=λr=>r=5
 ok:=Nf prog MA D6 false
 fu:=λf=>MA f=true
 ig:=False
 dead:=λr=>r=6
 dm:=λ_=>q
 rP:=λ_ _=>none
 kJ:=λ_=>none
 G:=5
 oh:=λr r' h=>by
  split at h
  .rename_i e
   have:=Y r' h
   omega
  .cases h
 inj:=λr s t O U=>by
  split at O
  .split at U
   .omega
   .cases U
  .cases O
 uB:=λ_ _ _ h=>by cases h
theorem RY{Z:iS prog}{T:List Frame}(O:∀b,b5=some b->5<=b):Rg (nR prog Z w T 6 q 6 false) (TN b5 q O):=
 ⟨DD _ rfl rfl ya.symm,id,λ_ _ h=>(by cases h),rfl,rfl,rfl,rfl,λr U=>by have:r=5:=U; omega⟩
theorem RJ(h5:∀b,b5=some b->5<=b)(hw:5<=w.heap.size){c1:Array Value}{e5:ee}(hb:∀b,b5=some b->∃Y f',w.heap[b]?=some (.cells Y e5 f')/\∀m1,ep m1 c1 Y) :
  WR (TN b5 q h5) (Ui (.cells c1 e5 (0,c1.size)) w) w:=by
 have key:∀r r',(TN b5 q h5).blk r=some r'->r=5/\b5=some r':=λr r' h=>by
  have h:(if r=5 then b5 else none)=some r':=h;split at h
  .exact⟨by assumption,h⟩
  .cases h
 refine⟨λr r' O=>?_,λr r' c e f Y e' f' O h1 h2 hn=>?_,λr r' c e f Y e' f' O h1 h2 hl o ho=>?_,λ_ _ h=>(by cases h),by show 5<=7; omega,hw,rfl,λ_ _ h=>(by cases h),λr r' O hl=>?_,λr O=>?_,λr i v hv=>(by cases hv)⟩
 .obtain⟨rfl,U⟩:=key r r' O;obtain⟨Y,f',g1,g2⟩:=hb r' U;exact⟨_,_,rfl,g1,.cells e5 _ f' (g2 _)⟩
 .obtain⟨rfl,U⟩:=key r r' O;exact absurd rfl hn
 .obtain⟨rfl,U⟩:=key r r' O;obtain⟨rfl,_,rfl⟩:=h1;show 0<=o/\o<c1.size;omega
 .obtain⟨rfl,U⟩:=key r r' O;exact⟨_,_,_,rfl⟩
 .have:=O;subst this;exact⟨rfl,_,_,_,rfl⟩
end
section
open Go.Conc Go.RowKit Go.Maps
section
variable {A:Ask} {es:List dq}
theorem z8(es:List dq):fM es=(cn es.length).map λk=>(k,(qp es).getD k ⟨[],false,[],0,0⟩):=by
 apply bY;intro k;rw[qL,bW];have O:=(nu es).length_eq;by_cases h:k<es.length
 .rw[List.getElem?_range h];simp[bD,b6 (show k<(qp es).length by omega)]
 .rw[bI (by omega),bI (by simp; omega)];rfl
theorem im(num:Nat)(p:Nat×dq):(pF A num p).wZ=num/\(pF A num p).at'=p.1/\(pF A num p).name=p.2.name/\(pF A num p).wanted=A.has p.2:=by
 unfold pF;split
 .exact⟨rfl,rfl,rfl,by simp_all⟩
 .exact⟨rfl,rfl,rfl,by simp_all⟩
theorem tV{e:dq}(h:A.has e=true):e.gone=false:=by
 unfold Ask.has at h
 cases O:e.gone with
 |false=>rfl
 |true=>rw[O]at h; simp at h
theorem E3{num:Nat}{p:Nat×dq}(h:A.has p.2=true):(pF A num p).M6=p.2:=by
 have O:=tV h;obtain⟨k,U,Y,tx,wt,tg⟩:=p;subst O;unfold pF;rw[if_pos h];rfl
theorem EO(es:List dq):(fM es).map kG=qp es:=by
 apply bY;intro k;rw[bW,qL];cases(qp es)[k]?<;>rfl
end
theorem MX:Tryz.f49.name≠ "runtime.NumGoroutine":=by
 decide
end
section
open Go.RowKit Go.Sort
theorem Qi:∀n,ly n=sE n:=by
 intro n
 induction n using Nat.strongRecOn with
 |ind n O=>
  have e:∀d,d<=9->UInt8.ofNat (48+d)=48+UInt8.ofNat d:=λd U=>by
   rcases(by omega:d=0\/d=1\/d=2\/d=3\/d=4\/d=5\/d=6\/d=7\/d=8\/d=9)with rfl|rfl|rfl|rfl|rfl|rfl|rfl|rfl|rfl|rfl<;>rfl
  by_cases h:n<=9
  .rw[qI h,ly,dif_pos (by omega),e n h]
  .rw[oV h,ly,dif_neg (by omega),O _ (by omega),e _ (by omega)]
theorem NP(n:Nat)(Y:n<9223372036854775808)(w:World)(O:l0 prog w "internal/strconv.uint64pow10" .u64 l1) :
  dl prog 85 #[.int .i64 (n:Int)] w λe w'=>e=.returned (.string ⟨(sE n).toArray⟩)/\eU w w':=by
 have h:=Any.strconv_Itoa NS n (by omega) (by omega) w O;refine h.mono ?_;rintro e w' ⟨rfl,k,os,rfl⟩;refine⟨?_,⟨rfl,rfl,rfl,by simp[grow,World.drewN],λj U=>?_⟩⟩
 .unfold Lib.itoa;rw[if_neg (by omega),lw,Qi]
 .show(w.heap++os)[j]?=_;rw[Array.getElem?_append_left U]
theorem MH(e:dq)(w:World)(O:0<=e.du)(hI:∀y,eU w y->dl prog 85 #[.int .i64 e.du] y λen w'=>en=.returned (.string ⟨(sE e.du.toNat).toArray⟩)/\eU y w')(hn:e.name.length<=65536)(ht:e.text.length<=1048576)(hd:(sE e.du.toNat).length<=100) :
  dl prog 51 #[.agg #[.string ⟨e.name.toArray⟩,.string ⟨e.text.toArray⟩,.int .i64 e.du,.int .i64 e.dD]] w λen w'=>en=.returned (.string ⟨(fZ e).toArray⟩)/\eU w w':=by
 obtain⟨nm,gn,tx,wt,tg⟩:=e;simp only at O hI hn ht hd⊢;obtain⟨U,Y⟩:∃U:ByteArray,U=⟨(sE wt.toNat).toArray⟩:=⟨_,rfl⟩;obtain⟨nb,aa⟩:∃nb:ByteArray,nb=⟨nm.toArray⟩:=⟨_,rfl⟩;obtain⟨tb,ab⟩:∃tb:ByteArray,tb=⟨tx.toArray⟩:=⟨_,rfl⟩;have af:nb.size<=65536:=by rw[aa]; show nm.toArray.size<=_; simpa using hn
 have ag:tb.size<=1048576:=by rw[ab]; show tx.toArray.size<=_; simpa using ht
 have ah:U.size<=100:=by rw[Y]; show(sE wt.toNat).toArray.size<=_; simpa using hd
 have k0:¬9223372036854775807<nb.size+1:=by omega
 have k1:¬9223372036854775807<nb.size+1+U.size:=by omega
 have k2:¬9223372036854775807<nb.size+1+U.size+1:=by omega
 have k3:¬9223372036854775807<nb.size+1+U.size+1+tb.size:=by omega
 rw[<-Y]at hI;rw[<-aa,<-ab];have HI:ka (∀y,eU w y->dl prog 85 #[.int .i64 wt] y λen w'=>en=.returned (.string U)/\eU y w'):=hI;have ac:ka (U=⟨(sE wt.toNat).toArray⟩/\nb=⟨nm.toArray⟩/\tb=⟨tx.toArray⟩):=⟨Y,aa,ab⟩;clear hI O hn ht hd Y aa ab;obtain⟨w0,O⟩:∃w0,w0=w.alloc (.cells #[.string nb,.string tb,.int .i64 wt,.int .i64 tg] 96):=⟨_,rfl⟩
 have hA:∀j,w0.cell? ⟨w.heap.size,j,none⟩=(#[Value.string nb,.string tb,.int .i64 wt,.int .i64 tg]:Array Value)[j]?:=λj=>by
  rw[O,kr _ _ _ _ rfl]
 have ad:ka (eU w w0):=by rw[O]; exact eU.alloc _ _
 have d0:w0.cell? ⟨w.heap.size,0,none⟩=some (.string nb):=hA 0;have d1:w0.cell? ⟨w.heap.size,1,none⟩=some (.string tb):=hA 1;have d2:w0.cell? ⟨w.heap.size,2,none⟩=some (.int .i64 wt):=hA 2;clear hA;go_enter func51,ntmps51;go_wp2_with fail;rw[<-O];clear O;refine lV (by kernel_rfl) ?_;refine dI 0 ?_ ?_<|dI 1 ?_ ?_<|dI 2 ?_ ?_<|dI 3 ?_ ?_<|dI 4 ?_ ?_ ?_
 any_goals(intro y hy; have q:=ef hy d0; have q1:=ef hy d2; unfold gh; go_simp; refine⟨eU.refl _,?_⟩; with_reducible rfl)
 go_simp;refine dI 5 ?_ ?_ ?_;rotate_left
 .intro y hy; unfold gh; go_simp; refine⟨rfl,(HI.out y ((eU.trans ad.out hy))).mono ?_⟩; rintro e y2 ⟨rfl,h2⟩; refine⟨_,rfl,h2,?_⟩; with_reducible rfl
 go_simp;refine dI 6 ?_ ?_<|dI 7 ?_ ?_<|dI 8 ?_ ?_<|dI 9 ?_ ?_<|dI 10 ?_ ?_<|dI 11 ?_ ?_ ?_
 any_goals(intro y hy; have q:=ef hy d1; unfold gh; go_simp; refine⟨eU.refl _,?_⟩; with_reducible rfl)
 go_simp;refine xq (by kernel_rfl) ?_ _;intro y hy;have ae:ka (eU w y):=eU.trans ad.out hy;clear hy;go_simp;go_wp2;go_ret;refine⟨?_,ae.out⟩;show Ending.returned (.string (nb++⟨#[32]⟩++U++⟨#[32]⟩++tb))=_;obtain⟨rfl,rfl,rfl⟩:=ac.out;congr 2;unfold fZ;apply ByteArray.ext;simp[ByteArray.data_append]
end
section
open Go.Conc Go.RowKit Go.Maps
variable {listed:Array Bool} {ops:Array Oper} {c:Code} {rest:List Nat} {b i:Nat} {o:Oper} {md:Region.Mode} {W:World}
noncomputable def marked (W:World) (Mp:Nat->Prop):World:={W with heap:=W.heap.mapIdx λb x=>@ite _ (Mp b) (ky _) oY x}
theorem AH{Mp:Nat->Prop}(h:¬Mp b):(marked W Mp).heap[b]?=W.heap[b]?:=by
 show(W.heap.mapIdx _)[b]?=_;rw[db]
 cases W.heap[b]? with
 |none=>rfl
 |some x=>simp[h]
theorem LF{Mp:Nat->Prop}(hb:b<W.heap.size)(h:Mp b):(marked W Mp).heap[b]?=some oY:=by
 show(W.heap.mapIdx _)[b]?=_;rw[db,cU hb];simp[h]
theorem vF(W:World)(Mp:Nat->Prop):(marked W Mp).heap.size=W.heap.size:=by
 show(W.heap.mapIdx _).size=_;simp
noncomputable def fi (Z:iS prog) (W0:World) (Mp:Nat->Prop):Env prog where
 Z:=Z
 fA:=λb=>b<W0.heap.size/\¬Mp b
 w0:=marked W0 Mp
 T:=[]
 gl:=λg=>qd g=true
 st:=true
 fu:=λf=>rL f=true
 ok:=Nf prog rL qd true
 X:=λm=>(∀r,Mp r->m.blk r=some r)/\∀r o v,Mp r->W0.cell? ⟨r,o,none⟩=some v->m.rP r o=some v
 le:=λ_ _ h x=>⟨λr hr=>h.blk r r (x.1 r hr),λr o v hr hv=>by rw[h.rP]; exact x.2 r o v hr hv⟩
theorem Gq(Z:iS prog)(W0:World)(Mp:Nat->Prop):∀b,b<(fi Z W0 Mp).w0.heap.size->(fi Z W0 Mp).fA b\/(fi Z W0 Mp).w0.heap[b]?=some oY:=λb hb=>by
 have hb:b<W0.heap.size:=by rw[<-vF W0 Mp]; exact hb
 by_cases h:Mp b
 .exact .inr (LF hb h)
 .exact .inl ⟨hb,h⟩
section
variable {Z:iS prog} {W0:World} {Mp:Nat->Prop} {fn:dr} {tm:Array Value} {os:List OF} {wl:World} {V:List (Nat×Option (List Value))} {k:List Item}
theorem S3(hi:ops[i]?=some o)(U:kc o (dt ops tm)=true)(Y:Cu prog rL qd true o.op=true)
  (O:∀τ,gh prog o ⟨tm,[]⟩ (tp wl τ) (λv y=>dn (fi Z W0 Mp) (⟨fn,(Act.put ⟨tm,[]⟩ o.dst v).tmps,.inRegion ops rest::k⟩::os) y V)):dn (fi Z W0 Mp) (⟨fn,tm,.inRegion ops (i::rest)::k⟩::os) wl V:=
 dn.S4 hi U (uu Y) O
theorem dG{v:Value}(h:dn (fi Z W0 Mp) (⟨fn,(Act.put ⟨tm,[]⟩ o.dst v).tmps,.inRegion ops rest::k⟩::os) wl V)(hi:ops[i]?=some o:=by rfl)(U:∀y:World,gh prog o ⟨tm,[]⟩ y (λu Y=>Same y Y/\u=v):=by intro y; unfold gh; go_simp; refine⟨rfl,?_⟩; with_reducible rfl)
  (O:kc o (dt ops tm)=true:=by rfl) (ho:Cu prog rL qd true o.op=true:=by kernel_rfl):dn (fi Z W0 Mp) (⟨fn,tm,.inRegion ops (i::rest)::k⟩::os) wl V:=dn.pu hi O (uu ho) U h
theorem Li(O:js (λo=>Cu prog rL qd true o.op) c=true)(Y:k.all jL=true)(hf:os≠[])(h:∀U:World,U.heap=wl.heap->U.os=wl.os->c.wp prog (EV (fi Z W0 Mp) fn k os V) ⟨tm,[]⟩ U):dn (fi Z W0 Mp) (⟨fn,tm,.code c::k⟩::os) wl V:=
 dn.EC (nf O) Y (.inl hf) λτ _=>h _ rfl rfl
theorem EG(O:js (λo=>Cu prog rL qd true o.op) c=true)(U:k.all jL=true)(Y:os≠[])(h:∀τ,c.wp prog (EV (fi Z W0 Mp) fn k os V) ⟨tm,[]⟩ (tp wl τ)):dn (fi Z W0 Mp) (⟨fn,tm,.code c::k⟩::os) wl V:=
 dn.EC (nf O) U (.inl Y) λτ _=>h τ
end
theorem QS{acc:List Nat}(Y:kd md ops listed=[]):∀(O t:Nat),ln md ops O t listed acc=acc.reverse
 |0,_=>rfl
 |f+1,t=>by
  simp only[ln]
  split
  .rename_i q hq
   have U:(kd md ops listed)[t % (kd md ops listed).length]?=some q:=hq
   rw[Y]at U;simp at U
  .rfl
theorem xx{j:Nat}(h1:kd md ops listed=[j])(h2:kd md ops (listed.setIfInBounds j true)=[])(U t:Nat):ln md ops (U+1) t listed []=[j]:=by
 simp only[ln];split
 .rename_i q Y;have O:(kd md ops listed)[t % (kd md ops listed).length]?=some q:=Y;rw[h1]at O;have e0:t % ([j]).length=0:=fd t;rw[e0]at O;have hj:=by simpa using O.symm
  subst hj;exact QS h2 ..
 .rename_i Y;have O:(kd md ops listed)[t % (kd md ops listed).length]?=none:=Y;rw[h1]at O;have e0:t % ([j]).length=0:=fd t;rw[e0]at O;simp at O
theorem OU{last:Nat}{Z:iS prog}{W0:World}{Mp:Nat->Prop}(h:((cn ops.size).all λi=>i==last || (match ops[i]? with|some o=>Cu prog rL qd true o.op|none=>true))=true):∀(i:Nat)o,i≠last->ops[i]?=some o->OkOp prog (fi Z W0 Mp).fu (fi Z W0 Mp).gl (fi Z W0 Mp).st o.op:=by
 intro i o O hi;have U:=(cT.1 hi).1;have:=cR.1 h i (cf.2 U);rw[hi]at this;simp only[Bool.or_eq_true,beq_iff_eq]at this;rcases this with e|e
 .exact absurd e O
 .exact uu e
theorem GD(m:Nat)(hm:m<=3)(w:World):dl prog 46 #[.int .i64 (m:Int)] w λe w'=>e=.returned (.bool true)/\w=w':=by
 have O:(m:Int)<=3:=by omega
 go_wp2;go_ret;exact⟨rfl,rfl⟩
def Qz(w:World)(base:Nat)(es:List dq)(A:Ask)(most:Nat)(v:Value):Prop:=∃L:List dq,L.Perm (es.filter A.has)/\L.Pairwise (λx y=>eK x y=true)/\∃u,v=.tuple #[u,.int .i64 0]/\w.ownsRow base 9 1 u (L.take most).length (dp ((L.take most).map fZ))
section
variable {Z:iS prog} {W0:World} {Mp:Nat->Prop} {fn:dr} {tm:Array Value} {os:List OF} {wl:World} {k:List Item}
def Rm(c:Code):Code:=match c with
 |.seq _ (.seq _ (.seq _ (.seq _ y)))=>y
 |_=>.skip
theorem uf{fa:Option Addr}{l cp most:Nat}{L:List dq}{wl:World}{a0 a1 a2 a3 a5 a6 a7 a8 a9 a10 a11 av aw a15 a16 a17 a18 a19 a20 a21 a22 a23 a24 a25 a26 a27 a28 a29 ax ay az a' aA aB aC aD aE aF aG aH aI aJ aK aL aM aN aO aP aQ aR aS aT aU aV aW aX aY aZ ba bc bd be bf bh bi:Value}(hi:ops[i]?=some o)(hR:ql wl 4 (.slice fa l cp) l (io L))(hL:l=L.length)(bt:1<=most)(bu:most<=20)(h5:5<=wl.heap.size)
  (O:∀e∈L,∀y:World,(∀r,r<5->y.heap[r]?=wl.heap[r]?)->dl prog 51 #[.agg #[.string ⟨e.name.toArray⟩,.string ⟨e.text.toArray⟩,.int .i64 e.du,.int .i64 e.dD]] y λen w'=>en=.returned (.string ⟨(fZ e).toArray⟩)/\eU y w')
  (hn:∀(w2:World)(u:Value),(∀r,r<wl.heap.size->w2.heap[r]?=wl.heap[r]?)->wl.heap.size<=w2.heap.size->w2.os=wl.os->w2.ownsRow wl.heap.size 9 1 u (L.take most).length (dp ((L.take most).map fZ))->dn (fi Z W0 Mp) (⟨fn,eI o.dst tm (.tuple #[u,.int .i64 0]),.inRegion ops rest::k⟩::os) w2 []) :
  dn (fi Z W0 Mp) (⟨17,#[a0,a1,a2,a3,.int .i64 (most:Int),a5,a6,a7,a8,a9,a10,a11,.slice fa l cp,av,aw,a15,a16,a17,a18,a19,a20,a21,a22,a23,a24,a25,a26,a27,a28,a29,ax,ay,az,a',aA,aB,aC,aD,aE,aF,aG,aH,aI,aJ,aK,aL,aM,aN,aO,aP,aQ,aR,aS,aT,aU,aV,aW,aX,aY,aZ,ba,bc,bd,be,bf,bh,bi],[.code (Rm (dT f17))]⟩::⟨fn,tm,.inRegion ops (i::rest)::k⟩::os) wl []:=by
 have HA:ka _:=And.intro hR (And.intro hL (And.intro h5 (And.intro O hn)));clear hR h5 O hn;show dn _ (⟨_,_,[.code (.seq (.region 6 _ false) (.seq (.seq (.region 7 _ false) (.block 0 _)) (.seq (.region 12 _ false) .ret)))]⟩::_) _ _;refine dn.sr λkk HK=>?_
 (refine dG ?_; go_simp);refine dn.ie HK ?_;clear HK kk;refine dn.sc λkk HK=>?_;refine Li (by kernel_rfl) (by rw[HK.out]; rfl) (by simp) λy0 ah aa=>?_;obtain⟨hR,hL,h5,O,hn⟩:=HA.out;have ai:ql y0 4 (.slice fa l cp) l (io L):=hR.later λa u h=>by simp only[kj]at h⊢; rw[ah]; exact h
 obtain⟨n,aj⟩:∃n,n=min most l:=⟨_,rfl⟩;have br:min (most:Int) (l:Int)=(n:Int):=by omega
 have bv:n<=l:=by omega
 obtain⟨bw,bx,am,bz,an,_,ab⟩:=id ai;simp only[l2]at am;obtain⟨rfl,_,rfl⟩:=am;have b0:n<=cp:=by omega
 have bs:cp<=9223372036854775807:=an;have HR:ka _:=And.intro ai (And.intro ab (And.intro ah (And.intro aa aj)));clear hR hL h5 O hn ai ab ah aa aj an;obtain⟨i9,bj,ao,bk,bl⟩:=et vY;go_wp2_with fail;go_loopw [13,56] (λu i wr=>∃j:Nat,j<=n/\i=.int .i64 j/\wr.ownsRow y0.heap.size 9 1 u j (dp ((L.take j).map fZ))/\Below y0.heap.size y0 wr) (λ_ i _=>n-(intOf i).toNat)
 case atStart=>exact⟨0,ez _,rfl,kf _ _ _ _,fm _ _⟩
 case round=>
  obtain⟨j,hj,rfl,ac,hb⟩:=hrel;obtain⟨ag,cg,rfl,b1⟩:=dN ac;have HO:ka (wr.ownsRow y0.heap.size 9 1 (.slice ag j cg) j (dp ((L.take j).map fZ))):=ac;have HB:ka (Below _ _ _):=hb;clear ac hb;by_cases b2:j<n
  .have ak:j<L.length:=by omega
   obtain⟨e,he⟩:∃e,e=L[j]:=⟨_,rfl⟩;have af:e∈L:=by rw[he]; exact bB ak
   have ad:∀c,c<4->(io L)[j*4+c]?=(my e)[c]?:=λc hc=>by rw[BK L j c ak hc,he]
   obtain⟨bg,og,rfl,bm⟩:=HR.out.2.1 (j*4) (.string ⟨e.name.toArray⟩) (ad 0 (by omega))
   have U:∀c u,c<4->(my e)[c]?=some u->wr.cell? ⟨bg,og+j*4+c,none⟩=some u:=λc u hc hu=>by
    obtain⟨b',o',h1,h2⟩:=HR.out.2.1 (j*4+c) u (by rw[ad c hc]; exact hu);simp only[kN,Addr.mk.injEq]at h1;obtain⟨rfl,rfl,_⟩:=h1;rw[Nat.add_assoc];exact ef HB.out h2
   have d0:wr.cell? ⟨bg,og+j*4,none⟩=some (.string ⟨e.name.toArray⟩):=U 0 _ (by omega) rfl;have d1:wr.cell? ⟨bg,og+j*4+1,none⟩=some (.string ⟨e.text.toArray⟩):=U 1 _ (by omega) rfl;have d2:wr.cell? ⟨bg,og+j*4+2,none⟩=some (.int .i64 e.du):=U 2 _ (by omega) rfl;have d3:wr.cell? ⟨bg,og+j*4+3,none⟩=some (.int .i64 e.dD):=U 3 _ (by omega) rfl;have HE:ka _:=And.intro he af;clear he af ad U bm;go_wp2_with fail;have ap:=HB.out.size;refine(HA.out.2.2.2.1 e HE.out.2 _ (λr hr=>?_)).mono ?_
   .have h5:=HA.out.2.2.1;have Y:=HR.out.2.2.1;rw[fV _ _ (by rw[Y]at ap; omega),HB.out.block r (by rw[Y]; omega),Y]
   rintro en w5 ⟨rfl,hx⟩;have bn:=hx.size;simp only[ke]at bn;have al:Below wr.heap.size wr w5:=((fm _ _).alloc (ev _) _).trans (Below.mono hx (by simp));have bo:ka (Below y0.heap.size y0 w5):=HB.out.trans (al.mono ap);have aq:ka (w5.ownsRow y0.heap.size 9 1 (.slice ag j cg) j (dp ((L.take j).map fZ))):=eF HO.out (λg hg=>al.block g (HO.out.lt g hg).2);clear d0 d1 d2 d3 hx al
   go_wp2_with (first
    |(at_builtin; refine fp _ rfl _ _ 31 rfl y0.heap.size 9 i9 (.string ⟨#[]⟩) 16 i6 bj ao bk bl rfl _ _ _ rfl (aq.out.alloc _) ⟨w5.heap.size,0,none⟩ _ rfl (vy rfl) rfl ?c1 ?c2 ?c3 ?_))
   case c1=>omega
   case c2=>unfold dk; omega
   case c3=>first|omega|(simp; omega)
   intro v3 w3 ae ar _
   have HO3:ka (w3.ownsRow y0.heap.size 9 1 v3 (j+1) (dp ((L.take (j+1)).map fZ))):=by
    show w3.ownsRow _ _ _ _ _ _;rw[bN ak,b8,<-HE.out.1];rw[show(cS fZ (List.take j L)++cS fZ [e])=(L.take j).map fZ++[fZ e]from rfl,mH,List.map_take];exact ae
   have HB3:ka (Below y0.heap.size y0 w3):=(bo.out.alloc (by omega) _).grown ar (by simp; omega) (λg hg=>(aq.out.lt g hg).1);clear ae ar;go_wp2;go_roundw
   case rel=>exact⟨j+1,by omega,by go_num,HO3.out,HB3.out⟩
   case measure=>simp[intOf]; omega
  .have bp:j=n:=by omega
   subst bp;go_wp2;refine gp ?_;rw[HK.out];refine dn.seq (dn.region ?_)
   (iterate 3 (refine dG ?_; go_simp));refine dn.inRegion ?_;refine dn.back (v:=.tuple #[.slice ag j cg,.int .i64 0]) (.inr ⟨_,rfl⟩) func17 hi (λτ=>by simp[ej,results17,go_sem]) ?_;obtain⟨_,b3,h5,O,hn⟩:=HA.out;obtain⟨_,_,Y,aa,aj⟩:=HR.out;have hO:=HO.out;have hB:=HB.out;rw[Y]at hO hB;have au:(L.take most).length=j:=by rw[ct]; omega
   have bq:L.take j=L.take most:=by
    by_cases hc:most<=L.length
    .rw[show j=most by omega]
    .rw[show j=L.length by omega,cO,cb (by omega)]
   refine hn wr (.slice ag j cg) (λr hr=>?_) (by have:=hB.size; rw[Y]at this; exact this) (hB.os.trans aa) ?_
   .rw[hB.block r hr,Y]
   .rw[au,<-bq];exact hO
end
end
section
open Go.RowKit Go.Maps
variable {xs:List Wd} {v:Value} {w':World}
structure o9(w0 w:World):Prop where
 os:w.os=w0.os
 size:w0.heap.size<=w.heap.size
 block:∀k,k<w0.heap.size->w.heap[k]?=w0.heap[k]?
theorem o9.refl(w:World):o9 w w:=⟨rfl,ev _,λ_ _=>rfl⟩
theorem o9.trans{a b c:World}(h:o9 a b)(O:o9 b c):o9 a c:=⟨O.os.trans h.os,ew h.size O.size,λk U=>(O.block k (e8 U h.size)).trans (h.block k U)⟩
theorem o9.of{w:World}(h:Below w.heap.size w w'):o9 w w':=⟨h.os,h.size,h.block⟩
structure AW(w0 w:World)(F1 F2:Nat->Prop)(b:Nat)(buf:List dq)(ss:List (List dq))(ts:List (List Wd)):Prop where
 j:PJ w F1 F2 b buf ss ts
 TU:∀k,F1 k->w0.heap.size<=k
 PT:∀k,F2 k->w0.heap.size<=k
 low:o9 w0 w
structure St(w w':World)(F1 F2 F1' F2':Nat->Prop):Prop where
 size:w.heap.size<=w'.heap.size
 block:∀k,k<w.heap.size->¬F1 k->¬F2 k->w'.heap[k]?=w.heap[k]?
 f1:∀k,F1' k->F1 k\/w.heap.size<=k
 f2:∀k,F2' k->F2 k\/w.heap.size<=k
def Kept(w:World)(F1 F2:Nat->Prop)(v:Value)(xs:List Wd):Prop:=w.ownsRow 0 9 1 v xs.length (dp xs)/\∀g,v.ownBlock=some g->¬F1 g/\¬F2 g
theorem Kept.step{w:World}{F1 F2 Y aa:Nat->Prop}(h:Kept w F1 F2 v xs)(st:St w w' F1 F2 Y aa):Kept w' Y aa v xs:=by
 have U:=λg O=>(h.1.lt g O).2;refine⟨eF h.1 λg O=>st.block g (U g O) (h.2 g O).1 (h.2 g O).2,λg O=>⟨λhf=>?_,λhf=>?_⟩⟩
 .rcases st.f1 g hf with h1|h1
  .exact(h.2 g O).1 h1
  .have:=U g O; omega
 .rcases st.f2 g hf with h1|h1
  .exact(h.2 g O).2 h1
  .have:=U g O; omega
theorem Kept.new{w0 w:World}{F1 F2:Nat->Prop}{b:Nat}{buf:List dq}{ss:List (List dq)}{ts:List (List Wd)}(h:AW w0 w F1 F2 b buf ss ts)(O:w'.ownsRow w.heap.size 9 1 v xs.length (dp xs)):Kept w' F1 F2 v xs:=
 ⟨jE O (ez _),λg Y=>⟨λU=>by have:=h.j.S5 g U; have:=(O.lt g Y).1; omega,λU=>by have:=h.j.Th g U; have:=(O.lt g Y).1; omega⟩⟩
theorem St.same{w:World}{F1 F2:Nat->Prop}(h:o9 w w'):St w w' F1 F2 F1 F2:=⟨h.size,λk O _ _=>h.block k O,λ_ O=>.inl O,λ_ O=>.inl O⟩
theorem AW.same{w0 w:World}{F1 F2:Nat->Prop}{b:Nat}{buf:List dq}{ss:List (List dq)}{ts:List (List Wd)}(h:AW w0 w F1 F2 b buf ss ts)(O:o9 w w'):AW w0 w' F1 F2 b buf ss ts:=⟨h.j.below O.size O.block,h.TU,h.PT,h.low.trans O⟩
section
variable {w0 w:World} {F1 F2:Nat->Prop} {b:Nat} {buf:List dq} {ss:List (List dq)} {ts:List (List Wd)}
theorem AW.M6{f:dr}{args:Array Value}{code:Nat}{U:List dq}{aa:List (List dq)}(h:AW w0 w F1 F2 b buf ss ts)(hc:∀vM vK,sX vM vK w F1 b buf ss->dl prog f args w (RS (sX vM vK) w F1 b code U aa)) :
  dl prog f args w λe w'=>e=.returned (.int .i64 code)/\∃ab,AW w0 w' ab F2 b U aa ts/\St w w' F1 F2 ab F2:=by
 obtain⟨⟨h1,h2,h3,Bb,vS,B,n,vK,kn,h4,h5⟩,k1,k2,k3⟩:=h;refine(hc _ vK ⟨h1,Bb,vS,h4⟩).mono ?_;rintro e w' ⟨rfl,F',hp,hF,O⟩;refine⟨rfl,F',⟨PJ.entries h1 h2 h3 h4 h5 hp hF O,λk Y=>?_,k2,?_⟩,⟨O.size,λk Y hn _=>O.block k Y hn,hF,λ_ Y=>.inl Y⟩⟩
 .rcases hF k Y with hf|hf
  .exact k1 k hf
  .exact ew k3.size hf
 .exact⟨O.os.trans k3.os,ew k3.size O.size,λk Y=>(O.block k (e8 Y k3.size) λhf=>absurd (k1 k hf) (by omega)).trans (k3.block k Y)⟩
theorem AW.observe(h:AW w0 w F1 F2 b buf ss ts)(s:ByteArray)(hB:gu ts<=16777216)(hs:s.size<=dk) :
  dl prog 34 #[.pointer (some ⟨b,0,none⟩),.string s] w λe w'=>e=.returned (.int .i64 (s7 ts s.data.toList).1)/\∃Y,AW w0 w' F1 Y b buf ss (s7 ts s.data.toList).2/\St w w' F1 F2 F1 Y:=by
 obtain⟨⟨h1,h2,h3,Bb,vS,B,n,vK,kn,h4,h5⟩,k1,k2,k3⟩:=h;refine(Dt w F2 b ts s ⟨h2,B,n,vK,kn,h5⟩ hB hs).mono ?_;rintro e w' ⟨rfl,F',hp,hF,O⟩;refine⟨rfl,F',⟨PJ.words h1 h2 h3 h4 h5 hp hF O,k1,λk U=>?_,?_⟩,⟨O.size,λk U _ hn=>O.block k U hn,λ_ U=>.inl U,hF⟩⟩
 .rcases hF k U with hf|hf
  .exact k2 k hf
  .exact ew k3.size hf
 .exact⟨O.os.trans k3.os,ew k3.size O.size,λk U=>(O.block k (e8 U k3.size) λhf=>absurd (k2 k hf) (by omega)).trans (k3.block k U)⟩
theorem AW.Dq(h:AW w0 w F1 F2 b buf ss ts)(O:M9 w)(s:ByteArray)(most:Int)(U:gu ts<=16777216)(Y:s.size<=dk) :
  dl prog 35 #[.pointer (some ⟨b,0,none⟩),.string s,.int .i64 most] w λe w'=>∃v,e=.returned (.tuple #[v,.int .i64 (uq ts s.data.toList most).2])/\Kept w' F1 F2 v (uq ts s.data.toList most).1/\AW w0 w' F1 F2 b buf ss ts/\o9 w w':=by
 obtain⟨⟨h1,h2,h3,Bb,vS,B,n,vK,kn,h4,h5⟩,k1,k2,k3⟩:=id h;refine(G1 w F2 b ts s most O ⟨h2,_,_,B,n,vK,kn,h5⟩ U Y).mono ?_;rintro e w' ⟨v,rfl,ho,hb⟩;exact⟨v,rfl,Kept.new h ho,h.same (.of hb),.of hb⟩
theorem AW.SO(h:AW w0 w F1 F2 b buf ss ts):∃U O,sX U O w F1 b buf ss:=by
 obtain⟨⟨Y,h2,h3,Bb,vS,B,n,O,kn,h4,h5⟩,k1,k2,k3⟩:=h;exact⟨_,_,Y,Bb,vS,h4⟩
theorem AW.del(h:AW w0 w F1 F2 b buf ss ts)(s:ByteArray)(U:s.size<=dk):dl prog 37 #[.pointer (some ⟨b,0,none⟩),.string s] w λe w'=>e=.returned (.int .i64 (kI buf ss s.data.toList).1)/\∃O,AW w0 w' O F2 b (kI buf ss s.data.toList).2 ss ts/\St w w' F1 F2 O F2:=
 h.M6 λvM vK Y=>(Qe w F1 b buf ss s Y U).mono λ_ _ h=>⟨h.1,F1,h.2.1,λ_ hk=>.inl hk,h.2.2⟩
theorem AW.Rq(h:AW w0 w F1 F2 b buf ss ts)(s t:ByteArray)(x y:Int)(U:s.size<=dk)(Y:t.size<=dk):dl prog 38 #[.pointer (some ⟨b,0,none⟩),.string s,.string t,.int .i64 x,.int .i64 y] w λe w'=>e=.returned (.int .i64 (jp buf ss s.data.toList t.data.toList x y).1)/\∃O,AW w0 w' O F2 b (jp buf ss s.data.toList t.data.toList x y).2 ss ts/\St w w' F1 F2 O F2:=
 h.M6 λvM vK hp=>(QP w F1 b buf ss s t x y hp U Y).mono λ_ _ h=>⟨h.1,F1,h.2.1,λ_ hk=>.inl hk,h.2.2⟩
theorem AW.flush(h:AW w0 w F1 F2 b buf ss ts):dl prog 29 #[.pointer (some ⟨b,0,none⟩)] w λe w'=>e=.returned (.int .i64 (eV buf ss).1)/\∃O,AW w0 w' O F2 b (eV buf ss).2.1 (eV buf ss).2.2 ts/\St w w' F1 F2 O F2:=
 h.M6 λY vK U=>Su w F1 b buf ss U
theorem AW.merge(h:AW w0 w F1 F2 b buf ss ts)(n:Int):dl prog 39 #[.pointer (some ⟨b,0,none⟩),.int .i64 n] w λe w'=>e=.returned (.int .i64 (eP ss n).1)/\∃O,AW w0 w' O F2 b buf (eP ss n).2 ts/\St w w' F1 F2 O F2:=
 h.M6 λY vK U=>Sj w F1 b buf ss n U
theorem AW.jf(h:AW w0 w F1 F2 b buf ss ts):dl prog 30 #[.pointer (some ⟨b,0,none⟩)] w λe w'=>e=.returned (.int .i64 ss.length)/\w=w':=by
 obtain⟨U,Y,O⟩:=h.SO;exact BU w F1 b buf ss O
end
theorem Tp(w:World):dl prog 31 #[] w λe w'=>∃(b:Nat)(F1 F2:Nat->Prop),e=.returned (.pointer (some ⟨b,0,none⟩))/\AW w w' F1 F2 b [] [] []/\Below w.heap.size w w':=by
 have af:=@kb prog;go_enter func31,ntmps31;go_wp2_with fail;refine(N3 _).mono ?_;rintro e w1 ⟨B,rfl,aa,hC,O⟩;go_wp2;go_ret;have U:(w.alloc (Obj.map #[] 0)).heap.size=w.heap.size+1:=by simp
 have ab:ey (w.alloc (Obj.map #[] 0)) w.heap.size []:=dM.made w;have ac:ey w1 w.heap.size []:=dM.below ab O;rw[U]at O aa;have ad:=O.size;rw[U]at ad;have hb:Below w.heap.size w w1:=((fm _ _).alloc (ev _) _).trans (O.mono (by omega));have ae:=hC.lt;have Y:=hb.alloc (o:=.cells #[.map (some w.heap.size),.slice none 0 0,.map (some B),.slice none 0 0] 90) (by omega);refine⟨w1.heap.size,λk=>k=w1.heap.size\/k=w.heap.size,λk=>k=w1.heap.size\/k=B,rfl,⟨⟨?_,?_,?_,w.heap.size,.slice none 0 0,B,0,.slice none 0 0,[],?_,?_⟩,?_,?_,.of Y⟩,Y⟩
 .rintro k (rfl|rfl)
  .simp
  .simp; omega
 .rintro k (rfl|rfl)
  .simp
  .simp; omega
 .rintro k (h|h) (h'|h')<;>omega
 .exact⟨lW ..,Or.inl rfl,Or.inr rfl,dM.stay ac (fr _ _ _ (by omega)),kf ..,nofun,Je⟩
 .refine⟨lW ..,Or.inl rfl,Or.inr rfl,?_,by simp[gu],kf ..,nofun,by simp[eN],nofun,by simp⟩;refine(hC.stay (fr _ _ _ ae)).mono (ev _) (λws _=>by rw[Ol])
 .rintro k (rfl|rfl)<;>omega
 .rintro k (rfl|rfl)<;>omega
theorem B5{w:World}{F1 F2:Nat->Prop}(h:Kept w F1 F2 v xs):∃a c,v=.slice a xs.length c/\xs.length<=c/\c<=dk/\∀i(hi:i<xs.length),∃g,a=some ⟨g,0,none⟩/\w.cell? ⟨g,i,none⟩=some (.string ⟨xs[i].toArray⟩):=by
 rcases h.1.2 with⟨rfl,U⟩|⟨g,cap,cur,rfl,_,Y,h1,h2,h3,h4⟩
 .refine⟨none,0,by rw[U],by omega,ez _,λi hi=>?_⟩;omega
 .refine⟨some _,cap,rfl,h1,h2,λi hi=>⟨g,rfl,?_⟩⟩;rw[dh Y];have O:=gO xs i hi;rw[<-h4,bS,if_pos (by omega)]at O;simpa using O
theorem N7{w:World}{F1 F2:Nat->Prop}(x y:Wd)(h:Kept w F1 F2 v [x,y]):dl prog 27 #[v,.string ⟨x.toArray⟩,.string ⟨y.toArray⟩,.int .i64 2] w λe w'=>e=.returned (.bool true)/\w=w':=by
 obtain⟨a,c,rfl,Y,aa,O⟩:=B5 h;obtain⟨g,rfl,d0⟩:=O 0 (by simp);obtain⟨g',U,d1⟩:=O 1 (by simp);simp only[kN,Addr.mk.injEq,and_true]at U;subst U;go_wp2;go_ret;exact⟨rfl,rfl⟩
theorem Tq{w:World}{F1 F2:Nat->Prop}(x:Wd)(y:ByteArray)(h:Kept w F1 F2 v [x]):dl prog 27 #[v,.string ⟨x.toArray⟩,.string y,.int .i64 1] w λe w'=>e=.returned (.bool true)/\w=w':=by
 obtain⟨a,c,rfl,U,Y,O⟩:=B5 h;obtain⟨g,rfl,d0⟩:=O 0 (by simp);go_wp2;go_ret;exact⟨rfl,rfl⟩
end
section
open Go.Conc Go.RowKit Go.Maps
variable {A:Ask} {ms:List Value} {cap num:Nat} {w w':World}
structure SG(w:World)(num:Nat)(A:Ask)(cap:Nat)(ms:List Value):Prop where
 c0:w.heap[5]?=some (.cells #[.chan (some 10)] 167 (0,1))
 c2:w.heap[7]?=some (.cells #[.int .i64 num] 3 (0,1))
 c3:w.heap[8]?=some (.cells #[.int .i64 A.m,.string A.q,.int .i64 A.t] 94 (0,3))
 ch:w.heap[10]?=some (.chan cap ms.toArray false ms.length 0 false)
theorem SG.stay(h:SG w num A cap ms)(hb:∀k,k=5\/k=7\/k=8\/k=10->w'.heap[k]?=w.heap[k]?):SG w' num A cap ms:=
 ⟨(hb 5 (by simp)).trans h.c0,(hb 7 (by simp)).trans h.c2,(hb 8 (by simp)).trans h.c3,(hb 10 (by simp)).trans h.ch⟩
theorem SG.lt(h:SG w num A cap ms):10<w.heap.size:=eQ h.ch
theorem SG.uG(h:SG w num A cap ms)(O:kY w w'):SG w' num A cap ms:=by
 obtain⟨τ,O⟩:=O;have:=h.lt;exact h.stay λk U=>O.block k (by show k<w.heap.size; omega)
theorem SG.gG(h:SG w num A cap ms)(v:Value):SG {w with heap:=w.heap.setIfInBounds 10 (.chan cap (ms.toArray.push v) false (ms.length+1) 0 false)} num A cap (ms++[v]):=by
 have U:=h.lt;have hb:∀k,k≠10->(w.heap.setIfInBounds 10 (.chan cap (ms.toArray.push v) false (ms.length+1) 0 false))[k]?=w.heap[k]?:=λk O=>by rw[cV (Ne.symm O)]
 refine⟨(hb 5 (by omega)).trans h.c0,(hb 7 (by omega)).trans h.c2,(hb 8 (by omega)).trans h.c3,?_⟩;rw[dc (by omega)];simp
theorem Q3{q:Nat}{e:dq}(hA:A.Ok)(h:SG w num A cap ms)(hc:ms.length<cap)(he:Told e) :
  dl prog 118 #[.int .i64 (q:Int),.string ⟨e.name.toArray⟩,qF e,.pointer (some ⟨5,0,none⟩),.pointer (some ⟨7,0,none⟩),.pointer (some ⟨8,0,none⟩)] w λen w'=>en=.returned (.tuple #[])/\SG w' num A cap (ms++[l7 A num (q,e)])/\dv (· = 10) w w':=by
 have HS:ka _:=h
 have HM:ka (∀y:World,dl prog 119 #[.agg #[.int .i64 num,.int .i64 q],.string ⟨e.name.toArray⟩,qF e,.agg #[.int .i64 A.m,.string A.q,.int .i64 A.t]] y λx w'=>x=.returned (l7 A num (q,e))/\eU y w'):=λy=>by
  refine(DZ num q ⟨e.name.toArray⟩ e.gone ⟨(ui e).toArray⟩ ⟨e.text.toArray⟩ e.du e.dD A.m A.t A.q y hA.m hA.t he.2.2 hA.q (by show e.text.toArray.size<=_; have:=he.2.1; simp; omega)).mono ?_;rintro x w' ⟨h1,h2⟩;exact⟨h1,h2⟩
 obtain⟨mv,ac⟩:∃mv,mv=l7 A num (q,e):=⟨_,rfl⟩;rw[<-ac]at HM⊢;obtain⟨w0,ad⟩:∃w0,w.alloc (.cells #[.bool e.gone,.string ⟨(ui e).toArray⟩,.string ⟨e.text.toArray⟩,.int .i64 e.du,.int .i64 e.dD] 111)=w0:=⟨_,rfl⟩;have ae:ka (Below w.heap.size w w0):=by show Below _ _ _; rw[<-ad]; exact(fm _ _).alloc (ev _) _
 have aa:w0.heap[w.heap.size]?=some (.cells #[.bool e.gone,.string ⟨(ui e).toArray⟩,.string ⟨e.text.toArray⟩,.int .i64 e.du,.int .i64 e.dD] 111 (0,0)):=by rw[<-ad]; exact heap_alloc_new w _
 have Y:ka (SG w0 num A cap ms):=h.stay λk hk=>ae.out.block k (by have:=h.lt; omega);have HY:ka (∀y,kY w0 y->y.heap[w.heap.size]?=some (.cells #[.bool e.gone,.string ⟨(ui e).toArray⟩,.string ⟨e.text.toArray⟩,.int .i64 e.du,.int .i64 e.dD] 111 (0,0))):=λy ⟨τ,U⟩=>(U.block _ (eQ aa)).trans aa;clear h he hA ac aa HS;unfold qF at HM⊢;go_enter func118,ntmps118;go_upto_region 1 with fail;refine gX (Sd:=λa y=>y.tape=w0.tape->nh _ _ _ [8] a y) (last:=8) (tl:=[]) (by kernel_rfl) ?_ (λa y h ht=>h ht);refine dB 0 ?_ ?_ ?_;rotate_left
 .intro y U; have O:=(Y.out.uG U).c0;have q0:y.cell? ⟨5,0,none⟩=some (.chan (some 10)):=by rw[dh O]; rfl
  clear O;unfold gh; go_simp; refine⟨eU.refl _,?_⟩; with_reducible rfl
 go_simp;refine dB 1 ?_ ?_ ?_;rotate_left
 .intro y U; have O:=(Y.out.uG U).c2;have q0:y.cell? ⟨7,0,none⟩=some (.int .i64 num):=by rw[dh O]; rfl
  clear O;unfold gh; go_simp; refine⟨eU.refl _,?_⟩; with_reducible rfl
 go_simp;refine dB 2 ?_ ?_<|dB 3 ?_ ?_<|dB 4 ?_ ?_ ?_
 any_goals(intro y U; unfold gh; go_simp; refine⟨eU.refl _,?_⟩; with_reducible rfl)
 go_simp;refine dB 5 ?_ ?_ ?_;rotate_left
 .intro y U; have O:=HY.out y U;have q0:y.cell? ⟨w.heap.size,0,none⟩=some (.bool e.gone):=by rw[dh O]; rfl
  have q1:y.cell? ⟨w.heap.size,1,none⟩=some (.string ⟨(ui e).toArray⟩):=by rw[dh O]; rfl
  have q2:y.cell? ⟨w.heap.size,2,none⟩=some (.string ⟨e.text.toArray⟩):=by rw[dh O]; rfl
  have q3:y.cell? ⟨w.heap.size,3,none⟩=some (.int .i64 e.du):=by rw[dh O]; rfl
  have q4:y.cell? ⟨w.heap.size,4,none⟩=some (.int .i64 e.dD):=by rw[dh O]; rfl
  clear O;unfold gh; go_simp; refine⟨eU.refl _,?_⟩; with_reducible rfl
 go_simp;refine dB 6 ?_ ?_ ?_;rotate_left
 .intro y U; have O:=(Y.out.uG U).c3;have q0:y.cell? ⟨8,0,none⟩=some (.int .i64 A.m):=by rw[dh O]; rfl
  have q1:y.cell? ⟨8,1,none⟩=some (.string A.q):=by rw[dh O]; rfl
  have q2:y.cell? ⟨8,2,none⟩=some (.int .i64 A.t):=by rw[dh O]; rfl
  clear O;unfold gh; go_simp; refine⟨eU.refl _,?_⟩; with_reducible rfl
 go_simp;refine dB 7 ?_ ?_ ?_;rotate_left
 .intro y U; unfold gh; go_simp; refine⟨rfl,(HM.out y).mono ?_⟩; rintro e y2 ⟨rfl,h2⟩; refine⟨_,rfl,h2,?_⟩; with_reducible rfl
 go_simp;refine mF (by kernel_rfl) (λt=>CU (by kernel_rfl) _ _) ?_;intro y U ht;have ab:=Y.out.uG U;refine zn (v:=mv) rfl rfl rfl rfl rfl rfl ab.ch (by simpa using hc) ?_;have af:ka _:=ab.gG mv
 have HF:ka (dv (· = 10) w {y with heap:=y.heap.setIfInBounds 10 (.chan cap (ms.toArray.push mv) false (ms.length+1) 0 false)}):=by
  obtain⟨τ,hx⟩:=U;have hb:=ae.out;refine⟨hx.os.trans hb.os,ht.trans hb.tape,hx.output.trans hb.output,?_,λk hk hn=>?_⟩
  .show _<=(y.heap.setIfInBounds 10 _).size;rw[Array.size_setIfInBounds];exact ew hb.size hx.size
  .show(y.heap.setIfInBounds 10 _)[k]?=_;rw[cV (Ne.symm hn)];exact(hx.block k (e8 hk hb.size)).trans (hb.block k hk)
 clear ab;generalize ({y with heap:=y.heap.setIfInBounds 10 (.chan cap (ms.toArray.push mv) false (ms.length+1) 0 false)}:World)=w3 at *;go_end0;exact⟨rfl,af.out,HF.out⟩
def Uo(num:Nat)(A:Ask)(cap:Nat):DE where
 fn:=118
 cp:=#[.pointer (some ⟨5,0,none⟩),.pointer (some ⟨7,0,none⟩),.pointer (some ⟨8,0,none⟩)]
 own k:=k=10
 P2 k:=k=5\/k=7\/k=8\/k=10
 T w told:=SG w num A cap (told.map (l7 A num))
theorem P5{mx:Nat}(U:A.Ok)(hc:1099511627776<=cap):(Uo num A cap).Ok mx where
 gK:=⟨_,_,func118,rfl,by kernel_rfl⟩
 sub _ h:=.inr (.inr (.inr h))
 lt:=by
  rintro w told k h O;have:=SG.lt h;have O:k=5\/k=7\/k=8\/k=10:=O;omega
 stay h hb:=SG.stay h hb
 tell:=by
  intro w q told e h _ hl Y _;refine(Q3 (q:=q) U h (by rw[bG]; omega) Y).mono ?_;rintro en w' ⟨rfl,g1,g2⟩;exact⟨rfl,by show SG _ _ _ _ _; rw[b8]; exact g1,g2⟩
end
section
open Go.Conc Go.RowKit Go.Maps
def T1(L:List Value)(w:World):Exit->Act->World->Prop:=λe a w'=>(e=.normal\/e=.ret)/\a.defers=re/\(∃cap buf s r t,w'.heap[10]?=some (.chan cap buf false s r t)/\buf.toList=L)/\dv (· = 10) w w'
theorem TC{num cap:Nat}{A:Ask}{S:ByteArray}{ps qs:List (Nat×dq)}{w:World}(Y:A.Ok)(hc:1099511627776<=cap)(h:SG w num A cap [])(h6:w.heap[6]?=some (.cells #[.string S] 9 (0,1)))(hS:S.size<=1099511627775)(hX:ji S.size S.data.toList=some (ps,qs)) :
  (uS f116).wp prog (T1 ((ps++qs).map (l7 A num)) w) ⟨(ul 116 8 4 .skip).tmps,re⟩ w:=by
 have O:=BM (P5 (num:=num) (mx:=S.size) Y hc) (w:=w) h hS (ev _) hX;have c6:w.cell? ⟨6,0,none⟩=some (.string S):=by rw[dh h6]; rfl
 rw[show(ul _ 8 4 _).tmps=#[.pointer _,.pointer _,.pointer _,.pointer _,.chan _,mj,mj,mj]from rfl];show Code.wp _ (Code.region 1 _ false) ..;obtain⟨L,U⟩:∃L,L=(ps++qs).map (l7 A num):=⟨_,rfl⟩;rw[<-U];have HL:ka _:=U;go_wp2_with fail;refine O.mono ?_;rintro e w2 ⟨rfl,g1,g2⟩;have HG:ka _:=g2;have HF:ka _:=g1;go_wp2;exact⟨.inl rfl,rfl,⟨_,_,_,_,_,HG.out.ch,by rw[HL.out]⟩,HF.out⟩
end
section
open Go.Conc Go.RowKit Go.Maps
def Uv(s:Nat)(S:ByteArray)(num:Nat)(A:Ask):Nat->Array Value|0=>#[.chan (some (s+3))]|1=>#[.string S]|2=>#[.int .i64 num]|_=>KM A
def U6(S:ByteArray)(num:Nat)(A:Ask):Nat->Array Value|0=>#[.chan (some 10)]|1=>#[.string S]|2=>#[.int .i64 num]|_=>KM A
def Ub:Nat->ee|0=>167|1=>9|2=>3|_=>94
theorem Lk{Z:iS prog}{w:World}{T:List Frame}{dd q K num s:Nat}{A:Ask}{S:ByteArray}{ps qs:List (Nat×dq)}{w6:World}{os:List OF}{lent:Bool}(hA:A.Ok)(hK:K<=s+5)(h5:5<=s)(ab:dd<s)
  (hc:∀i,i<4->w6.heap[bb s i]?=some (.cells (Uv s S num A i) (Ub i) (0,0))) (hS:S.size<=1099511627775) (hX:ji S.size S.data.toList=some (ps,qs)) :
  Sends (nR prog Z w T dd q K lent) (nR prog Z w T dd q (s+5) lent) 116 (wY (bb s)) os os w6 (sJ w6 [bb s 0,bb s 1,bb s 2,bb s 3]) (s+3) ((ps++qs).map (l7 A num)):=by
 refine F8 (cm:=Uv s S num A) (cd:=U6 S num A) (te:=Ub) (fz:=λ_=>(0,0)) (M:=none) (ex:=.map #[] 0) (cap:=1099511627776) TM rfl rfl (by decide) (by decide) (by decide) Tu (λv hv=>?_) ⟨rfl,rfl,rfl,rfl,rfl,DD,λm O=>?_,λb=>?_,λi hi=>?_,NL s,hc,λm O i hi=>?_,rfl,rfl,λi h1 h4 m mi w' a' O hw ac Y=>?_,nofun⟩ λτ=>?_
 .obtain⟨p,_,rfl⟩:=b4.1 hv;exact Ex A num p
 .obtain⟨x1,x2,x3⟩:=O.x;refine⟨x1,x2,λr O=>?_⟩;rcases O with O|O
  .have:=x3 r O; omega
  .simp only[b9,bM,or_false,bb]at O;omega
 .exact⟨λh=>⟨h,nofun⟩,λh=>h.1⟩
 .have:=JV s i; omega
 .obtain⟨x1,_,_⟩:=O.x;rw[x1];have:=(JV s i).1;omega
 .have:i=1\/i=2\/i=3:=by omega
  rcases this with rfl|rfl|rfl
  .exact Flat.arr (c:=#[.string S]) (λj U=>by
    have:=U
    match j,this with
    |0,_=>exact .string _) Y
  .exact Flat.arr (c:=#[.int _ num]) (λj U=>by
    have:=U
    match j,this with
    |0,_=>exact .int ..) Y
  .exact Flat.arr (c:=KM A) (λj U=>by
    have:=U
    match j,this with
    |0,_=>exact .int ..
    |1,_=>exact .string _
    |2,_=>exact .int ..) Y
 .have aa:SG (tp (sU w6 (U6 S num A) Ub 1099511627776 (.map #[] 0)) τ) num A _ []:=⟨rfl,rfl,rfl,rfl⟩;exact Ca (TC hA (ev _) aa rfl hS hX) λe a w' ⟨h1,h2,h3,_⟩=>⟨h1,h2,h3,.inl rfl⟩
end
section
open Go.Conc Go.RowKit Go.Maps
section
variable {Z:iS prog} {w:World} {T:List Frame} {dd q K:Nat} {lent:Bool} {fn:dr} {tm:Array Value} {os:List OF} {wl:World} {V:List (Nat×Option (List Value))} {k:List Item}
theorem wM(num:Nat)(A:Ask){S:ByteArray}{ps qs:List (Nat×dq)}{ops:Array Oper}{i:Nat}{rest:List Nat}{o:Oper}(s:Nat)(hs:s=wl.heap.size)(hi:ops[i]?=some o)(hA:A.Ok)(hK:K<=s+5)(h5:5<=s)(ai:dd<s)(aj:∀(r:Nat)a c,wl.heap[r]?≠some (.map a c))
  (ak:S.size<=1099511627775) (hX:ji S.size S.data.toList=some (ps,qs)) (hV:∀x∈V,x.1<s)
  (hn:∀w2:World,w2.heap.size=s+5->(∀r,r<s->w2.heap[r]?=wl.heap[r]?)->(∀(r:Nat)a c,w2.heap[r]?≠some (.map a c))->w2.os=wl.os->dn (nR prog Z w T dd q (s+5) lent) (⟨fn,eI o.dst tm (.chan (some (s+3))),.inRegion ops rest::k⟩::os) w2 ((s+3,some ((ps++qs).map (l7 A num)))::V)) :
  dn (nR prog Z w T dd q K lent) (⟨79,#[.int .i64 num,.string S,.agg #[.int .i64 A.m,.string A.q,.int .i64 A.t],mj,mj,mj,mj,mj,mj,mj,mj],[.code (dT f79)]⟩::⟨fn,tm,.inRegion ops (i::rest)::k⟩::os) wl V:=by
 show dn _ (⟨_,_,[.code (.seq (.region 0 _ false) (.seq (.region 1 _ false) (.seq (.region 2 _ false) (.seq (.region 3 _ false) .ret))))]⟩::_) _ _;refine dn.seq ?_;have HS:ka _:=hs;clear hs;refine iF (by kernel_rfl) rfl (.inl (by simp)) λy0 O U=>?_;have HY:ka (y0.heap=wl.heap/\y0.os=wl.os):=⟨O,U⟩;clear O U;go_wp2;refine gp ?_;obtain⟨O,U⟩:=HY.out;obtain⟨w3,aa⟩:∃w3,w3=(((y0.alloc (.cells #[.int .i64 num] 3)).alloc (.cells #[.string S] 9)).alloc (.cells #[.int .i64 A.m,.string A.q,.int .i64 A.t] 94)):=⟨_,rfl⟩;have Y:y0.heap.size=s:=by rw[O]; exact HS.out.symm
 have z3:w3.heap.size=s+3:=by rw[aa]; simp[Y]
 have o3:∀r,r<s->w3.heap[r]?=wl.heap[r]?:=λr hr=>by
  rw[aa,fV _ _ (by simp[Y]; omega),fV _ _ (by simp[Y]; omega),fV _ _ (by rw[Y]; omega),O]
 have g0:w3.heap[s]?=some (.cells #[.int .i64 num] 3 (0,0)):=by rw[aa,fV _ _ (by simp only[ke,Y]; omega),fV _ _ (by simp only[ke,Y]; omega),iz _ _ Y.symm]
 have g1:w3.heap[s+1]?=some (.cells #[.string S] 9 (0,0)):=by rw[aa,fV _ _ (by simp[Y]),iz _ _ (by simp[Y])]
 have g2:w3.heap[s+2]?=some (.cells #[.int .i64 A.m,.string A.q,.int .i64 A.t] 94 (0,0)):=by rw[aa,iz _ _ (by simp[Y])]
 have p3:w3.os=wl.os:=by rw[aa]; exact U
 rw[<-aa,Y];clear aa O U Y HY y0;refine dn.seq (dn.region ?_);refine dn.BJ (i:=0) rfl rfl (λal w=>by kernel_rfl) ?_;rw[z3];obtain⟨w4,ac⟩:∃w4:World,w4={w3 with heap:=w3.heap.push jh}:=⟨_,rfl⟩;have z4:w4.heap.size=s+4:=by rw[ac]; simp[z3]
 have o4:∀r,r<s+3->w4.heap[r]?=w3.heap[r]?:=λr hr=>by rw[ac]; show(w3.heap.push _)[r]?=_; rw[de,if_neg (by omega)]
 have g3:w4.heap[s+3]?=some jh:=by rw[ac]; show(w3.heap.push _)[s+3]?=_; rw[<-z3]; simp
 have p4:w4.os=wl.os:=by rw[ac]; exact p3
 rw[<-ac];clear ac;have ag:s+1+1=s+2:=rfl;rw[ag];clear ag;go_simp;refine lL rfl (by rfl) (by kernel_rfl) λy0 O U=>?_;have HY:ka (y0.heap=w4.heap/\y0.os=w4.os):=⟨O,U⟩;clear O U;unfold gh;go_simp;simp only[iM];obtain⟨O,U⟩:=HY.out;obtain⟨w5,ad⟩:∃w5,w5=y0.alloc (.cells #[.chan none] 167):=⟨_,rfl⟩;have z5:w5.heap.size=s+5:=by rw[ad]; simp[O,z4]
 have o5:∀r,r<s+4->w5.heap[r]?=w4.heap[r]?:=λr hr=>by rw[ad,fV _ _ (by rw[O,z4]; exact hr),O]
 have g4:w5.heap[s+4]?=some (.cells #[.chan none] 167 (0,0)):=by rw[ad,iz _ _ (by rw[O,z4])]
 have p5:w5.os=wl.os:=by rw[ad]; exact U.trans p4
 rw[<-ad,O,z4];clear ad O U HY y0;refine lL rfl (by rfl) (by kernel_rfl) λy0 O U=>?_;have c4:y0.cell? ⟨s+4,0,none⟩=some (.chan none):=by rw[dh (by rw[O]; exact g4)]; rfl
 have f4:y0.frozen? ⟨s+4,0,none⟩=false:=dK (by rw[O]; exact g4) 0;have HY:ka (y0.heap=w5.heap/\y0.os=w5.os):=⟨O,U⟩;clear O U;unfold gh;go_simp;simp only[iM];obtain⟨O,U⟩:=HY.out;obtain⟨w6,ae⟩:∃w6,w6=y0.setCell ⟨s+4,0,none⟩ (.chan (some (s+3))):=⟨_,rfl⟩;have z6:w6.heap.size=s+5:=by rw[ae]; simp[O,z5]
 have o6:∀r,r≠s+4->w6.heap[r]?=w5.heap[r]?:=λr hr=>by rw[ae,fk _ _ _ _ hr,O]
 have g6:w6.heap[s+4]?=some (.cells #[.chan (some (s+3))] 167 (0,0)):=by rw[ae]; exact heap_setCell_box_a _ (by rw[O]; exact g4)
 have p6:w6.os=wl.os:=by rw[ae]; exact U.trans p5
 rw[<-ae];clear ae O U HY c4 f4 y0;refine dn.inRegion (dn.seq (dn.region ?_));have k0:w6.heap[s]?=some (.cells #[.int .i64 num] 3 (0,0)):=by rw[o6 _ (by omega),o5 _ (by omega),o4 _ (by omega)]; exact g0
 have k1:w6.heap[s+1]?=some (.cells #[.string S] 9 (0,0)):=by rw[o6 _ (by omega),o5 _ (by omega),o4 _ (by omega)]; exact g1
 have k2:w6.heap[s+2]?=some (.cells #[.int .i64 A.m,.string A.q,.int .i64 A.t] 94 (0,0)):=by rw[o6 _ (by omega),o5 _ (by omega),o4 _ (by omega)]; exact g2
 have k3:w6.heap[s+3]?=some jh:=by rw[o6 _ (by omega),o5 _ (by omega)]; exact g3
 have ko:∀r,r<s->w6.heap[r]?=wl.heap[r]?:=λr hr=>by rw[o6 _ (by omega),o5 _ (by omega),o4 _ (by omega),o3 _ hr]
 clear g0 g1 g2 g3 g4 o3 o4 o5 o6 z3 z4 z5 p3 p4 p5
 have ah:∀j,j<4->w6.heap[bb s j]?=some (.cells (Uv s S num A j) (Ub j) (0,0)):=by
  intro j hj
  match j,hj with
  |0,_=>exact g6
  |1,_=>exact k1
  |2,_=>exact k0
  |3,_=>exact k2
 have af:∀(r:Nat)a c,w6.heap[r]?≠some (.map a c):=by
  intro r a c h;by_cases h1:r<s
  .rw[ko r h1]at h; exact aj r a c h
  .have h2:=(cT.1 h).1;rw[z6]at h2;have:r=s\/r=s+1\/r=s+2\/r=s+3\/r=s+4:=by omega
   rcases this with rfl|rfl|rfl|rfl|rfl
   .rw[k0]at h; cases h
   .rw[k1]at h; cases h
   .rw[k2]at h; cases h
   .rw[k3]at h; cases h
   .rw[g6]at h; cases h
 have hS:=λos=>Lk (Z:=Z) (w:=w) (T:=T) (q:=q) (lent:=lent) (os:=os) hA hK h5 ai ah ak hX;refine dn.go (i:=0) (j:=1) (f:=116) (q:=9) (rc:=s+3) (E₂:=nR prog Z w T dd q (s+5) lent) (wl₂:=sJ w6 [bb s 0,bb s 1,bb s 2,bb s 3]) (L:=(ps++qs).map (l7 A num)) (os₂:=?os2) (V₂:=(s+3,some ((ps++qs).map (l7 A num)))::V) rfl rfl rfl rfl rfl rfl rfl rfl ?hcx ?hq ?hS ?h1 ?h2 ?h3 ?h4 ?h5 ?h6
 case hS=>
  have e:di (iJ #[Value.int IntKind.i64 ↑num,Value.string S,Value.agg #[Value.int IntKind.i64 ↑A.m,Value.string A.q,Value.int IntKind.i64 ↑A.t],Value.pointer (some {block:=s,off:=0}),Value.pointer (some {block:=s+1,off:=0}),Value.pointer (some {block:=s+2,off:=0}),Value.chan none,Value.pointer (some {block:=s+4,off:=0}),Value.chan (some (s+3)),mj,mj]) #[Operand.tmp 7,Operand.tmp 4,Operand.tmp 3,Operand.tmp 5]=wY (bb s):=by kernel_rfl
  rw[e];exact hS _
 .intro x hx;simp only[b9,bM,or_false]at hx;rcases hx with rfl|rfl|rfl|rfl<;>trivial
 .show 9<11;decide
 .intro q' h1 h2 m Pd ρ gs w' t am an ao j m' r' hr;exact absurd h1 h2
 .simp
 .intro x hx;rcases b9.1 hx with rfl|hx
  .exact .inl rfl
  .refine .inr ⟨bJ _ hx,λe=>?_⟩;have:=hV x hx;rw[e]at this;exact absurd this (by show ¬(s+3<s); omega)
 .simp
 .intro r vs hr;rcases b9.1 hr with hr|hr
  .cases hr
  .exact bJ _ hr
 .obtain⟨w7,ab⟩:∃w7,w7=sJ w6 [bb s 0,bb s 1,bb s 2,bb s 3]:=⟨_,rfl⟩;have z7:w7.heap.size=s+5:=by rw[ab,tP]; exact z6
  have o7:∀r,r<s->w7.heap[r]?=wl.heap[r]?:=λr hr=>by
   rw[ab,po _ (by simp only[b9,bM,or_false,bb]; omega)];exact ko r hr
  have g7:w7.heap[s+4]?=some (.cells #[.chan (some (s+3))] 167 (0,1)):=by
   rw[ab];exact y8 w6 (by simp[bb]) g6
  have m7:∀(r:Nat)a c,w7.heap[r]?≠some (.map a c):=by
   intro r a c h;rw[ab,xu]at h
   cases he:w6.heap[r]? with
   |none=>rw[he]at h; cases h
   |some o=>
    rw[he]at h;simp only[lp,kN]at h;split at h
    .cases o<;>simp[N6]at h;exact af _ _ _ he
    .exact af r a c (by rw[he,h])
  have p7:w7.os=wl.os:=by rw[ab]; exact p6
  rw[<-ab];clear ab hS ah af k0 k1 k2 k3 ko g6 z6 p6;refine dn.inRegion (dn.seq ?_);refine iF (by kernel_rfl) rfl (.inl (by simp)) λy0 O U=>?_;have c7:y0.cell? ⟨s+4,0,none⟩=some (.chan (some (s+3))):=by rw[dh (by rw[O]; exact g7)]; rfl
  have HY:ka (y0.heap=w7.heap/\y0.os=w7.os):=⟨O,U⟩;clear O U;simp only[cB,cK,cJ];go_wp2;refine gp ?_;obtain⟨O,U⟩:=HY.out;refine dn.back (v:=.chan (some (s+3))) (.inr ⟨_,rfl⟩) func79 hi (λτ=>?_) (hn y0 (by rw[O]; exact z7) (λr hr=>by rw[O]; exact o7 r hr) (λr a c=>by rw[O]; exact m7 r a c) (U.trans p7));kernel_rfl
end
end
section
open Go.Conc Go.RowKit Go.Maps
def yr(c:Code):Code:=match c with
 |.seq _ (.seq _ (.seq (.seq _ (.block _ (.loop x))) _))=>x
 |_=>.skip
theorem Nd:f79.name≠ "runtime.NumGoroutine":=by
 decide
section
variable {Z:iS prog} {w:World} {T:List Frame} {dd q K:Nat} {wl:World} {V:Vs}
theorem Lb{A:Ask}{S:ByteArray}{ps qs:List (Nat×dq)}{cl:Nat->Option Nat}{sb so n sc bx b s k:Nat}{a2 a3 a4 a6 a8 a9 a10 aD a15 a16 a17 a18 a19 a20 a21 a22 a23 a24 a25 a26 a27 a28 a29 ao ap aq ar au av aw ax ay az a0:Value}{td:List Item}(hT:∀ps,T=[ps]->ps.mode≠.panicking [ei])
  (hs:s=wl.heap.size) (hA:A.Ok) (hK:K<=s+5) (h5:5<=s) (Y:dd<s) (O:∀(r:Nat)a c,wl.heap[r]?≠some (.map a c)) (hn:n<=6) (hk:k<n) (hV:∀x∈V,x.1<s)
  (aa:wl.heap[bx]?=some (.cells #[.int .i64 A.m,.string A.q,.int .i64 A.t] 94 (0,0))) (hb:wl.heap[b]?=some (.cells (mB cl) 125 (0,0)))
  (ad:wl.cell? ⟨sb,so+k,none⟩=some (.string S)) (ab:S.size<=1099511627775) (hX:ji S.size S.data.toList=some (ps,qs))
  (fin:∀(w2:World)(c8 c9 aE aF aG aH aI aJ aK aL aM aN aO:Value),w2.heap.size=s+5->(∀r,r<s->r≠b->w2.heap[r]?=wl.heap[r]?)->w2.heap[b]?=some (.cells (mB (l9 cl k (s+3))) 125 (0,0))->(∀(r:Nat)a c,w2.heap[r]?≠some (.map a c))->w2.os=wl.os->
    dn (nR prog Z w T dd q (s+5) false) [⟨49,#[.slice (some ⟨sb,so,none⟩) n sc,.map (some dd),a2,a3,a4,.pointer (some ⟨bx,0,none⟩),a6,.pointer (some ⟨b,0,none⟩),c8,c9,a10,.slice (some ⟨sb,so,none⟩) n sc,.int .i64 (n:Int),.int .i64 ((k+1:Nat):Int),aE,aF,aG,aH,aI,aJ,aK,aL,aM,aN,aO,a25,a26,a27,a28,a29,ao,ap,aq,ar,au,av,aw,ax,ay,az,a0],.code (yr (dT Tryz.f49))::.inLoop (yr (dT Tryz.f49))::td⟩] w2 ((s+3,some ((ps++qs).map (l7 A k)))::V)) :
  dn (nR prog Z w T dd q K false) [⟨49,#[.slice (some ⟨sb,so,none⟩) n sc,.map (some dd),a2,a3,a4,.pointer (some ⟨bx,0,none⟩),a6,.pointer (some ⟨b,0,none⟩),a8,a9,a10,.slice (some ⟨sb,so,none⟩) n sc,.int .i64 (n:Int),.int .i64 (k:Int),aD,a15,a16,a17,a18,a19,a20,a21,a22,a23,a24,a25,a26,a27,a28,a29,ao,ap,aq,ar,au,av,aw,ax,ay,az,a0],.code (yr (dT Tryz.f49))::.inLoop (yr (dT Tryz.f49))::td⟩] wl V:=by
 have HA:ka _:=And.intro hs (And.intro hA (And.intro hK (And.intro h5 (And.intro Y (And.intro O (And.intro hV (And.intro aa (And.intro hb (And.intro ad (And.intro ab (And.intro hX (And.intro fin hT))))))))))));clear hs hA hK h5 Y O hV aa hb ad ab hX fin hT;obtain⟨B,hB⟩:∃B,B=Item.inLoop (yr (dT Tryz.f49)):=⟨_,rfl⟩;rw[<-hB];have HB:ka _:=hB;clear hB;show dn _ [⟨_,_,.code (.seq (.region 3 _ false) (.seq (.cond _ .skip (.exit 0)) (.seq (.block 1 (.seq (.region 4 _ false) (.region 5 _ false))) (.region 6 _ false))))::_⟩] _ _;refine dn.sr λkk HK=>?_;have aQ:(k:Int)<(n:Int):=by omega
 (refine eT ?_; go_simp);refine dn.ie HK ?_;clear HK kk;refine dn.seq (dn.yS trivial rfl (dn.skip ?_));refine dn.seq (dn.block (dn.sr λkk HK=>?_))
 (iterate 2 (refine eT ?_; go_simp));refine lL rfl (by rfl) (by kernel_rfl) λy0 ak ah=>?_
 have e0:y0.cell? ⟨sb,so+k,none⟩=some (.string S):=by
  have:=HA.out.2.2.2.2.2.2.2.2.2.1;unfold kj at this⊢;rw[ak];exact this
 have HY:ka (y0.heap=wl.heap/\y0.os=wl.os):=⟨ak,ah⟩;clear ak ah;unfold gh;go_simp;simp only[iM];clear e0
 (iterate 2 (refine eT ?_; go_simp));refine dn.ie HK ?_;clear HK kk;refine k9 λkk HK=>?_;refine dn.region ?_
 (iterate 3 (refine eT ?_; go_simp));refine lL rfl (by rfl) (by kernel_rfl) λy1 a5 ai=>?_;have ae:y1.heap=wl.heap:=a5.trans HY.out.1;have e0:y1.cell? ⟨bx,0,none⟩=some (.int .i64 A.m):=by rw[dh (by rw[ae]; exact HA.out.2.2.2.2.2.2.2.1)]; rfl
 have e1:y1.cell? ⟨bx,1,none⟩=some (.string A.q):=by rw[dh (by rw[ae]; exact HA.out.2.2.2.2.2.2.2.1)]; rfl
 have e2:y1.cell? ⟨bx,2,none⟩=some (.int .i64 A.t):=by rw[dh (by rw[ae]; exact HA.out.2.2.2.2.2.2.2.1)]; rfl
 have al:ka (y1.heap=wl.heap/\y1.os=wl.os):=⟨ae,ai.trans HY.out.2⟩;clear a5 ai ae;unfold gh;go_simp;simp only[iM];obtain⟨hs,hA,hK,h5,Y,O,hV,aa,hb,ad,ab,hX,fin,hT⟩:=HA.out;rw[<-al.out.1]at hs O aa hb;clear e0 e1 e2;refine dn.qA #[.int .i64 (k:Int),.string S,.agg #[.int .i64 A.m,.string A.q,.int .i64 A.t],mj,mj,mj,mj,mj,mj,mj,mj] (i:=4) (gK:=f79) (c:=dT f79) rfl rfl func79 (by kernel_rfl) Nd rfl (by simp[dP]) (by kernel_rfl) ?_;refine wM k A (S:=S) (ps:=ps) (qs:=qs) s hs rfl hA hK h5 Y O ab hX hV λw2 z2 o2 U p2=>?_;have af:b<s:=by rw[hs]; exact(cT.1 hb).1
 have am:w2.heap[b]?=some (.cells (mB cl) 125 (0,0)):=(o2 b af).trans hb;have aP:k<7:=by omega
 have a':∀r,r<s->w2.heap[r]?=wl.heap[r]?:=λr hr=>(o2 r hr).trans (by rw[al.out.1]);have aA:w2.os=wl.os:=p2.trans al.out.2;have H2:ka _:=And.intro z2 (And.intro a' (And.intro aA (And.intro am (And.intro af U))));clear hs hA hK h5 Y O hV aa hb ad ab hX fin hT z2 o2 U p2 am af a' aA;rw[fF];go_simp;have aB:(k:Int)<7:=by omega
 (refine eT ?_; go_simp);clear aB;refine lL rfl (by rfl) (by kernel_rfl) λy2 an aj=>?_;have gb:y2.heap[b]?=some (.cells (mB cl) 125 (0,0)):=by rw[an]; exact H2.out.2.2.2.1
 have e0:y2.cell? ⟨b,k,none⟩=some (.chan (cl k)):=by
  rw[dh gb];rcases(by omega:k=0\/k=1\/k=2\/k=3\/k=4\/k=5\/k=6)with rfl|rfl|rfl|rfl|rfl|rfl|rfl<;>rfl
 have f0:y2.frozen? ⟨b,k,none⟩=false:=dK gb k;have ag:ka (y2.heap=w2.heap/\y2.os=w2.os):=⟨an,aj⟩;have HG:ka _:=gb;clear an aj gb;unfold gh;go_simp;simp only[iM];clear e0 f0;obtain⟨w3,ac⟩:∃w3,w3=y2.setCell ⟨b,k,none⟩ (.chan (some (s+3))):=⟨_,rfl⟩;have g3:w3.heap[b]?=some (.cells (mB (l9 cl k (s+3))) 125 (0,0)):=by rw[ac,heap_set HG.out k (.chan (some (s+3))),<-Jk aP]; simp only[cZ]
 have o3:∀r,r≠b->w3.heap[r]?=w2.heap[r]?:=λr hr=>by rw[ac,fk _ _ _ _ hr,ag.out.1]
 have z3:w3.heap.size=s+5:=by rw[ac,tO,ag.out.1]; exact H2.out.1
 have p3:w3.os=w2.os:=by rw[ac,pB]; exact ag.out.2
 rw[<-ac];clear ac HG ag y2;have H3:ka _:=And.intro g3 (And.intro o3 (And.intro z3 p3));clear g3 o3 z3 p3;refine dn.ie HK ?_;clear HK kk;refine dn.inBlock ?_;refine k9 λkk HK=>?_;refine dn.region ?_
 (refine eT ?_; go_simp);have aC:IntKind.i64.wrap ((k:Int)+1)=((k+1:Nat):Int):=by simp only[lo]; omega
 rw[aC];clear aC
 (refine eT ?_; go_simp);refine dn.inRegion ?_;rw[HK.out,HB.out];refine dn.inLoop ?_;obtain⟨hs,hA,hK,h5,Y,O,hV,aa,hb,ad,ab,hX,fin,hT⟩:=HA.out;obtain⟨g3,o3,z3,p3⟩:=H3.out;obtain⟨z2,o2,p2,am,af,U⟩:=H2.out;have ek:(k:Int)+1=((k+1:Nat):Int):=by omega
 rw[<-b8];refine fin w3 _ _ _ _ _ _ _ _ _ _ _ _ _ z3 (λr hr hn=>(o3 r hn).trans (o2 r hr)) g3 (λr a c h=>?_) (p3.trans p2);by_cases hr:r=b
 .rw[hr,g3]at h; cases h
 .rw[o3 r hr]at h; exact U r a c h
end
end
section
def jB(A:Ask)(P:Nat->List (Nat×dq)):Nat->List lT
 |0=>[]
 |k+1=>(P k).map (pF A k)++jB A P k
def allM(A:Ask)(P:Nat->List (Nat×dq))(es:List dq)(n:Nat):List lT:=(fM es).map (pF A n)++jB A P n
section
variable {A:Ask} {P Q:Nat->List (Nat×dq)}
def jJ(ps:List (Nat×dq)):List Wd:=ps.map λp=>p.2.name
theorem y7:∀n,(∀j,j<n->P j=Q j)->jB A P n=jB A Q n
 |0,_=>rfl
 |n+1,h=>by simp only[jB]; rw[h n (by omega),y7 n λj O=>h j (by omega)]
theorem tE:∀n,∀m∈jB A P n,m.wZ<n
 |0,m,h=>by simp[jB]at h
 |n+1,m,h=>by
  rcases bA.1 h with h|h
  .obtain⟨p,_,rfl⟩:=b4.1 h
   rw[(im n p).1]; omega
  .have:=tE n m h; omega
theorem Au(l r:List lT)(x:Wd):eJ (l++r) x=max (eJ l x) (eJ r x):=by
 induction l with
 |nil=>simp[eJ]
 |cons a l O=>
  simp only[cQ,eJ,O];split<;>omega
theorem C4(n:Nat)(ps:List (Nat×dq))(x:Wd):eJ (ps.map (pF A n)) x=if x∈jJ ps then n else 0:=by
 induction ps with
 |nil=>simp[eJ,jJ]
 |cons p ps U=>
  have e:jJ (p::ps)=p.2.name::jJ ps:=rfl;rw[e,bL];simp only[eJ,(im n p).1,(im n p).2.2.1,U];by_cases h:p.2.name=x
  .by_cases O:x∈jJ ps<;>simp[h,O]
  .have Y:¬x=p.2.name:=λe=>h e.symm;by_cases O:x∈jJ ps<;>simp[h,O,Y]
theorem vT(n:Nat)(x:Wd):eJ (jB A P (n+1)) x=if x∈jJ (P n)then n else eJ (jB A P n) x:=by
 show eJ (_++_) x=_;rw[Au,C4];split
 .have:eJ (jB A P n) x<=n:=uL _ _ λm hm=>by have:=tE n m hm; omega
  omega
 .omega
theorem ER:∀n,∀m∈jB A P n,m.wanted=true->m.M6.name=m.name
 |0,m,h=>by simp[jB]at h
 |n+1,m,h=>by
  intro O
  rcases bA.1 h with h|h
  .obtain⟨p,_,rfl⟩:=b4.1 h
   rw[(im n p).2.2.2]at O;rw[E3 O,(im n p).2.2.1]
  .exact ER n m h O
def G0(P:Nat->List (Nat×dq)):Nat->List dq
 |0=>[]
 |n+1=>sn (P n)++(G0 P n).filter λe=>!decide (e.name∈jJ (P n))
theorem yl:∀n,dV (jB A P n) (jB A P n)=(G0 P n).filter A.has
 |0=>rfl
 |n+1=>by
  have ih:=yl n
  show dV _ ((P n).map _++jB A P n)=(sn _++_).filter _;unfold dV;rw[bU,b8,bU];congr 1
  .rw[cz,bC]
   have e:(P n).filter ((λm=>m.wanted&&m.wZ==eJ (jB A P (n+1)) m.name) ∘ pF A n)=(P n).filter (A.has ∘ kG):=by
    apply bX;intro p O;have Y:p.2.name∈jJ _:=b4.2 ⟨p,O,rfl⟩;simp only[Function.comp_apply,(im n p).1,(im n p).2.2.1,(im n p).2.2.2,vT,if_pos Y,beq_self_eq_true,Bool.and_true]
   rw[e];rw[cz];apply bK;intro p O;exact E3 (b7.1 O).2
  .have e:(jB A P n).filter (λm=>m.wanted&&m.wZ==eJ (jB A P (n+1)) m.name)=((jB A P n).filter λm=>m.wanted&&m.wZ==eJ (jB A P n) m.name).filter λm=>!decide (m.M6.name∈jJ (P n)):=by
    rw[bT];apply bX;intro m hm;have hs:=tE n m hm;rw[vT]
    cases hw:m.wanted with
    |false=>simp
    |true=>
     rw[ER n m hm hw];by_cases U:m.name∈jJ (P n)
     .have:(m.wZ==n)=false:=by simp; omega
      simp[U,this]
     .simp[U]
   rw[e];have f:=cz (f:=lT.M6) (p:=λe=>!decide (e.name∈jJ (P n))) (l:=(jB A P n).filter λm=>m.wanted&&m.wZ==eJ (jB A P n) m.name);unfold dV at ih;rw[ih]at f;refine f.symm.trans ?_;rw[bT,bT];congr 1;funext x;exact Bool.and_comm ..
theorem Hn(b:List dq)(e:dq):jg b e = !decide (e.name∈b.map dq.name):=by
 unfold jg qo;rw[Bool.eq_iff_iff];simp[List.findIdx?_eq_none_iff]
theorem En{ss:List (List dq)}(O:∀j(h:j<ss.length),(sn (P j)).Perm ss[j]):∀n,n<=ss.length->(G0 P n).Perm (fX (ss.take n))
 |0,_=>by simp[G0,fX]
 |n+1,h=>by
  have Y:=En O n (by omega)
  have U:=O n (by omega);rw[bN _,fj];refine(ld U ?_).trans cF
  have e:(λe=>!decide (e.name∈jJ (P n)))=jg ss[n]:=by
   funext e;rw[Hn]
   have h1:e.name∈jJ (P n)↔e.name∈ss[n].map dq.name:=by
    have:=(U.map dq.name).mem_iff (a:=e.name);rw[bC]at this;exact this
   rw[decide_eq_decide.2 h1]
  rw[e];exact Y.filter _
theorem yK(U:∀j,(jJ (P j)).Nodup):∀n,((G0 P n).map dq.name).Nodup
 |0=>List.Pairwise.nil
 |n+1=>by
  show((sn _++_).map _).Nodup
  rw[b8,bO]
  refine⟨by rw[bC]; exact U n,(yK U n).sublist ((ck).map _),?_⟩
  rintro x Y y hy rfl
  obtain⟨e,he,rfl⟩:=b4.1 hy
  have O:=by simpa using(b7.1 he).2
  rw[bC]at Y;exact O Y
end
end
section
open Go.Conc Go.RowKit Go.Maps
section
variable {Z:iS prog} {w:World} {T:List Frame} {dd q:Nat}
theorem MY{A:Ask}{es:List dq}{ex:Obj}{Ss:Nat->ByteArray}{P:Nat->List (Nat×dq)}{sa:Option Addr}{n sc bx b:Nat}{ms:List lT}(hT:∀ps,T=[ps]->ps.mode≠.panicking [ei])
  (hA:A.Ok) (a0:5<=q) (hq:q<w.heap.size) (a5:w.heap[q]?=some ex) (hM:rz ex es) (hl:es.length<=100000) (a':∀e∈es,e.name.length<=dk/\e.text.length<=1048576/\(e.gone=false->0<=e.dD/\e.dD<=255)) (hn:n<=6)
  (hS:∀j,j<n->(Ss j).size<=1099511627775/\∃ps qs,ji (Ss j).size (Ss j).data.toList=some (ps,qs)/\P j=ps++qs) (af:∀a,sa=some a->a.block≠b) (aA:bx≠b)
  (aB:ms=(fM es).map (pF A n)++jB A P n) (aC:Et ms)
  (fin:∀(E₂:Env prog)av ag aw,E₂.Z=Z->E₂.T=T->E₂.w0=w->(ag=[]\/∃k2,ag=.code .ret::k2)->BH prog E₂ Tryz.f49 av aw (BS ms) (BR ms)->dn E₂ [⟨49,av,ag⟩] aw []) :
  ∀(d k K s:Nat)(wl:World)(V:Vs)(cl:Nat->Option Nat)(a2 a3 a4 a6 a8 a9 a10 ah a15 a16 a17 a18 a19 a20 a21 a22 a23 a24 a25 a26 a27 a28 a29 ai aj ak al am an ao ap aq ar au:Value),n=k+d->s=wl.heap.size->K<=s->5<=s->dd<s->(∀(r:Nat)a c,wl.heap[r]?≠some (.map a c))->(∀x∈V,x.1<s)->
   wl.heap[bx]?=some (.cells #[.int .i64 A.m,.string A.q,.int .i64 A.t] 94 (0,0))->wl.heap[b]?=some (.cells (mB cl) 125 (0,0))->(∀a,sa=some a->a.block<s)->(∀j,j<n->∃sb so,sa=some ⟨sb,so,none⟩/\wl.cell? ⟨sb,so+j,none⟩=some (.string (Ss j)))->
   (∀j,k<=j->cl j=none)->(∀j r,j<7->cl j=some r->∃vs,(r,some vs)∈V)->(∀x∈V,∃j vs,j<7/\cl j=some x.1/\x.2=some vs)->(∀j j' r,j<7->j'<7->cl j=some r->cl j'=some r->j=j')->(V.map kB).Nodup->V.length=k->rS V=(jB A P k).map lT.val->
   dn (nR prog Z w T dd q K false) [⟨49,#[.slice sa n sc,.map (some dd),a2,a3,a4,.pointer (some ⟨bx,0,none⟩),a6,.pointer (some ⟨b,0,none⟩),a8,a9,a10,.slice sa n sc,.int .i64 (n:Int),.int .i64 (k:Int),ah,a15,a16,a17,a18,a19,a20,a21,a22,a23,a24,a25,a26,a27,a28,a29,ai,aj,ak,al,am,an,ao,ap,aq,ar,au],.code (yr (dT Tryz.f49))::.inLoop (yr (dT Tryz.f49))::.inBlock 0::[.code (JG (dT Tryz.f49))]⟩] wl V:=by
 intro d
 induction d with
 |zero=>
  intro k K s wl V cl a2 a3 a4 a6 a8 a9 a10 ah a15 a16 a17 a18 a19 a20 a21 a22 a23 a24 a25 a26 a27 a28 a29 ai aj ak al am an ao ap aq ar au ax hs hK h5 Y aa hV O hb ac ae U jQ fv rN fE ab ad;obtain rfl:n=k:=ax;have HC:ka _:=And.intro hs (And.intro hK (And.intro h5 (And.intro Y (And.intro aa (And.intro hV (And.intro O (And.intro hb (And.intro U (And.intro jQ (And.intro fv (And.intro rN (And.intro fE (And.intro ab ad)))))))))))));clear hs hK h5 Y aa hV O hb ac ae U jQ fv rN fE ab ad;show dn _ [⟨_,_,.code (.seq (.region 3 _ false) (.seq (.cond _ .skip (.exit 0)) _))::_⟩] _ _;refine dn.sr λkk HK=>?_
  (refine eT ?_; go_simp);refine dn.ie HK ?_;clear HK kk;refine dn.seq (dn.lY trivial (by first|rfl|simp[iJ]) ?_);refine dn.exit (k':=[.code (JG (dT Tryz.f49))]) rfl ?_;obtain⟨hs,hK,h5,Y,aa,hV,O,hb,U,jQ,fv,rN,fE,ab,ad⟩:=HC.out;exact CB (s:=s) (ms0:=jB A P n) (ms:=ms) hT hs hA (by omega) h5 Y a0 hq a5 hM aa hl a' hn hV O hb U jQ fv rN fE ab ad aB aC fin
 |succ d ih=>
  intro k K s wl V cl a2 a3 a4 a6 a8 a9 a10 ah a15 a16 a17 a18 a19 a20 a21 a22 a23 a24 a25 a26 a27 a28 a29 ai aj ak al am an ao ap aq ar au ax hs hK h5 Y aa hV O hb ac ae U jQ fv rN fE ab ad;obtain⟨hz,ps,qs,hX,hP⟩:=hS k (by omega);obtain⟨sb,so,rfl,aD⟩:=ae k (by omega);have ac:sb<s:=ac _ rfl;have af:sb≠b:=af _ rfl;refine Lb hT hs hA (by omega) h5 Y aa hn (by omega) hV O hb aD hz hX λw2 c8 c9 aH aI aJ aK aL aM aN aO aP aQ aR z2 o2 g2 ay p2=>?_;have aE:bx<s:=by rw[hs]; exact(cT.1 O).1
  refine ih (k+1) (s+5) (s+5) w2 _ (l9 cl k (s+3)) _ _ _ _ _ _ _ _ _ _ _ _ _ _ _ _ _ _ _ _ _ _ _ _ _ _ _ _ _ _ _ _ _ _ (by omega) z2.symm (ev _) (by omega) (by omega) ay (λx hx=>?_) ((o2 bx aE aA).trans O) g2 (λa e=>by cases e; show sb<s+5; omega) (λj hj=>?_) (λj hj=>?_) (λj r hj hr=>?_) (λx hx=>?_) (λj j' r hj az hr hr'=>?_) ?_ (by simp[ab]) ?_
  .rcases b9.1 hx with rfl|hx
   .show s+3<s+5; omega
   .have:=hV x hx; omega
  .obtain⟨aF,aG,e,this⟩:=ae j hj;refine⟨aF,aG,e,?_⟩;cases e;unfold kj at this⊢;rw[o2 sb ac af];exact this
  .unfold l9;rw[if_neg (by omega)];exact U j (by omega)
  .unfold l9 at hr;split at hr
   .cases hr; exact⟨_,bE⟩
   .obtain⟨vs,h⟩:=jQ j r hj hr; exact⟨vs,bJ _ h⟩
  .rcases b9.1 hx with rfl|hx
   .exact⟨k,_,by omega,by simp[l9],rfl⟩
   .obtain⟨j,vs,h1,h2,h3⟩:=fv x hx;refine⟨j,vs,h1,?_,h3⟩;unfold l9;rw[if_neg (λe=>by rw[e,U k (ev _)]at h2; cases h2)];exact h2
  .unfold l9 at hr hr'
   have hold:∀i r,i<7->cl i=some r->r≠s+3:=λi r hi h e=>by
    obtain⟨vs,h⟩:=jQ i r hi h;have:=hV _ h;omega
   split at hr<;>split at hr'
   .omega
   .cases hr; exact absurd rfl (hold j' _ az hr')
   .cases hr'; exact absurd rfl (hold j _ hj hr)
   .exact rN j j' r hj az hr hr'
  .rw[bL,bP];refine⟨λh=>?_,fE⟩;obtain⟨x,hx,e⟩:=b4.1 h;have:=hV x hx;omega
  .show(ps++qs).map _++rS V=((P k).map _++jB A P k).map _;rw[b8 (l₁:=(P k).map _),bC,hP];congr 1;exact bK λp _=>(Fv A k p).symm
end
end
section
open Go.Conc Go.RowKit Go.Maps
section
variable {Z:iS prog} {w:World} {T:List Frame} {dd q K:Nat} {wl:World}
theorem MV{A:Ask}{es:List dq}{ex:Obj}{Ss:Nat->ByteArray}{P:Nat->List (Nat×dq)}{sa:Option Addr}{n sc s:Nat}{ms:List lT}(hT:∀ps,T=[ps]->ps.mode≠.panicking [ei])
  (hs:s=wl.heap.size) (hA:A.Ok) (hK:K<=s) (h5:5<=s) (ak:dd<s) (ad:5<=q) (hq:q<w.heap.size) (ae:w.heap[q]?=some ex) (hM:rz ex es) (af:∀(r:Nat)a c,wl.heap[r]?≠some (.map a c))
  (hl:es.length<=100000) (ag:∀e∈es,e.name.length<=dk/\e.text.length<=1048576/\(e.gone=false->0<=e.dD/\e.dD<=255))
  (hn:n<=6) (hS:∀j,j<n->(Ss j).size<=1099511627775/\∃ps qs,ji (Ss j).size (Ss j).data.toList=some (ps,qs)/\P j=ps++qs) (Y:∀a,sa=some a->a.block<s) (ah:∀j,j<n->∃sb so,sa=some ⟨sb,so,none⟩/\wl.cell? ⟨sb,so+j,none⟩=some (.string (Ss j)))
  (ai:ms=(fM es).map (pF A n)++jB A P n) (aj:Et ms)
  (fin:∀(E₂:Env prog)am al an,E₂.Z=Z->E₂.T=T->E₂.w0=w->(al=[]\/∃k2,al=.code .ret::k2)->BH prog E₂ Tryz.f49 am an (BS ms) (BR ms)->dn E₂ [⟨49,am,al⟩] an []) :
  dn (nR prog Z w T dd q K false) [⟨49,#[.slice sa n sc,.map (some dd),.agg #[.int .i64 A.m,.string A.q,.int .i64 A.t],mj,mj,mj,mj,mj,mj,mj,mj,mj,mj,mj,mj,mj,mj,mj,mj,mj,mj,mj,mj,mj,mj,mj,mj,mj,mj,mj,mj,mj,mj,mj,mj,mj,mj,mj,mj,mj,mj],[.code (dT Tryz.f49)]⟩] wl []:=by
 have HN:ka _:=And.intro hn (And.intro hS (And.intro Y ah));clear hn hS Y ah;have HC:ka _:=And.intro hs (And.intro hA (And.intro hK (And.intro h5 (And.intro ak (And.intro ad (And.intro hq (And.intro ae (And.intro hM (And.intro af (And.intro hl (And.intro ag (And.intro ai (And.intro aj (And.intro fin hT))))))))))))));clear hs hA hK h5 ak ad hq ae hM af hl ag ai aj fin hT;show dn _ [⟨_,_,[.code (.seq (.region 0 _ false) (.seq (.region 1 _ false) (.seq (.seq (.region 2 _ false) (.block 0 (.loop (.seq (.region 3 _ false) (.seq (.cond _ .skip (.exit 0)) _))))) (JG (dT Tryz.f49)))))]⟩] _ _;refine dn.sc λkk HK=>?_;refine iF (by kernel_rfl) (by rw[HK.out]; rfl) (.inr HC.out.2.2.2.2.2.2.2.2.2.2.2.2.2.2.2) λy0 ab U=>?_;have HY:ka (y0.heap=wl.heap/\y0.os=wl.os):=⟨ab,U⟩;clear ab U;go_wp2;refine gp ?_;rw[HK.out];clear HK kk;obtain⟨w3,aa⟩:∃w3,w3=y0.alloc (.cells #[.int .i64 A.m,.string A.q,.int .i64 A.t] 94):=⟨_,rfl⟩;have O:y0.heap.size=s:=by rw[HY.out.1]; exact HC.out.1.symm
 have z3:w3.heap.size=s+1:=by rw[aa]; simp[O]
 have o3:∀r,r<s->w3.heap[r]?=wl.heap[r]?:=λr hr=>by rw[aa,fV _ _ (by rw[O]; omega),HY.out.1]
 have g3:w3.heap[s]?=some (.cells #[.int .i64 A.m,.string A.q,.int .i64 A.t] 94 (0,0)):=by rw[aa,iz _ _ O.symm]
 have p3:w3.os=wl.os:=by rw[aa]; exact HY.out.2
 rw[<-aa,O];clear aa HY O y0;have H3:ka _:=And.intro z3 (And.intro o3 (And.intro g3 p3));clear z3 o3 g3 p3;refine dn.sc λkk HK=>?_;refine iF (by kernel_rfl) (by rw[HK.out]; rfl) (.inr HC.out.2.2.2.2.2.2.2.2.2.2.2.2.2.2.2) λy0 ab U=>?_;have HY:ka (y0.heap=w3.heap/\y0.os=w3.os):=⟨ab,U⟩;clear ab U;go_wp2;refine gp ?_;rw[HK.out];clear HK kk;obtain⟨w4,ac⟩:∃w4,w4=y0.alloc (.cells (mB λ_=>none) 125):=⟨_,rfl⟩;have O:y0.heap.size=s+1:=by rw[HY.out.1]; exact H3.out.1
 have z4:w4.heap.size=s+2:=by rw[ac]; simp[O]
 have o4:∀r,r<s+1->w4.heap[r]?=w3.heap[r]?:=λr hr=>by rw[ac,fV _ _ (by rw[O]; omega),HY.out.1]
 have g4:w4.heap[s+1]?=some (.cells (mB λ_=>none) 125 (0,0)):=by rw[ac,iz _ _ O.symm]
 rw[show y0.alloc (.cells #[.chan none,.chan none,.chan none,.chan none,.chan none,.chan none,.chan none] 125)=w4 from ac.symm,O];clear ac HY O y0;have H4:ka _:=And.intro z4 (And.intro o4 g4);clear z4 o4 g4;refine dn.seq ?_;refine dn.sr λkk HK=>?_
 (iterate 3 (refine eT ?_; go_simp));refine dn.ie HK ?_;clear HK kk;refine dn.block (dn.loop ?_);obtain⟨hs,hA,hK,h5,ak,ad,hq,ae,hM,af,hl,ag,ai,aj,fin,hT⟩:=HC.out;obtain⟨z3,o3,g3,p3⟩:=H3.out;obtain⟨z4,o4,g4⟩:=H4.out;obtain⟨hn,hS,Y,ah⟩:=HN.out;refine MY (b:=s+1) (bx:=s) (Ss:=Ss) (P:=P) hT hA ad hq ae hM hl ag hn hS (λa e=>by have:=Y a e; omega) (by omega) ai aj fin n 0 K (s+2) w4 [] (λ_=>none) _ _ _ _ _ _ _ _ _ _ _ _ _ _ _ _ _ _ _ _ _ _ _ _ _ _ _ _ _ _ _ _ _ _ (by omega) z4.symm (by omega) (by omega) (by omega) (λr a c=>?_) (λx hx=>by cases hx) ((o4 s (by omega)).trans g3) g4 (λa e=>by have:=Y a e; omega) (λj hj=>?_) (λ_ _=>rfl) (λ_ _ _ h=>by cases h) (λx hx=>by cases hx) (λ_ _ _ _ _ h=>by cases h) List.nodup_nil rfl rfl
 .by_cases h1:r<s
  .rw[o4 r (by omega),o3 r h1]; exact af r a c
  .by_cases h2:r=s
   .rw[h2,o4 s (by omega),g3]; simp
   .by_cases h3:r=s+1
    .rw[h3,g4]; simp
    .rw[cX (by omega)]; simp
 .obtain⟨sb,so,e,this⟩:=ah j hj;have ao:sb<s:=Y _ e;refine⟨sb,so,e,?_⟩;unfold kj at this⊢;rw[o4 sb (by omega),o3 sb ao];exact this
end
end
section
open Go.Conc Go.RowKit Go.Maps
section
variable {E:Env prog} {fn:dr} {tm:Array Value} {os:List OF} {wl:World} {k:List Item}
theorem dn.Q0{ops:Array Oper}{i:Nat}{rest:List Nat}{o:Oper}{xs:Array Operand}{ts:Array ee}{A:Ask}{es:List dq}{Ss:Nat->ByteArray}{P:Nat->List (Nat×dq)}{ms:List lT}{sa:Option Addr}{n sc lb:Nat}(ac:∀b,b<E.w0.heap.size->E.fA b\/E.w0.heap[b]?=some oY)(aN:E.st=true)(hi:ops[i]?=some o)(au:kc o (dt ops tm)=true)(ho:o.op=.call {callee:=.value (.func 49),args:=xs,argTypes:=ts})(av:∀x∈xs.toList,dP E.fu E.gl x)
  (aw:xs.size=3) (ad:xs.map (iJ tm)=#[.slice sa n sc,.map (some lb),.agg #[.int .i64 A.m,.string A.q,.int .i64 A.t]]) (hA:A.Ok) (hs:ey wl lb es) (aO:5<=lb) (ax:(sa=none/\n=0)\/∃sb U c e f,sa=some ⟨sb,U,none⟩/\5<=sb/\wl.heap[sb]?=some (.cells c e f)/\∀j,j<n->c[U+j]?=some (.string (Ss j))) (hn:n<=6) (ay:∀j,j<n->(Ss j).size<=1099511627775/\∃ps qs,ji (Ss j).size (Ss j).data.toList=some (ps,qs)/\P j=ps++qs) (ag:ms=(fM es).map (pF A n)++jB A P n) (az:Et ms)
  (hl:es.length<=100000) (a0:∀e∈es,e.name.length<=dk/\e.text.length<=1048576/\(e.gone=false->0<=e.dD/\e.dD<=255))
  (a5:∀l cp,BS ms l cp->dn E (⟨fn,eI o.dst tm (.slice none l cp),.inRegion ops rest::k⟩::os) wl [])
  (ae:∀off spot l cp cs e f,BR ms off spot l cp cs e f->(∀v∈cs.toList,Flat v)->dn E (⟨fn,eI o.dst tm (.slice (some ⟨wl.heap.size,off,spot⟩) l cp),.inRegion ops rest::k⟩::os) {wl with heap:=wl.heap.push (.cells cs e f)} []) :
  dn E (⟨fn,tm,.inRegion ops (i::rest)::k⟩::os) wl []:=by
 refine dn.phase (R0:=BS ms) (R1:=BR ms) (gK:=Tryz.f49) (c:=dT Tryz.f49) ac hi au func49 (by kernel_rfl) MX ho av ?_ a5 ae;intro m w ys T aA hw Y hT;rw[ad]at Y;have hG:m.G=5:=aA.pj.env.G.trans ya;obtain⟨ex,ah,hM⟩:=Gu hs;have h0:=Y.idx 0 (by simp) (by rw[<-Y.size]; simp);have h1:=Y.idx 1 (by simp) (by rw[<-Y.size]; simp);have h2:=Y.idx 2 (by simp) (by rw[<-Y.size]; simp);have aB:ys.size=3:=by rw[<-Y.size]; rfl
 obtain⟨y0,y1,y2,rfl⟩:∃y0 y1 y2,ys=#[y0,y1,y2]:=⟨ys[0],ys[1],ys[2],by
  refine dj (by simp[aB]) λj h1 h2=>?_;have:j<3:=by omega
  rcases(by omega:j=0\/j=1\/j=2)with rfl|rfl|rfl<;>rfl⟩
 have h0:VR m (.slice sa n sc) y0:=h0;have h1:VR m (.map (some lb)) y1:=h1;have h2:VR m (.agg #[.int .i64 A.m,.string A.q,.int .i64 A.t]) y2:=h2
 have aa:Flat (.agg #[.int .i64 (A.m:Int),.string A.q,.int .i64 (A.t:Int)]):=.agg λi hi=>by
  have:i<3:=hi
  match i,this with
  |0,_|2,_=>exact .int _ _
  |1,_=>exact .string _
 have e2:=aa.eq m _ h2;subst e2
 obtain⟨q,rfl,hq⟩:∃q,y1=.map (some q)/\m.blk lb=some q:=by
  cases h1 with
  |map hb=>exact⟨_,rfl,hb⟩
  |gone hd=>
   obtain⟨_,c,e,f,hc⟩:=hw.dead lb hd;obtain⟨a,c2,hx⟩:=hM.isMap;rw[ah,hx]at hc;cases hc
 have aC:5<=q:=by
  have:=m.oh lb q hq;omega
 obtain⟨o1,o2,g1,g2,g3⟩:=hw.obj lb q hq;rw[ah]at g1;cases g1;have aD:=hM.inv m _ g3;subst aD;have aE:q<w.heap.size:=(cT.1 g2).1;have aF:5<=w.heap.size:=by have:=hw.JP; omega
 have fin:∀(b5:Option Nat)(h5:∀b,b5=some b->5<=b)(c1:Array Value)(e5:ee)(hb:∀b,b5=some b->∃c' f',w.heap[b]?=some (.cells c' e5 f')/\∀m1,ep m1 c1 c')(s5:Option Addr)(ai:∀a,s5=some a->a.block<7)(aj:∀j,j<n->∃U,s5=some ⟨5,U,none⟩/\c1[U+j]?=some (.string (Ss j))),VR (TN b5 q h5) (.slice s5 n sc) y0->
   ∃(O:Env prog)(ak:Array Value)(m1:Ren)(al:World),O.Z=E.Z/\O.T=T/\O.w0=w/\(∀b,O.fA b↔b<w.heap.size)/\Rg O m1/\WR m1 al w/\(∀r b,m1.blk r=some b->m1.loose r)/\ep m1 ak (#[y0,.map (some q),.agg #[.int .i64 A.m,.string A.q,.int .i64 A.t]]++da (Tryz.f49.ntmps-xs.size) mj)/\
   ((∀(E₂:Env prog)am af an,E₂.Z=E.Z->E₂.T=T->E₂.w0=w->(af=[]\/∃k2,af=.code .ret::k2)->BH prog E₂ Tryz.f49 am an (BS ms) (BR ms)->dn E₂ [⟨49,am,af⟩] an [])->dn O [⟨49,ak,[.code (dT Tryz.f49)]⟩] al []):=by
  intro b5 h5 c1 e5 hb s5 ai aj aG;refine⟨nR prog E.Z w T 6 q 6 false,#[.slice s5 n sc,.map (some 6),.agg #[.int .i64 A.m,.string A.q,.int .i64 A.t]]++da 38 mj,TN b5 q h5,Ui (.cells c1 e5 (0,c1.size)) w,rfl,rfl,rfl,λb=>⟨λh=>h.1,λh=>⟨h,λh=>by cases h⟩⟩,RY h5,RJ h5 aF hb,λr b hr=>?_,?_,λao=>?_⟩
  .have hr:(if r=5 then b5 else none)=some b:=hr;split at hr
   .assumption
   .cases hr
  .rw[aw];have hn:Tryz.f49.ntmps-3=38:=by kernel_rfl
   rw[hn];refine ep.append (ep.ib rfl λi h1 h2=>?_) (.replicate _ (.undef _));have:i<3:=h1
   match i,this with
   |0,_=>exact aG
   |1,_=>exact .gone rfl
   |2,_=>exact aa.refl _
  .have ap:(#[.slice s5 n sc,.map (some 6),.agg #[.int .i64 A.m,.string A.q,.int .i64 A.t]]++da 38 mj:Array Value)=#[.slice s5 n sc,.map (some 6),.agg #[.int .i64 A.m,.string A.q,.int .i64 A.t],mj,mj,mj,mj,mj,mj,mj,mj,mj,mj,mj,mj,mj,mj,mj,mj,mj,mj,mj,mj,mj,mj,mj,mj,mj,mj,mj,mj,mj,mj,mj,mj,mj,mj,mj,mj,mj,mj]:=by kernel_rfl
   rw[ap];refine MV (s:=7) (Ss:=Ss) (P:=P) hT rfl hA (by omega) (by omega) (by omega) aC aE g2 hM (λr a c h=>?_) hl a0 hn ay ai (λj hj=>?_) ag az ao;rotate_left
   .obtain⟨U,e,h⟩:=aj j hj;refine⟨5,U,e,?_⟩;rw[dh (show(Ui (.cells c1 e5 (0,c1.size)) w).heap[5]?=some (.cells c1 e5 (0,c1.size))from rfl)];exact h
   have h:(#[xc,xc,xc,xc,xc,Obj.cells c1 e5 (0,c1.size),xc]:Array Obj)[r]?=some (.map a c):=h
   match r,h with
   |0,h|1,h|2,h|3,h|4,h|5,h|6,h=>cases h
   |r+7,h=>simp at h
 rcases ax with⟨rfl,rfl⟩|⟨sb,U,c,e,f,rfl,aM,hc,aq⟩
 .cases h0 with
  |ft l c=>exact fin none (λb h=>by cases h) #[] 0 (λb h=>by cases h) none (λa h=>by cases h) (λj hj=>absurd hj (by omega)) (.ft _ _)
 cases h0 with
 |@slice a a' _ _ aH=>
  cases aH with
  |@mk b b' off spot ar=>
   obtain⟨o1,o2,k1,k2,k3⟩:=hw.obj sb b' ar;rw[hc]at k1;cases k1
   cases k3 with
   |@cells _ c' _ _ f' aI=>
    obtain⟨c1,ae,aP,aJ⟩:=aI.flatten
    have aK:5<=b':=by
     have:=m.oh sb b' ar;omega
    refine fin (some b') (λx hx=>by cases hx; exact aK) c1 e (λx hx=>by cases hx; exact⟨c',f',k2,ae⟩) (some ⟨5,U,none⟩) (λa h=>by cases h; show 5<7; omega) (λj hj=>⟨U,rfl,?_⟩) (.slice _ _ (.mk rfl));obtain⟨aL,hv⟩:=cT.1 (aq j hj);have ab:U+j<c1.size:=by omega
    rw[cU ab,aJ _ ab aL (by rw[hv]; exact .string _),hv]
end
end
section
open Go.Conc Go.RowKit Go.Maps
section
variable {Z:iS prog} {W0:World} {Mp:Nat->Prop} {fn:dr} {tm:Array Value} {os:List OF} {wl:World} {k:List Item}
theorem KB{ops:Array Oper}{i:Nat}{rest:List Nat}{o:Oper}{b lb:Nat}{vS vM vK:Value}{sa:Option Addr}{n sc mode dD most:Nat}{Ss:Nat->ByteArray}{P:Nat->List (Nat×dq)}{R:List dq}{qb:ByteArray}{es:List dq}(hi:ops[i]?=some o)(al:vS=.slice sa n sc)
  (hb:wl.heap[b]?=some (.cells #[.map (some lb),vS,vM,vK] 90 (0,0))) (hs:ey wl lb es) (ah:5<=lb) (am:((sa=none/\n=0)\/∃sb so c e f,sa=some ⟨sb,so,none⟩/\5<=sb/\wl.heap[sb]?=some (.cells c e f)/\∀j,j<n->c[so+j]?=some (.string (Ss j)))/\n<=6/\(∀j,j<n->(Ss j).size<=1099511627775/\∃ps qs,ji (Ss j).size (Ss j).data.toList=some (ps,qs)/\P j=ps++qs)/\∀A:Ask,A.Ok->Et (allM A P es n)/\(dV (allM A P es n) (allM A P es n)).Perm (R.filter A.has))
  (hl:es.length<=100000) (ae:∀e∈es,e.name.length<=65536/\e.text.length<=1048576/\(e.gone=false->0<=e.dD/\e.dD<=255))
  (hm:mode<=3) (ht:dD<=255) (a5:1<=most) (a':most<=20) (hq:dU qb.data.toList=true) (aA:qb.size<=1000)
  (O:∀e∈R,e.gone=false->∀y:World,(∀r,r<5->y.heap[r]?=wl.heap[r]?)->dl prog 51 #[.agg #[.string ⟨e.name.toArray⟩,.string ⟨e.text.toArray⟩,.int .i64 e.du,.int .i64 e.dD]] y λen w'=>en=.returned (.string ⟨(fZ e).toArray⟩)/\eU y w') (h5:5<=wl.heap.size)
  (hn:∀(w2:World)(v:Value),(∀r,r<wl.heap.size->w2.heap[r]?=wl.heap[r]?)->wl.heap.size<=w2.heap.size->w2.os=wl.os->Qz w2 wl.heap.size R ⟨mode,⟨(ed qb.data.toList).toArray⟩,dD⟩ most v->dn (fi Z W0 Mp) (⟨fn,eI o.dst tm v,.inRegion ops rest::k⟩::os) w2 []) :
  dn (fi Z W0 Mp) (⟨17,#[.pointer (some ⟨b,0,none⟩),.int .i64 (mode:Int),.string qb,.int .i64 (dD:Int),.int .i64 (most:Int),mj,mj,mj,mj,mj,mj,mj,mj,mj,mj,mj,mj,mj,mj,mj,mj,mj,mj,mj,mj,mj,mj,mj,mj,mj,mj,mj,mj,mj,mj,mj,mj,mj,mj,mj,mj,mj,mj,mj,mj,mj,mj,mj,mj,mj,mj,mj,mj,mj,mj,mj,mj,mj,mj,mj,mj,mj,mj,mj,mj,mj,mj],[.code (dT f17)]⟩::⟨fn,tm,.inRegion ops (i::rest)::k⟩::os) wl []:=by
 have HA:ka _:=And.intro hb (And.intro hs (And.intro ah (And.intro am (And.intro hl (And.intro ae (And.intro O (And.intro h5 (And.intro hn al))))))));have HM:ka _:=And.intro hm (And.intro ht (And.intro a5 (And.intro a' (And.intro hq aA))));clear hb hs ah am hl ae O h5 hn al;show dn _ (⟨_,_,[.code (.seq (.region 0 _ false) (.seq (.seq (.region 1 _ false) (.cond _ _ .skip)) (.seq (.seq (.region 3 _ false) (.cond _ _ .skip)) (.seq (.region 5 _ true) (.seq (.region 6 _ false) (.seq (.seq (.region 7 _ false) (.block 0 _)) (.seq (.region 12 _ false) .ret)))))))]⟩::_) _ _;refine dn.sr λkk HK=>?_
 (iterate 2 (refine dG ?_; go_simp));refine dn.ie HK ?_;clear HK kk;refine dn.seq (dn.sc λkk HK=>?_);refine EG (by kernel_rfl) (by rw[HK.out]; rfl) (by simp) λτ=>?_;have g1:¬((dD:Int)<0):=by omega
 have g2:¬((255:Int)<(dD:Int)):=by omega
 have c1:=GD mode hm (tp wl τ);have c2:=FZ (most:Int) (tp wl τ);rw[decide_eq_true (show(1:Int)<=most/\(most:Int)<=20 by omega)]at c2;have c3:=λτ=>qy qb (tp wl τ) (by unfold dk; omega);rw[hq]at c3;have C3:ka _:=c3;clear hm ht a5 a' hq aA c3;go_wp2_with fail;refine c1.mono ?_;rintro e w' ⟨rfl,rfl⟩;clear c1;go_wp2_with fail;refine c2.mono ?_;rintro e w' ⟨rfl,rfl⟩;clear c2;go_wp2;refine gp (dn.CL τ ?_);rw[HK.out];simp only[decide_eq_false (lx.2 g1),decide_eq_false (lx.2 g2),Bool.or_false];clear HK kk g1 g2;refine dn.lY trivial rfl (dn.skip (dn.seq (dn.sc λkk HK=>?_)));refine EG (by kernel_rfl) (by rw[HK.out]; rfl) (by simp) λτ=>?_;have c3:=C3.out τ;clear C3;go_wp2_with fail;refine c3.mono ?_;rintro e w' ⟨rfl,rfl⟩;clear c3;go_wp2;refine gp (dn.CL τ ?_);rw[HK.out];clear HK kk;refine dn.lY trivial rfl (dn.skip (dn.sc λkk HK=>?_))
 have ao:ka (∀y,kY wl y->y.cell? ⟨b,1,none⟩=some vS):=λy hy=>by
  obtain⟨τ,h⟩:=hy;exact ef h (show(tp wl τ).cell? _=_ by rw[dh (w:=tp wl τ) (show(tp wl τ).heap[b]?=_ from HA.out.1)]; rfl)
 have ap:ka (∀y,kY wl y->y.cell? ⟨b,0,none⟩=some (.map (some lb))):=λy hy=>by
  obtain⟨τ,h⟩:=hy;exact ef h (show(tp wl τ).cell? _=_ by rw[dh (w:=tp wl τ) (show(tp wl τ).heap[b]?=_ from HA.out.1)]; rfl)
 obtain⟨fb,aq⟩:∃fb:ByteArray,fb=⟨(ed qb.data.toList).toArray⟩:=⟨_,rfl⟩;have ar:ka (∀y:World,dl prog 50 #[.string qb] y λe w'=>e=.returned (.string fb)/\eU y w'):=λy=>by rw[aq]; exact oU qb y (by have:=HM.out; omega)
 have au:ka _:=aq;clear aq;refine dn.I9 (Sd:=λa y=>kY wl y/\a.defers=[]/\dn _ (⟨_,a.tmps,.inRegion _ [13,14]::_⟩::_) y _) (last:=13) (tl:=[14]) (by kernel_rfl) (OU (by kernel_rfl)) ?_ (λa y h=>h.2);refine dB 0 ?_ ?_<|dB 1 ?_ ?_<|dB 2 ?_ ?_<|dB 3 ?_ ?_<|dB 4 ?_ ?_<|dB 5 ?_ ?_<|dB 6 ?_ ?_<|dB 7 ?_ ?_<|dB 8 ?_ ?_<|dB 9 ?_ ?_ ?_
 any_goals(intro y hy; have q:=ao.out y hy; have q1:=ap.out y hy; unfold gh; go_simp; refine⟨eU.refl _,?_⟩; with_reducible rfl)
 go_simp;refine dB 10 ?_ ?_ ?_;rotate_left
 .intro y hy; unfold gh; go_simp; refine⟨rfl,(ar.out y).mono ?_⟩; rintro e y2 ⟨rfl,h2⟩; refine⟨_,rfl,h2,?_⟩; with_reducible rfl
 go_simp;refine dB 11 ?_ ?_<|dB 12 ?_ ?_ ?_
 any_goals(intro y hy; unfold gh; go_simp; refine⟨eU.refl _,?_⟩; with_reducible rfl)
 go_simp;refine mF (by kernel_rfl) (λt=>xx (by kernel_rfl) (by kernel_rfl) _ _) ?_;intro y hy;refine⟨hy,rfl,?_⟩;obtain⟨τ,hx⟩:=hy;obtain⟨hb,hs,ah,am,hl,ae,O,h5,hn,al⟩:=HA.out;have af:wl.heap.size<=y.heap.size:=hx.size;have hold:∀r,r<wl.heap.size->y.heap[r]?=wl.heap[r]?:=λr hr=>hx.block r hr;have ab:y.os=wl.os:=hx.os;have av:ey y lb es:=dM.stay hs (hold lb (dM.lt hs));subst al;have ag:Ask.Ok ⟨mode,fb,dD⟩:=⟨HM.out.1,by show dD<256; have:=HM.out; omega,by rw[au.out]; show(ed qb.data.toList).toArray.size<=_; rw[List.size_toArray,gf]; have:=HM.out; simp; omega⟩;obtain⟨aw,ax,ay,az⟩:=am;have ai:=az ⟨mode,fb,dD⟩ ag;refine dn.Q0 (A:=⟨mode,fb,dD⟩) (es:=es) (Ss:=Ss) (P:=P) (ms:=allM ⟨mode,fb,dD⟩ P es n) (sa:=sa) (n:=n) (sc:=sc) (lb:=lb) (xs:=#[.tmp 38,.tmp 42,.tmp 47]) (Gq _ _ _) rfl rfl rfl rfl (by simp[dP]) rfl (by kernel_rfl) ag av ah (aw.imp id λ⟨sb,so,c,e,f,h1,h2,h3,h4⟩=>⟨sb,so,c,e,f,h1,h2,by rw[hold _ (cT.1 h3).1]; exact h3,h4⟩) ax ay rfl ai.1 hl (λe he=>⟨by have:=(ae e he).1; unfold dk; omega,(ae e he).2⟩) ?_ ?_
 .intro l cp hr;obtain⟨rfl,rfl,_⟩:=id hr;have ad:ql y 4 (.slice none 0 0) 0 (io []):=ql.nil y 4;have U:N8 (allM ⟨mode,fb,dD⟩ P es n) []:=hr.2.2;have Y:List.Perm [] (R.filter (Ask.has ⟨mode,fb,dD⟩)):=U.1.trans ai.2;have HH:ka _:=And.intro Y (And.intro U.2 (And.intro hold (And.intro af (And.intro ab (And.intro h5 (And.intro O (And.intro hn ad)))))));clear hb hs ah aw ax ay az ai hl ae O h5 hn af hold ab av ag U Y ad HA ap ao ar hx;rw[fF];go_simp
  (refine dG ?_; go_simp);refine dn.ie HK ?_;show dn _ (⟨_,_,[.code (Rm (dT f17))]⟩::_) _ _;obtain⟨Y,a0,hold,af,ab,h5,O,hn,ad⟩:=HH.out;refine uf (L:=[]) hi ad rfl HM.out.2.2.1 HM.out.2.2.2.1 (by omega) (λe he y2 ac=>?_) (λw2 u h1 h2 h3 h4=>?_)
  .have aa:=(Y.mem_iff.1 he);rw[b7]at aa;exact O e aa.1 (tV aa.2) y2 (λr hr=>(ac r hr).trans (hold r (by omega)))
  .refine hn w2 _ (λr hr=>(h1 r (by omega)).trans (hold r hr)) (by omega) (h3.trans ab) ⟨[],?_,a0,u,rfl,jE h4 (by omega)⟩;rw[<-au.out];exact Y
 .intro off spot l cp cs e f hr aG;obtain⟨rfl,rfl,rfl,rfl,L,aB,rfl,aC,aD,an,aj⟩:=hr;obtain⟨y2,ac⟩:∃y2:World,y2={y with heap:=y.heap.push (.cells cs 96 (0,0))}:=⟨_,rfl⟩;have ak:∀r,r<y.heap.size->y2.heap[r]?=y.heap[r]?:=λr hr=>by rw[ac]; show(y.heap.push _)[r]?=_; rw[de,if_neg (by omega)]
  have aH:y2.heap.size=y.heap.size+1:=by rw[ac]; simp
  have aE:y2.os=y.os:=by rw[ac]
  have aF:y2.heap[y.heap.size]?=some (.cells cs 96 (0,0)):=by rw[ac]; simp
  have ad:ql y2 4 (.slice (some ⟨y.heap.size,0,none⟩) L.length cp) L.length (io L):=ql.jl (base:=0) (e:=96) ⟨by rw[uj],.inr ⟨y.heap.size,cp,cs,rfl,ez _,aF,aC,aD,an,aj⟩⟩;rw[<-ac];have hold:∀r,r<wl.heap.size->y2.heap[r]?=wl.heap[r]?:=λr hr=>(ak r (by omega)).trans (hold r hr);have af:wl.heap.size<=y2.heap.size:=by omega
  have ab:y2.os=wl.os:=aE.trans ab;clear ak aH aE aF aC aD an aj aG ac;have U:N8 (allM ⟨mode,fb,dD⟩ P es n) L:=aB;have Y:List.Perm L (R.filter (Ask.has ⟨mode,fb,dD⟩)):=U.1.trans ai.2;have HH:ka _:=And.intro Y (And.intro U.2 (And.intro hold (And.intro af (And.intro ab (And.intro h5 (And.intro O (And.intro hn ad)))))));clear hb hs ah aw ax ay az ai hl ae O h5 hn af hold ab av ag U aB Y ad HA ap ao ar hx;rw[fF];go_simp
  (refine dG ?_; go_simp);refine dn.ie HK ?_;show dn _ _ ..;obtain⟨Y,a0,hold,af,ab,h5,O,hn,ad⟩:=HH.out;refine uf (L:=L) hi ad rfl HM.out.2.2.1 HM.out.2.2.2.1 (by omega) (λe he y2 ac=>?_) (λw2 u h1 h2 h3 h4=>?_)
  .have aa:=(Y.mem_iff.1 he);rw[b7]at aa;exact O e aa.1 (tV aa.2) y2 (λr hr=>(ac r hr).trans (hold r (by omega)))
  .refine hn w2 _ (λr hr=>(h1 r (by omega)).trans (hold r hr)) (by omega) (h3.trans ab) ⟨L,?_,a0,u,rfl,jE h4 (by omega)⟩;rw[<-au.out];exact Y
end
end
section
section
variable {A:Ask} {P:Nat->List (Nat×dq)}
theorem DM(O:∀j,(P j).length<=130):∀n,(jB A P n).length<=n*130
 |0=>by simp[jB]
 |n+1=>by
  have:=DM O n
  have:=O n;simp only[jB,bF,bG];omega
theorem E7:∀n,∀m∈jB A P n,∃j,j<n/\∃p∈P j,m=pF A j p
 |0,m,h=>by simp[jB]at h
 |n+1,m,h=>by
  rcases bA.1 h with h|h
  .obtain⟨p,O,rfl⟩:=b4.1 h
   exact⟨n,by omega,p,O,rfl⟩
  .obtain⟨j,U,x⟩:=E7 n m h;exact⟨j,by omega,x⟩
theorem vG(O:∀j,((P j).map kB).Nodup):∀n,((jB A P n).map λm=>(m.wZ,m.at')).Nodup
 |0=>List.Pairwise.nil
 |n+1=>by
  show((_++_:List lT).map _).Nodup
  rw[b8,bO]
  refine⟨?_,vG O n,?_⟩
  .rw[bC]
   have e:((λm=>(m.wZ,m.at')) ∘ pF A n)=(λk=>(n,k)) ∘ kB:=by
    funext p;simp only[Function.comp_apply,(im n p).1,(im n p).2.1]
   rw[e,<-bC];have h:=O n;unfold cC at h⊢;rw[bV];exact h.imp λh e=>h (Prod.mk.inj e).2
  .rintro x U y Y rfl;rw[bC]at U;obtain⟨p,_,rfl⟩:=b4.1 U;obtain⟨m,hm,he⟩:=b4.1 Y;have:=tE n m hm;have:=(Prod.mk.inj he).1;simp only[(im n p).1]at this;omega
theorem Gk:∀n,∀e∈G0 P n,∃j,j<n/\e∈sn (P j)
 |0,e,h=>by simp[G0]at h
 |n+1,e,h=>by
  rcases bA.1 h with h|h
  .exact⟨n,by omega,h⟩
  .obtain⟨j,O,x⟩:=Gk n e (b7.1 h).1
   exact⟨j,by omega,x⟩
end
theorem I2(A:Ask)(l:List dq):(dx l).filter A.has=l.filter A.has:=by
 unfold dx;rw[bT];apply bX;intro e _
 cases h:A.has e with
 |false=>rfl
 |true=>rw[tV h]; rfl
theorem uE{e:dq}(h:Pz e):e.name.length<=dk/\e.text.length<=1048576:=by
 have O:=(gI (qY h)).2;refine⟨by unfold dk; omega,?_⟩;rcases h with h|h
 .have:=(jc h.2.2.1);omega
 .rw[h.1]; simp
theorem OJ{buf:List dq}{ss:List (List dq)}(hI:Inv buf ss):∃P:Nat->List (Nat×dq),
  (∀j(h:j<ss.length),∃ps qs,ji (dX ss[j]).length (dX ss[j])=some (ps,qs)/\P j=ps++qs)/\
  ∀A:Ask,Et (allM A P buf ss.length)/\(dV (allM A P buf ss.length) (allM A P buf ss.length)).Perm ((eO ss buf).filter A.has):=by
 have ac:∀j,∃p:List (Nat×dq),∀h:j<ss.length,∃ps qs,ji (dX ss[j]).length (dX ss[j])=some (ps,qs)/\p=ps++qs/\(sn p).Perm ss[j]/\pN 0 (dX ss[j]).length p:=by
  intro j;by_cases h:j<ss.length
  .obtain⟨gs,es,Y,h2⟩:=y6 (hI.jf _ (bB h));obtain⟨ps,qs,h3,h4,h5,h6⟩:=Bq Y;exact⟨ps++qs,λ_=>⟨ps,qs,h3,rfl,by rw[show sn (ps++qs)=sn ps++sn qs from b8,h4,h5]; exact h2,h6⟩⟩
  .exact⟨[],λh'=>absurd h' h⟩
 obtain⟨P0,ab⟩:=k5 ac;refine⟨P0,λj h=>?_,λA=>?_⟩
 .obtain⟨ps,qs,Y,h2,_⟩:=ab j h;exact⟨ps,qs,Y,h2⟩
 obtain⟨P,hP⟩:∃P:Nat->List (Nat×dq),P=λj=>if j<ss.length then P0 j else if j=ss.length then fM buf else []:=⟨_,rfl⟩
 have aa:P ss.length=fM buf:=by rw[hP]; simp
 have fv:allM A P0 buf ss.length=jB A P (ss.length+1):=by
  show _++_=_++_;rw[aa,y7 (P:=P0) (Q:=P) ss.length λj hj=>by rw[hP]; simp[hj]]
 have af:(dx buf).length<=30:=ew (lu _ _) hI.all
 have ad:buf.length<=130:=by
  have Y:=jv buf;have h2:=hI.gone;have:=oP buf;omega
 have ae:∀j(h:j<ss.length),ss[j].length<=130:=λj h=>mT (hI.jf _ (bB h))
 have U:∀j,∃l:List dq,(sn (P j)).Perm l/\(l.map dq.name).Nodup/\l.length<=130/\(∀e∈l,Pz e)/\((P j).map kB).Nodup/\(∀p∈P j,p.1<4611686018427387904)/\(∀h:j<(ss++[buf]).length,l=(ss++[buf])[j]):=by
  intro j;rcases Nat.lt_trichotomy j ss.length with h|h|h
  .obtain⟨ps,qs,_,_,h2,h3⟩:=ab j h;have e:P j=P0 j:=by rw[hP]; simp[h]
   have hs:=hI.jf _ (bB h);refine⟨ss[j],by rw[e]; exact h2,hs.nodup,ae j h,hs.each,?_,λp hp=>?_,λ_=>by rw[List.getElem_append_left h]⟩
   .rw[e];unfold cC;rw[bV];exact h3.2.2.imp λh=>Nat.ne_of_lt h
   .rw[e]at hp;have:=(h3.2.1 p hp).2;have:=rC hs;omega
  .subst h;refine⟨buf,by rw[aa]; show(cS _ _).Perm _; rw[EO]; exact nu buf,hI.nodup,ad,hI.each,?_,λp hp=>?_,λ_=>by simp⟩
   .rw[aa,z8,bC];exact(List.nodup_range).map _ (λ_ _ h e=>h e)
   .rw[aa,z8]at hp;obtain⟨k,hk,rfl⟩:=b4.1 hp;have:=cf.1 hk;omega
  .have e:P j=[]:=by rw[hP]; simp[show ¬j<ss.length by omega,show ¬j=ss.length by omega]
   exact⟨[],by rw[e]; exact .refl _,List.Pairwise.nil,by simp,by simp,by rw[e]; exact List.Pairwise.nil,by rw[e]; simp,λh'=>by simp at h'; omega⟩
 have hL:∀j,(P j).length<=130:=λj=>by
  obtain⟨l,Y,_,h3,_⟩:=U j;have:=Y.length_eq;rw[bG]at this;omega
 have hN:∀j,(jJ _).Nodup:=λj=>by
  obtain⟨l,Y,h2,_⟩:=U j;have:=(Y.map _).nodup_iff.2 h2;rw[bC]at this;exact this
 have hG:∀j,∀p∈P j,Pz _:=λj p hp=>by
  obtain⟨l,Y,_,_,h4,_⟩:=U j;exact h4 _ (Y.mem_iff.1 (b4.2 ⟨p,hp,rfl⟩))
 have ag:=hI.qk;have O:dV (allM A P0 buf ss.length) (allM A P0 buf ss.length)=(G0 P (ss.length+1)).filter A.has:=by rw[fv,yl]
 constructor
 .refine⟨?_,λm hm=>?_,?_,?_,?_⟩
  .rw[fv];have:=DM (A:=A) hL (ss.length+1);omega
  .rw[fv]at hm;obtain⟨j,hj,p,hp,rfl⟩:=E7 _ m hm;rw[(im j p).1,(im j p).2.1,(im j p).2.2.1];obtain⟨l,_,_,_,_,_,h6,_⟩:=U j;exact⟨by omega,h6 p hp,(uE (hG j p hp)).1⟩
  .rw[fv];exact vG (λj=>(U j).elim λl h=>h.2.2.2.2.1) _
  .rw[O];exact(yK hN _).sublist ((ck).map _)
  .rw[O];intro e he;obtain⟨j,_,h⟩:=Gk _ e (b7.1 he).1;obtain⟨p,hp,rfl⟩:=b4.1 h;exact(uE (hG j p hp)).2
 .rw[O,fP,I2]
  have:=En (P:=P) (ss:=ss++[buf]) (λj h=>by
   obtain⟨l,Y,_,_,_,_,_,h7⟩:=U j;rw[<-h7 h]
   exact Y) (ss.length+1) (by simp)
  rw[cb (by simp)]at this;exact this.filter _
end
section
open Go.Conc Go.RowKit Go.Maps
variable {ops:Array Oper} {qb:ByteArray} {e:dq} {rest:List Nat} {i:Nat} {o:Oper}
theorem ze:∀(ss:List (List dq))(a:List dq),(a.map dq.name).Nodup->(∀s∈ss,(s.map dq.name).Nodup)->((ss.foldl dJ a).map dq.name).Nodup
 |[],_,h,_=>h
 |s::ss,a,h,O=>ze ss _ (pT h (O s (by simp))) λx U=>O x (by simp[U])
theorem rm{buf:List dq}{ss:List (List dq)}(h:Inv buf ss):((eO ss buf).map dq.name).Nodup:=by
 rw[fP];refine mJ (ze _ [] List.Pairwise.nil λs U=>?_);rcases bA.1 U with O|O
 .exact(h.jf s O).nodup
 .simp only[bH]at O;rw[O]; exact h.nodup
theorem vX{R L:List dq}{mode dD most:Nat}(O:(R.map dq.name).Nodup)(Y:∀e∈R,e.gone=false)(hm:mode<=3)(ht:dD<=255)(aa:1<=most)(ab:most<=20)(hq:dU qb.data.toList=true)
  (U:L.Perm (R.filter (Ask.has ⟨mode,⟨(ed qb.data.toList).toArray⟩,dD⟩))) (hs:L.Pairwise λx y=>eK x y=true):(L.take most).map fZ=(tz R mode qb.data.toList dD most).1:=by
 have e1:R.filter (Ask.has ⟨mode,⟨(ed qb.data.toList).toArray⟩,dD⟩)=R.filter λe=>ix mode dD qb.data.toList e:=by
  refine bX λe he=>?_;unfold Ask.has ix dF;rw[Y e he];simp
 rw[e1]at U;have h:=tL (mode:=mode) (dD:=dD) (most:=most) (q:=qb.data.toList) O hs (by simpa using U);unfold tz;rw[if_neg (by omega),if_pos hq];rw[h];simp
abbrev kD(w:World):Prop:=l0 prog w "internal/strconv.uint64pow10" .u64 l1
theorem Ix{w y:World}(h:kD w)(hb:∀r,r<5->y.heap[r]?=w.heap[r]?):kD y:=by
 unfold kD l0 World.var? at h⊢;have U:∃g,g<5/\prog.globalNamed "internal/strconv.uint64pow10" = some g:=⟨2,by omega,by kernel_rfl⟩;obtain⟨g,O,e⟩:=U;rw[e]at h⊢;simp only[ls]at h⊢;rw[hb g O];exact h
theorem ON(h:Jt e)(y:World)(U:kD y)(h5:5<=y.heap.size):dl prog 51 #[.agg #[.string ⟨e.name.toArray⟩,.string ⟨e.text.toArray⟩,.int .i64 e.du,.int .i64 e.dD]] y λY w'=>Y=.returned (.string ⟨(fZ e).toArray⟩)/\eU y w':=by
 obtain⟨_,h1,h2,_,h3,h4,_⟩:=h;have hn:=(gI h1).2;have aa:=jc h2;refine MH e y h3 (λy2 O=>?_) (by omega) (by omega) ?_
 .have:=NP e.du.toNat (by omega) y2 (Ix U λr hr=>O.block r (by omega));rw[show e.du.toNat=e.du by omega]at this;exact this
 .have:=MU 7 e.du.toNat (by omega) (by omega);omega
theorem Ka:∀(L:List (List dq))(a:List dq){e:dq},e∈L.foldl dJ a->e∈a\/∃l∈L,e∈l
 |[],_,_,h=>.inl h
 |l::L,a,e,h=>by
  rcases Ka L _ h with h|⟨m,hm,h⟩
  .rcases kL.1 h with h|h
   .exact .inl h.1
   .exact .inr ⟨l,by simp,h⟩
  .exact .inr ⟨m,by simp[hm],h⟩
theorem Bz{buf:List dq}{ss:List (List dq)}(h:Inv buf ss)(he:e∈eO ss buf):Jt e:=by
 rw[fP]at he;obtain⟨h1,h2⟩:=b7.1 he
 have O:Pz e:=by
  rcases Ka _ _ h1 with U|⟨l,hl,U⟩
  .simp at U
  .rcases bA.1 hl with Y|Y
   .exact(h.jf l Y).each e U
   .simp only[bH]at Y;subst Y;exact h.each e U
 rcases O with O|O
 .exact O
 .rw[O.1]at h2;simp at h2
theorem Kf:f17.name≠ "runtime.NumGoroutine":=by
 decide
section
variable {Z:iS prog} {W0:World} {Mp:Nat->Prop} {fn:dr} {tm:Array Value} {os:List OF} {wl w0:World} {k:List Item} {F1 F2:Nat->Prop} {b:Nat} {buf:List dq} {ss:List (List dq)} {ts:List (List Wd)}
theorem AW.LO{mode dD most:Nat}(hi:ops[i]?=some o)(h:AW w0 wl F1 F2 b buf ss ts)(h5:5<=w0.heap.size)(ac:kD wl)
  (hm:mode<=3) (ht:dD<=255) (ag:1<=most) (ah:most<=20) (hq:dU qb.data.toList=true)
  (hn:∀(w2:World)(u:Value)(L:List dq),AW w0 w2 F1 F2 b buf ss ts->o9 wl w2->L.Perm ((eO ss buf).filter (Ask.has ⟨mode,⟨(ed qb.data.toList).toArray⟩,dD⟩))->(L.Pairwise λx y=>eK x y=true)->Kept w2 F1 F2 u ((L.take most).map fZ)->dn (fi Z W0 Mp) (⟨fn,eI o.dst tm (.tuple #[u,.int .i64 0]),.inRegion ops rest::k⟩::os) w2 []) :
  dn (fi Z W0 Mp) (⟨17,#[.pointer (some ⟨b,0,none⟩),.int .i64 (mode:Int),.string qb,.int .i64 (dD:Int),.int .i64 (most:Int),mj,mj,mj,mj,mj,mj,mj,mj,mj,mj,mj,mj,mj,mj,mj,mj,mj,mj,mj,mj,mj,mj,mj,mj,mj,mj,mj,mj,mj,mj,mj,mj,mj,mj,mj,mj,mj,mj,mj,mj,mj,mj,mj,mj,mj,mj,mj,mj,mj,mj,mj,mj,mj,mj,mj,mj,mj,mj,mj,mj,mj,mj],[.code (dT f17)]⟩::⟨fn,tm,.inRegion ops (i::rest)::k⟩::os) wl []:=by
 obtain⟨⟨h1,h2,h3,Bb,vS,B,n,vK,kn,h4,h6⟩,k1,k2,k3⟩:=id h
 have ai:qb.size<=1000:=by
  have:=jc hq;have e:qb.size=qb.data.toList.length:=by show qb.data.size=_; rw[Array.length_toList]
  omega
 have aj:=ew h5 k3.size;have hI:=h4.inv;have ar:=rK hI
 have ak:∀e∈buf,e.name.length<=65536/\e.text.length<=1048576/\(e.gone=false->0<=e.dD/\e.dD<=255):=λe he=>by
  have O:=hI.each e he;have h1:=(gI (qY O)).2;refine⟨by omega,(uE O).2,λe0=>?_⟩;rcases O with O|O
  .exact⟨O.2.2.2.2.2.2.1,O.2.2.2.2.2.2.2⟩
  .rw[O.1]at e0; cases e0
 have ad:=h4.row;obtain⟨P,al,am⟩:=OJ hI
 have aa:∃sa sc,vS=.slice sa ss.length sc/\((sa=none/\ss.length=0)\/∃sb so c e f,sa=some ⟨sb,so,none⟩/\5<=sb/\wl.heap[sb]?=some (.cells c e f)/\∀j,j<ss.length->c[so+j]?=some (.string ⟨(dX (ss.getD j [])).toArray⟩)):=by
  rcases ad.2 with⟨rfl,h0⟩|⟨g,cap,cur,rfl,_,O,c1,c2,c3,c4⟩
  .exact⟨none,0,by rw[h0],.inl ⟨rfl,h0⟩⟩
  .refine⟨_,cap,rfl,.inr ⟨g,0,cur,_,_,rfl,ew h5 (k1 g (h4.kX g rfl)),O,λj U=>?_⟩⟩;have ab:=gO (ss.map dX) j (by simpa using U);rw[<-c4,bS,if_pos (by simpa using U)]at ab
   have e1:(ss.map dX)[j]'(by simpa using U)=dX (ss.getD j []):=by
    rw[List.getElem_map,bD,b6 U]; rfl
   rw[e1]at ab;simpa using ab
 obtain⟨sa,sc,an,ao⟩:=aa;refine KB (es:=buf) (R:=eO ss buf) (P:=P) (Ss:=λj=>⟨(dX _).toArray⟩) hi an h4.blk h4.say (ew h5 (k1 Bb h4.fB)) ⟨ao,hI.qk,λj U=>?_,λA _=>am A⟩ (by omega) ak hm ht ag ah hq ai (λe he O y hy=>?_) aj ?_
 .have e1:ss.getD j []=ss[j]:=by rw[bD,b6 U]; rfl
  have hl:=rC (hI.jf _ (bB U));obtain⟨ps,qs,q1,q2⟩:=al j U;simp only[e1];have e2:(⟨(dX ss[j]).toArray⟩:ByteArray).size=(dX ss[j]).length:=by simp[ByteArray.size]
  exact⟨by omega,ps,qs,q1,q2⟩
 .exact ON (Bz hI he) y (Ix ac hy) (by have:=hy 4 (by omega); rw[cU (show 4<wl.heap.size by omega)]at this; have:=(cT.1 this).1; omega)
 .intro w2 v hb hz ho ae;obtain⟨L,ap,aq,u,rfl,af⟩:=ae;have Y:o9 wl w2:=⟨ho,hz,hb⟩;refine hn w2 u L (h.same Y) Y ap aq (Kept.new h ?_);rw[bG];exact af
theorem AW.R3{xs:Array Operand}{U:Array ee}{mode dD most:Nat}(h:AW w0 wl F1 F2 b buf ss ts)(h5:5<=w0.heap.size)(O:kD wl)(hq:dU qb.data.toList=true)
  (hn:∀(w2:World)(u:Value)(L:List dq),AW w0 w2 F1 F2 b buf ss ts->o9 wl w2->L.Perm ((eO ss buf).filter (Ask.has ⟨mode,⟨(ed qb.data.toList).toArray⟩,dD⟩))->(L.Pairwise λx y=>eK x y=true)->Kept w2 F1 F2 u ((L.take most).map fZ)->dn (fi Z W0 Mp) (⟨fn,eI o.dst tm (.tuple #[u,.int .i64 0]),.inRegion ops rest::k⟩::os) w2 [])
  (hi:ops[i]?=some o) (Y:kc o (dt ops tm)=true) (ho:o.op=.call {callee:=.value (.func 17),args:=xs,argTypes:=U}) (aa:∀x∈xs.toList,dP (fi Z W0 Mp).fu (fi Z W0 Mp).gl x)
  (ha:xs.map (iJ tm)=#[.pointer (some ⟨b,0,none⟩),.int .i64 (mode:Int),.string qb,.int .i64 (dD:Int),.int .i64 (most:Int)]) (hm:mode<=3) (ht:dD<=255) (ab:1<=most) (ac:most<=20):dn (fi Z W0 Mp) (⟨fn,tm,.inRegion ops (i::rest)::k⟩::os) wl []:=by
 have ad:xs.size=5:=by have:=congrArg Array.size ha; simpa using this
 refine dn.qA _ (gK:=f17) (c:=dT f17) hi Y func17 (by kernel_rfl) Kf ho aa ?_ (h.LO hi h5 O hm ht ab ac hq hn);rw[ha,ad];kernel_rfl
end
end
section
structure nI where
 name:Wd
 text:Wd
 du:Int
 dD:Int
 there:Bool
def lN:nI:=⟨[],[],0,0,false⟩
structure Raw where
 name:Int
 text:Int
 du:Int
 dD:Int
def Ct(k:nI):dq:=⟨k.name,false,k.text,k.du,k.dD⟩
def kz(x:Raw):nI:=⟨xz (pk x.name 12),AB (pk x.text 258),(x.du.natAbs % 1000001:Nat),(pk x.dD 256:Nat),true⟩
def qw(K:List nI)(x:Raw):List nI:=
 if x.du<0 then K.set (pk x.name 12) {K.getD (pk x.name 12) lN with there:=false}else K.set (pk x.name 12) (kz x)
def CR(l:List dq):Prop:=∀e∈l,∃k,k<12/\e.name=xz k
theorem Hs{i j:Nat}(hi:i<12)(Y:j<12)(h:xz i=xz j):i=j:=by
 have O:=by simpa[xz]using h
 have U:=congrArg UInt8.toNat O;simp only[UInt8.toNat_ofNat']at U;omega
theorem Pp{k:Nat}(h:k<12):iL (xz k)=true:=by
 rcases(by omega:k=0\/k=1\/k=2\/k=3\/k=4\/k=5\/k=6\/k=7\/k=8\/k=9\/k=10\/k=11)with rfl|rfl|rfl|rfl|rfl|rfl|rfl|rfl|rfl|rfl|rfl|rfl<;>decide
def Tm(n:Nat):Bool:=dU (AB n) && !(AB n).isEmpty&&decide ((AB n).length<=20)
theorem R8:(cn 258).all Tm=true:=by kernel_rfl
theorem NH{n:Nat}(h:n<258):dU (AB n)=true/\AB n≠[]/\(AB n).length<=20:=by
 have:=cR.1 R8 n (cf.2 h);simp only[Tm,Bool.and_eq_true,decide_eq_true_eq,Bool.not_eq_true',List.isEmpty_eq_false_iff]at this;exact⟨this.1.1,this.1.2,this.2⟩
theorem O0{l m:List Wd}(U:l.Nodup)(hm:m.Nodup)(h:∀x∈l,x∈m):l.length<=m.length:=by
 have Y:(m.filter λx=>decide (x∈l)).Perm l:=by
  rw[List.perm_ext_iff_of_nodup (hm.sublist ck) U];intro x;rw[b7];exact⟨λh=>of_decide_eq_true h.2,λO=>⟨h x O,decide_eq_true O⟩⟩
 have h1:=Y.length_eq;have h2:=ce (λx=>decide (x∈l)) m;omega
theorem xV{l:List dq}(O:(l.map dq.name).Nodup)(h:CR l):l.length<=12:=by
 have:=O0 O (m:=(cn 12).map xz) (by decide) λx U=>by
  obtain⟨e,Y,rfl⟩:=b4.1 U;obtain⟨k,hk,e1⟩:=h e Y;exact b4.2 ⟨k,cf.2 hk,e1.symm⟩
 simpa using this
theorem BF{a b:List dq}(O:CR a)(hb:CR b):CR (dJ a b):=λe U=>by
 rcases kL.1 U with h|h
 .exact O e h.1
 .exact hb e h
theorem vr{a:List dq}(O:CR a):CR (dx a):=λe U=>O e (b7.1 U).1
structure Sk(K:List nI)(buf:List dq)(ss:List (List dq)):Prop where
 len:K.length=12
 inv:Inv buf ss
 qk:CR buf
 Dn:∀s∈ss,CR s
 wQ:∀k(h:k<K.length),K[k].there=true->K[k].name=xz k/\(∃n,n<258/\K[k].text=AB n)/\0<=K[k].du/\K[k].du<=1000000/\0<=K[k].dD/\K[k].dD<=255
 there:∀e,e∈eO ss buf↔∃i,∃h:i<K.length,K[i].there=true/\e=Ct K[i]
theorem Sk.new:Sk (List.replicate 12 lN) [] [] where
 len:=by simp
 inv:=Je;qk:=λe h=>by simp at h
 Dn:=λs h=>by simp at h
 wQ:=λk h O=>by rw[cE]at O; cases O
 there:=λe=>by
  constructor
  .intro h; simp[eO,lR,dJ,dx]at h
  .rintro⟨i,h,O,_⟩; rw[cE]at O; cases O
section
variable {K:List nI} {buf:List dq} {ss:List (List dq)}
theorem Sk.T7(h:Sk K buf ss):(eO ss buf).length<=12:=xV (rm h.inv) λe O=>by
 obtain⟨i,hi,U,rfl⟩:=(h.there e).1 O;exact⟨i,by rw[<-h.len]; exact hi,(h.wQ i hi U).1⟩
theorem Sk.F6(h:Sk K buf ss){k:Nat}(hk:k<12){e:dq}{kn:nI}(hI:Inv (dJ buf [e]) ss)(hn:e.name=xz k)(hg:kn.there = !e.gone)
  (hq:kn.there=true->Ct kn=e/\(∃n,n<258/\kn.text=AB n)/\0<=kn.du/\kn.du<=1000000/\0<=kn.dD/\kn.dD<=255):Sk (K.set k kn) (dJ buf [e]) ss where
 len:=by rw[bQ]; exact h.len
 inv:=hI
 qk:=BF h.qk λx hx=>by
  simp only[bH]at hx;rw[hx]; exact⟨k,hk,hn⟩
 Dn:=h.Dn
 wQ:=λi hi ht=>by
  rw[bQ]at hi;rw[ca]at ht⊢;split at ht
  .rename_i e1;subst e1;simp only[if_true];obtain⟨O,U⟩:=hq ht;refine⟨?_,U⟩;rw[<-hn,<-O]; rfl
  .rename_i e1;rw[if_neg e1];exact h.wQ i hi ht
 there:=λx=>by
  have hT:=h.there x;rw[qE,pP];rw[fP]at hT;rw[bA,b7,ii,hT];have e1:x.name ∉ names [e]↔x.name≠xz k:=by simp[names,hn]
  rw[e1];constructor
  .rintro(⟨⟨i,hi,O,rfl⟩,U⟩|O)
   .refine⟨i,by rw[bQ]; exact hi,?_⟩;rw[ca];have:k≠i:=λY=>U (by rw[show(Ct K[i]).name=K[i].name from rfl,(h.wQ i hi O).1,Y]);rw[if_neg this];exact⟨O,rfl⟩
   .obtain⟨U,h3⟩:=b7.1 O;simp only[bH]at U;subst U;have h4:kn.there=true:=by rw[hg]; exact h3
    refine⟨k,by rw[bQ,h.len]; exact hk,?_⟩;rw[ca];simp only[if_true];exact⟨h4,(hq h4).1.symm⟩
  .rintro⟨i,hi,O,rfl⟩;rw[bQ]at hi;rw[ca]at O⊢;split at O
   .rename_i Y;subst Y;simp only[if_true];refine .inr (b7.2 ?_);rw[(hq O).1];exact⟨by simp,by rw[<-hg]; exact O⟩
   .rename_i Y;rw[if_neg Y];refine .inl ⟨⟨i,hi,O,rfl⟩,λe3=>Y ?_⟩;rw[show(Ct K[i]).name=K[i].name from rfl,(h.wQ i hi O).1]at e3;exact(Hs (by rw[<-h.len]; exact hi) hk e3).symm
theorem Sk.Rq(h:Sk K buf ss)(x:Raw)(hx:¬x.du<0) :
  (jp buf ss (kz x).name (kz x).text (kz x).du (kz x).dD).1=0/\Sk (qw K x) (jp buf ss (kz x).name (kz x).text (kz x).du (kz x).dD).2 ss:=by
 have O:=lC x.name 12 (by omega);have U:=NH (lC x.text _ (by omega));have hg:=lC x.dD 256 (by omega);have aa:=h.T7;have Y:=JE h.inv (kz x).name (kz x).text (kz x).du (kz x).dD;have hw:(kz x).du=((x.du.natAbs % 1000001)):=rfl;have ab:(kz x).dD=((pk _ _)):=rfl
 have e:jp buf ss (kz x).name (kz x).text (kz x).du (kz x).dD=(0,dJ buf [Ct (kz x)]):=by
  unfold jp;rw[if_pos (show iL (kz x).name=true from Pp O),if_pos (show dU (kz x).text=true/\(kz x).text≠[]from⟨U.1,U.2.1⟩),if_neg (by omega),if_neg (by omega)];rfl
 rw[e]at Y⊢;refine⟨rfl,?_⟩;unfold qw;rw[if_neg hx];exact h.F6 O Y rfl rfl λ_=>⟨rfl,⟨_,lC _ _ (by omega),rfl⟩,by omega,by omega,by omega,by omega⟩
theorem Sk.del(h:Sk K buf ss)(x:Raw)(hx:x.du<0) :
  (kI buf ss (xz (pk x.name 12))).1=(if(K.getD (pk x.name 12) lN).there then 0 else 5)/\Sk (qw K x) (kI buf ss (xz (pk x.name 12))).2 ss:=by
 have U:=lC x.name 12 (by omega);obtain⟨k,ek⟩:∃k,k=pk x.name 12:=⟨_,rfl⟩;rw[<-ek]at U;have O:k<K.length:=by rw[h.len]; exact U
 have hI:=J9 h.inv (xz k);have Y:K.getD k lN=K[k]:=by rw[bD,b6 O]; rfl
 unfold qw;rw[<-ek,if_pos hx,Y]
 cases ht:K[k].there with
 |false=>
  have hn:=pQ λhm=>by
   obtain⟨e,he,e1⟩:=b4.1 hm;obtain⟨i,hi,h1,rfl⟩:=(h.there e).1 he;rw[show(Ct _).name=K[i].name from rfl,(h.wQ i hi h1).1]at e1;have:=Hs (by rw[<-h.len]; exact hi) U e1;subst this;rw[ht]at h1;cases h1
  have e:kI buf ss (xz k)=(5,buf):=by
   unfold kI;rw[if_pos (Pp U),if_pos hn]
  rw[e]
  have e2:K.set k {K[k]with there:=false}=K:=by
   have:({K[k]with there:=false})=K[k]:=by rw[<-ht]
   rw[this,List.set_getElem_self]
  rw[e2];exact⟨rfl,h⟩
 |true=>
  have hn:=λhf=>uy hf (b4.2 ⟨Ct _,(h.there _).2 ⟨k,O,ht,rfl⟩,(h.wQ k O ht).1⟩);have hb:=xV h.inv.nodup h.qk
  have e:kI buf ss (xz k)=(0,dJ buf [⟨xz k,true,[],0,0⟩]):=by
   unfold kI;rw[if_pos (Pp U),if_neg hn,if_neg (by omega)]
  rw[e]at hI⊢;exact⟨rfl,h.F6 U hI rfl rfl nofun⟩
theorem Sk.flush(h:Sk K buf ss):Sk K (eV buf ss).2.1 (eV buf ss).2.2/\
  (((eV buf ss).1=0/\((eV buf ss).2.2.length=ss.length+1\/(ss.length=0/\(eV buf ss).2.2.length=0)))\/(((eV buf ss).1=5\/(eV buf ss).1=4)/\(eV buf ss).2.2.length=ss.length)):=by
 have hI:=AD h.inv;unfold eV at hI⊢;split
 .exact⟨h,.inr ⟨.inl rfl,rfl⟩⟩
 .split
  .exact⟨h,.inr ⟨.inr rfl,rfl⟩⟩
  .rename_i hb h6;rw[if_neg hb,if_neg h6]at hI;simp only at hI⊢
   have hT:eO (if 0<(eY buf ss).length then ss++[eY buf ss]else ss) []=eO ss buf:=by
    by_cases O:ss.length=0
    .have:=bZ.1 O;subst this;have U:eY buf []=dx buf:=by simp[eY]
     rw[U];split
     .rw[fP];show dx (dJ _ [])=dx (dJ [] buf);rw[oR,mh,mh,jW]
     .have aa:dx buf=[]:=bZ.1 (by omega);show dx (dJ [] [])=dx (dJ [] buf);rw[mh,mh,aa];rfl
    .have U:eY buf ss=buf:=by simp[eY,O]
     rw[U,if_pos (by omega),fP,fP,fj _,oR]
   refine⟨⟨h.len,hI,nofun,λs hs=>?_,h.wQ,λe=>by rw[hT]; exact h.there e⟩,.inl ⟨trivial,?_⟩⟩
   .split at hs
    .rcases bA.1 hs with Y|Y
     .exact h.Dn s Y
     .simp only[bH]at Y;rw[Y];unfold eY;split
      .exact vr h.qk
      .exact h.qk
    .exact h.Dn s hs
   .split
    .simp
    .rename_i hz;right
     have O:ss.length=0:=by
      by_cases O:ss.length=0
      .exact O
      .have U:eY buf ss=buf:=by simp[eY,O]
       rw[U]at hz;omega
     exact⟨O,O⟩
theorem Sk.merge(h:Sk K buf ss)(n:Int):Sk K buf (eP ss n).2/\
  (((eP ss n).1=0/\((eP ss n).2.length+1=ss.length\/(eP ss n).2.length+2=ss.length))\/((eP ss n).1=6/\(eP ss n).2.length=ss.length)):=by
 have hI:=Bg h.inv n;by_cases h0:n<0\/ss.length-1<=n
 .have e:eP ss n=(6,ss):=by unfold eP; rw[if_pos h0]
  rw[e];exact⟨h,.inr ⟨rfl,rfl⟩⟩
 .obtain⟨k,rfl⟩:∃k:Nat,n=k:=⟨n.toNat,by omega⟩;have hk:k+1<ss.length:=by omega
  have ha:ss.getD k []∈ss:=by
   rw[bD,b6 (by omega)];exact bB _
  have hb:ss.getD (k+1) []∈ss:=by
   rw[bD,b6 hk];exact bB _
  have O:=BF (h.Dn _ ha) (h.Dn _ hb);have U:=pT (h.inv.jf _ ha).nodup (h.inv.jf _ hb).nodup
  have hm:CR (iQ ss k):=by
   unfold iQ;split
   .exact vr O
   .exact O
  have hl:=by
   refine xV ?_ hm;unfold iQ;split
   .exact mJ U
   .exact U
  have e:eP ss k=(0,ss.take k++(oD k (ss.getD k []) (ss.getD (k+1) [])++ss.drop (k+2))):=by
   unfold eP;rw[if_neg h0,lw,if_neg (by omega),yX]
  rw[e]at hI⊢;simp only at hI⊢;refine⟨⟨h.len,hI,h.qk,λs hs=>?_,h.wQ,λx=>?_⟩,.inl ⟨trivial,?_⟩⟩
  .rcases bA.1 hs with Y|Y
   .exact h.Dn s (List.mem_of_mem_take Y)
   .rcases bA.1 Y with h2|h2
    .rw[(Ji h2).1];exact hm
    .exact h.Dn s (List.mem_of_mem_drop h2)
  .have:=vq ss k hk [buf];rw[fP,this,<-fP];exact h.there x
  .have Y:=Jo k (ss.getD k []) (ss.getD (k+1) []);simp only[bF,ct,List.length_drop];omega
end
end
section
open Go.RowKit
variable {w y:World}
theorem pa{P:Program}{ops:Array Oper}{Q:Exit->Act->World->Prop}{a:Act}(h:Q .normal a w):nh P ops Q [] a w:=λ_ _ _=>⟨.normal,a,w,h,.one step_region_end⟩
def qQ(x:Raw):Value:=.agg #[.int .i64 x.name,.int .i64 x.text,.int .i64 x.du,.int .i64 x.dD]
def JX(k:nI):Value:=.agg #[.string ⟨k.name.toArray⟩,.string ⟨k.text.toArray⟩,.int .i64 k.du,.int .i64 k.dD,.bool k.there]
structure Raw.Ok(x:Raw):Prop where
 n0 : -9223372036854775808<=x.name
 n1:x.name<=9223372036854775807
 t0 : -9223372036854775808<=x.text
 t1:x.text<=9223372036854775807
 w0 : -9223372036854775808<=x.du
 w1:x.du<=9223372036854775807
 g0 : -9223372036854775808<=x.dD
 g1:x.dD<=9223372036854775807
theorem uA(w:World)(o:Obj):(w.alloc o).heap[w.heap.size]?=some o:=by simp[World.alloc,-World.alloc_eq]
theorem jA{a:Addr}{v:Value}(h:kY w y)(O:w.cell? a=some v):y.cell? a=some v:=by
 obtain⟨τ,U⟩:=h;exact gr a v _ _ (show(tp w τ).cell? a=some v from O) U
theorem Gc(w:World)(a:Addr)(v:Value):(w.setCell a v).os=w.os:=rfl
theorem ug(w:World)(a:Addr)(v:Value):(w.setCell a v).tape=w.tape:=rfl
theorem yL(w:World)(a:Addr)(v:Value):(w.setCell a v).output=w.output:=rfl
structure SZ(y y5:World)(b o:Nat)(cs:Array Value)(t:ee)(v0 v1 v2 v3 v4:Value):Prop where
 blk:y5.heap[b]?=some (.cells (((((cs.setIfInBounds o v0).setIfInBounds (o+1) v1).setIfInBounds (o+2) v2).setIfInBounds (o+3) v3).setIfInBounds (o+4) v4) t (0,0))
 other:∀k,k≠b->y5.heap[k]?=y.heap[k]?
 size:y5.heap.size=y.heap.size
 os:y5.os=y.os
 tape:y5.tape=y.tape
 output:y5.output=y.output
theorem Jw{b o:Nat}{cs:Array Value}{t:ee}(h:y.heap[b]?=some (.cells cs t (0,0)))(v0 v1 v2 v3 v4:Value):SZ y (((((y.setCell ⟨b,o,none⟩ v0).setCell ⟨b,o+1,none⟩ v1).setCell ⟨b,o+2,none⟩ v2).setCell ⟨b,o+3,none⟩ v3).setCell ⟨b,o+4,none⟩ v4) b o cs t v0 v1 v2 v3 v4 where
 blk:=by
  have O:=heap_set h o v0;have U:=heap_set O (o+1) v1;have Y:=heap_set U (o+2) v2;have h3:=heap_set Y (o+3) v3;exact heap_set h3 (o+4) v4
 other k hk:=by rw[fk _ _ _ _ hk,fk _ _ _ _ hk,fk _ _ _ _ hk,fk _ _ _ _ hk,fk _ _ _ _ hk]
 size:=by simp
 os:=by rw[Gc,Gc,Gc,Gc,Gc]
 tape:=by rw[ug,ug,ug,ug,ug]
 output:=by rw[yL,yL,yL,yL,yL]
theorem Nu(h:kY w y)(O:y.tape=w.tape):eU w y:=by
 obtain⟨τ,U,h2,Y,h4,h5⟩:=h;exact⟨U,O,Y,h4,h5⟩
theorem G6(x:Raw)(hx:x.Ok)(w:World):dl prog 22 #[qQ x] w λe w'=>e=.returned (JX (kz x))/\eU w w':=by
 obtain⟨xn,xt,xw,xg⟩:=x;obtain⟨n0,n1,t0,t1,w0,w1,g0,g1⟩:=hx;simp only at n0 n1 t0 t1 w0 w1 g0 g1;unfold qQ;simp only;obtain⟨q,hq⟩:∃q:Int,q=((xw.natAbs % 1000001:Nat):Int):=⟨_,rfl⟩;have ac:0<=q:=by omega
 have ad:q<=1000000:=by omega
 obtain⟨wa,Y⟩:∃wa,wa=(w.alloc (.cells #[.int .i64 xn,.int .i64 xt,.int .i64 xw,.int .i64 xg] 48)).alloc (.cells #[.string ⟨#[]⟩,.string ⟨#[]⟩,.int .i64 0,.int .i64 0,.bool false] 36):=⟨_,rfl⟩;have aa:ka (eU w wa):=by rw[Y]; exact(eU.alloc _ _).trans (eU.alloc _ _)
 have hA:wa.heap[w.heap.size]?=some (.cells #[.int .i64 xn,.int .i64 xt,.int .i64 xw,.int .i64 xg] 48 (0,0)):=by rw[Y,(eU.alloc _ _).block _ (by simp)]; exact uA _ _
 have hB:wa.heap[w.heap.size+1]?=some (.cells #[.string ⟨#[]⟩,.string ⟨#[]⟩,.int .i64 0,.int .i64 0,.bool false] 36 (0,0)):=by
  rw[Y,<-ke]; exact uA _ _
 have HB:ka _:=hB;have d0:wa.cell? ⟨w.heap.size,0,none⟩=some (.int .i64 xn):=by rw[dh hA]; rfl
 have d1:wa.cell? ⟨w.heap.size,1,none⟩=some (.int .i64 xt):=by rw[dh hA]; rfl
 have d2:wa.cell? ⟨w.heap.size,2,none⟩=some (.int .i64 xw):=by rw[dh hA]; rfl
 have d3:wa.cell? ⟨w.heap.size,3,none⟩=some (.int .i64 xg):=by rw[dh hA]; rfl
 have HN:ka (∀y,dl prog 23 #[.int .i64 xn] y λe w'=>e=.returned (.string ⟨(xz (pk xn 12)).toArray⟩)/\y=w'):=λy=>Bl xn y n0 n1;have HT:ka (∀y,dl prog 45 #[.int .i64 xt] y λe w'=>e=.returned (.string ⟨(AB (pk xt 258)).toArray⟩)/\eU y w'):=λy=>Bv xt y t0 t1;have HP:ka (∀y,dl prog 15 #[.int .i64 xg,.int .i64 256] y λe w'=>e=.returned (.int .i64 (pk xg 256:Nat))/\y=w'):=λy=>fQ xg 256 y g0 g1 (by omega) (by omega)
 have HK:ka (JX (kz ⟨xn,xt,xw,xg⟩)=.agg #[.string ⟨(xz (pk xn 12)).toArray⟩,.string ⟨(AB (pk xt 258)).toArray⟩,.int .i64 q,.int .i64 (pk xg 256:Nat),.bool true]):=by
  show JX _=_;rw[hq]; rfl
 rw[HK.out];clear hA hB HK;generalize (⟨(xz (pk xn 12)).toArray⟩:ByteArray)=sn at *;generalize (⟨(AB (pk xt 258)).toArray⟩:ByteArray)=st at *;generalize ((pk xg 256:Nat):Int)=gg at *
 have key:(xw.tmod 1000001 = -q/\-q<0)\/(xw.tmod 1000001=q/\¬q<0):=by
  by_cases ab:0<=xw
  .have:=lv (a:=xw) (b:=1000001) ab;omega
  .have:=lv (a:=-xw) (b:=1000001) (by omega);rw[Int.neg_tmod]at this;omega
 have k1:IntKind.i64.wrap (-q) = -q:=by simp only[lo]; omega
 have k2:IntKind.i64.wrap q=q:=by simp only[lo]; omega
 clear hq;rcases key with⟨hr,hl⟩|⟨hr,hl⟩
 all_goals
  go_enter func22,ntmps22;go_wp2_with fail;rw[<-Y];clear Y;refine gX (Sd:=λa y=>y.tape=wa.tape->nh _ _ _ [11] a y) (last:=11) (tl:=[]) (by kernel_rfl) ?_ (λa y h ht=>h ht);refine dB 0 ?_ ?_<|dB 1 ?_ ?_ ?_
  any_goals(intro y U; have q0:=jA U d0; unfold gh; go_simp; refine⟨eU.refl _,?_⟩; with_reducible rfl)
  go_simp;refine dB 2 ?_ ?_ ?_;rotate_left
  .intro y U; unfold gh; go_simp; refine⟨rfl,(HN.out y).mono ?_⟩; rintro e y2 ⟨rfl,rfl⟩; refine⟨_,rfl,eU.refl _,?_⟩; with_reducible rfl
  go_simp;refine dB 3 ?_ ?_<|dB 4 ?_ ?_ ?_
  any_goals(intro y U; have q0:=jA U d1; unfold gh; go_simp; refine⟨eU.refl _,?_⟩; with_reducible rfl)
  go_simp;refine dB 5 ?_ ?_ ?_;rotate_left
  .intro y U; unfold gh; go_simp; refine⟨rfl,(HT.out y).mono ?_⟩; rintro e y2 ⟨rfl,h2⟩; refine⟨_,rfl,h2,?_⟩; with_reducible rfl
  go_simp;refine dB 6 ?_ ?_<|dB 7 ?_ ?_<|dB 8 ?_ ?_ ?_
  any_goals(intro y U; have q0:=jA U d3; unfold gh; go_simp; refine⟨eU.refl _,?_⟩; with_reducible rfl)
  go_simp;refine dB 9 ?_ ?_ ?_;rotate_left
  .intro y U; unfold gh; go_simp; refine⟨rfl,(HP.out y).mono ?_⟩; rintro e y2 ⟨rfl,rfl⟩; refine⟨_,rfl,eU.refl _,?_⟩; with_reducible rfl
  go_simp;refine dB 10 ?_ ?_ ?_
  any_goals(intro y U; unfold gh; go_simp; refine⟨eU.refl _,?_⟩; with_reducible rfl)
  go_simp;refine mF (by kernel_rfl) (λt=>CU (by kernel_rfl) _ _) ?_;intro y U ht;refine kO rfl rfl ?_
  have O:y.heap[w.heap.size+1]?=some (.cells #[.string ⟨#[]⟩,.string ⟨#[]⟩,.int .i64 0,.int .i64 0,.bool false] 36 (0,0)):=by
   obtain⟨τ,he⟩:=U;exact(he.block _ (cT.1 HB.out).1).trans HB.out
  have c0:y.cell? ⟨w.heap.size+1,0,none⟩=some (.string ⟨#[]⟩):=by rw[dh O]; rfl
  have c1:y.cell? ⟨w.heap.size+1,1,none⟩=some (.string ⟨#[]⟩):=by rw[dh O]; rfl
  have c2:y.cell? ⟨w.heap.size+1,2,none⟩=some (.int .i64 0):=by rw[dh O]; rfl
  have c3:y.cell? ⟨w.heap.size+1,3,none⟩=some (.int .i64 0):=by rw[dh O]; rfl
  have c4:y.cell? ⟨w.heap.size+1,4,none⟩=some (.bool false):=by rw[dh O]; rfl
  have f0:=dK O;unfold gh;go_simp;refine pa ?_;have S:=Jw (o:=0) O (.string sn) (.string st) (.int .i64 q) (.int .i64 gg) (.bool true);have hE:eU w y:=aa.out.trans (Nu U ht);clear c0 c1 c2 c3 c4 f0 O U ht;change SZ y (((((y.setCell ⟨w.heap.size+1,0,none⟩ (.string sn)).setCell ⟨w.heap.size+1,1,none⟩ (.string st)).setCell ⟨w.heap.size+1,2,none⟩ (.int .i64 q)).setCell ⟨w.heap.size+1,3,none⟩ (.int .i64 gg)).setCell ⟨w.heap.size+1,4,none⟩ (.bool true)) _ _ _ _ _ _ _ _ _ at S;generalize ((((y.setCell ⟨w.heap.size+1,0,none⟩ (.string sn)).setCell ⟨w.heap.size+1,1,none⟩ (.string st)).setCell ⟨w.heap.size+1,2,none⟩ (.int .i64 q)).setCell ⟨w.heap.size+1,3,none⟩ (.int .i64 gg)).setCell ⟨w.heap.size+1,4,none⟩ (.bool true)=y5 at *;have e0:y5.cell? ⟨w.heap.size+1,0,none⟩=some (.string sn):=by rw[dh S.blk]; rfl
  have e1:y5.cell? ⟨w.heap.size+1,1,none⟩=some (.string st):=by rw[dh S.blk]; rfl
  have e2:y5.cell? ⟨w.heap.size+1,2,none⟩=some (.int .i64 q):=by rw[dh S.blk]; rfl
  have e3:y5.cell? ⟨w.heap.size+1,3,none⟩=some (.int .i64 gg):=by rw[dh S.blk]; rfl
  have e4:y5.cell? ⟨w.heap.size+1,4,none⟩=some (.bool true):=by rw[dh S.blk]; rfl
  have HE:ka (eU w y5):=⟨S.os.trans hE.os,S.tape.trans hE.tape,S.output.trans hE.output,by rw[S.size]; exact hE.size,λk hk=>(S.other k (by omega)).trans (hE.block k hk)⟩;clear S hE HN HT HP aa HB;go_wp2
  try simp only[Exit.inBlock,Exit.then]
  exact bodyPost_ret (v:=.agg #[.string sn,.string st,.int .i64 q,.int .i64 gg,.bool true]) (by simp[ej,results22,go_sem,e0,e1,e2,e3,e4]) rfl ⟨rfl,HE.out⟩
end
section
def ea:dq:=⟨[97],false,[78,101,119,32,89,111,114,107],50,1⟩
def eb:dq:=⟨[98],false,[78,101,119,97,114,107],70,3⟩
def ec:dq:=⟨[99],false,[89,111,114,107],60,1⟩
def gb:dq:=⟨[98],true,[],0,0⟩
theorem t1:jp [] [] ea.name ea.text 50 1=(0,[ea]):=by kernel_rfl
theorem t2:jp [ea] [] eb.name eb.text 70 3=(0,[ea,eb]):=by kernel_rfl
theorem t3:jp [ea,eb] [] ec.name ec.text 60 1=(0,[ea,eb,ec]):=by kernel_rfl
theorem t4:(tz (eO [] [ea,eb,ec]) 0 [110,101,119] 0 5).1=[fZ eb,fZ ea]:=by kernel_rfl
theorem t5:(tz (eO [] [ea,eb,ec]) 1 [89,79,82,75] 0 5).1=[fZ ec,fZ ea]:=by kernel_rfl
theorem t6:(tz (eO [] [ea,eb,ec]) 2 [110,119,101] 2 5).1=[fZ eb]:=by kernel_rfl
theorem t7:(eV [ea,eb,ec] [])=(0,[],[[ea,eb,ec]]):=by kernel_rfl
theorem t8:kI [] [[ea,eb,ec]] [98]=(0,[gb]):=by kernel_rfl
theorem t9:(eV [gb] [[ea,eb,ec]])=(0,[],[[ea,eb,ec],[gb]]):=by kernel_rfl
theorem t10:qP [[ea,eb,ec],[gb]] 1=([1,1,98,0,0,0,0,0,0],0):=by kernel_rfl
theorem t11:(eP [[ea,eb,ec],[gb]] 0).1=0/\(eP [[ea,eb,ec],[gb]] 0).2.length=1:=by constructor<;>kernel_rfl
def U4:List (List Wd):=[[[116,104,101],[99,97,116],[115,97,116]]]
def UB:List (List Wd):=[[[116,104,101],[99,97,116],[115,97,116]],[[116,104,101],[99,97,116],[114,97,110]]]
theorem t12:s7 [] [116,104,101,32,99,97,116,32,115,97,116]=(0,U4):=by kernel_rfl
theorem t13:s7 U4 [116,104,101,32,99,97,116,32,114,97,110]=(0,UB):=by kernel_rfl
theorem t14:uq UB [116,104,101,32,99,97,116] 2=([[114,97,110],[115,97,116]],0):=by kernel_rfl
theorem t15:fZ ea=[97,32,53,48,32,78,101,119,32,89,111,114,107]:=by
 unfold fZ;rw[show ea.du.toNat=50 from rfl,oV (by omega),qI (by omega)];rfl
theorem t16:fZ eb=[98,32,55,48,32,78,101,119,97,114,107]:=by
 unfold fZ;rw[show eb.du.toNat=70 from rfl,oV (by omega),qI (by omega)];rfl
theorem t17:fZ ec=[99,32,54,48,32,89,111,114,107]:=by
 unfold fZ;rw[show ec.du.toNat=60 from rfl,oV (by omega),qI (by omega)];rfl
end
end Go.Proofs.YtocbogeoffeolaaGreatDoor
