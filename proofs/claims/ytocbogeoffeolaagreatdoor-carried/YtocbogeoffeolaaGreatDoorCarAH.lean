import Derived.Test.YtocbogeoffeolaaGreatDoorCarAG
import Derived.Shelf.SlIter.Sorted
import Derived.Shelf.Strconv.Itoa3
set_option linter.all false
set_option maxHeartbeats 8000000
set_option maxRecDepth 1000000
open List renaming mem_map->b4,getElem?_eq_getElem->b6,mem_filter->b7,map_append->b8,mem_append->b9,getElem_mem->bA,mem_cons->bB,map_map->bC,getD_eq_getElem?_getD->bD,mem_singleton->bE,mem_cons_self->bF,length_append->bG,length_map->bH,getElem?_eq_none->bI,map_cons->bJ,map_congr_left->bK,take_succ_eq_append_getElem->bL,nodup_append->bM,mem_cons_of_mem->bN,nodup_cons->bO,length_set->bP,find?_cons->bQ,getElem?_take->bR,filter_filter->bS,filter_append->bT,pairwise_map->bU,getElem?_map->bV,filter_congr->bW,ext_getElem?->bX,not_mem_nil->bY,length_eq_zero_iff->bZ,getElem_set->ca,take_of_length_le->cb,mem_append_right->cc,length_filter_le->ce,mem_range->cf,filter_sublist->ck,range->cn,append_of_mem->cq,perm_middle->cr,length_take->ct,length_cons->cw,filter_cons->cx,eq_nil_of_length_eq_zero->cy,filter_map->cz,append_nil->cA,Nodup->cB,pairwise_iff_getElem->cC,getElem_replicate->cD,perm_append_comm->cE,length_singleton->cF,map_id->cG,filter_eq_self->cH,find?_eq_none->cI,find?_append->cJ,append_assoc->cK,take_length->cL,mem_flatMap->cM,cons_append->cN,all_eq_true->cO,map->cP
open Array renaming getElem?_eq_some_iff->cQ,getElem?_eq_getElem->cR,getElem?_setIfInBounds_ne->cS,getElem_ofFn->cT,getElem?_eq_none->cU,getElem?_toList->cV,set!_eq_setIfInBounds->cW,replicate->cX,getElem?_mapIdx->cY,getElem?_setIfInBounds_self_of_lt->cZ,getElem?_push->da,ofFn->dc,ext_getElem?->de,ext->df
open Go renaming cell_later->dg,Calls->di,maxLen->dj,FuncId->dk,TypeId->dq,yielded->dr,callsIn_wide->dt,goexitEntry->ee,results->ef,wpList->eg,info_parts->ei
open Nat renaming le_refl->ej,le_trans->er,zero_le->et,lt_of_lt_of_le->ev,lt_trans->ey,mod_one->ez
open Go.RowKit.Below renaming heap_setCell->e8,refl->eC,heap_alloc->fd
open Go.Proofs.Tryz renaming underlying9->fk,underlying0->fm,zeroValue9->fr,zeroValue0->fs,underlying179->ga,underlying4->gc,zeroValue4->gd,sizeOf9->ge,sizeOf0->gt,isAgg9->gv,isAgg0->gx,underlying229->gy,underlying184->gz,underlying177->g8,underlying141->g9,underlying129->gA,zeroValue229->gB,zeroValue184->hH,zeroValue177->hJ,zeroValue141->hU,underlying85->hW,underlying82->hY,underlying31->hZ,sizeOf4->ip,f82->iv,f123->iz,underlying5->i1,underlying3->i6,zeroValue5->i7,zeroValue3->i8,isAgg4->i'
open Go.RowKit renaming Hid->jt,run_makeMap->jv
open Go.Region renaming wanted->j1,ready->j2
open Go.World renaming size_alloc->j3,ownsRow_nil->j4,cell?->ka,cell?_alloc_at->kb
open Classical renaming choose_spec->kc,choose->kd,not_not->ke,propDecidable->kf,byContradiction->kj,axiomOfChoice->kr
open Prod renaming fst->ks,snd->kt
open Option.some renaming injEq->kx,inj->ky
open List.Perm renaming append_left->k4,refl->k5,cons_inv->k6,append->k7
open Go.Region.linearise renaming go->k8
open Go.IntKind renaming wrap_i64->kB
open Go.Value.slice renaming injEq->kG
open Option renaming map_some->kN,bind_some->kT
open ByteArray renaming data_append->kW,ext->la,size->lc
open Int renaming tmod_eq_emod_of_nonneg->ld,toNat_natCast->ln,not_lt->lo
open Go.Lib renaming decDigits->lp,TabIs->ls,pow10Tab->lv
open Go.Sort renaming putCells->lw,flatK->lx,size_flatK->ly
open Go renaming undef->l0
namespace Go.Proofs.YtocbogeoffeolaaGreatDoor
open Go.Proofs.Tryz
section
open Go.Shelf
def CH:Go.Shelf.Ren:=⟨fun|7=>122|10=>163|n=>n,fun|23=>85|26=>9|3=>111|28=>177|0=>0|27=>176|33=>81|4=>4|n=>n,fun|n=>n⟩
def SU:Go.Proofs.SlLaysZ.n7 prog CH:={
 mixed:=by kernel_rfl
 f7:=⟨f122.name,by decide,func122.trans (congrArg some (by kernel_rfl))⟩,f10:=⟨f163.name,by decide,func163.trans (congrArg some (by kernel_rfl))⟩,t0:=fm,a0:=gx,z0:=gt,v0:=fs,t4:=gc,a4:=i',z4:=ip,v4:=gd,t23:=hW,a23:=isAgg85,z23:=sizeOf85,v23:=zeroValue85,t26:=fk,a26:=gv,z26:=ge,v26:=fr,t27:=underlying176,a27:=isAgg176,z27:=sizeOf176,v27:=zeroValue176,t28:=g8,a28:=isAgg177,z28:=sizeOf177,v28:=hJ,t33:=underlying81,a33:=isAgg81,z33:=sizeOf81
 v33:=zeroValue81}
def xf:Go.Shelf.Ren:=⟨fun|6=>121|8=>161|9=>162|11=>216|13=>125|12=>217|23=>172|24=>173|14=>243|15=>244|16=>245|17=>246|18=>247|19=>248|20=>249|21=>250|22=>251|25=>271|26=>219|27=>220|28=>272|29=>273|30=>175|31=>279|n=>n,fun|26=>9|28=>177|24=>31|0=>0|3=>3|37=>184|48=>229|50=>141|4=>4|40=>222|39=>221|45=>226|5=>5|9=>9|51=>272|55=>276|57=>292|58=>212|33=>81|n=>n,fun|n=>n⟩
def R':Go.Proofs.SlLaysZ.n6 prog xf:={
 mixed:=by kernel_rfl
 f6:=⟨f121.name,by decide,func121.trans (congrArg some (by kernel_rfl))⟩,f8:=⟨f161.name,by decide,func161.trans (congrArg some (by kernel_rfl))⟩,f11:=⟨f216.name,by decide,func216.trans (congrArg some (by kernel_rfl))⟩,t0:=fm,a0:=gx,z0:=gt,v0:=fs,t24:=hZ,a24:=isAgg31,z24:=sizeOf31,v24:=zeroValue31,t26:=fk,a26:=gv,z26:=ge,v26:=fr,t28:=g8,a28:=isAgg177,z28:=sizeOf177,v28:=hJ
 i26:=by kernel_rfl}
def H8:Go.Shelf.Ren:=⟨fun|6=>83|15=>125|14=>124|28=>172|29=>173|20=>164|21=>165|22=>166|23=>167|24=>168|25=>169|26=>170|27=>171|46=>218|47=>219|48=>220|49=>221|50=>222|57=>252|n=>n,fun|22=>82|24=>96|25=>133|3=>3|39=>184|0=>0|53=>229|55=>141|4=>4|46=>222|45=>221|50=>226|5=>5|9=>9|66=>272|70=>276|76=>292|77=>212|n=>n,fun|n=>n⟩
def Lx:Go.Proofs.SlLaysF0.n6 prog H8:={
 mixed:=by kernel_rfl
 f6:=⟨f83.name,by decide,func83.trans (congrArg some (by kernel_rfl))⟩,f14:=⟨f124.name,by decide,func124.trans (congrArg some (by kernel_rfl))⟩,f15:=func125.trans (congrArg some (by kernel_rfl)),f20:=⟨f164.name,by decide,func164.trans (congrArg some (by kernel_rfl))⟩,f21:=⟨f165.name,by decide,func165.trans (congrArg some (by kernel_rfl))⟩,f22:=⟨f166.name,by decide,func166.trans (congrArg some (by kernel_rfl))⟩,f23:=⟨f167.name,by decide,func167.trans (congrArg some (by kernel_rfl))⟩,f24:=⟨f168.name,by decide,func168.trans (congrArg some (by kernel_rfl))⟩,f25:=⟨f169.name,by decide,func169.trans (congrArg some (by kernel_rfl))⟩,f26:=⟨f170.name,by decide,func170.trans (congrArg some (by kernel_rfl))⟩,f27:=⟨Tryz.f171.name,by decide,func171.trans (congrArg some (by kernel_rfl))⟩,f28:=func172.trans (congrArg some (by kernel_rfl)),f29:=func173.trans (congrArg some (by kernel_rfl)),f46:=⟨f218.name,by decide,func218.trans (congrArg some (by kernel_rfl))⟩,f47:=func219.trans (congrArg some (by kernel_rfl)),f48:=func220.trans (congrArg some (by kernel_rfl)),f49:=⟨f221.name,by decide,func221.trans (congrArg some (by kernel_rfl))⟩,f50:=⟨f222.name,by decide,func222.trans (congrArg some (by kernel_rfl))⟩,f57:=⟨f252.name,by decide,func252.trans (congrArg some (by kernel_rfl))⟩,t0:=fm,a0:=gx,z0:=gt,v0:=fs,t3:=i6,a3:=isAgg3,z3:=sizeOf3,v3:=i8,t4:=gc,a4:=i',z4:=ip,v4:=gd,t5:=i1,a5:=isAgg5,z5:=sizeOf5,v5:=i7,t9:=fk,a9:=gv,z9:=ge,v9:=fr,t22:=hY,a22:=isAgg82,z22:=sizeOf82,v22:=zeroValue82,t25:=underlying133,a25:=isAgg133,z25:=sizeOf133,v25:=zeroValue133,t39:=gz,a39:=isAgg184,z39:=sizeOf184,v39:=hH,t45:=underlying221,a45:=isAgg221,z45:=sizeOf221,v45:=zeroValue221,t46:=underlying222,a46:=isAgg222,z46:=sizeOf222,v46:=zeroValue222,t50:=underlying226,a50:=isAgg226,z50:=sizeOf226,v50:=zeroValue226,t53:=gy,a53:=isAgg229,z53:=sizeOf229,v53:=gB,t55:=g9,a55:=isAgg141,z55:=sizeOf141,v55:=hU,t66:=underlying272,a66:=isAgg272,z66:=sizeOf272,v66:=zeroValue272,t70:=underlying276,a70:=isAgg276,z70:=sizeOf276,v70:=zeroValue276,t76:=underlying292,a76:=isAgg292,z76:=sizeOf292,v76:=zeroValue292,t77:=underlying212,a77:=isAgg212,z77:=sizeOf212
 v77:=zeroValue212}
def Dk:Go.Shelf.Ren:=⟨fun|171=>85|243=>129|246=>176|283=>223|284=>224|285=>225|286=>226|129=>173|317=>253|318=>254|319=>255|320=>256|337=>274|338=>275|n=>n,fun|3=>3|9=>9|2=>2|4=>4|171=>278|0=>0|53=>141|37=>60|5=>5|173=>280|212=>295|51=>229|20=>20|213=>296|46=>184|232=>312|233=>313|n=>n,fun|17=>2|18=>3|19=>4|n=>n⟩
def Qi:Go.Proofs.LaysM.n171 prog Dk:={
 mixed:=by kernel_rfl
 f129:=func173.trans (congrArg some (by kernel_rfl)),f171:=func85.trans (congrArg some (by kernel_rfl)),f243:=func129.trans (congrArg some (by kernel_rfl)),f246:=func176.trans (congrArg some (by kernel_rfl)),f283:=func223.trans (congrArg some (by kernel_rfl)),f284:=func224.trans (congrArg some (by kernel_rfl)),f285:=func225.trans (congrArg some (by kernel_rfl)),f286:=func226.trans (congrArg some (by kernel_rfl)),f317:=func253.trans (congrArg some (by kernel_rfl)),f318:=func254.trans (congrArg some (by kernel_rfl)),f319:=func255.trans (congrArg some (by kernel_rfl)),f320:=func256.trans (congrArg some (by kernel_rfl)),f337:=func274.trans (congrArg some (by kernel_rfl)),f338:=func275.trans (congrArg some (by kernel_rfl)),t0:=fm,a0:=gx,z0:=gt,v0:=fs,t2:=underlying2,a2:=isAgg2,z2:=sizeOf2,v2:=zeroValue2,t3:=i6,a3:=isAgg3,z3:=sizeOf3,v3:=i8,t4:=gc,a4:=i',z4:=ip,v4:=gd,t5:=i1,a5:=isAgg5,z5:=sizeOf5,v5:=i7,t9:=fk,a9:=gv,z9:=ge,v9:=fr,t20:=underlying20,a20:=isAgg20,z20:=sizeOf20,v20:=zeroValue20,t37:=underlying60,a37:=isAgg60,z37:=sizeOf60,v37:=zeroValue60,t46:=gz,a46:=isAgg184,z46:=sizeOf184,v46:=hH,t51:=gy,a51:=isAgg229,z51:=sizeOf229,v51:=gB,t53:=g9,a53:=isAgg141,z53:=sizeOf141,v53:=hU,t171:=underlying278,a171:=isAgg278,z171:=sizeOf278,v171:=zeroValue278,t173:=underlying280,a173:=isAgg280,z173:=sizeOf280,v173:=zeroValue280,t212:=underlying295,a212:=isAgg295,z212:=sizeOf295,v212:=zeroValue295,t213:=underlying296,a213:=isAgg296,z213:=sizeOf296,t232:=underlying312,a232:=isAgg312,z232:=sizeOf312,v232:=zeroValue312,t233:=underlying313,a233:=isAgg313,z233:=sizeOf313,v233:=zeroValue313,g17:=by kernel_rfl
 g18:=by kernel_rfl
 g19:=by kernel_rfl
 i0:=by kernel_rfl
 i2:=by kernel_rfl
 i3:=by kernel_rfl
 i4:=by kernel_rfl
 i5:=by kernel_rfl
 i9:=by kernel_rfl
 i20:=by kernel_rfl
 i37:=by kernel_rfl
 i46:=by kernel_rfl
 i51:=by kernel_rfl
 i53:=by kernel_rfl
 i171:=by kernel_rfl
 i173:=by kernel_rfl
 i212:=by kernel_rfl
 i232:=by kernel_rfl
 i233:=by kernel_rfl
 m17:=by kernel_rfl
 m18:=by kernel_rfl
 m19:=by kernel_rfl}
open Go.RowKit Go.Maps Go.Sort
def OX(m:Nat):AnyZ.SortsIn prog xf Fence.wide m:=
 ⟨λblk off cap ss W Y O U=>dt.2 (Any.slices_Sort_string yf blk off cap ss W Y O U),
  λp cap W=>dt.2 (Any.slices_Sort_string_none yf p cap W)⟩
def Pv(B:Nat)(w:World):di prog 122 #[.map (some B)] w λe w'=>e=.returned (.func (.func 163) #[] #[.pointer (some ⟨w.heap.size,0,none⟩)])/\w'=w.alloc (.cells #[.map (some B)] 85):=
 dt.1 (AnyZ.keys_in SU _ 5 trivial rfl _ w)
def Ie(B:Nat)(l:List (Wd×Value))(w:World)(h:dM prog 9 w B l)(hl:l.length<=100000) :
  di prog 121 #[.func (.func 163) #[] #[.pointer (some ⟨w.heap.size,0,none⟩)]] (w.alloc (.cells #[.map (some B)] 85)) λe w'=>∃v,e=.returned v/\
   w'.ownsRow (w.heap.size+1) 9 1 v l.length (dl ((l.map ks).mergeSort λx y=>decide (x<=y)))/\Below (w.heap.size+1) (w.alloc (.cells #[.map (some B)] 85)) w':=by
 obtain⟨D,O,Y⟩:=h;have ae:=O.lt
 have aa:SeqGives Fence.wide 2 _ _ #[.pointer (some ⟨w.heap.size,0,none⟩)] encStr _ _ (w.alloc (.cells #[.map (some B)] 85)):=
  AnyZ.keys_gives (ρ:=CH) {SU with} _ _ trivial rfl (by omega) _ B _ D _ (by simp) (by simp) (by
   obtain⟨es,clock,hb,Ft,Y,hD⟩:=O
   exact⟨es,clock,(fd _ _ B ae).trans hb,Ft,Y,hD⟩)
 have hc:=dt.1 (AnyZ.sorted_in R' _ 5 trivial trivial trivial trivial rfl (by omega) (OX _) (enters_of func162 (by kernel_rfl) rfl) _ _ trivial (enters_of func163 (by kernel_rfl) rfl) _ _ (by rw[Y.size];unfold dj;omega) (by rw[Y.size];omega) _ aa);refine hc.mono ?_;rintro e w' ⟨v,ss,rfl,hp,U,_,hb⟩
 have ab:Collected D (λ_=>false) _:=⟨Y.nodup,λx=>by
  rw[Y.has x]
  simp⟩
 have ac:=hp.trans (ab.perm O (string_keyed (by kernel_rfl)) (by kernel_rfl) (λ_=>rfl)).symm;have ad:ss.length=l.length:=by rw[ac.length_eq];simp
 rw[j3]at U hb;refine⟨v,rfl,?_,hb⟩;rw[ad,mergeSort_of_perm ac]at U;exact U
end
section
open Go.Conc Go.RowKit Go.Maps
variable {es:List dp} {ms:List Value} {cap num:Nat} {w w':World}
structure Ask where
 m:Nat
 q:ByteArray
 t:Nat
structure Ask.Ok(A:Ask):Prop where
 m:A.m<=3
 t:A.t<256
 q:A.q.size<=1048576
def Ask.has(A:Ask)(e:dp):Bool:=!e.gone&&(oZ A.t e.dE.toNat&&kw A.m A.q.data.toList (dX e.text))
def bytes(l:Wd):ByteArray:=⟨l.toArray⟩
def nC(A:Ask)(k:Nat)(p:Nat×dp):Value:=if A.has p.2=true then B8 k p.1 (bytes p.2.name) true (bytes (xI p.2)) (bytes p.2.text) p.2.du p.2.dE else B8 k p.1 (bytes p.2.name) false Oc Oc 0 0
def qR(es:List dp):List dp:=es.mergeSort λa b=>decide (a.name<=b.name)
def gT(es:List dp):List (Nat×dp):=(qR es).zipIdx.map λp=>(p.2,p.1)
def nQ(es:List dp):(qR es).Perm es:=List.mergeSort_perm ..
def EP(es:List dp):(qR es).map dp.name=(es.map dp.name).mergeSort λx y=>decide (x<=y):=List.map_mergeSort λ_ _ _ _=>rfl
def rB(es:List dp)(k:Nat):(gT es)[k]?=((qR es)[k]?).map λe=>(k,e):=by
 simp[gT,List.getElem?_zipIdx];cases(qR es)[k]?<;>rfl
def EN(es:List dp):(gT es).length=es.length:=by simp[gT,(nQ es).length_eq]
def GQ{k:Nat}(O:k<es.length):∃e,(qR es)[k]?=some e/\e∈es/\((es.map dp.name).mergeSort λx y=>decide (x<=y))[k]?=some e.name:=by
 have h:k<(qR es).length:=by rw[(nQ es).length_eq];exact O
 refine⟨(qR es)[k],b6 h,(nQ es).mem_iff.1 (bA h),?_⟩;rw[<-EP,bV,b6 h];rfl
def Ns(O:(es.map dp.name).Nodup){e:dp}(U:e∈es)(z:Value):mS (es.map j6) e.name z=rC e:=by
 have:(es.map j6).find? (λp=>p.1==e.name)=some (j6 e):=by
  induction es with
  |nil=>cases U
  |cons x es ih=>
   rw[bJ,bO]at O;rw[bJ,bQ];by_cases Y:x.name=e.name;rcases bB.1 U with rfl|h
   simp[j6];exact absurd (List.mem_map_of_mem h) (Y▸O.1);have:((j6 x).1==e.name)=false:=by simpa[j6]using Y
   rw[this];rcases bB.1 U with rfl|h
   exact absurd rfl Y;exact ih O.2 h
 unfold mS;rw[this];rfl
structure SW(w:World)(num:Nat)(es:List dp)(A:Ask)(cap:Nat)(ms:List Value):Prop where
 c0:w.cell? ⟨5,0,none⟩=some (.chan (some 10))
 c1:w.cell? ⟨6,0,none⟩=some (.map (some 11))
 c2:w.cell? ⟨7,0,none⟩=some (.int .i64 num)
 c3:w.cell? ⟨8,0,none⟩=some (.int .i64 A.m)
 c4:w.cell? ⟨8,1,none⟩=some (.string A.q)
 c5:w.cell? ⟨8,2,none⟩=some (.int .i64 A.t)
 ch:w.heap[10]?=some (.chan cap ms.toArray false ms.length 0 false)
 sm:eE w 11 es
def SW.lt{A:Ask}(h:SW w num es A cap ms):11<w.heap.size:=h.sm.lt
def SW.ext{A:Ask}(h:SW w num es A cap ms)(O:eK w w'):SW w' num es A cap ms:=by
 have U:=h.lt;exact⟨(O.cell (p:=⟨5,0,none⟩) (by show(5)<_;omega)).trans h.c0,(O.cell (p:=⟨6,0,none⟩) (by show(6)<_;omega)).trans h.c1,(O.cell (p:=⟨7,0,none⟩) (by show(7)<_;omega)).trans h.c2,(O.cell (p:=⟨8,0,none⟩) (by show(8)<_;omega)).trans h.c3,(O.cell (p:=⟨8,1,none⟩) (by show(8)<_;omega)).trans h.c4,(O.cell (p:=⟨8,2,none⟩) (by show(8)<_;omega)).trans h.c5,(O.block 10 (by omega)).trans h.ch,h.sm.below O⟩
def SW.tp{A:Ask}(h:SW w num es A cap ms)(τ:Tape):SW (tp w τ) num es A cap ms:=by
 obtain⟨O,U,Y,h4,h5,h6,h7,D,h8,h9⟩:=h;exact⟨O,U,Y,h4,h5,h6,h7,D,h8,h9⟩
def SW.vJ{A:Ask}(h:SW w num es A cap ms)(O:lY w w'):SW w' num es A cap ms:=by
 obtain⟨τ,O⟩:=O;exact(h.tp τ).ext O
def SW.gN{A:Ask}(h:SW w num es A cap ms)(v:Value):SW {w with heap:=w.heap.setIfInBounds 10 (.chan cap (ms.toArray.push v) false (ms.length+1) 0 false)} num es A cap (ms++[v]):=by
 have Y:=h.lt;have hb:∀k,k≠10->(w.heap.setIfInBounds 10 (.chan cap (ms.toArray.push v) false (ms.length+1) 0 false))[k]?=w.heap[k]?:=λk U=>by rw[cS (Ne.symm U)]
 have O:∀(k o:Nat),k≠10->ka {w with heap:=w.heap.setIfInBounds 10 (.chan cap (ms.toArray.push v) false (ms.length+1) 0 false)} ⟨k,o,none⟩=w.cell? ⟨k,o,none⟩:=λk o U=>by
  simp only[ka,hb k U]
 refine⟨(O 5 0 (by omega)).trans h.c0,(O 6 0 (by omega)).trans h.c1,(O 7 0 (by omega)).trans h.c2,(O 8 0 (by omega)).trans h.c3,(O 8 1 (by omega)).trans h.c4,(O 8 2 (by omega)).trans h.c5,?_,h.sm.stay (hb 11 (by omega))⟩;rw[cZ (by omega)];simp
def r9:List Deferred:=[⟨.collected 9,#[.chan (some 10)]⟩]
def BI{f:dk}{tm:Array Value}{rest:Code}{w:World}{L:List Value}{Kp:World->Prop}{Q:Exit->Act->World->Prop}(h:rest.wp prog Q ⟨tm,r9⟩ w)
  (hQ:∀e a w',Q e a w'->(e=.normal\/e=.ret)/\a.defers=r9/\(∃cap buf s r t,w'.heap[10]?=some (.chan cap buf false s r t)/\buf.toList=L)/\Kp w') :
  ∃n O,runN prog n (lone ⟨f,tm,[.code rest],r9,.run,.normal,none⟩ [door prog] w)=.next (LS.m O)/\Qm prog f L Kp O:=by
 obtain⟨e,a,w',hq,U⟩:=h ⟨f,#[],[],[],.run,.normal,none⟩ [] _;obtain⟨he,hd,hh,hk⟩:=hQ e a w' hq
 have hr:∃td n,runN prog n (lone ⟨f,tm,[.code rest],r9,.run,.normal,none⟩ [door prog] w)=.next (lone ⟨f,a.tmps,td,a.defers,.returning,.normal,none⟩ [door prog] w'):=by
  rcases he with rfl|rfl
  obtain⟨n,Y⟩:=(show Steps .. from U).trans (.one step_end);exact⟨[],n,Y⟩;obtain⟨td,n,Y⟩:=U;exact⟨td,n,Y⟩
 obtain⟨td,n,Y⟩:=hr;exact⟨n,⟨⟨f,a.tmps,td,a.defers,.returning,.normal,none⟩,[door _],w'⟩,Y,rfl,rfl,hd,rfl,hh,hk⟩
def UJ(L:List Value)(o:Option Obj):Exit->Act->World->Prop:=λe a w'=>(e=.normal\/e=.ret)/\a.defers=r9/\(∃cap buf s r t,w'.heap[10]?=some (.chan cap buf false s r t)/\buf.toList=L)/\w'.heap[11]?=o
def Mj{w w':World}{base e sz n:Nat}{v:Value}{xs:List Value}(h:w.ownsRow base e sz v n xs)(hb:∀g,base<=g->g<w.heap.size->w'.heap[g]?=w.heap[g]?):w'.ownsRow base e sz v n xs:=by
 obtain⟨h0,O⟩:=h;refine⟨h0,?_⟩;rcases O with O|⟨g,cap,cur,h2,U,Y,h5⟩
 exact .inl O;exact .inr ⟨g,cap,cur,h2,U,(hb g U (cQ.1 Y).1).trans Y,h5⟩
def yS{w y:World}(h:lY w y)(g:Nat)(O:g<w.heap.size):y.heap[g]?=w.heap[g]?:=by
 obtain⟨τ,h⟩:=h;exact h.block g O
def U'(num:Nat)(es:List dp)(A:Ask)(hA:A.Ok)(cap:Nat)(w:World)(h:SW w num es A cap [])(ak:es.length<=cap)(hl:es.length<=100000)(al:∀e∈es,e.name.length<=dj/\e.text.length<=1048576/\(e.gone=false->0<=e.dE/\e.dE<=255))(aJ:num<=1000) :
  (vp f120).wp prog (UJ ((gT es).map (nC A num)) (w.heap[11]?)) ⟨(vn 120 27 6 .skip).tmps,r9⟩ w:=by
 have HS:jt _:=h;have c1:=h.c1;obtain⟨D,hD⟩:∃D,D=(gT es).map (nC A num):=⟨_,rfl⟩;have HD:jt _:=hD;rw[<-hD];clear hD;have aa:=Ie 11 (es.map j6) w h.sm (by simpa using hl);have HK:jt (∀y,y=w->di prog 122 #[.map (some 11)] y λe w'=>e=.returned (.func (.func 163) #[] #[.pointer (some ⟨w.heap.size,0,none⟩)])/\w'=w.alloc (.cells #[.map (some 11)] 85)):=λy U=>by subst U;exact Pv 11 _
 rw[show(vn 120 27 6 .skip).tmps=#[.pointer (some ⟨5,0,none⟩),.pointer (some ⟨6,0,none⟩),.pointer (some ⟨7,0,none⟩),.pointer (some ⟨8,0,none⟩),l0,l0,.chan (some 10),l0,l0,l0,l0,l0,l0,l0,l0,l0,l0,l0,l0,l0,l0,l0,l0,l0,l0,l0,l0]from rfl];show Code.wp prog (Code.seq (Code.region 1 _ false) (Code.block 0 (Code.loop _))) _ _ _;obtain⟨N,hN⟩:∃N,N=(es.map dp.name).mergeSort λx y=>decide (x<=y):=⟨_,rfl⟩;have am:(es.map j6).map ks=es.map dp.name:=by simp[j6]
 rw[am,<-hN,bH]at aa;have ab:es.length=N.length:=by rw[hN];simp
 rw[ab]at aa ak hl;have an:=aa;have HN:jt _:=hN;have ao:jt _:=ab;have aE:jt _:=al;have aF:=h.lt;clear aa hN ab am al h;go_wp2_with (go_at_call 122;refine(HK.out _ rfl).mono ?_;rintro e y ⟨rfl,rfl⟩);refine an.mono ?_;rintro e y ⟨v,rfl,Y,hb⟩;obtain⟨av,cv,rfl,aK⟩:=dN Y
 have HX:jt (eK w y):=by
  show Below _ _ _;exact((eC _ _).alloc (ej _) _).trans (Below.mono hb (by omega))
 have HR:jt (y.ownsRow 12 9 1 (.slice av N.length cv) N.length (dl N)):=ownsRow_base_a Y (by omega);clear Y hb HK an;have HS1:jt (SW y num es A cap []):=HS.out.ext HX.out;have HK1:jt (y.heap[11]?=w.heap[11]?):=HX.out.block 11 aF;clear HX HS c1;go_wp2_with fail;go_loopw [11] (λi wr=>∃k:Nat,k<=N.length/\i=.int .i64 k/\SW wr num es A cap (D.take k)/\wr.ownsRow 12 9 1 (.slice av N.length cv) N.length (dl N)/\wr.heap[11]?=w.heap[11]?) (λi _=>N.length-(intOf i).toNat)
 case atStart=>exact⟨0,et _,rfl,HS1.out,HR.out,HK1.out⟩
 case round=>
  obtain⟨k,hk,rfl,ap,aq,ar⟩:=hrel;have O:jt _:=ap;have ac:jt _:=aq;have ad:jt _:=ar;clear ap aq ar HS1 HR HK1;have au:jt (D.length=N.length):=by show _=_;rw[HD.out,bH,EN,ao.out]
  by_cases hlt:k<N.length
  .obtain⟨bg,og,rfl,ae⟩:=jy ac.out k _ (gV N k hlt);go_upto_region 4 with fail;obtain⟨e,aw,af,ag⟩:=GQ (es:=es) (k:=k) (by rw[ao.out];exact hlt)
   have ax:N[k]=e.name:=by
    rw[<-HN.out,b6 hlt,kx]at ag;exact ag
   rw[ax];obtain⟨ay,az,a5⟩:=aE.out e af
   have HM:jt (∀y:World,di prog 119 #[.agg #[.int .i64 num,.int .i64 k],.string ⟨e.name.toArray⟩,rC e,.agg #[.int .i64 A.m,.string A.q,.int .i64 A.t]] y λx w'=>x=.returned (nC A num (k,e))/\eK y w'):=λy=>by
    refine(Gf num k ⟨e.name.toArray⟩ e.gone ⟨(xI e).toArray⟩ ⟨e.text.toArray⟩ e.du e.dE A.m A.t A.q y hA.m hA.t a5 hA.q (by show e.text.toArray.size<=_;simpa using az)).mono ?_;rintro x w' ⟨h1,h2⟩;exact⟨h1,h2⟩
   have ah:jt (∀y,SW y num es A cap (D.take k)->(Instr.lookup 85 (.map (some 11)) (.string ⟨e.name.toArray⟩) false).run prog y=.ok (rC e) y):=λy U=>by
    rw[(dM.look U.sm fk hW (KS y) e.name ay).1,Ns (by have:=U.sm.nodup;simpa[j6]using this) af]
   have a':D[k]?=some (nC A num (k,e)):=by rw[HD.out,bV,rB,aw];rfl
   have HT:jt (D.take (k+1)=D.take k++[nC A num (k,e)]):=by
    obtain⟨aG,aH⟩:=List.getElem?_eq_some_iff.1 a';show _=_;rw[bL aG,aH]
   obtain⟨sv,aA⟩:∃sv,sv=rC e:=⟨_,rfl⟩;obtain⟨mv,aB⟩:∃mv,mv=nC A num (k,e):=⟨_,rfl⟩;rw[<-aA]at HM ah;rw[<-aB]at HM HT;clear aA aB ax ay az a5 aw af ag a' ae;refine ib (Sd:=λa y=>nH _ _ _ [10] a y) (last:=10) (tl:=[]) (by kernel_rfl) ?_ (λa y h _=>h);refine dH 0 ?_ ?_<|dH 1 ?_ ?_<|dH 2 ?_ ?_<|dH 3 ?_ ?_<|dH 4 ?_ ?_<|dH 5 ?_ ?_<|dH 6 ?_ ?_<|dH 7 ?_ ?_<|dH 8 ?_ ?_ ?_
   any_goals(intro y U;have q:=(O.out.vJ U).c0;have q1:=(O.out.vJ U).c2;have q2:=(O.out.vJ U).c1;have q3:=ah.out y (O.out.vJ U);have q4:=(O.out.vJ U).c3;have q5:=(O.out.vJ U).c4;have q6:=(O.out.vJ U).c5;unfold fT;go_simp;refine⟨eK.refl _,?_⟩;with_reducible rfl)
   go_simp;refine dH 9 ?_ ?_ ?_;rotate_left
   .intro y U;unfold fT;go_simp;refine⟨rfl,(HM.out y).mono ?_⟩;rintro e y2 ⟨rfl,h2⟩;refine⟨_,rfl,h2,?_⟩;with_reducible rfl
   go_simp;refine oA (by kernel_rfl) (λt=>Eg (by kernel_rfl) _ _) ?_;intro y U;have ai:=O.out.vJ U;have aI:=au.out;refine Ap (v:=mv) rfl rfl rfl rfl rfl rfl ai.ch (by simp;omega) ?_;have aj:=ai.gN mv;rw[<-HT.out]at aj
   have aC:=Mj (w':={y with heap:=y.heap.setIfInBounds 10 (.chan cap ((D.take k).toArray.push mv) false ((D.take k).length+1) 0 false)}) ac.out (λg h1 h2=>by
    show(y.heap.setIfInBounds 10 _)[g]?=_;rw[cS (by omega)]
    exact yS U g h2)
   have aD:({y with heap:=y.heap.setIfInBounds 10 (.chan cap ((D.take k).toArray.push mv) false ((D.take k).length+1) 0 false)}:World).heap[11]?=w.heap[11]?:=by
    show(y.heap.setIfInBounds 10 _)[11]?=_;rw[cS (by omega),yS U 11 O.out.lt];exact ad.out
   generalize ({y with heap:=y.heap.setIfInBounds 10 (.chan cap ((D.take k).toArray.push mv) false ((D.take k).length+1) 0 false)}:World)=w3 at *;have HS4:jt _:=aj;have HR4:jt _:=aC;have HK4:jt _:=aD;clear aj aC aD U ai aI HM ah HT O ac ad;go_wp2;go_roundw
   case rel=>exact⟨k+1,hlt,by simp,HS4.out,HR4.out,HK4.out⟩
   case measure=>simp[intOf];omega
  obtain rfl:k=N.length:=by omega
  go_wp2;exact⟨.inl rfl,rfl,⟨_,_,_,_,_,O.out.ch,by rw[List.toList_toArray,<-au.out,cL]⟩,ad.out⟩
end
section
open Go.Conc Go.RowKit Go.Maps
variable {ops:Array Oper} {c x y:Code} {rest:List Nat} {i:Nat} {o:Oper} {v:Value}
def Wh(dd q K:Nat)(m:Ren):Prop:=(m.dead=λr=>r=dd)/\m.dm dd=q/\∀r,m.loose r->r<K
def mV(P:Program)(Z:jj P)(w:World)(T:List Frame)(dd q K:Nat)(lent:Bool):Env P where
 Z:=Z
 fK:=λb=>b<w.heap.size/\(lent=true->b≠q)
 w0:=w
 T:=T
 gl:=λg=>DF g=true
 st:=false
 fF:=λf=>NR f=true
 ok:=OW P NR DF false
 X:=Wh dd q K
 le:=λm O h ⟨U,Y,h3⟩=>⟨h.dead.trans U,by rw[h.dm];exact Y,λr hr=>h3 r (h.less r hr)⟩
def Dr{Z:jj prog}{w:World}{T:List Frame}{dd q K:Nat}{lent:Bool}(m:Ren)(O:m.ok=(mV prog Z w T dd q K lent).ok)(U:m.fF=(mV prog Z w T dd q K lent).fF)(Y:m.G=prog.globals.size):lZ prog m (mV prog Z w T dd q K lent).gl (mV prog Z w T dd q K lent).st:=U2 O U (Y.trans zN)
section
variable {P:Program} {E:Env P} {fn:dk} {tm:Array Value} {os:List OF} {wl:World} {V:List (Nat×Option (List Value))} {k:List Item}
def dh.rR(τ:Nat->Question->Nat)(h:dh E os wl V):dh E os (tp wl τ) V:=dh.tape (τ:=wl.tape) h
def Fw(E:Env P)(fn:dk)(k:List Item)(os:List OF)(V:List (Nat×Option (List Value))):Exit->Act->World->Prop:=λe a w'=>a.defers=[]/\∃k',((e=.normal/\k'=k)\/∃id,e=.exit id/\exitTo id k=some k')/\dh E (⟨fn,a.tmps,k'⟩::os) w' V
def dh.ET(O:fR E.ok c)(U:k.all iT=true)(Y:vA E os)(h:∀τ,Bu τ wl->c.wp P (Fw E fn k os V) ⟨tm,[]⟩ (tp wl τ)):dh E (⟨fn,tm,.code c::k⟩::os) wl V:=dh.code O U Y h λ_ _ _ h=>h
def dh.TM(hi:ops[i]?=some o)(U:j1 o (dr ops tm)=true)(Y:OkOp P E.fF E.gl E.st o.op)
  (O:∀τ,fT P o ⟨tm,[]⟩ (tp wl τ) (λv y=>dh E (⟨fn,(Act.put ⟨tm,[]⟩ o.dst v).tmps,.inRegion ops rest::k⟩::os) y V)):dh E (⟨fn,tm,.inRegion ops (i::rest)::k⟩::os) wl V:=by
 refine dh.any hi U Y λτ=>?_;have:=O τ;refine iG.mono (λv y h=>?_) this;rw[uw]at h;exact h
def Same(y O:World):Prop:=O=y
def dh.pu(hi:ops[i]?=some o)(O:j1 o (dr ops tm)=true)(U:OkOp P E.fF E.gl E.st o.op)(Y:∀y,fT P o ⟨tm,[]⟩ y λu y'=>Same y y'/\u=v)
  (h:dh E (⟨fn,(Act.put ⟨tm,[]⟩ o.dst v).tmps,.inRegion ops rest::k⟩::os) wl V):dh E (⟨fn,tm,.inRegion ops (i::rest)::k⟩::os) wl V:=
 dh.TM hi O U λτ=>(Y _).mono λ_ _ hh=>by
  obtain⟨rfl,rfl⟩:=hh;exact dh.rR τ h
end
section
variable {Z:jj prog} {w:World} {T:List Frame} {dd q K:Nat} {lent:Bool} {fn:dk} {tm:Array Value} {os:List OF} {wl:World} {V:List (Nat×Option (List Value))} {k:List Item}
def UL(hi:ops[i]?=some o)(U:j1 o (dr ops tm)=true)(Y:EB prog NR DF false o.op=true)
  (O:∀τ,fT prog o ⟨tm,[]⟩ (tp wl τ) (λv y=>dh (mV prog Z w T dd q K lent) (⟨fn,(Act.put ⟨tm,[]⟩ o.dst v).tmps,.inRegion ops rest::k⟩::os) y V)):dh (mV prog Z w T dd q K lent) (⟨fn,tm,.inRegion ops (i::rest)::k⟩::os) wl V:=
 dh.TM hi U (vQ Y) O
def fc(h:dh (mV prog Z w T dd q K lent) (⟨fn,(Act.put ⟨tm,[]⟩ o.dst v).tmps,.inRegion ops rest::k⟩::os) wl V)(hi:ops[i]?=some o:=by rfl)(U:∀y:World,fT prog o ⟨tm,[]⟩ y (λu Y=>Same y Y/\u=v):=by intro y;unfold fT;go_simp;refine⟨rfl,?_⟩;with_reducible rfl)
  (O:j1 o (dr ops tm)=true:=by rfl) (ho:EB prog NR DF false o.op=true:=by kernel_rfl):dh (mV prog Z w T dd q K lent) (⟨fn,tm,.inRegion ops (i::rest)::k⟩::os) wl V:=dh.pu hi O (vQ ho) U h
def oe(hi:ops[i]?=some o)(U:j1 o (dr ops tm)=true)(Y:EB prog NR DF false o.op=true)
  (O:∀y0:World,y0.heap=wl.heap->y0.os=wl.os->fT prog o ⟨tm,[]⟩ y0 (λv y=>dh (mV prog Z w T dd q K lent) (⟨fn,(Act.put ⟨tm,[]⟩ o.dst v).tmps,.inRegion ops rest::k⟩::os) y V)):dh (mV prog Z w T dd q K lent) (⟨fn,tm,.inRegion ops (i::rest)::k⟩::os) wl V:=
 UL hi U Y λτ=>O _ rfl rfl
def jA(O:jE (λo=>EB prog NR DF false o.op) c=true)(U:k.all iT=true)(Y:vA (mV prog Z w T dd q K lent) os)(h:∀y0:World,y0.heap=wl.heap->y0.os=wl.os->c.wp prog (Fw (mV prog Z w T dd q K lent) fn k os V) ⟨tm,[]⟩ y0):dh (mV prog Z w T dd q K lent) (⟨fn,tm,.code c::k⟩::os) wl V:=
 dh.ET (nI O) U Y λτ _=>h _ rfl rfl
def dh.zB{P:Program}{E:Env P}{c:Operand}(O:vW c)(e:iW tm c=.bool true)(h:dh E (⟨fn,tm,.code x::k⟩::os) wl V):dh E (⟨fn,tm,.code (.cond c x y)::k⟩::os) wl V:=dh.cond O e h
def dh.nW{P:Program}{E:Env P}{c:Operand}(O:vW c)(e:iW tm c=.bool false)(h:dh E (⟨fn,tm,.code y::k⟩::os) wl V):dh E (⟨fn,tm,.code (.cond c x y)::k⟩::os) wl V:=dh.cond O e h
def fv(d:Option Tmp)(tm:Array Value)(v:Value):eP d tm v=(Act.put ⟨tm,[]⟩ d v).tmps:=by rw[uw]
def ia{P:Program}{E:Env P}{tmps:Array Value}{w':World}(h:dh E (⟨fn,tmps,k⟩::os) w' V):Fw E fn k os V .normal ⟨tmps,[]⟩ w':=⟨rfl,k,.inl ⟨rfl,rfl⟩,h⟩
end
section
open Go.Conc Go.RowKit Go.Maps
structure sJ(ex:Obj)(es:List dp):Prop where
 isMap:∃a c,ex=.map a c
 VG:∀m:Ren,OR m ex ex
 inv:∀(m:Ren)o',OR m ex o'->o'=ex
 say:∀(w:World)(B:Nat),w.heap[B]?=some ex->eE w B es
def bb(s:Nat):Nat->Nat|0=>s+4|1=>s+1|2=>s|_=>s+2
def P5(A:Ask):Array Value:=#[.int .i64 A.m,.string A.q,.int .i64 A.t]
def Vr(s:Nat)(v:Value)(num:Nat)(A:Ask):Nat->Array Value|0=>#[.chan (some (s+3))]|1=>#[v]|2=>#[.int .i64 num]|_=>P5 A
abbrev VE(s dd num:Nat)(A:Ask):Nat->Array Value:=Vr s (.map (some dd)) num A
def VL(num:Nat)(A:Ask):Nat->Array Value|0=>#[.chan (some 10)]|1=>#[.map (some 11)]|2=>#[.int .i64 num]|_=>P5 A
def Vt(t:dq):Nat->dq|0=>167|1=>t|2=>3|_=>94
abbrev V9:Nat->dq:=Vt 85
def Lk(s i:Nat):s<=bb s i/\bb s i<s+5:=by
 unfold bb;split<;>omega
def Pg(s:Nat):∀i j,i<4->j<4->bb s i=bb s j->i=j:=by
 intro i j hi O h;have:i=0\/i=1\/i=2\/i=3:=by omega
 have:j=0\/j=1\/j=2\/j=3:=by omega
 rcases ‹i=0\/_› with rfl|rfl|rfl|rfl<;>rcases ‹j=0\/_› with rfl|rfl|rfl|rfl<;>simp[bb]at h⊢
def Flat.arr{c:Array Value}(h:∀i(hi:i<c.size),Flat c[i]){m mi:Ren}{O:Array Value}(U:eD m c O):eD mi c O:=by
 have:O=c:=by
  apply de;intro i;by_cases hi:i<c.size;obtain⟨Y,h1,h2⟩:=U.get (cR hi);rw[h1,(h i hi).eq m Y h2,cR hi];rw[cU (by rw[<-U.size];omega),cU (by omega)]
 subst this;exact eD.il rfl λi hi _=>(h i hi).refl mi
def FZ(A:Ask)(k:Nat)(p:Nat×dp):Flat (nC A k p):=by
 unfold nC;split;refine .agg λi hi=>?_;have:=hi;match i,this with
 |0,_|1,_|6,_|7,_=>exact .int ..|2,_|4,_|5,_=>exact .string _|3,_=>exact .bool _
 refine .agg λi hi=>?_;have:=hi;match i,this with
 |0,_|1,_|6,_|7,_=>exact .int ..|2,_|4,_|5,_=>exact .string _|3,_=>exact .bool _
def M2{Z:jj prog}{w:World}{T:List Frame}{dd q K num s:Nat}{A:Ask}{es:List dp}{ex:Obj}{w6:World}{os:List OF}(hA:A.Ok)(hK:K<=s+5)(h5:5<=s)(ag:dd<s)
  (hc:∀i,i<4->w6.heap[bb s i]?=some (.cells (VE s dd num A i) (V9 i) (0,0))) (aa:5<=q) (hq:q<w.heap.size) (ab:w.heap[q]?=some ex) (hM:sJ ex es) (ac:∀(m:Ren)(r:Nat)(o:Obj),w6.heap[r]?=some o->¬OR m o ex)
  (hl:es.length<=100000) (ad:∀e∈es,e.name.length<=dj/\e.text.length<=1048576/\(e.gone=false->0<=e.dE/\e.dE<=255)) (Y:num<=1000) :
  Sends (mV prog Z w T dd q K false) (mV prog Z w T dd q (s+5) true) 120 (xB (bb s)) os os w6 (uR w6 [bb s 0,bb s 1,bb s 2,bb s 3]) (s+3) ((gT es).map (nC A num)):=by
 refine Fv (cm:=VE s dd num A) (cd:=VL num A) (te:=V9) (fz:=λ_=>(0,0)) (M:=some q) (ex:=ex) (cap:=es.length) U3 rfl rfl (by decide) (by decide) (by decide) Us (λv hv=>?_) ⟨rfl,rfl,rfl,rfl,rfl,Dr,λm O=>?_,λb=>?_,λi hi=>?_,Pg s,hc,λm O i hi=>?_,rfl,rfl,λi U h4 m mi w' a' O hw ae ha=>?_,λb hb=>?_⟩ λτ=>?_;obtain⟨p,_,rfl⟩:=b4.1 hv;exact FZ A num p;obtain⟨x1,x2,x3⟩:=O.x;refine⟨x1,x2,λr O=>?_⟩;rcases O with O|O
 have:=x3 r O;omega;simp only[bB,bY,or_false,bb]at O;omega;simp only[mV,ne_eq,kx];constructor;rintro⟨U,h2⟩;exact⟨⟨U,λh=>by cases h⟩,λe=>h2 trivial e.symm⟩;rintro⟨⟨U,_⟩,h2⟩;exact⟨U,λ_ e=>h2 e.symm⟩;have:=Lk s i;omega;obtain⟨x1,_,_⟩:=O.x;rw[x1];have:=(Lk s i).1;show ¬(bb s i=dd);omega;obtain⟨x1,x2,_⟩:=O.x;have:i=1\/i=2\/i=3:=by omega
 rcases this with rfl|rfl|rfl
 have hz:=ha.size;obtain⟨v',e1,e2⟩:=ha.get (show(VE s dd num A 1)[0]?=some (.map (some dd))from rfl)
 have hv:v'=.map (some q):=by
  cases e2 with
  |gone hd=>rw[x2]|map hb=>
   rw[(hw.dead dd (by rw[x1])).1]at hb;cases hb
 subst hv
 have:a'=#[.map (some q)]:=by
  apply de;intro j;match j with
  |0=>rw[e1];rfl|j+1=>rw[cU (by rw[<-hz];show 1<=j+1;omega),cU (by show 1<=j+1;omega)]
 subst this;exact eD.one (.map (ae q rfl))
 exact Flat.arr (c:=#[.int _ num]) (λj hj=>by
  have:=hj;match j,this with
  |0,_=>exact .int ..) ha
 exact Flat.arr (c:=P5 A) (λj hj=>by
  have:=hj;match j,this with
  |0,_=>exact .int ..|1,_=>exact .string _|2,_=>exact .int ..) ha
 cases hb;obtain⟨a,c,e⟩:=hM.isMap;exact⟨aa,⟨hq,nofun⟩,ab,hM.VG,hM.inv,λa' e' f' h=>(by rw[h]at e;cases e),ac⟩
 have af:SW (tp (tU w6 (VL num A) V9 es.length ex) τ) num es A es.length []:=by
  refine⟨rfl,rfl,rfl,rfl,rfl,rfl,rfl,hM.say _ _ rfl⟩
 exact BI (U' num es A hA _ _ af (ej _) hl ad Y) λe a w' ⟨U,h2,h3,h4⟩=>⟨U,h2,h3,.inr (h4.trans rfl)⟩
end
section
open Go.Conc Go.RowKit Go.Maps
variable {ops:Array Oper} {rest:List Nat} {o:Oper} {P:Program} {E:Env P}
def ed(f:Func):Code:=match f.body with
 |some c=>c|none=>.skip
def dh.Nj{fn:dk}{tm:Array Value}{os:List OF}{wl:World}{V:List (Nat×Option (List Value))}{k:List Item}{i:Nat}(hi:ops[i]?=some o)(O:j1 o (dr ops tm)=true)
  (U:∀(Y:Array Value)(w:World),(execOp (iW Y) o).runT P w #[]=(.ok (.value (.chan (some w.heap.size))) {w with heap:=w.heap.push (.chan 0 #[] false 0 0 false)},#[]))
  (h:dh E (⟨fn,(Act.put ⟨tm,[]⟩ o.dst (.chan (some wl.heap.size))).tmps,.inRegion ops rest::k⟩::os) {wl with heap:=wl.heap.push kS} ((wl.heap.size,none)::V)):dh E (⟨fn,tm,.inRegion ops (i::rest)::k⟩::os) wl V:=
 dh.makeChan hi O U (by rw[uw]at h;exact h)
section
variable {Z:jj prog} {w:World} {T:List Frame} {dd q K:Nat} {lent:Bool} {fn:dk} {tm:Array Value} {os:List OF} {wl:World} {V:List (Nat×Option (List Value))} {k:List Item}
def Nn{m:Ren}{Pd:Nat->Prop}{ρ:Nat->eG}{gs:Array Goroutine}{w':World}{t:Trace}{q:Nat}{a:Array MapEntry}{c:Nat}(hq:E.fK q)(hw:E.w0.heap[q]?=some (.map a c))(O:Co P E.fK E.w0 Pd ρ m wl gs w' t)(j:Nat)(Y:Ren)(r':Nat)(hr:(ρ j).nj=some Y):Y.blk r'≠some q:=by
 intro hb;have hl:=O.ff j Y hr r' q hb hq;obtain⟨aa,U⟩:=O.wr hr;obtain⟨c1,e1,f1,hc⟩:=U.lk r' q hb hl;obtain⟨o,o',h1,h2,h3⟩:=U.obj r' q hb;rw[(O.fix q hq).2,hw]at h2;cases h2;rw[hc]at h1;cases h1;cases h3
def O1(dd:Nat):Option ByteArray->Value
 |none=>.map (some dd)|some S=>.string S
def Tr:Option ByteArray->dq
 |none=>85|some _=>9
def Vc:Option ByteArray->dk
 |none=>80|some _=>79
noncomputable def UW:Option ByteArray->Func
 |none=>f80|some _=>f79
def V3:Option ByteArray->dk
 |none=>120|some _=>116
def Hr(x:Option ByteArray)(num:Nat)(A:Ask)(L:List Value){ab:Bool}{i:Nat}(s:Nat)(hs:s=wl.heap.size)(hi:ops[i]?=some o)(al:∀(r:Nat)a c,wl.heap[r]?≠some (.map a c))(hV:∀x∈V,x.1<s)
  (hS:∀(w6:World)(os:List OF),(∀j,j<4->w6.heap[bb s j]?=some (.cells (Vr s (O1 dd x) num A j) (Vt (Tr x) j) (0,0)))->(∀(r:Nat)a c,w6.heap[r]?≠some (.map a c))->Sends (mV prog Z w T dd q K lent) (mV prog Z w T dd q (s+5) ab) (V3 x) (xB (bb s)) os os w6 (uR w6 [bb s 0,bb s 1,bb s 2,bb s 3]) (s+3) L)
  (am:∀q',(mV prog Z w T dd q K lent).fK q'->¬(mV prog Z w T dd q (s+5) ab).fK q'->∃a c,w.heap[q']?=some (.map a c))
  (hn:∀w2:World,w2.heap.size=s+5->(∀r,r<s->w2.heap[r]?=wl.heap[r]?)->(∀(r:Nat)a c,w2.heap[r]?≠some (.map a c))->w2.os=wl.os->dh (mV prog Z w T dd q (s+5) ab) (⟨fn,eP o.dst tm (.chan (some (s+3))),.inRegion ops rest::k⟩::os) w2 ((s+3,some L)::V)) :
  dh (mV prog Z w T dd q K lent) (⟨Vc x,#[.int .i64 num,O1 dd x,.agg #[.int .i64 A.m,.string A.q,.int .i64 A.t],l0,l0,l0,l0,l0,l0,l0,l0],[.code (ed (UW x))]⟩::⟨fn,tm,.inRegion ops (i::rest)::k⟩::os) wl V:=by
 obtain⟨v1,ai⟩:∃v,v=O1 dd x:=⟨_,rfl⟩;obtain⟨t1,aj⟩:∃t,t=Tr x:=⟨_,rfl⟩;have HV:jt _:=And.intro ai aj;have an:jt _:=hS;clear ai aj hS;cases x
 all_goals
  simp only[O1,Vc,UW];show dh _ (⟨_,_,[.code (.seq (.region 0 _ false) (.seq (.region 1 _ false) (.seq (.region 2 _ false) (.seq (.region 3 _ false) .ret))))]⟩::_) _ _;refine dh.seq ?_;have HS:jt _:=hs;clear hs;refine jA (by kernel_rfl) rfl (.inl (by simp)) λy0 O U=>?_;have HY:jt (y0.heap=wl.heap/\y0.os=wl.os):=⟨O,U⟩;clear O U;go_wp2;refine ia ?_;obtain⟨O,U⟩:=HY.out;obtain⟨w3,aa⟩:∃w3,w3=(((y0.alloc (.cells #[.int .i64 num] 3)).alloc (.cells #[v1] t1)).alloc (.cells #[.int .i64 A.m,.string A.q,.int .i64 A.t] 94)):=⟨_,rfl⟩;have Y:y0.heap.size=s:=by rw[O];exact HS.out.symm
  have z3:w3.heap.size=s+3:=by rw[aa];simp[Y]
  have o3:∀r,r<s->w3.heap[r]?=wl.heap[r]?:=λr hr=>by
   rw[aa,iM _ _ (by simp[Y];omega),iM _ _ (by simp[Y];omega),iM _ _ (by rw[Y];omega),O]
  have g0:w3.heap[s]?=some (.cells #[.int .i64 num] 3 (0,0)):=by rw[aa,iM _ _ (by simp only[j3,Y];omega),iM _ _ (by simp only[j3,Y];omega),kK _ _ Y.symm]
  have g1:w3.heap[s+1]?=some (.cells #[v1] t1 (0,0)):=by rw[aa,iM _ _ (by simp[Y]),kK _ _ (by simp[Y])]
  have g2:w3.heap[s+2]?=some (.cells #[.int .i64 A.m,.string A.q,.int .i64 A.t] 94 (0,0)):=by rw[aa,kK _ _ (by simp[Y])]
  have p3:w3.os=wl.os:=by rw[aa];exact U
  rw[HV.out.1,HV.out.2]at aa;simp only[O1,Tr]at aa;rw[<-aa,Y];clear aa O U Y HY y0;refine dh.seq (dh.region ?_);refine dh.Nj (i:=0) rfl rfl (λap w=>by kernel_rfl) ?_;rw[z3];obtain⟨w4,ad⟩:∃w4:World,w4={w3 with heap:=w3.heap.push kS}:=⟨_,rfl⟩;have z4:w4.heap.size=s+4:=by rw[ad];simp[z3]
  have o4:∀r,r<s+3->w4.heap[r]?=w3.heap[r]?:=λr hr=>by rw[ad];show(w3.heap.push _)[r]?=_;rw[da,if_neg (by omega)]
  have g3:w4.heap[s+3]?=some kS:=by rw[ad];show(w3.heap.push _)[s+3]?=_;rw[<-z3];simp
  have p4:w4.os=wl.os:=by rw[ad];exact p3
  rw[<-ad];clear ad;have ak:s+1+1=s+2:=rfl;rw[ak];clear ak;go_simp;refine oe rfl (by rfl) (by kernel_rfl) λy0 O U=>?_;have HY:jt (y0.heap=w4.heap/\y0.os=w4.os):=⟨O,U⟩;clear O U;unfold fT;go_simp;simp only[iG];obtain⟨O,U⟩:=HY.out;obtain⟨w5,ae⟩:∃w5,w5=y0.alloc (.cells #[.chan none] 167):=⟨_,rfl⟩;have z5:w5.heap.size=s+5:=by rw[ae];simp[O,z4]
  have o5:∀r,r<s+4->w5.heap[r]?=w4.heap[r]?:=λr hr=>by rw[ae,iM _ _ (by rw[O,z4];exact hr),O]
  have g4:w5.heap[s+4]?=some (.cells #[.chan none] 167 (0,0)):=by rw[ae,kK _ _ (by rw[O,z4])]
  have p5:w5.os=wl.os:=by rw[ae];exact U.trans p4
  rw[<-ae,O,z4];clear ae O U HY y0;refine oe rfl (by rfl) (by kernel_rfl) λy0 O U=>?_;have c4:=dn (by rw[O];exact g4) 0;have f4:y0.frozen? ⟨s+4,0,none⟩=false:=dO (by rw[O];exact g4) 0;have HY:jt (y0.heap=w5.heap/\y0.os=w5.os):=⟨O,U⟩;clear O U;unfold fT;go_simp;simp only[iG];obtain⟨O,U⟩:=HY.out;obtain⟨w6,af⟩:∃w6,w6=y0.setCell ⟨s+4,0,none⟩ (.chan (some (s+3))):=⟨_,rfl⟩;have z6:w6.heap.size=s+5:=by rw[af];simp[O,z5]
  have o6:∀r,r≠s+4->w6.heap[r]?=w5.heap[r]?:=λr hr=>by rw[af,e8 _ _ _ _ hr,O]
  have g6:w6.heap[s+4]?=some (.cells #[.chan (some (s+3))] 167 (0,0)):=by rw[af];exact heap_setCell_box_a _ (by rw[O];exact g4)
  have p6:w6.os=wl.os:=by rw[af];exact U.trans p5
  rw[<-af];clear af O U HY c4 f4 y0;refine dh.inRegion (dh.seq (dh.region ?_));have k0:w6.heap[s]?=some (.cells #[.int .i64 num] 3 (0,0)):=by rw[o6 _ (by omega),o5 _ (by omega),o4 _ (by omega)];exact g0
  have k1:w6.heap[s+1]?=some (.cells #[v1] t1 (0,0)):=by rw[o6 _ (by omega),o5 _ (by omega),o4 _ (by omega)];exact g1
  have k2:w6.heap[s+2]?=some (.cells #[.int .i64 A.m,.string A.q,.int .i64 A.t] 94 (0,0)):=by rw[o6 _ (by omega),o5 _ (by omega),o4 _ (by omega)];exact g2
  have k3:w6.heap[s+3]?=some kS:=by rw[o6 _ (by omega),o5 _ (by omega)];exact g3
  have ko:∀r,r<s->w6.heap[r]?=wl.heap[r]?:=λr hr=>by rw[o6 _ (by omega),o5 _ (by omega),o4 _ (by omega),o3 _ hr]
  clear g0 g1 g2 g3 g4 o3 o4 o5 o6 z3 z4 z5 p3 p4 p5
  have ah:∀j,j<4->w6.heap[bb s j]?=some (.cells (Vr s v1 num A j) (Vt t1 j) (0,0)):=by
   intro j hj;match j,hj with
   |0,_=>exact g6|1,_=>exact k1|2,_=>exact k0|3,_=>exact k2
  have ag:∀(r:Nat)a c,w6.heap[r]?≠some (.map a c):=by
   intro r a c h;by_cases h1:r<s;rw[ko r h1]at h;exact al r a c h;have h2:=(cQ.1 h).1;rw[z6]at h2;have:r=s\/r=s+1\/r=s+2\/r=s+3\/r=s+4:=by omega
   rcases this with rfl|rfl|rfl|rfl|rfl
   rw[k0]at h;cases h;rw[k1]at h;cases h;rw[k2]at h;cases h;rw[k3]at h;cases h;rw[g6]at h;cases h
  rw[HV.out.1,HV.out.2]at ah;have hS:=λos=>an.out w6 os ah ag;have e:∀v,Array.map (iW #[Value.int IntKind.i64 ↑num,v,Value.agg #[Value.int IntKind.i64 ↑A.m,Value.string A.q,Value.int IntKind.i64 ↑A.t],Value.pointer (some {block:=s,off:=0}),Value.pointer (some {block:=s+1,off:=0}),Value.pointer (some {block:=s+2,off:=0}),Value.chan none,Value.pointer (some {block:=s+4,off:=0}),Value.chan (some (s+3)),l0,l0]) #[Operand.tmp 7,Operand.tmp 4,Operand.tmp 3,Operand.tmp 5]=xB (bb s):=λv=>by kernel_rfl
  refine dh.go (i:=0) (j:=1) (q:=9) (rc:=s+3) (E₂:=mV prog Z w T dd q (s+5) ab) (wl₂:=uR w6 [bb s 0,bb s 1,bb s 2,bb s 3]) (L:=L) (V₂:=(s+3,some L)::V) rfl rfl rfl rfl rfl rfl rfl rfl ?_ ?_ (by rw[e];exact hS _) ?_ ?_ ?_ ?_ ?_ ?_;intro x hx;simp only[bB,bY,or_false]at hx;rcases hx with rfl|rfl|rfl|rfl<;>trivial
  show 9<11;decide;intro q' h1 h2 m Pd ρ gs w' t aq ao ar j m' r' hr;obtain⟨a,c,hx⟩:=am q' h1 h2;exact Nn h1 hx ao j m' r' hr;simp;intro x hx;rcases bB.1 hx with rfl|hx
  exact .inl rfl;refine .inr ⟨bN _ hx,λe=>?_⟩;have:=hV x hx;rw[e]at this;exact absurd this (by show ¬(s+3<s);omega);simp;intro r vs hr;rcases bB.1 hr with hr|hr
  cases hr;exact bN _ hr;obtain⟨w7,ac⟩:∃w7,w7=uR w6 [bb s 0,bb s 1,bb s 2,bb s 3]:=⟨_,rfl⟩;have z7:w7.heap.size=s+5:=by rw[ac,AL];exact z6
  have o7:∀r,r<s->w7.heap[r]?=wl.heap[r]?:=λr hr=>by
   rw[ac,sL _ (by simp only[bB,bY,or_false,bb];omega)];exact ko r hr
  have g7:w7.heap[s+4]?=some (.cells #[.chan (some (s+3))] 167 (0,1)):=by
   rw[ac];exact Ed w6 (by simp[bb]) g6
  have m7:∀(r:Nat)a c,w7.heap[r]?≠some (.map a c):=by
   intro r a c h;rw[ac,Dl]at h
   cases he:w6.heap[r]? with
   |none=>rw[he]at h;cases h
   |some o=>
    rw[he]at h;simp only[kN,kx]at h;split at h
    cases o<;>simp[RV]at h;exact ag _ _ _ he;exact ag r a c (by rw[he,h])
  have p7:w7.os=wl.os:=by rw[ac];exact p6
  rw[<-ac];clear ac hS ah ag k0 k1 k2 k3 ko g6 z6 p6;refine dh.inRegion (dh.seq ?_);refine jA (by kernel_rfl) rfl (.inl (by simp)) λy0 O U=>?_;have c7:=dn (by rw[O];exact g7) 0;have HY:jt (y0.heap=w7.heap/\y0.os=w7.os):=⟨O,U⟩;clear O U;simp only[List.setIfInBounds_toArray,List.set_cons_succ,List.set_cons_zero];go_wp2;refine ia ?_;obtain⟨O,U⟩:=HY.out;refine dh.back (v:=.chan (some (s+3))) (.inr ⟨_,rfl⟩) (by first|exact func80|exact func79) hi (λτ=>?_) (hn y0 (by rw[O];exact z7) (λr hr=>by rw[O];exact o7 r hr) (λr a c=>by rw[O];exact m7 r a c) (U.trans p7));kernel_rfl
def yY(num:Nat)(A:Ask)(es:List dp)(ex:Obj){i:Nat}(s:Nat)(hs:s=wl.heap.size)(hi:ops[i]?=some o)(hA:A.Ok)(hK:K<=s+5)(h5:5<=s)(aa:dd<s)(ab:5<=q)(hq:q<w.heap.size)(U:w.heap[q]?=some ex)(hM:sJ ex es)(ac:∀(r:Nat)a c,wl.heap[r]?≠some (.map a c))
  (hl:es.length<=100000) (ad:∀e∈es,e.name.length<=dj/\e.text.length<=1048576/\(e.gone=false->0<=e.dE/\e.dE<=255)) (Y:num<=1000) (hV:∀x∈V,x.1<s)
  (hn:∀w2:World,w2.heap.size=s+5->(∀r,r<s->w2.heap[r]?=wl.heap[r]?)->(∀(r:Nat)a c,w2.heap[r]?≠some (.map a c))->w2.os=wl.os->dh (mV prog Z w T dd q (s+5) true) (⟨fn,eP o.dst tm (.chan (some (s+3))),.inRegion ops rest::k⟩::os) w2 ((s+3,some ((gT es).map (nC A num)))::V)) :
  dh (mV prog Z w T dd q K false) (⟨80,#[.int .i64 num,.map (some dd),.agg #[.int .i64 A.m,.string A.q,.int .i64 A.t],l0,l0,l0,l0,l0,l0,l0,l0],[.code (ed f80)]⟩::⟨fn,tm,.inRegion ops (i::rest)::k⟩::os) wl V:=by
 obtain⟨ae,af,O⟩:=hM.isMap
 exact Hr none num A _ s hs hi ac hV (λw6 os ag ah=>M2 (Z:=Z) (T:=T) (os:=os) hA hK h5 aa ag ab hq U hM (λm r o h1 h2=>by
  rw[O]at h2;cases h2
  exact ah _ _ _ h1) hl ad Y) (λq' h1 h2=>by
  have:q'=q:=kj λai=>h2 ⟨h1.1,λ_=>ai⟩;subst this
  exact⟨ae,af,U.trans (by rw[O])⟩) hn
end
end
section
open Go.Conc Go.RowKit Go.Maps
variable {xH v3:Bool} {v2 v4 v5:ByteArray} {v0 v1 v6 v7:Int} {s:Nat}
def N5:Value:=.agg #[.int .i64 0,.int .i64 0,.string ⟨#[]⟩,.bool false,.string ⟨#[]⟩,.string ⟨#[]⟩,.int .i64 0,.int .i64 0]
def mT(cl:Nat->Option Nat):Array Value:=#[.chan (cl 0),.chan (cl 1),.chan (cl 2),.chan (cl 3),.chan (cl 4),.chan (cl 5),.chan (cl 6)]
def OZ(v:Value):Prop:=∃(a b:Int)(c:ByteArray)(d:Bool)(e f:ByteArray)(g h:Int),v=.agg #[.int .i64 a,.int .i64 b,.string c,.bool d,.string e,.string f,.int .i64 g,.int .i64 h]
def vf(w:World)(s:Nat)(v0 v1 v2 v3 v4 v5 v6 v7:Value):World:=(((((((w.setCell ⟨s,0,none⟩ v0).setCell ⟨s,1,none⟩ v1).setCell ⟨s,2,none⟩ v2).setCell ⟨s,3,none⟩ v3).setCell ⟨s,4,none⟩ v4).setCell ⟨s,5,none⟩ v5).setCell ⟨s,6,none⟩ v6).setCell ⟨s,7,none⟩ v7
def Av{w:World}{v0 v1 v2 v3 v4 v5 v6 v7 O U Y u3 u4 u5 u6 u7:Value}{t:dq}{f:Nat×Nat}(h:w.heap[s]?=some (.cells #[O,U,Y,u3,u4,u5,u6,u7] t f)):(vf w s v0 v1 v2 v3 v4 v5 v6 v7).heap[s]?=some (.cells #[v0,v1,v2,v3,v4,v5,v6,v7] t f):=by
 unfold vf;rw[heap_set (heap_set (heap_set (heap_set (heap_set (heap_set (heap_set (heap_set h 0 v0) 1 v1) 2 v2) 3 v3) 4 v4) 5 v5) 6 v6) 7 v7];rfl
def zF(w:World){r:Nat}(v0 v1 v2 v3 v4 v5 v6 v7:Value)(h:r≠s):(vf w s v0 v1 v2 v3 v4 v5 v6 v7).heap[r]?=w.heap[r]?:=by
 unfold vf;rw[e8 _ _ _ _ h,e8 _ _ _ _ h,e8 _ _ _ _ h,e8 _ _ _ _ h,e8 _ _ _ _ h,e8 _ _ _ _ h,e8 _ _ _ _ h,e8 _ _ _ _ h]
def vm(w:World)(s:Nat)(v0 v1 v2 v3 v4 v5 v6 v7:Value):(vf w s v0 v1 v2 v3 v4 v5 v6 v7).heap.size=w.heap.size:=by
 unfold vf;simp
def qL(w:World)(p:Addr)(v:Value):(w.setCell p v).os=w.os:=by
 unfold World.setCell;split <;>(try split) <;>(try split)<;>rfl
def Dm(w:World)(s:Nat)(v0 v1 v2 v3 v4 v5 v6 v7:Value):(vf w s v0 v1 v2 v3 v4 v5 v6 v7).os=w.os:=by
 unfold vf;simp only[qL]
def nb:Code->Nat->Code
 |.cond _ x _,0=>x|.cond _ _ y,n+1=>nb y n|_,_=>.skip
def RE(c:Code):Code:=match c with
 |.seq _ (.seq _ (.seq _ (.block _ c)))=>c|_=>.skip
def UT(xH:Bool)(v x0 x2 x3 x4 x5 x6 O U:Value):Nat->Array Value
 |0=>#[x0,.bool xH,v,x3,x4,x5,x6,O,U]|1=>#[x0,.bool xH,x2,v,x4,x5,x6,O,U]|2=>#[x0,.bool xH,x2,x3,v,x5,x6,O,U]|3=>#[x0,.bool xH,x2,x3,x4,v,x6,O,U]|4=>#[x0,.bool xH,x2,x3,x4,x5,v,O,U]|5=>#[x0,.bool xH,x2,x3,x4,x5,x6,v,U]|_=>#[x0,.bool xH,x2,x3,x4,x5,x6,O,v]
section
variable {Z:jj prog} {w:World} {T:List Frame} {dd q K:Nat} {lent:Bool} {fn:dk} {tm:Array Value} {os:List OF} {wl:World} {V:List (Nat×Option (List Value))} {k:List Item}
def OE{tmps:Array Value}{k:Int}{w3:World}(g1:w3.heap[s]?=some (.cells #[.int .i64 v0,.int .i64 v1,.string v2,.bool v3,.string v4,.string v5,.int .i64 v6,.int .i64 v7] 172 (0,0)))(τ)(O:tmps[2]?=some (.int .i64 k))(U:tmps[3]?=some (.pointer (some ⟨s,0,none⟩)))(Y:tmps[4]?=some (.bool xH)) :
  (ef iz tmps).run prog (tp w3 τ)=.ok (.tuple #[.int .i64 k,.agg #[.int .i64 v0,.int .i64 v1,.string v2,.bool v3,.string v4,.string v5,.int .i64 v6,.int .i64 v7],.bool xH]) (tp w3 τ):=by
 have g1:(tp w3 τ).heap[s]?=some (.cells #[.int .i64 v0,.int .i64 v1,.string v2,.bool v3,.string v4,.string v5,.int .i64 v6,.int .i64 v7] 172 (0,0)):=g1;generalize tp w3 τ=w4 at *;have e0:=dn g1 0;have f0:=dO g1 0;have e1:=dn g1 1;have f1:=dO g1 1;have e2:=dn g1 2;have f2:=dO g1 2;have e3:=dn g1 3;have f3:=dO g1 3;have e4:=dn g1 4;have f4:=dO g1 4;have e5:=dn g1 5;have f5:=dO g1 5;have e6:=dn g1 6;have f6:=dO g1 6;have e7:=dn g1 7;have f7:=dO g1 7;simp[ef,results123,go_sem,e0,e1,e2,e3,e4,e5,e6,e7,O,U,Y]
def wZ{ops:Array Oper}{i:Nat}{rest:List Nat}{o:Oper}{a0 a1 a2 a4 a5 a6 a7 a8 a9 a10 a11 a12 ac ad a15 a16 a17 a18 a19 a20 a21 a22 a23 a24 a25 a26 a27 a28 a29 ae af ag ah ai aj ak al am an ao ap aq ar au av aw ax ay az a' aA aB aC aD aE aF aG aH aI aJ aK aL aM aN aO aP aQ aR x0 x2 x3 x4 x5 x6 x7 x8:Value}(j:Nat)(hj:j<7)(hi:ops[i]?=some o)(Y:wl.heap.size=s+1)(g1:wl.heap[s]?=some (.cells #[.int .i64 0,.int .i64 0,.string ⟨#[]⟩,.bool false,.string ⟨#[]⟩,.string ⟨#[]⟩,.int .i64 0,.int .i64 0] 172 (0,0)))
  (hn:∀w2:World,w2.heap.size=s+1->(∀r,r<s->w2.heap[r]?=wl.heap[r]?)->w2.os=wl.os->dh (mV prog Z w T dd q K lent) (⟨fn,eP o.dst tm (.tuple #[.int .i64 (j:Int),.agg #[.int .i64 v0,.int .i64 v1,.string v2,.bool v3,.string v4,.string v5,.int .i64 v6,.int .i64 v7],.bool xH]),.inRegion ops rest::k⟩::os) w2 V) :
  dh (mV prog Z w T dd q K lent) (⟨123,#[a0,a1,a2,.pointer (some ⟨s,0,none⟩),a4,a5,a6,a7,a8,a9,a10,a11,a12,ac,ad,a15,a16,a17,a18,a19,a20,a21,a22,a23,a24,a25,a26,a27,a28,a29,ae,af,ag,.tuple (UT xH (.agg #[.int .i64 v0,.int .i64 v1,.string v2,.bool v3,.string v4,.string v5,.int .i64 v6,.int .i64 v7]) x0 x2 x3 x4 x5 x6 x7 x8 j),ah,ai,aj,ak,al,am,an,ao,ap,aq,ar,au,av,aw,ax,ay,az,a',aA,aB,aC,aD,aE,aF,aG,aH,aI,aJ,aK,aL,aM,aN,aO,aP,aQ,aR],[.code (nb (RE (ed iz)) j),.inBlock 0]⟩::⟨fn,tm,.inRegion ops (i::rest)::k⟩::os) wl V:=by
 obtain⟨P1,O⟩:∃x,wl.os=x:=⟨_,rfl⟩;obtain⟨H0,h0⟩:∃x,wl.heap=x:=⟨_,rfl⟩;rw[O,h0]at hn;have o1:∀r,r<s->wl.heap[r]?=H0[r]?:=λr _=>by rw[h0]
 clear h0;have HC:jt _:=hn;clear hn;rcases(by omega:j=0\/j=1\/j=2\/j=3\/j=4\/j=5\/j=6)with rfl|rfl|rfl|rfl|rfl|rfl|rfl
 all_goals
  show dh _ (⟨_,_,[.code (.seq (.region _ _ false) (.seq (.region _ _ true) .ret)),.inBlock 0]⟩::_) _ _;dsimp only[UT];refine dh.seq ?_;refine jA (by kernel_rfl) rfl (.inl (by simp)) λy1 ab U=>?_;rw[<-ab]at Y o1 g1;have O:=U.trans O;clear ab U;have e0:=dn g1 0;have f0:=dO g1 0;have e1:=dn g1 1;have f1:=dO g1 1;have e2:=dn g1 2;have f2:=dO g1 2;have e3:=dn g1 3;have f3:=dO g1 3;have e4:=dn g1 4;have f4:=dO g1 4;have e5:=dn g1 5;have f5:=dO g1 5;have e6:=dn g1 6;have f6:=dO g1 6;have e7:=dn g1 7;have f7:=dO g1 7;have HZ:jt _:=And.intro Y (And.intro o1 O);have HG:=g1;clear Y o1 O g1;go_wp2;refine ia ?_;clear e0 e1 e2 e3 e4 e5 e6 e7 f0 f1 f2 f3 f4 f5 f6 f7;obtain⟨Y,o1,O⟩:=HZ.out;obtain⟨w2,hw2⟩:∃w2,w2=vf y1 s (.int .i64 v0) (.int .i64 v1) (.string v2) (.bool v3) (.string v4) (.string v5) (.int .i64 v6) (.int .i64 v7):=⟨_,rfl⟩;replace Y:w2.heap.size=s+1:=by rw[hw2,vm];exact Y
  replace o1:∀r,r<s->w2.heap[r]?=H0[r]?:=λr hr=>by rw[hw2,zF _ _ _ _ _ _ _ _ _ (by omega)];exact o1 r hr
  have g1:w2.heap[s]?=some (.cells #[.int .i64 v0,.int .i64 v1,.string v2,.bool v3,.string v4,.string v5,.int .i64 v6,.int .i64 v7] 172 (0,0)):=by rw[hw2];exact Av HG
  replace O:w2.os=P1:=by rw[hw2,Dm];exact O
  unfold vf at hw2;rw[<-hw2];clear hw2 HZ HG;refine dh.seq ?_;refine jA (by kernel_rfl) rfl (.inl (by simp)) λy1 ab U=>?_;rw[<-ab]at Y o1 g1;have O:=U.trans O;clear ab U;have e0:=dn g1 0;have f0:=dO g1 0;have e1:=dn g1 1;have f1:=dO g1 1;have e2:=dn g1 2;have f2:=dO g1 2;have e3:=dn g1 3;have f3:=dO g1 3;have e4:=dn g1 4;have f4:=dO g1 4;have e5:=dn g1 5;have f5:=dO g1 5;have e6:=dn g1 6;have f6:=dO g1 6;have e7:=dn g1 7;have f7:=dO g1 7;have HZ:jt _:=And.intro Y (And.intro o1 O);have HG:=g1;clear Y o1 O g1;go_region;refine ia ?_;clear e0 e1 e2 e3 e4 e5 e6 e7 f0 f1 f2 f3 f4 f5 f6 f7;obtain⟨Y,o1,O⟩:=HZ.out;obtain⟨w2,hw2⟩:∃w2,w2=vf y1 s (.int .i64 v0) (.int .i64 v1) (.string v2) (.bool v3) (.string v4) (.string v5) (.int .i64 v6) (.int .i64 v7):=⟨_,rfl⟩;replace Y:w2.heap.size=s+1:=by rw[hw2,vm];exact Y
  replace o1:∀r,r<s->w2.heap[r]?=H0[r]?:=λr hr=>by rw[hw2,zF _ _ _ _ _ _ _ _ _ (by omega)];exact o1 r hr
  have g1:w2.heap[s]?=some (.cells #[.int .i64 v0,.int .i64 v1,.string v2,.bool v3,.string v4,.string v5,.int .i64 v6,.int .i64 v7] 172 (0,0)):=by rw[hw2];exact Av HG
  replace O:w2.os=P1:=by rw[hw2,Dm];exact O
  unfold vf at hw2;rw[<-hw2];clear hw2 HZ HG;obtain⟨w3,aa⟩:∃w3,w3=w2.drew:=⟨_,rfl⟩;replace g1:w3.heap[s]?=some (.cells #[.int .i64 v0,.int .i64 v1,.string v2,.bool v3,.string v4,.string v5,.int .i64 v6,.int .i64 v7] 172 (0,0)):=by rw[aa];exact g1
  have HC:=HC.out w3 (by rw[aa];exact Y) (λr hr=>by rw[aa];exact o1 r hr) (by rw[aa];exact O);rw[<-aa];clear aa Y o1 O;exact dh.back (.inr ⟨_,rfl⟩) func123 hi (λτ=>OE g1 τ rfl rfl rfl) HC
end
end
section
open Go.Conc Go.RowKit Go.Maps
def Cf{v:Value}(h:OZ v):Flat v:=by
 obtain⟨a,b,c,d,e,f,g,h,rfl⟩:=h;refine .agg λi hi=>?_;have:=hi;match i,this with
 |0,_|1,_|6,_|7,_=>exact .int ..|2,_|4,_|5,_=>exact .string _|3,_=>exact .bool _
def M4:OZ N5:=⟨0,0,⟨#[]⟩,false,⟨#[]⟩,⟨#[]⟩,0,0,rfl⟩
section
variable {Z:jj prog} {w:World} {T:List Frame} {dd q K:Nat} {lent:Bool} {fn:dk} {tm:Array Value} {os:List OF} {wl:World} {V:List (Nat×Option (List Value))} {k:List Item}
def L6{ops:Array Oper}{i:Nat}{rest:List Nat}{o:Oper}{cl:Nat->Option Nat}(b s:Nat)(hs:s=wl.heap.size)(ad:b<s)(hi:ops[i]?=some o)(hb:wl.heap[b]?=some (.cells (mT cl) 125 (0,0)))
  (jP:∀k r,k<7->cl k=some r->∃vs,(r,some vs)∈V) (sT:∀k k' r,k<7->k'<7->cl k=some r->cl k'=some r->k=k') (Y:∃k r,k<7/\cl k=some r) (fO:(V.map ks).Nodup) (h8:∀r vs,(r,some vs)∈V->∀v∈vs,OZ v)
  (hv:∀(k' r:Nat)v vs(w2:World),k'<7->cl k'=some r->(r,some (v::vs))∈V->w2.heap.size=s+1->(∀r,r<s->w2.heap[r]?=wl.heap[r]?)->w2.os=wl.os->dh (mV prog Z w T dd q K lent) (⟨fn,eP o.dst tm (.tuple #[.int .i64 k',v,.bool true]),.inRegion ops rest::k⟩::os) w2 (sX V r vs))
  (he:∀(k' r:Nat)(w2:World),k'<7->cl k'=some r->(r,some [])∈V->w2.heap.size=s+1->(∀r,r<s->w2.heap[r]?=wl.heap[r]?)->w2.os=wl.os->dh (mV prog Z w T dd q K lent) (⟨fn,eP o.dst tm (.tuple #[.int .i64 k',N5,.bool false]),.inRegion ops rest::k⟩::os) w2 (uH V r)) :
  dh (mV prog Z w T dd q K lent) (⟨123,#[.pointer (some ⟨b,0,none⟩),l0,l0,l0,l0,l0,l0,l0,l0,l0,l0,l0,l0,l0,l0,l0,l0,l0,l0,l0,l0,l0,l0,l0,l0,l0,l0,l0,l0,l0,l0,l0,l0,l0,l0,l0,l0,l0,l0,l0,l0,l0,l0,l0,l0,l0,l0,l0,l0,l0,l0,l0,l0,l0,l0,l0,l0,l0,l0,l0,l0,l0,l0,l0,l0,l0,l0,l0,l0,l0],[.code (ed iz)]⟩::⟨fn,tm,.inRegion ops (i::rest)::k⟩::os) wl V:=by
 show dh _ (⟨_,_,[.code (.seq (.region 0 _ false) (.seq (.seq (.region 1 _ false) (.seq (.region 2 _ false) (.seq (.region 3 _ false) (.seq (.region 4 _ false) (.seq (.region 5 _ false) (.seq (.region 6 _ false) (.region 7 _ false))))))) (.seq (.region 8 _ false) (.block 0 _))))]⟩::_) _ _
 have HC:jt ((∀(k' r:Nat)v vs(w2:World),k'<7->cl k'=some r->(r,some (v::vs))∈V->w2.heap.size=s+1->(∀r,r<s->w2.heap[r]?=wl.heap[r]?)->w2.os=wl.os->dh (mV prog Z w T dd q K lent) (⟨fn,eP o.dst tm (.tuple #[.int .i64 k',v,.bool true]),.inRegion ops rest::k⟩::os) w2 (sX V r vs))/\
  (∀(k' r:Nat)(w2:World),k'<7->cl k'=some r->(r,some [])∈V->w2.heap.size=s+1->(∀r,r<s->w2.heap[r]?=wl.heap[r]?)->w2.os=wl.os->dh (mV prog Z w T dd q K lent) (⟨fn,eP o.dst tm (.tuple #[.int .i64 k',N5,.bool false]),.inRegion ops rest::k⟩::os) w2 (uH V r))/\
  (∀k r,k<7->cl k=some r->∃vs,(r,some vs)∈V)/\(∀k k' r,k<7->k'<7->cl k=some r->cl k'=some r->k=k')/\(∃k r,k<7/\cl k=some r)/\(V.map ks).Nodup/\(∀r vs,(r,some vs)∈V->∀v∈vs,OZ v)):=⟨hv,he,jP,sT,Y,fO,h8⟩
 have HS:jt (s=wl.heap.size/\b<s):=⟨hs,ad⟩;have HB:jt _:=hb;clear hv he jP sT Y fO h8 hs ad hb;refine dh.seq ?_;refine jA (by kernel_rfl) rfl (.inl (by simp)) λy0 O U=>?_;have HY:jt (y0.heap=wl.heap/\y0.os=wl.os):=⟨O,U⟩;clear O U;go_wp2;refine ia ?_;obtain⟨O,U⟩:=HY.out;obtain⟨w3,aa⟩:∃w3,w3=y0.alloc (.cells #[.int .i64 0,.int .i64 0,.string ⟨#[]⟩,.bool false,.string ⟨#[]⟩,.string ⟨#[]⟩,.int .i64 0,.int .i64 0] 172):=⟨_,rfl⟩;have ab:y0.heap.size=s:=by rw[O];exact HS.out.1.symm
 have z3:w3.heap.size=s+1:=by rw[aa];simp[ab]
 have o3:∀r,r<s->w3.heap[r]?=wl.heap[r]?:=λr hr=>by
  rw[aa,iM _ _ (by rw[ab];omega),O]
 have g0:w3.heap[s]?=some (.cells #[.int .i64 0,.int .i64 0,.string ⟨#[]⟩,.bool false,.string ⟨#[]⟩,.string ⟨#[]⟩,.int .i64 0,.int .i64 0] 172 (0,0)):=by rw[aa,kK _ _ ab.symm]
 have p3:w3.os=wl.os:=by rw[aa];exact U
 rw[<-aa,ab];clear aa O U ab HY y0;have gb:w3.heap[b]?=some (.cells (mT cl) 125 (0,0)):=by rw[o3 b HS.out.2];exact HB.out
 refine dh.seq ?_;refine jA (by kernel_rfl) rfl (.inl (by simp)) λy0 O U=>?_;have d0:y0.cell? ⟨b,0,none⟩=some (.chan (cl 0)):=by rw[dn (by rw[O];exact gb)];rfl
 have d1:y0.cell? ⟨b,1,none⟩=some (.chan (cl 1)):=by rw[dn (by rw[O];exact gb)];rfl
 have d2:y0.cell? ⟨b,2,none⟩=some (.chan (cl 2)):=by rw[dn (by rw[O];exact gb)];rfl
 have d3:y0.cell? ⟨b,3,none⟩=some (.chan (cl 3)):=by rw[dn (by rw[O];exact gb)];rfl
 have d4:y0.cell? ⟨b,4,none⟩=some (.chan (cl 4)):=by rw[dn (by rw[O];exact gb)];rfl
 have d5:y0.cell? ⟨b,5,none⟩=some (.chan (cl 5)):=by rw[dn (by rw[O];exact gb)];rfl
 have d6:y0.cell? ⟨b,6,none⟩=some (.chan (cl 6)):=by rw[dn (by rw[O];exact gb)];rfl
 have HY:jt (y0.heap=w3.heap/\y0.os=w3.os):=⟨O,U⟩;have HW:jt (w3.heap.size=s+1/\(∀r,r<s->w3.heap[r]?=wl.heap[r]?)/\w3.heap[s]?=some (.cells #[.int .i64 0,.int .i64 0,.string ⟨#[]⟩,.bool false,.string ⟨#[]⟩,.string ⟨#[]⟩,.int .i64 0,.int .i64 0] 172 (0,0))/\w3.os=wl.os):=⟨z3,o3,g0,p3⟩;clear O U z3 o3 g0 p3 gb;go_wp2;refine ia ?_;clear d0 d1 d2 d3 d4 d5 d6;obtain⟨z3,o3,g0,p3⟩:=HW.out;obtain⟨O,U⟩:=HY.out;rw[<-O]at z3 o3 g0;have p3:=U.trans p3;clear O U HY HW;obtain⟨hv,he,jP,sT,Y,fO,h8⟩:=HC.out;refine dh.seq (dh.region ?_);refine dh.select (i:=0) (x0:=8) (x1:=12) (x2:=16) (x3:=20) (x4:=24) (x5:=28) (x6:=32) (z:=N5) (cl:=cl) rfl rfl (λae w=>by kernel_rfl) (Cf M4) rfl rfl rfl rfl rfl rfl rfl jP sT Y fO (λr vs hr v hv=>Cf (h8 r vs hr v hv)) ?_ ?_
 .intro k' r v vs ac hr hm;have hn:=λ(w2:World) a b c=>hv k' r v vs w2 ac hr hm a b c;obtain⟨v0,v1,v2,v3,v4,v5,v6,v7,rfl⟩:=h8 r _ hm v (bF ..);have HN:jt _:=hn;clear hv he jP sT Y fO h8 HC hn hm HS HB;rcases(by omega:k'=0\/k'=1\/k'=2\/k'=3\/k'=4\/k'=5\/k'=6)with rfl|rfl|rfl|rfl|rfl|rfl|rfl
  all_goals
   rw[fv];simp only[xG,goInt];go_simp
   iterate 8 (refine fc ?_;go_simp)
   refine dh.inRegion (dh.block ?_)
   repeat refine dh.nW trivial rfl ?_
   refine dh.zB trivial rfl ?_;apply wZ _ (by decide) hi z3 g0 λw2 a b c=>HN.out w2 a (λr hr=>(b r hr).trans (o3 r hr)) (c.trans p3);exact l0
 intro k' r ac hr hm;have hn:=λ(w2:World) a b c=>he k' r w2 ac hr hm a b c;have HN:jt _:=hn;clear hv he jP sT Y fO h8 HC hn hm HS HB;rcases(by omega:k'=0\/k'=1\/k'=2\/k'=3\/k'=4\/k'=5\/k'=6)with rfl|rfl|rfl|rfl|rfl|rfl|rfl
 all_goals
  rw[fv];simp only[xG,goInt,N5];go_simp
  iterate 8 (refine fc ?_;go_simp)
  refine dh.inRegion (dh.block ?_)
  repeat refine dh.nW trivial rfl ?_
  refine dh.zB trivial rfl ?_;apply wZ _ (by decide) hi z3 g0 λw2 a b c=>HN.out w2 a (λr hr=>(b r hr).trans (o3 r hr)) (c.trans p3);exact l0
end
end
section
open Go.Conc Go.RowKit Go.Maps
variable {vs:List Value} {k' r:Nat} {a:Option (List Value)} {v:Value} {w2:World}
abbrev Vs:=List (Nat×Option (List Value))
def sV(V:Vs):List Value:=V.flatMap λx=>x.2.getD []
def I6{X Y:Vs}(h:((X++(r,a)::Y).map ks).Nodup):sX (X++(r,a)::Y) r vs=X++(r,some vs)::Y:=by
 rw[b8,bJ,bM,bO]at h;obtain⟨h1,⟨U,h3⟩,h4⟩:=h;unfold sX;rw[b8,bJ,if_pos rfl];congr 1
 conv=>rhs;rw[<-cG X]
 refine bK λx O=>?_;rw[if_neg λe=>h4 _ (b4.2 ⟨x,O,rfl⟩) r (by simp) e];rfl;congr 1;conv=>rhs;rw[<-cG Y]
 refine bK λx O=>?_;rw[if_neg λe=>U (b4.2 ⟨x,O,e⟩)];rfl
def Kx{X Y:Vs}(h:((X++(r,a)::Y).map ks).Nodup):uH (X++(r,a)::Y) r=X++Y:=by
 rw[b8,bJ,bM,bO]at h;obtain⟨h1,⟨U,h3⟩,h4⟩:=h;unfold uH;rw[bT,cx,if_neg (by simp)];congr 1;rw[cH];intro x O;simpa using λe=>h4 _ (b4.2 ⟨x,O,rfl⟩) r (by simp) e;rw[cH];intro x O;simpa using λe=>U (b4.2 ⟨x,O,e⟩)
def sK{V:Vs}(U:(V.map ks).Nodup)(h:(r,some (v::vs))∈V):(sV V).Perm (v::sV (sX V r vs))/\(sX V r vs).length=V.length/\(sX V r vs).map ks=V.map ks/\∀x∈sX V r vs,x∈V\/x=(r,some vs):=by
 obtain⟨X,Y,rfl⟩:=cq h;rw[I6 U];refine⟨?_,by simp,by simp,?_⟩;unfold sV;simp only[List.flatMap_append,List.flatMap_cons,Option.getD_some,cN];exact cr;intro x O;simp only[b9,bB]at O⊢;rcases O with h|h|h
 exact .inl (.inl h);exact .inr h;exact .inl (.inr (.inr h))
def yJ{V:Vs}(U:(V.map ks).Nodup)(h:(r,some [])∈V):(sV V).Perm (sV (uH V r))/\(uH V r).length+1=V.length/\((uH V r).map ks).Nodup/\∀x∈uH V r,x∈V/\x.1≠r:=by
 obtain⟨X,Y,rfl⟩:=cq h;have O:=Kx U;refine⟨?_,?_,?_,?_⟩;rw[O];unfold sV;simp;rw[O];simp;omega;rw[O];refine U.sublist (List.Sublist.map _ ?_);exact List.Sublist.append_left (List.sublist_cons_self ..) X;intro x hx;have:=b7.1 hx;exact⟨this.1,by simpa using this.2⟩
def Met(v:Value):Prop:=∃(a b:Nat)(c:ByteArray)(d:Bool)(e f:ByteArray)(g h:Int),a<4611686018427387904/\b<4611686018427387904/\v=.agg #[.int .i64 (a:Int),.int .i64 (b:Int),.string c,.bool d,.string e,.string f,.int .i64 g,.int .i64 h]
def Met.V'(h:Met v):OZ v:=by
 obtain⟨a,b,c,d,e,f,g,h,_,_,rfl⟩:=h;exact⟨a,b,c,d,e,f,g,h,rfl⟩
def NT:Value->Value
 |.agg a=>.agg #[a.getD 0 l0,a.getD 1 l0]|v=>v
def Met.key(h:Met v):∃O,keyOf prog 170 (NT v)=some O:=by
 obtain⟨a,b,c,d,e,f,g,h,U,hb,rfl⟩:=h;exact T3 a b U hb
structure tW(M0:List Value)(H0:Array Obj)(P0:Os)(b mb:Nat)(cl:Nat->Option Nat)(l:List (Value×Value))(V:Vs)(wl:World):Prop where
 hb:wl.heap[b]?=some (.cells (mT cl) 125 (0,0))
 AQ:b<mb
 hm:jl prog 170 wl mb l
 jP:∀k r,k<7->cl k=some r->∃vs,(r,some vs)∈V
 fG:∀x∈V,∃k vs,k<7/\cl k=some x.1/\x.2=some vs
 sT:∀k k' r,k<7->k'<7->cl k=some r->cl k'=some r->k=k'
 fO:(V.map ks).Nodup
 eL:(l.map kt++sV V).Perm M0
 gu:∀p∈l,p.1=NT p.2
 old:∀r,r<mb->r≠b->wl.heap[r]?=H0[r]?
 os:wl.os=P0
structure NX(M0:List Value):Prop where
 met:∀v∈M0,Met v
 nodup:(M0.map NT).Nodup
 len:M0.length<dj
variable {M0:List Value} {H0:Array Obj} {P0:Os} {b mb:Nat} {cl:Nat->Option Nat} {l:List (Value×Value)} {V:Vs} {wl:World}
def tW.h8(G:NX M0)(I:tW M0 H0 P0 b mb cl l V wl):∀r vs,(r,some vs)∈V->∀v∈vs,Met v:=λr vs h v O=>G.met v (I.eL.mem_iff.1 (cc _ (cM.2 ⟨_,h,O⟩)))
def tW.Ut(I:tW M0 H0 P0 b mb cl l V wl)(h:V≠[]):∃k r,k<7/\cl k=some r:=by
 cases V with
 |nil=>exact absurd rfl h|cons x V=>
  obtain⟨k,vs,O,U,_⟩:=I.fG x (by simp);exact⟨k,x.1,O,U⟩
def tW.fresh(G:NX M0)(I:tW M0 H0 P0 b mb cl l V wl)(h:(r,some (v::vs))∈V):(∀p∈l,p.1≠NT v)/\l.length<dj:=by
 obtain⟨Y,_⟩:=sK I.fO h;have U:=((I.eL.symm.trans (k4 _ Y)).map NT).nodup_iff.1 G.nodup;constructor;intro p O e;rw[b8,bM]at U;exact U.2.2 _ (b4.2 ⟨p.2,b4.2 ⟨p,O,rfl⟩,rfl⟩) _ (by simp) ((I.gu p O).symm.trans e);have:=I.eL.length_eq;have h2:=G.len;simp only[bG,bH]at this;omega
def tW.take(I:tW M0 H0 P0 b mb cl l V wl)(h:(r,some (v::vs))∈V)(hm:jl prog 170 w2 mb (l++[(NT v,v)]))(hold:∀r,r<mb->w2.heap[r]?=wl.heap[r]?)(ab:w2.os=wl.os) :
  tW M0 H0 P0 b mb cl (l++[(NT v,v)]) (sX V r vs) w2:=by
 obtain⟨hp,h1,h2,h3⟩:=sK I.fO h
 have O:∀r' vs',(r',some vs')∈V->∃U,(r',some U)∈sX V r vs:=λr' vs' Y=>by
  by_cases e:r'=r;subst e;exact⟨vs,b4.2 ⟨_,h,if_pos rfl⟩⟩;exact⟨vs',b4.2 ⟨_,Y,if_neg e⟩⟩
 refine⟨(hold b I.AQ).trans I.hb,I.AQ,hm,λk r' hk hr=>?_,λx hx=>?_,I.sT,by rw[h2];exact I.fO,?_,?_,λr' aa ac=>(hold r' aa).trans (I.old r' aa ac),ab.trans I.os⟩;obtain⟨vs',Y⟩:=I.jP k r' hk hr;exact O r' vs' Y;rcases h3 x hx with Y|rfl
 exact I.fG x Y;obtain⟨k,vs',a,b,_⟩:=I.fG _ h;exact⟨k,vs,a,b,rfl⟩;refine List.Perm.trans ?_ I.eL;rw[b8,cK];exact k4 _ hp.symm;intro p hp;rcases b9.1 hp with h|h
 exact I.gu p h;simp only[bE]at h;subst h;rfl
def xu(cl:Nat->Option Nat)(k':Nat):Nat->Option Nat:=λk=>if k=k' then none else cl k
def Rf(h:k'<7):(mT cl).set! k' (.chan none)=mT (xu cl k'):=by
 rcases(by omega:k'=0\/k'=1\/k'=2\/k'=3\/k'=4\/k'=5\/k'=6)with rfl|rfl|rfl|rfl|rfl|rfl|rfl<;>rfl
def tW.ends(I:tW M0 H0 P0 b mb cl l V wl)(ab:k'<7)(hr:cl k'=some r)(h:(r,some [])∈V)(hb:w2.heap[b]?=some (.cells (mT (xu cl k')) 125 (0,0)))(hm:jl prog 170 w2 mb l)(hold:∀r,r<mb->r≠b->w2.heap[r]?=wl.heap[r]?)(ac:w2.os=wl.os) :
  tW M0 H0 P0 b mb (xu cl k') l (uH V r) w2:=by
 obtain⟨hp,h1,h2,h3⟩:=yJ I.fO h
 have U:∀k r',xu cl k' k=some r'->k≠k'/\cl k=some r':=λk r' e=>by
  unfold xu at e;split at e
  cases e;exact⟨by assumption,e⟩
 refine⟨hb,I.AQ,hm,λk Y hk e=>?_,λx hx=>?_,λk k2 Y a b e1 e2=>I.sT k k2 Y a b (U _ _ e1).2 (U _ _ e2).2,h2,?_,I.gu,λr' aa O=>(hold r' aa O).trans (I.old r' aa O),ac.trans I.os⟩;obtain⟨O,e⟩:=U _ _ e;obtain⟨vs,h'⟩:=I.jP k Y hk e;have:Y≠r:=λe2=>O (I.sT k k' Y hk ab e (e2▸hr));exact⟨vs,b7.2 ⟨h',by simpa using this⟩⟩;obtain⟨ad,O⟩:=h3 x hx;obtain⟨k,vs,a,b,c⟩:=I.fG x ad;refine⟨k,vs,a,?_,c⟩;have:k≠k':=λe=>O (by rw[e,hr]at b;exact(ky b).symm);unfold xu;rw[if_neg this];exact b;exact(k4 _ hp.symm).trans I.eL
end
section
open Go.Conc Go.RowKit Go.Maps
variable {ops:Array Oper} {d:Code} {n:Int} {kk:List Item} {rest:List Nat} {cl:Nat->Option Nat} {o:Oper} {a10 a11 a12 a15 a16 a17 a18 a19 a2 a20 a21 a22 a23 a24 a25 a26 a27 a28 a29 a3 a4 a6 a7 a8 a9:Value}
def He(c:Code):Code:=match c with
 |.seq _ (.seq _ (.seq (.block _ (.loop x)) _))=>x|_=>.skip
def Vd(c:Code):Code:=match c with
 |.seq _ (.seq _ (.seq _ y))=>y|_=>.skip
def MY:iz.name≠ "runtime.NumGoroutine":=by
 decide
section
variable {P:Program} {E:Env P} {fn:dk} {tm:Array Value} {os:List OF} {wl:World} {V:List (Nat×Option (List Value))} {k:List Item}
def kY{x:Item}(h:∀kk,jt (kk=k)->dh E (⟨fn,tm,x::kk⟩::os) wl V):dh E (⟨fn,tm,x::k⟩::os) wl V:=h k rfl
def dh.sc{c:Code}(h:∀kk,jt (kk=.code d::k)->dh E (⟨fn,tm,.code c::kk⟩::os) wl V):dh E (⟨fn,tm,.code (.seq c d)::k⟩::os) wl V:=dh.seq (h _ rfl)
def dh.sr{id:Nat}(h:∀kk,jt (kk=.code d::k)->dh E (⟨fn,tm,.inRegion ops (cn ops.size)::kk⟩::os) wl V):dh E (⟨fn,tm,.code (.seq (.region id ops false) d)::k⟩::os) wl V:=dh.seq (dh.region (h _ rfl))
def dh.ie(O:jt (kk=k))(h:dh E (⟨fn,tm,k⟩::os) wl V):dh E (⟨fn,tm,.inRegion ops []::kk⟩::os) wl V:=by
 rw[O.out];exact dh.inRegion h
def dh.qp{i:Nat}{f:dk}{gP:Func}{c:Code}{xs:Array Operand}{ts:Array dq}(Y:Array Value)(hi:ops[i]?=some o)(O:j1 o (dr ops tm)=true)(hf:P.funcs[f]?=some gP)(hb:gP.body=some c)(hn:gP.name≠ "runtime.NumGoroutine") (ho:o.op=.call {callee:=.value (.func f),args:=xs,argTypes:=ts}) (U:∀x∈xs.toList,dQ E.fF E.gl x)
  (ha:xs.map (iW tm)++cX (gP.ntmps-xs.size) l0=Y) (h:dh E (⟨f,Y,[.code c]⟩::⟨fn,tm,.inRegion ops (i::rest)::k⟩::os) wl V):dh E (⟨fn,tm,.inRegion ops (i::rest)::k⟩::os) wl V:=
 dh.outer hi O hf hb hn ho U (by rw[ha];exact h)
end
section
variable {Z:jj prog} {w:World} {T:List Frame} {dd q K:Nat} {lent:Bool} {fn:dk} {tm:Array Value} {os:List OF} {k:List Item} {M0:List Value} {H0:Array Obj} {P0:Os} {b mb:Nat}
def Ua(Z:jj prog)(w:World)(T:List Frame)(dd q K:Nat)(lent:Bool)(M0:List Value)(H0:Array Obj)(P0:Os)(b mb:Nat)(f:Value->List OF):Prop:=∀(w2:World)(l:List (Value×Value)),(l.map kt).Perm M0->(∀p∈l,p.1=NT p.2)->jl prog 170 w2 mb l->(∀r,r<mb->r≠b->w2.heap[r]?=H0[r]?)->w2.os=P0->dh (mV prog Z w T dd q K lent) (f (.map (some mb))) w2 []
def Wf(c:Code):Array Oper:=match c with
 |.seq _ (.block _ (.seq (.region _ ops _) _))=>ops|_=>#[]
def A4{xH:Bool}{V:Vs}{wl:World}{ab:List OF}{s:Nat}{k':Int}{v0 v1:Int}{v2:ByteArray}{v3:Bool}{v4 v5:ByteArray}{v6 v7:Int}(z:wl.heap.size=s)
  (hn:∀w2:World,w2.heap.size=s+1->(∀r,r<s->w2.heap[r]?=wl.heap[r]?)->w2.heap[s]?=some (.cells #[.int .i64 v0,.int .i64 v1,.string v2,.bool v3,.string v4,.string v5,.int .i64 v6,.int .i64 v7] 172 (0,0))->w2.os=wl.os->dh (mV prog Z w T dd q K lent) (⟨82,#[.pointer (some ⟨b,0,none⟩),.int .i64 n,a2,a3,a4,.map (some mb),.int .i64 k',.pointer (some ⟨s,0,none⟩),.bool xH,a9,a10,a11,.tuple #[.int .i64 k',.agg #[.int .i64 v0,.int .i64 v1,.string v2,.bool v3,.string v4,.string v5,.int .i64 v6,.int .i64 v7],.bool xH],.pointer (some ⟨b,0,none⟩),.tuple #[.int .i64 k',.agg #[.int .i64 v0,.int .i64 v1,.string v2,.bool v3,.string v4,.string v5,.int .i64 v6,.int .i64 v7],.bool xH],.int .i64 k',.agg #[.int .i64 v0,.int .i64 v1,.string v2,.bool v3,.string v4,.string v5,.int .i64 v6,.int .i64 v7],.bool xH,a18,a19,a20,a21,a22,a23,a24,a25,a26,a27,a28,a29],kk⟩::ab) w2 V) :
  dh (mV prog Z w T dd q K lent) (⟨82,#[.pointer (some ⟨b,0,none⟩),.int .i64 n,a2,a3,a4,.map (some mb),a6,a7,a8,a9,a10,a11,a12,.pointer (some ⟨b,0,none⟩),.tuple #[.int .i64 k',.agg #[.int .i64 v0,.int .i64 v1,.string v2,.bool v3,.string v4,.string v5,.int .i64 v6,.int .i64 v7],.bool xH],a15,a16,a17,a18,a19,a20,a21,a22,a23,a24,a25,a26,a27,a28,a29],.inRegion (Wf (He (ed iv))) [2,3,4,5,6,7,8,9]::kk⟩::ab) wl V:=by
 have HN:jt _:=hn;clear hn;have HZ:jt _:=z;clear z;show dh _ (⟨_,_,.inRegion #[_,_,_,_,_,_,_,_,_,_] _::_⟩::_) _ _
 (iterate 4 (refine fc ?_;go_simp));refine oe rfl (by rfl) (by kernel_rfl) λy0 U O=>?_;have HY:jt (y0.heap=wl.heap/\y0.os=wl.os):=⟨U,O⟩;clear U O;unfold fT;go_simp;simp only[iG];obtain⟨U,O⟩:=HY.out;obtain⟨w5,Y⟩:∃w5,w5=y0.alloc (.cells #[.int .i64 0,.int .i64 0,.string ⟨#[]⟩,.bool false,.string ⟨#[]⟩,.string ⟨#[]⟩,.int .i64 0,.int .i64 0] 172):=⟨_,rfl⟩;have aa:y0.heap.size=s:=by rw[U];exact HZ.out
 have z5:w5.heap.size=s+1:=by rw[Y];simp[aa]
 have o5:∀r,r<s->w5.heap[r]?=wl.heap[r]?:=λr hr=>by rw[Y,iM _ _ (by rw[aa];exact hr),U]
 have g5:w5.heap[s]?=some (.cells #[.int .i64 0,.int .i64 0,.string ⟨#[]⟩,.bool false,.string ⟨#[]⟩,.string ⟨#[]⟩,.int .i64 0,.int .i64 0] 172 (0,0)):=by rw[Y,kK _ _ aa.symm]
 have p5:w5.os=wl.os:=by rw[Y];exact O
 rw[<-Y,aa];clear Y U O HY aa y0;have HW:jt (w5.heap.size=s+1/\(∀r,r<s->w5.heap[r]?=wl.heap[r]?)/\w5.heap[s]?=some (.cells #[.int .i64 0,.int .i64 0,.string ⟨#[]⟩,.bool false,.string ⟨#[]⟩,.string ⟨#[]⟩,.int .i64 0,.int .i64 0] 172 (0,0))/\w5.os=wl.os):=⟨z5,o5,g5,p5⟩;clear z5 o5 g5 p5
 (refine fc ?_;go_simp);refine oe rfl (by rfl) (by kernel_rfl) λy0 U O=>?_;obtain⟨z5,o5,g5,p5⟩:=HW.out;rw[<-U]at z5 o5 g5;have p5:=O.trans p5;have g1:=g5;clear U O HW g5;have e0:=dn g1 0;have f0:=dO g1 0;have e1:=dn g1 1;have f1:=dO g1 1;have e2:=dn g1 2;have f2:=dO g1 2;have e3:=dn g1 3;have f3:=dO g1 3;have e4:=dn g1 4;have f4:=dO g1 4;have e5:=dn g1 5;have f5:=dO g1 5;have e6:=dn g1 6;have f6:=dO g1 6;have e7:=dn g1 7;have f7:=dO g1 7;have HY:jt (y0.heap.size=s+1/\(∀r,r<s->y0.heap[r]?=wl.heap[r]?)/\y0.os=wl.os):=⟨z5,o5,p5⟩;have HG:jt _:=g1;clear z5 o5 p5 g1;unfold fT;go_simp;simp only[iG];clear e0 e1 e2 e3 e4 e5 e6 e7 f0 f1 f2 f3 f4 f5 f6 f7;obtain⟨z5,o5,p5⟩:=HY.out;obtain⟨w2,hw2⟩:∃w2,w2=vf y0 s (.int .i64 v0) (.int .i64 v1) (.string v2) (.bool v3) (.string v4) (.string v5) (.int .i64 v6) (.int .i64 v7):=⟨_,rfl⟩;have z1:w2.heap.size=s+1:=by rw[hw2,vm];exact z5
 have o1:∀r,r<s->w2.heap[r]?=wl.heap[r]?:=λr hr=>by rw[hw2,zF _ _ _ _ _ _ _ _ _ (by omega)];exact o5 r hr
 have g1:w2.heap[s]?=some (.cells #[.int .i64 v0,.int .i64 v1,.string v2,.bool v3,.string v4,.string v5,.int .i64 v6,.int .i64 v7] 172 (0,0)):=by rw[hw2];exact Av HG.out
 have p1:w2.os=wl.os:=by rw[hw2,Dm];exact p5
 unfold vf at hw2;rw[<-hw2];clear hw2 HG HY z5 o5 p5;have HN:=HN.out w2 z1 o1 g1 p1;have HN:jt _:=HN;clear z1 o1 g1 p1
 (refine fc ?_;go_simp);exact dh.inRegion HN.out
set_option linter.unusedVariables false in
def wF{i:Nat}{wl:World}{V:Vs}{l:List (Value×Value)}{Y aa:Value}(I:tW M0 H0 P0 b mb cl l V wl)(hV:V=[])(hn:n=V.length)(hi:ops[i]?=some o)(O:Ua Z w T dd q K lent M0 H0 P0 b mb λv=>⟨fn,eP o.dst tm v,.inRegion ops rest::k⟩::os) :
  dh (mV prog Z w T dd q K lent) (⟨82,#[.pointer (some ⟨b,0,none⟩),.int .i64 n,a2,a3,a4,.map (some mb),a6,a7,a8,a9,a10,a11,a12,Y,aa,a15,a16,a17,a18,a19,a20,a21,a22,a23,a24,a25,a26,a27,a28,a29],[.code (He (ed iv)),.inLoop (He (ed iv)),.inBlock 0,.code (Vd (ed iv))]⟩::⟨fn,tm,.inRegion ops (i::rest)::k⟩::os) wl V:=by
 subst hV;have hp:¬(0<n):=by rw[hn];simp
 have HN:jt _:=hn;clear hn;have U:jt _:=I;have HE:jt _:=O;clear I O;show dh _ (⟨_,_,[.code (.seq (.seq _ _) _),.inLoop _,.inBlock 0,.code _]⟩::_) ..;refine dh.sc λkk HK=>?_;refine dh.seq (dh.region ?_)
 (iterate 2 (refine fc ?_;go_simp));refine dh.inRegion ?_;refine dh.nW trivial rfl ?_;rw[HK.out];refine dh.exit (k':=[.code _]) rfl ?_;refine dh.seq (dh.region ?_)
 (iterate 2 (refine fc ?_;go_simp));refine dh.inRegion ?_;refine dh.back (v:=.map (some mb)) (.inr ⟨_,rfl⟩) func82 hi (λτ=>by simp[ef,results82,go_sem]) ?_;have hp:=U.out.eL;simp only[sV,List.flatMap_nil,cA]at hp;exact HE.out wl l hp U.out.gu U.out.hm U.out.old U.out.os
set_option linter.unusedVariables false in
def EK{i:Nat}(G:NX M0)(hi:ops[i]?=some o)(ac:Ua Z w T dd q K lent M0 H0 P0 b mb λv=>⟨fn,eP o.dst tm v,.inRegion ops rest::k⟩::os) :
  ∀(N:Nat)(wl:World)(V:Vs)(cl:Nat->Option Nat)(l:List (Value×Value))(a2 a3 a4 a6 a7 a8 a9 a10 a11 a12 aj ak a15 a16 a17 a18 a19 a20 a21 a22 a23 a24 a25 a26 a27 a28 a29:Value)(n:Int),(sV V).length+V.length<=N->n=V.length->V.length<=1000->tW M0 H0 P0 b mb cl l V wl->
  dh (mV prog Z w T dd q K lent) (⟨82,#[.pointer (some ⟨b,0,none⟩),.int .i64 n,a2,a3,a4,.map (some mb),a6,a7,a8,a9,a10,a11,a12,aj,ak,a15,a16,a17,a18,a19,a20,a21,a22,a23,a24,a25,a26,a27,a28,a29],[.code (He (ed iv)),.inLoop (He (ed iv)),.inBlock 0,.code (Vd (ed iv))]⟩::⟨fn,tm,.inRegion ops (i::rest)::k⟩::os) wl V:=by
 intro N;induction N with
 |zero=>
  intro wl V cl l a2 a3 a4 a6 a7 a8 a9 a10 a11 a12 aj ak a15 a16 a17 a18 a19 a20 a21 a22 a23 a24 a25 a26 a27 a28 a29 n hN hn hB I;have hV:V=[]:=cy (by omega);exact wF I hV hn hi ac
 |succ N ih=>
  intro wl V cl l a2 a3 a4 a6 a7 a8 a9 a10 a11 a12 aj ak a15 a16 a17 a18 a19 a20 a21 a22 a23 a24 a25 a26 a27 a28 a29 n hN hn hB I;by_cases hV:V=[]
  .exact wF I hV hn hi ac
  have hp:0<n:=by rw[hn];exact Int.natCast_pos.2 (List.length_pos_iff.2 hV)
  have HI:jt ((sV V).length+V.length<=N+1/\n=V.length/\tW M0 H0 P0 b mb cl l V wl/\V≠[]/\0<n/\V.length<=1000):=⟨hN,hn,I,hV,hp,hB⟩;have IH:jt _:=ih;have HE:jt _:=ac;clear hN hn I hV ih ac hB;show dh _ (⟨_,_,[.code (.seq (.seq (.region 2 _ false) (.cond _ .skip (.exit 0))) (.block 1 (.seq (.region 3 _ false) (.seq (.seq (.region 4 _ false) (.cond _ (.seq (.region 5 _ false) (.exit 1)) .skip)) (.seq (.region 6 _ false) (.region 7 _ false)))))),.inLoop _,.inBlock 0,_]⟩::_) _ _;refine dh.sc λkk O=>?_;refine dh.seq (dh.region ?_)
  (iterate 2 (refine fc ?_;go_simp));refine dh.inRegion ?_;refine dh.zB trivial rfl (dh.skip ?_);clear hp;rw[O.out];clear O kk;refine dh.block (dh.sr λkk O=>?_)
  (refine fc ?_;go_simp);obtain⟨hN,hn,I,hV,hp,hB⟩:=HI.out;refine dh.qp #[.pointer (some ⟨b,0,none⟩),l0,l0,l0,l0,l0,l0,l0,l0,l0,l0,l0,l0,l0,l0,l0,l0,l0,l0,l0,l0,l0,l0,l0,l0,l0,l0,l0,l0,l0,l0,l0,l0,l0,l0,l0,l0,l0,l0,l0,l0,l0,l0,l0,l0,l0,l0,l0,l0,l0,l0,l0,l0,l0,l0,l0,l0,l0,l0,l0,l0,l0,l0,l0,l0,l0,l0,l0,l0,l0] (i:=1) (gP:=iz) (c:=ed iz) rfl rfl func123 (by kernel_rfl) MY rfl (by simp[dQ]) (by kernel_rfl) ?_;refine L6 b wl.heap.size rfl (ey I.AQ I.hm.lt) rfl I.hb I.jP I.sT (I.Ut hV) I.fO (λr vs h v hv=>(I.h8 G r vs h v hv).V') ?_ ?_
  .intro k' r v vs w2 al hr hm z2 o2 p2;obtain⟨v0,v1,v2,v3,v4,v5,v6,v7,ha,hb,hv⟩:=I.h8 G r _ hm v (bF ..);obtain⟨kl,ae⟩:=(I.h8 G r _ hm v (bF ..)).key;obtain⟨af,ag⟩:=I.fresh G hm;have hT:=λ(w3:World) a b c=>I.take hm (w2:=w3) a b c;have hL:=(sK I.fO hm).1.length_eq;have aa:=(sK I.fO hm).2.1;have ah:jl prog 170 w2 mb l:=I.hm.stay (o2 mb I.hm.lt);have ab:=I.hm.lt;have AQ:=I.AQ;subst hv;obtain⟨s,hs⟩:∃s,s=wl.heap.size+1:=⟨_,rfl⟩;rw[<-hs]at z2;have ab:mb<s:=by omega
   clear hs;have HA:jt _:=(And.intro hT (And.intro hL (And.intro aa (And.intro ae (And.intro af (And.intro ag (And.intro o2 (And.intro p2 (And.intro ab AQ)))))))));have HM:jt (jl prog 170 w2 mb l):=ah;clear hT hL aa ae af ag o2 p2 hm hr I ah AQ ab hn hp hV hN hB;rw[fv];go_simp;refine A4 z2 λw3 z3 o3 g3 p3=>?_;have HW:jt _:=And.intro z3 (And.intro o3 p3);have HG:jt _:=g3;clear z3 o3 p3 g3 z2;rw[O.out];refine dh.seq (dh.seq ?_);clear O kk;refine kY λkk O=>?_;refine dh.region ?_
   (refine fc ?_;go_simp);refine dh.ie O ?_;clear O kk;refine dh.zB trivial rfl (dh.sc λkk O=>?_);refine jA (by kernel_rfl) (by rw[O.out];rfl) (.inl (by simp)) λy0 U Y=>?_;have g1:=HG.out;rw[<-U]at g1;have e0:=dn g1 0;have f0:=dO g1 0;have e1:=dn g1 1;have f1:=dO g1 1;have e2:=dn g1 2;have f2:=dO g1 2;have e3:=dn g1 3;have f3:=dO g1 3;have e4:=dn g1 4;have f4:=dO g1 4;have e5:=dn g1 5;have f5:=dO g1 5;have e6:=dn g1 6;have f6:=dO g1 6;have e7:=dn g1 7;have f7:=dO g1 7;have am:jl prog 170 y0 mb l:=HM.out.stay (by rw[U];exact HW.out.2.1 mb HA.out.2.2.2.2.2.2.2.2.1);have ae:=HA.out.2.2.2.1;have af:=HA.out.2.2.2.2.1;have ag:=HA.out.2.2.2.2.2.1;have HY:jt (y0.heap=w3.heap/\y0.os=w3.os):=⟨U,Y⟩;have H1:jt _:=am;have H2:jt _:=ae;have H3:jt _:=af;have H4:jt _:=ag;clear U Y g1 am ae af ag;go_wp2_with (first|(at_mapUpdate;refine EL _ rfl _ _ _ 129 rfl 172 D5 gA rfl H1.out H4.out H2.out H3.out rfl _ rfl ?_;intro w4 ar an av));refine ia ?_;rw[O.out];clear O e0 e1 e2 e3 e4 e5 e6 e7 f0 f1 f2 f3 f4 f5 f6 f7;refine dh.exit (k':=[.inLoop _,.inBlock 0,.code _]) rfl (dh.inLoop ?_);obtain⟨hT,hL,aa,ae,af,ag,o2,p2,ab,AQ⟩:=HA.out;obtain⟨hN,hn,I,hV,hp,hB⟩:=HI.out;obtain⟨U,Y⟩:=HY.out;obtain⟨z3,o3,p3⟩:=HW.out;refine IH.out w4 (sX V r vs) cl _ _ _ _ _ _ _ _ _ _ _ _ _ _ _ _ _ _ _ _ _ _ _ _ _ _ _ _ n ?_ ?_ (by rw[aa];exact hB) (hT w4 ar (λr' ao=>?_) ?_);simp only[cw]at hL;rw[aa];omega;rw[aa];exact hn;rw[an.block r' (by rw[U,z3];omega) (by simp;omega),U,o3 r' (by omega),o2 r' (ey ao I.hm.lt)];rw[an.os,Y,p3,p2]
  intro k' r w2 al hr hm z2 o2 p2;have hE:=λ(w3:World) a b c d=>I.ends al hr hm (w2:=w3) a b c d;have hL:=(yJ I.fO hm).1.length_eq;have aa:=(yJ I.fO hm).2.1;have ah:jl prog 170 w2 mb l:=I.hm.stay (o2 mb I.hm.lt);have ab:=I.hm.lt;have AQ:=I.AQ;have ap:w2.heap[b]?=some (.cells (mT cl) 125 (0,0)):=(o2 b (by omega)).trans I.hb;obtain⟨s,hs⟩:∃s,s=wl.heap.size+1:=⟨_,rfl⟩;rw[<-hs]at z2;have ad:mb<s:=by omega
  clear hs;have HA:jt _:=And.intro hE (And.intro hL (And.intro aa (And.intro o2 (And.intro p2 (And.intro ad (And.intro AQ ab))))));have HM:jt (jl prog 170 w2 mb l):=ah;have HB:jt (w2.heap[b]?=some (.cells (mT cl) 125 (0,0))):=ap;clear hE hL aa o2 p2 hm hr I ah AQ ab ad hn hp hV hN hB ap;rw[fv];simp only[N5];go_simp;refine A4 z2 λw3 z3 o3 g3 p3=>?_;have HW:jt _:=And.intro z3 (And.intro o3 p3);clear z3 o3 p3 g3 z2;rw[O.out];refine dh.seq (dh.seq ?_);clear O kk;refine kY λkk O=>?_;refine dh.region ?_
  (refine fc ?_;go_simp);refine dh.ie O ?_;clear O kk;refine dh.nW trivial rfl (dh.skip (dh.sc λkk O=>?_));refine jA (by kernel_rfl) (by rw[O.out];rfl) (.inl (by simp)) λy0 U Y=>?_;have gb:y0.heap[b]?=some (.cells (mT cl) 125 (0,0)):=by rw[U,HW.out.2.1 b (by have:=HA.out;omega)];exact HB.out
  have e0:y0.cell? ⟨b,k',none⟩=some (.chan (cl k')):=by
   rw[dn gb];rcases(by omega:k'=0\/k'=1\/k'=2\/k'=3\/k'=4\/k'=5\/k'=6)with rfl|rfl|rfl|rfl|rfl|rfl|rfl<;>rfl
  have f0:y0.frozen? ⟨b,k',none⟩=false:=dO gb k';have HY:jt (y0.heap=w3.heap/\y0.os=w3.os):=⟨U,Y⟩;have HG:jt _:=gb;clear U Y gb;go_wp2;refine ia ?_;clear e0 f0;obtain⟨w4,ai⟩:∃w4,w4=y0.setCell ⟨b,k',none⟩ (.chan none):=⟨_,rfl⟩;have g4:w4.heap[b]?=some (.cells (mT (xu cl k')) 125 (0,0)):=by rw[ai,heap_set HG.out k' (.chan none),<-Rf al];simp only[cW]
  have o4:∀r,r≠b->w4.heap[r]?=w3.heap[r]?:=λr hr=>by rw[ai,e8 _ _ _ _ hr,HY.out.1]
  have p4:w4.os=w3.os:=by rw[ai,qL];exact HY.out.2
  rw[<-ai];clear ai HG HY y0;have HG:jt _:=And.intro g4 (And.intro o4 p4);clear g4 o4 p4;rw[O.out];clear O kk;refine kY λkk O=>?_;refine dh.region ?_;have h1 : -9223372036854775808<=n-1:=by have:=HI.out.2.2.2.2.1;omega
  have h2:n-1<=9223372036854775807:=by have:=HI.out.2.1;have:=HI.out.2.2.2.2.2;omega
  (iterate 3 (refine fc ?_;go_simp));refine dh.ie O ?_;have aq:IntKind.i64.wrap (n-1)=n-1:=by simp only[kB];omega
  rw[aq];clear O h1 h2 aq;refine dh.inBlock (dh.inLoop ?_);obtain⟨hE,hL,aa,o2,p2,ad,AQ,ab⟩:=HA.out;obtain⟨hN,hn,I,hV,hp,hB⟩:=HI.out;obtain⟨g4,o4,p4⟩:=HG.out;obtain⟨z3,o3,p3⟩:=HW.out;refine IH.out w4 (uH V r) (xu cl k') l _ _ _ _ _ _ _ _ _ _ _ _ _ _ _ _ _ _ _ _ _ _ _ _ _ _ _ (n-1) ?_ ?_ (by omega) (hE w4 g4 (HM.out.stay ?_) (λr' ao au=>?_) ?_);omega;rw[hn];omega;rw[o4 mb (by omega),o3 mb ad];rw[o4 r' au,o3 r' (by omega),o2 r' (by omega)];rw[p4,p3,p2]
def Ff{i:Nat}{wl:World}{V:Vs}(hi:ops[i]?=some o)(G:NX M0)(Y:mb=wl.heap.size)(AQ:b<mb)
  (hb:wl.heap[b]?=some (.cells (mT cl) 125 (0,0))) (jP:∀k r,k<7->cl k=some r->∃vs,(r,some vs)∈V) (fG:∀x∈V,∃k vs,k<7/\cl k=some x.1/\x.2=some vs) (sT:∀k k' r,k<7->k'<7->cl k=some r->cl k'=some r->k=k') (fO:(V.map ks).Nodup) (hB:V.length<=1000) (hM:sV V=M0)
  (ab:Ua Z w T dd q K lent M0 wl.heap wl.os b mb λv=>⟨fn,eP o.dst tm v,.inRegion ops rest::k⟩::os) :
  dh (mV prog Z w T dd q K lent) (⟨82,#[.pointer (some ⟨b,0,none⟩),.int .i64 (V.length:Int),l0,l0,l0,l0,l0,l0,l0,l0,l0,l0,l0,l0,l0,l0,l0,l0,l0,l0,l0,l0,l0,l0,l0,l0,l0,l0,l0,l0],[.code (ed iv)]⟩::⟨fn,tm,.inRegion ops (i::rest)::k⟩::os) wl V:=by
 have HL:=EK G hi ab;obtain⟨n,hn⟩:∃n:Int,n=V.length:=⟨_,rfl⟩;have HA:jt _:=And.intro hb (And.intro jP (And.intro fG (And.intro sT (And.intro fO (And.intro hB (And.intro hM (And.intro Y (And.intro AQ hn))))))));have HL:jt _:=HL;rw[<-hn];clear hb jP fG sT fO hB hM Y ab hn AQ;refine dh.sr λkk HK=>?_
 (refine fc ?_;go_simp);refine dh.ie HK ?_;refine dh.sc λkk HK=>?_;refine jA (by kernel_rfl) (by rw[HK.out];rfl) (.inl (by simp)) λy0 U O=>?_;have HY:jt (y0.heap=wl.heap/\y0.os=wl.os):=⟨U,O⟩;clear U O;have ad:=@jv prog;go_wp2;refine ia ?_;rw[HK.out];obtain⟨hb,jP,fG,sT,fO,hB,hM,Y,AQ,hn⟩:=HA.out;obtain⟨U,O⟩:=HY.out;have hz:y0.heap.size=mb:=by rw[U,Y]
 obtain⟨w2,aa⟩:∃w2,w2=y0.alloc (.map #[] 0):=⟨_,rfl⟩;have ac:jl prog 170 w2 mb []:=by rw[aa,<-hz];exact jl.made y0
 have o2:∀r,r<mb->w2.heap[r]?=wl.heap[r]?:=λr hr=>by rw[aa,iM _ _ (by rw[hz];exact hr),U]
 have p2:w2.os=wl.os:=by rw[aa];exact O
 rw[<-aa,hz];refine dh.seq (dh.block (dh.loop ?_));exact HL.out _ w2 V cl [] _ _ _ _ _ _ _ _ _ _ _ _ _ _ _ _ _ _ _ _ _ _ _ _ _ _ _ n (ej _) hn hB ⟨(o2 b AQ).trans hb,AQ,ac,jP,fG,sT,fO,by rw[hM];exact .refl _,nofun,λr hr _=>o2 r hr,p2⟩
end
end
section
open Go.RowKit Go.Maps
structure mB where
 xy:Nat
 at':Nat
 name:Wd
 wanted:Bool
 n2:Wd
 tx:Wd
 wt:Int
 tg:Int
def mB.val(m:mB):Value:=.agg #[.int .i64 (m.xy:Int),.int .i64 (m.at':Int),.string ⟨m.name.toArray⟩,.bool m.wanted,.string ⟨m.n2.toArray⟩,.string ⟨m.tx.toArray⟩,.int .i64 m.wt,.int .i64 m.tg]
def mB.kv(m:mB):Value×Value:=(QQ m.xy m.at',m.val)
def mB.Nf(m:mB):dp:=⟨m.n2,false,m.tx,m.wt,m.tg⟩
def eX:List mB->Wd->Nat
 |[],_=>0|m::l,x=>if m.name=x then max m.xy (eX l x)else eX l x
def wv{l m:List mB}(h:l.Perm m)(x:Wd):eX l x=eX m x:=by
 induction h with
 |nil=>rfl|cons a _ O=>simp only[eX,O]|swap a b l=>
  simp only[eX];split<;>split<;>omega
 |trans _ _ U Y=>rw[U,Y]
def Gi(l:List mB)(m:mB)(x:Wd):eX (l++[m]) x=if m.name=x then max (eX l x) m.xy else eX l x:=by
 rw[wv (cE (l₁:=l) (l₂:=[m]))];show(if m.name=x then max _ (eX l x)else eX l x)=_;split;rw[Nat.max_comm];rfl
def vH{n:Nat}:∀(l:List mB)(x:Wd),(∀m∈l,m.xy<=n)->eX l x<=n
 |[],_,_=>et _
 |m::l,x,h=>by
  have O:=h m (by simp)
  have U:=vH l x (λm hm=>h m (by simp[hm]));simp only[eX];split<;>omega
def dY(all l:List mB):List dp:=(l.filter λm=>m.wanted&&m.xy==eX all m.name).map mB.Nf
def Gc(all l:List mB)(m:mB):dY all (l++[m])=dY all l++(if(m.wanted&&m.xy==eX all m.name)=true then [m.Nf]else []):=by
 unfold dY;rw[bT,b8];rw[cx];split<;>rfl
def Cy(all l:List mB):(dY all l).length<=l.length:=by unfold dY;rw[bH];exact ce ..
def Gw{all l m:List mB}(h:l.Perm m):(dY all l).Perm (dY all m):=(h.filter _).map _
def mO(e:dp):List Value:=[.string ⟨e.name.toArray⟩,.string ⟨e.text.toArray⟩,.int .i64 e.du,.int .i64 e.dE]
def iF(es:List dp):List Value:=es.flatMap mO
def I7(es:List dp)(x:dp):iF (es++[x])=iF es++mO x:=by simp[iF]
def BN:∀(ws:List dp)(i c:Nat)(h:i<ws.length),c<4->(iF ws)[i*4+c]?=(mO ws[i])[c]?:=by
 intro ws;induction ws with
 |nil=>intro i c h;simp at h|cons a l O=>
  intro i c h U;have e:iF (a::l)=mO a++iF l:=by simp[iF]
  rw[e]
  cases i with
  |zero=>rw[List.getElem?_append_left (by simp[mO];omega)];simp|succ i=>
   rw[List.getElem?_append_right (by simp[mO];omega)];have Y:(mO a).length=4:=rfl;rw[Y,show(i+1)*4+c-4=i*4+c by omega,O i c (by simpa using h) U];simp
def GH(x:dp):∀v∈mO x,v.oneCell'=true:=by
 intro v O;simp[mO]at O;rcases O with rfl|rfl|rfl|rfl<;>rfl
def MA(l:List (Wd×Value)){x y:Wd}(e:y≠x):(l.filter λp=>p.1 != x).find? (λp=>p.1==y)=l.find? (λp=>p.1==y):=by
 induction l with
 |nil=>rfl|cons p l U=>
  rw[cx];by_cases O:p.1=x;rw[if_neg (by simpa using O),bQ];have:(p.1==y)=false:=by simpa[O]using λh=>e h.symm
  rw[this];exact U;rw[if_pos (by simpa using O),bQ,bQ];split;rfl;exact U
def N4(l:List (Wd×Value))(x y:Wd)(v z:Value):mS (rV l x v) y z=if y=x then v else mS l y z:=by
 by_cases e:y=x;subst e;unfold mS rV
 have:(l.filter λp=>p.1 != y).find? (λp=>p.1==y)=none:=by
  rw[cI];intro p O;have:=(b7.1 O).2;simpa using this
 rw[cJ,this];simp;rw[if_neg e];unfold mS rV
 have U:([(x,v)]).find? (λp=>p.1==y)=none:=by
  rw[cI];intro p O;simp only[bE]at O;subst O;simpa using λh=>e h.symm
 rw[cJ,U,Option.or_none,MA l e]
def QL(l:List (Wd×Value))(x:Wd)(v:Value):(rV l x v).length<=l.length+1:=by
 unfold rV;rw[bG,cF];have:=ce (λp=>p.1 != x) l;omega
def gp.UA{P:Program}{k:dq}{w:World}{B r:Nat}{l rest O:List (Value×Value)}(h:gp P k w B r l rest)(U:rest.Perm O):gp P k w B r l O:=by
 obtain⟨a,b,D,left,cnt,Y,h2,h3⟩:=h;exact⟨(U.map _).nodup_iff.1 a,λp hm=>b p (U.mem_iff.2 hm),D,left,cnt,Y,h2,λkey kl hk=>(h3 key kl hk).trans ⟨λ⟨p,x,y⟩=>⟨p,U.mem_iff.1 x,y⟩,λ⟨p,x,y⟩=>⟨p,U.mem_iff.2 x,y⟩⟩⟩
def Bw{U O:Type}(f:U->O){l:List U}{p:O}{t:List O}(h:(l.map f).Perm (p::t)):∃m Y,l.Perm (m::Y)/\p=f m/\t.Perm (Y.map f):=by
 obtain⟨m,hm,e⟩:=b4.1 (h.mem_iff.2 (bF ..));obtain⟨a,b,rfl⟩:=cq hm;refine⟨m,a++b,cr,e.symm,?_⟩
 have h1:((a++m::b).map f).Perm (f m::(a++b).map f):=by
  exact cr.map f
 rw[<-e]at h;exact(k6 (h.symm.trans h1))
abbrev Kg(w:World)(B:Nat)(ms:List mB):Prop:=jl prog 170 w B (ms.map mB.kv)
abbrev mn(w:World)(B r:Nat)(ms O:List mB):Prop:=gp prog 170 w B r (ms.map mB.kv) (O.map mB.kv)
section
variable {B:Nat} {ms:List mB} (w:World) {ops:Array Oper} {rest:List Oper} {o:Oper} {a:Act} {Q:Exit->Act->World->Prop}
def tz(U:o.guard=none)(m:Operand)(O:o.op=Op.range 129 m)(hm:a.eval m=.map (some B))(h:Kg w B ms)
  (Y:∀w',mn w' B w.heap.size ms ms->w.grownBy w' none->w'.heap.size=w.heap.size+1->eg prog ops Q rest (a.put o.dst (.pointer (some ⟨w.heap.size,0,none⟩))) w') :
  eg prog ops Q (o::rest) a w:=
 B5 w U m _ O _ D5 gA hm h Y
def uj(hg:o.guard=none)(it:Operand)(aa:o.op=Op.next it false)(r:Nat)(U:List mB)(ab:a.eval it=.pointer (some ⟨r,0,none⟩))(h:mn w B r ms U)
  (Y:U=[]->eg prog ops Q rest (a.put o.dst (.tuple #[.bool false])) w)
  (hMore:∀(m:mB)(O:List mB)(w':World),U.Perm (m::O)->mn w' B r ms O->w'.rangeLeft B r<w.rangeLeft B r->w.grownBy w' (some r)->w'.heap.size=w.heap.size->(Instr.entry (.pointer (some ⟨r,0,none⟩))).run prog w'=.ok (.tuple #[QQ m.xy m.at',m.val]) w'->
    eg prog ops Q rest (a.put o.dst (.tuple #[.bool true,QQ m.xy m.at',m.val])) w') :
  eg prog ops Q (o::rest) a w:=by
 refine E5 w hg it aa D5 r _ ab h (λh0=>Y (by simpa using h0)) ?_;intro p ac w' hp hr ad ae hs he;obtain⟨m,l',h1,rfl,h2⟩:=Bw _ hp;exact hMore m l' w' h1 (hr.UA h2) ad ae hs he
end
end
section
open Go.RowKit Go.Maps
def N8:(prog.info? 96).map (λi=>(i.zero,i.size,i.bytes))=some (some (.agg #[.string ⟨#[]⟩,.string ⟨#[]⟩,.int .i64 0,.int .i64 0]),4,48):=by kernel_rfl
def qN{α:Type}{U Y O es:List α}{e:α}(h:(U++Y).Perm es)(hp:Y.Perm (e::O)):((U++[e])++O).Perm es:=by
 refine List.Perm.trans ?_ h;rw[cK];exact(k5 U).append hp.symm
def xJ{w:World}{base e size n:Nat}{v:Value}{xs:List Value}(h:w.ownsRow base e size v n xs)(o:Obj):(w.alloc o).ownsRow base e size v n xs:=ii h (λk O=>by rw[iM _ _ (h.lt k O).2])
def BB(x:dp):∀v∈mO x,Flat v:=by
 intro v O;simp[mO]at O;rcases O with rfl|rfl|rfl|rfl
 exact .string _;exact .string _;exact .int ..;exact .int ..
def Mv:∀u∈(Value.agg #[.string ⟨#[]⟩,.string ⟨#[]⟩,.int .i64 0,.int .i64 0]).cells.toList,Flat u:=by
 intro v O;simp[Value.cells]at O;rcases O with rfl|rfl
 exact .string _;exact .int ..
def PV{w:World}{b:Nat}{e:dp}{t:dq}(hb:b=w.heap.size):uc (w.alloc (.cells #[.string ⟨e.name.toArray⟩,.string ⟨e.text.toArray⟩,.int .i64 e.du,.int .i64 e.dE] t)) 4 (.slice (some ⟨b,0,none⟩) 1 1) 1 (mO e):=by
 refine⟨some _,1,rfl,ej _,by unfold dj;omega,rfl,λj u O=>⟨b,0,rfl,?_⟩⟩;rw[kb _ _ _ _ hb];match j,O with
 |0,O=>simpa[mO]using O|1,O=>simpa[mO]using O|2,O=>simpa[mO]using O|3,O=>simpa[mO]using O|j+4,O=>simp[mO]at O
def Ei(B:Nat)(ms:List mB)(w:World)(hs:Kg w B ms)(hl:ms.length<=1048576)(aL:∀m∈ms,m.xy<=1000/\m.name.length<=dj) :
  di prog 81 #[.map (some B)] w λen w'=>∃v U,en=.returned v/\List.Perm U ms/\w'.ownsRow w.heap.size 96 4 v (dY ms U).length (iF (dY ms U))/\Below w.heap.size w w'/\kq Flat w' v:=by
 obtain⟨i0,hi,aX,aY,aZ⟩:=ei N8;have bp:=@jv prog;have HS:jt (Kg w B ms):=hs;have aD:jt (∀m∈ms,m.xy<=1000/\m.name.length<=dj):=aL;have bq:=hs.lt;obtain⟨w0,ay⟩:∃w0,w.alloc (.map #[] 0)=w0:=⟨_,rfl⟩;have aB:w0.heap.size=w.heap.size+1:=by rw[<-ay];simp
 have hb0:Below w.heap.size w w0:=by rw[<-ay];exact(eC _ _).alloc (ej _) _
 have hM0:dM prog 9 w0 w.heap.size []:=by rw[<-ay];exact dM.made w
 have aM:jt (Kg w0 B ms):=jl.below hs hb0;clear hs aL;go_enter func81,ntmps81;go_wp2_with (first|(at_range;refine tz _ rfl _ rfl rfl aM.out ?_;intro w1 hrg0 hg0 am));rw[aB]at hrg0 am⊢;clear ay;go_frame;go_loopw [4] (λ_ wr=>∃(U ab:List mB)(nl:List (Wd×Value)),(U++ab).Perm ms/\mn wr B (w.heap.size+1) ms ab/\dM prog 9 wr w.heap.size nl/\nl.length<=U.length/\(∀x,mS nl x (.int .i64 0)=.int .i64 (eX U x:Nat))/\Below w.heap.size w wr/\w.heap.size+2<=wr.heap.size) (λ_ wr=>wr.rangeLeft B (w.heap.size+1))
 case atStart=>exact⟨[],ms,[],k5 _,hrg0,dM.kept hM0 hg0 (by simp),ej _,λ_=>rfl,hb0.grown hg0 hb0.size (λk hk=>by cases hk),by omega⟩
 case round=>
  obtain⟨U,ab,nl,eL,hr,hm,ba,aN,hb,hz⟩:=hrel;have HP:jt ((U++ab).Perm ms):=eL;have HR:jt (mn wr B (w.heap.size+1) ms ab):=hr;have HM:jt (dM prog 9 wr w.heap.size nl):=hm;have az:jt (∀x,mS nl x (.int .i64 0)=.int .i64 (eX U x:Nat)):=aN;have HB:jt (Below w.heap.size w wr):=hb
  have aO:U.length<=ms.length:=by
   have h2:=eL.length_eq;rw[bG]at h2;omega
  clear eL hr hb hm aN aM hM0 hb0 aB hrg0 hg0 am;go_wp2_with (first|(at_next;refine uj _ rfl _ rfl (w.heap.size+1) ab rfl HR.out ?_ ?_))
  .intro h0
   have hE:U.Perm ms:=by
    have:=HP.out;rw[h0,cA]at this;exact this
   have bc:jt (∀x,mS nl x (.int .i64 0)=.int .i64 (eX ms x:Nat)):=by
    intro x;rw[az.out x,wv hE]
   have aP:jt (Kg wr B ms):=gp.owns HR.out;clear h0 hE HP HR az;go_wp2_with (first|(at_range;refine tz _ rfl _ rfl rfl aP.out ?_;intro w1 hrg0 hg0 am));have aQ:w.heap.size+3<=w1.heap.size:=by omega
   have aR:wr.heap.size<w1.heap.size:=by omega
   have HB1:jt (Below w.heap.size w w1):=HB.out.grown hg0 HB.out.size (λk hk=>by cases hk);have HM1:jt (dM prog 9 w1 w.heap.size nl):=dM.kept HM.out hg0 (by simp);have HR1:jt (mn w1 B wr.heap.size ms ms):=hrg0;obtain⟨r,hr⟩:∃r,r=wr.heap.size:=⟨_,rfl⟩;rw[<-hr]at HR1 aR hz am⊢;have br:w.heap.size+2<=r:=hz;clear hrg0 hg0 aP HM HB ba aO hz HS;clear hr;generalize wr=wo at *;go_frame;go_loopw [6] (λg wr=>∃(U ab:List mB),(U++ab).Perm ms/\mn wr B r ms ab/\dM prog 9 wr w.heap.size nl/\wr.ownsRow (r+1) 96 4 g (dY ms U).length (iF (dY ms U))/\Below w.heap.size w wr/\r+1<=wr.heap.size/\kq Flat wr g) (λ_ wr=>wr.rangeLeft B r)
   case atStart=>exact⟨[],ms,k5 _,HR1.out,HM1.out,j4 _ _ _ _,HB1.out,by omega,Ku _ _ _ _⟩
   case round=>
    obtain⟨O,aj,eL,hr,hm,an,hb,hz,aS⟩:=hrel;have HP:jt ((O++aj).Perm ms):=eL;have HR:jt (mn wr B r ms aj):=hr;have HM:jt (dM prog 9 wr w.heap.size nl):=hm;obtain⟨ag,cg,rfl,bs⟩:=jo an;have HO:jt (wr.ownsRow (r+1) 96 4 (.slice ag (dY ms O).length cg) (dY ms O).length (iF (dY ms O))):=an;have HB:jt (Below w.heap.size w wr):=hb;have HF:jt (kq Flat wr (.slice ag (dY ms O).length cg)):=aS;clear aS
    have aO:(dY ms O).length<=ms.length:=by
     have h1:=Cy ms O;have h2:=eL.length_eq;rw[bG]at h2;omega
    clear eL hr hb hm an HR1 HM1 HB1 am aQ aR;go_wp2_with (first|(at_next;refine uj _ rfl _ rfl r aj rfl HR.out ?_ ?_))
    .intro h0
     have hE:O.Perm ms:=by
      have:=HP.out;rw[h0,cA]at this;exact this
     have HE:jt _:=hE;clear h0 hE HP HR;go_wp2;go_ret;exact⟨_,O,rfl,HE.out,jW HO.out (by omega),HB.out,HF.out⟩
    intro m Y w2 ai ac ae ad aE ao;have ap:=gp.lt ac;have aq:=jl.lt (gp.owns ac);have HB1:jt (Below w.heap.size w w2):=mz HB.out ad (by omega);have HR1:jt (mn w2 B r ms Y):=ac;have HM1:jt (dM prog 9 w2 w.heap.size nl):=dM.stay HM.out (ad.block _ (by omega) (by simp;omega));have aF:jt (w2.rangeLeft B r<wr.rangeLeft B r):=ae;have ar:jt (aj.Perm (m::Y)):=ai;have aG:jt (w2.ownsRow (r+1) 96 4 (.slice ag (dY ms O).length cg) (dY ms O).length (iF (dY ms O))):=ii HO.out (λk hk=>ad.block k (HO.out.lt k hk).2 (by have:=(HO.out.lt k hk).1;intro e;cases e;omega));have bd:jt (kq Flat w2 (.slice ag (dY ms O).length cg)):=HF.out.stay (λk hk=>ad.block k (HO.out.lt k hk).2 (by have:=(HO.out.lt k hk).1;intro e;cases e;omega));have aT:r+1<=w2.heap.size:=by omega
    have au:=aD.out m (HP.out.mem_iff.1 (cc _ (ai.mem_iff.2 (bF ..))));have av:jt _:=Gc ms O m;have a5:jt _:=au;have bt:eX ms m.name<=1000:=vH ms m.name (λm hm=>(aD.out m hm).1);clear ai ac ae ad aE au HR HM HB HO;obtain⟨sg,at',nm,wd,n2,tx,wt,tg⟩:=m;simp only[mB.val,QQ]at ao⊢;obtain⟨wa,af⟩:∃wa,wa=((w2.alloc (.cells #[.int .i64 (sg:Int),.int .i64 (at':Int)] 170)).alloc (.cells #[.int .i64 (sg:Int),.int .i64 (at':Int),.string ⟨nm.toArray⟩,.bool wd,.string ⟨n2.toArray⟩,.string ⟨tx.toArray⟩,.int .i64 wt,.int .i64 tg] 172)):=⟨_,rfl⟩;have aa:Below w2.heap.size w2 wa:=by rw[af];exact(((eC _ _).alloc (ej _) _).alloc (by simp) _)
    have bu:wa.heap.size=w2.heap.size+2:=by rw[af];simp
    have a':jt (mn wa B r ms Y):=gp.stay HR1.out (aa.block B aq) (aa.block _ ap);have aA:jt (dM prog 9 wa w.heap.size nl):=dM.below HM1.out aa;have ak:jt (wa.ownsRow (r+1) 96 4 (.slice ag (dY ms O).length cg) (dY ms O).length (iF (dY ms O))):=ii aG.out (λk hk=>aa.block k (aG.out.lt k hk).2);have aH:jt (kq Flat wa (.slice ag (dY ms O).length cg)):=bd.out.stay (λk hk=>aa.block k (aG.out.lt k hk).2);have aI:jt (Below w.heap.size w wa):=HB1.out.trans (aa.mono (by omega))
    have HLa:jt (wa.rangeLeft B r<wr.rangeLeft B r):=by
     show _<_;rw[eF.jT (aa.block B aq) (aa.block _ ap)];exact aF.out
    cases wd with
    |false=>
     have ah:jt (dY ms (O++[⟨sg,at',nm,false,n2,tx,wt,tg⟩])=dY ms O):=by show _=_;rw[av.out];simp
     clear aa;go_wp2;rw[<-af];go_roundw
     case rel=>
      exact⟨O++[⟨sg,at',nm,false,n2,tx,wt,tg⟩],Y,qN HP.out ar.out,a'.out,aA.out,by rw[ah.out];exact ak.out,aI.out,by omega,aH.out⟩
     case measure=>exact HLa.out
    |true=>
     have al:=(aA.out.look (z:=.int .i64 0) fk ga (by kernel_rfl) nm a5.out.2).1;rw[bc.out nm,af]at al;by_cases hq:sg=eX ms nm
     .have ah:jt (dY ms (O++[⟨sg,at',nm,true,n2,tx,wt,tg⟩])=dY ms O++[⟨n2,false,tx,wt,tg⟩]):=by show _=_;rw[av.out];simp[hq,mB.Nf]
      rw[<-hq]at al;clear aa hq
      go_wp2_with (first
       |(at_builtin;rw[<-af];refine vX (F:=Flat) _ rfl _ _ 82 rfl (r+1) 96 i0 _ 4 48 hY hi aX aY aZ rfl (by decide) _ _ _ rfl (xJ ak.out _) _ 1 _ rfl (PV (e:=⟨n2,false,tx,wt,tg⟩) (by omega)) (GH _) ?c1 ?c2 ?c3 (by decide) (aH.out.stay (λk hk=>iM _ _ (ak.out.lt k hk).2)) (BB _) Mv ?_))
      case c1=>omega
      case c2=>unfold dj;omega
      case c3=>first|omega|(simp;omega)
      intro v3 w3 aw ax aC;rw[<-af]at ax;have bo:wa.heap.size<=w3.heap.size:=by have:=ax.size;simp at this;omega
      have hold:∀j,j<wa.heap.size->j<r+1->w3.heap[j]?=wa.heap[j]?:=λj hj bv=>by
       rw[ax.block j (by simp;omega) (λe=>by have:=(ak.out.lt j e.symm).1;omega),iM _ _ hj]
      have aU:B<wa.heap.size:=jl.lt (gp.owns a'.out);have be:jt (mn w3 B r ms Y):=gp.stay a'.out (hold B aU (by omega)) (hold r (by omega) (by omega));have bf:jt (dM prog 9 w3 w.heap.size nl):=dM.stay aA.out (hold _ (by omega) (by omega))
      have bg:jt (w3.ownsRow (r+1) 96 4 v3 (dY ms (O++[⟨sg,at',nm,true,n2,tx,wt,tg⟩])).length (iF (dY ms (O++[⟨sg,at',nm,true,n2,tx,wt,tg⟩])))):=by
       show w3.ownsRow _ _ _ _ _ _;rw[ah.out,I7,bG];exact aw
      have bh:jt (Below w.heap.size w w3):=(aI.out.alloc (by omega) _).grown ax (by simp;omega) (λb hb=>by have:=(ak.out.lt b hb).1;omega)
      have HL3:jt (w3.rangeLeft B r<wr.rangeLeft B r):=by
       show _<_;rw[eF.jT (hold B aU (by omega)) (hold r (by omega) (by omega))];exact HLa.out
      have bi:jt (kq Flat w3 v3):=aC;clear aC aw ax hold al ao af;go_wp2;go_roundw
      case rel=>
       exact⟨O++[⟨sg,at',nm,true,n2,tx,wt,tg⟩],Y,qN HP.out ar.out,be.out,bf.out,bg.out,bh.out,by omega,bi.out⟩
      case measure=>exact HL3.out
     have ah:jt (dY ms (O++[⟨sg,at',nm,true,n2,tx,wt,tg⟩])=dY ms O):=by show _=_;rw[av.out];simp[hq]
     have bw:¬((sg:Int)=(eX ms nm:Int)):=by omega
     clear aa;go_wp2;rw[<-af];go_roundw
     case rel=>
      exact⟨O++[⟨sg,at',nm,true,n2,tx,wt,tg⟩],Y,qN HP.out ar.out,a'.out,aA.out,by rw[ah.out];exact ak.out,aI.out,by omega,aH.out⟩
     case measure=>exact HLa.out
  intro m Y w2 ai ac ae ad aE ao;have ap:=gp.lt ac;have aq:=jl.lt (gp.owns ac);have HB1:jt (Below w.heap.size w w2):=mz HB.out ad (by omega);have HR1:jt (mn w2 B (w.heap.size+1) ms Y):=ac;have HM1:jt (dM prog 9 w2 w.heap.size nl):=dM.stay HM.out (ad.block _ (by omega) (by simp));have aF:jt (w2.rangeLeft B (w.heap.size+1)<wr.rangeLeft B (w.heap.size+1)):=ae;have ar:jt (ab.Perm (m::Y)):=ai;have aT:w.heap.size+2<=w2.heap.size:=by omega
  have au:=aD.out m (HP.out.mem_iff.1 (cc _ (ai.mem_iff.2 (bF ..))));have aV:=Gi U m;have av:jt _:=aV;have a5:jt _:=au;clear ai ac ae ad aE aV au;obtain⟨sg,at',nm,wd,n2,tx,wt,tg⟩:=m;simp only[mB.val,QQ]at ao⊢
  have aJ:jt (dM prog 9 ((w2.alloc (.cells #[.int .i64 (sg:Int),.int .i64 (at':Int)] 170)).alloc (.cells #[.int .i64 (sg:Int),.int .i64 (at':Int),.string ⟨nm.toArray⟩,.bool wd,.string ⟨n2.toArray⟩,.string ⟨tx.toArray⟩,.int .i64 wt,.int .i64 tg] 172)) w.heap.size nl):=
   dM.below HM1.out (((eC _ _).alloc (ej _) _).alloc (by simp) _)
  have al:=(aJ.out.look (z:=.int .i64 0) fk ga (by kernel_rfl) nm a5.out.2).1;rw[az.out nm]at al;go_wp2_with (first|(at_mapUpdate;refine jB _ rfl _ _ _ 179 rfl 3 fk ga rfl aJ.out ?c1 nm a5.out.2 rfl _ rfl ?_))
  case c1=>unfold dj;omega
  intro w5 aW aK bx;have bj:jt _:=aW;have aa:Below w2.heap.size w2 ((w2.alloc (.cells #[.int .i64 (sg:Int),.int .i64 (at':Int)] 170)).alloc (.cells #[.int .i64 (sg:Int),.int .i64 (at':Int),.string ⟨nm.toArray⟩,.bool wd,.string ⟨n2.toArray⟩,.string ⟨tx.toArray⟩,.int .i64 wt,.int .i64 tg] 172)):=(((eC _ _).alloc (ej _) _).alloc (by simp) _);have hold:∀j,j<w2.heap.size->j≠w.heap.size->w5.heap[j]?=w2.heap[j]?:=λj hj bk=>(aK.block j (by simp;omega) (by simp;exact λe=>bk e)).trans (aa.block j hj);have bl:jt (mn w5 B (w.heap.size+1) ms Y):=gp.stay HR1.out (hold B aq (by omega)) (hold _ ap (by omega))
  have HL5:jt (w5.rangeLeft B (w.heap.size+1)<wr.rangeLeft B (w.heap.size+1)):=by
   show _<_;rw[eF.jT (hold B aq (by omega)) (hold _ ap (by omega))];exact aF.out
  have bm:jt (Below w.heap.size w w5):=by
   show Below _ _ _;refine(HB1.out.trans (aa.mono (by omega))).grown aK (by simp;omega) (λb hb=>?_);cases hb;exact ej _
  have bn:w.heap.size+2<=w5.heap.size:=by omega
  clear al aK aW hold aa aJ ao;go_wp2;go_roundw
  case rel=>
   refine⟨U++[⟨sg,at',nm,wd,n2,tx,wt,tg⟩],Y,_,qN HP.out ar.out,bl.out,bj.out,?_,λx=>?_,bm.out,bn⟩;have:=QL nl nm (.int .i64 (max (eX U nm:Int) (sg:Int)));rw[bG,cF];omega;rw[N4,av.out x,az.out x];by_cases e:x=nm;subst e;rw[if_pos rfl,if_pos rfl];simp;omega;rw[if_neg e,if_neg (λh=>e h.symm)]
  case measure=>exact HL5.out
end
section
open Go.RowKit Go.Sort D
variable {F cur:Array Value}
def Sh(x y:Int):Dj x y<0↔x<y:=by
 unfold Dj;split;exact⟨λ_=>by assumption,λ_=>by omega⟩;split<;>constructor<;>intro h<;>omega
def CQ(x y:Int):Dj x y=0↔x=y:=by
 unfold Dj;split;constructor<;>intro h<;>omega;split<;>constructor<;>intro h<;>omega
def TV(x y:dp):ltOf Vj x y=true↔fy x y=true:=by
 unfold ltOf Vj fy;rw[decide_eq_true_eq];by_cases h:x.du=y.du;rw[if_pos h,if_neg (by rw[ke];exact(CQ ..).2 h.symm)];by_cases O:dG x=dG y;rw[if_pos O,if_neg (by rw[ke];exact(su ..).2 O),yk];rw[if_neg O,if_pos (λe=>O ((su ..).1 e)),yk];rw[if_neg h,if_pos (λe=>h ((CQ ..).1 e).symm),Sh];simp
def BD(x y:dp):fy x y=true\/(x.du=y.du/\dG x=dG y/\x.name=y.name)\/fy y x=true:=by
 unfold fy;by_cases h:x.du=y.du;rw[if_pos h,if_pos h.symm];by_cases U:dG x=dG y;rw[if_pos U,if_pos U.symm];rcases iD .. with O|O|O
 exact .inl O;exact .inr (.inl ⟨h,U,O⟩);exact .inr (.inr O);rw[if_neg U,if_neg (λe=>U e.symm)];rcases iD .. with O|O|O
 exact .inl O;exact absurd O U;exact .inr (.inr O);rw[if_neg h,if_neg (λe=>h e.symm)];simp only[decide_eq_true_eq];omega
def JJ{x y z:dp}(h:x.du=y.du/\dG x=dG y/\x.name=y.name)(O:fy x z=true):fy y z=true:=by
 unfold fy at *;rw[<-h.1,<-h.2.1,<-h.2.2];exact O
def vc(e:dp):dp:={e with text:=e.text.take 1048576}
def E8{e:dp}(h:e.text.length<=1048576):vc e=e:=by
 unfold vc;rw[cb h]
def Fc(e:dp):(vc e).text.length<=1048576:=by
 show(e.text.take _).length<=_;rw[ct];omega
def TY(x y:dp):Int:=Vj (vc x) (vc y)
def vI(e:dp):List Value:=mO (vc e)
def vE(x y:dp):ltOf TY x y=true↔fy (vc x) (vc y)=true:=TV ..
def Su:SWO (ltOf TY) where
 irrefl x:=by
  cases h:ltOf TY x x with
  |false=>rfl|true=>rw[vE,uM]at h;cases h
 trans x y z h1 h2:=by rw[vE]at *;exact oJ h1 h2
 ntrans x y z h1 h2:=by
  cases O:ltOf TY x z with
  |false=>rfl|true=>
   rw[vE]at O;have n1:¬fy (vc x) (vc y)=true:=by rw[<-vE,h1];simp
   have n2:¬fy (vc y) (vc z)=true:=by rw[<-vE,h2];simp
   rcases BD (vc x) (vc y)with h|h|h
   exact absurd h n1;exact absurd (JJ h O) n2;exact absurd (oJ h O) n2
def On(blk off size:Nat)(w:World):CmpLays prog 84 #[] vI 4 TY blk off size w:=by
 intro m os O _ x y;refine(F5 _ _ _ (Fc x) (Fc y)).mono ?_;rintro e w' ⟨rfl,h⟩;exact⟨rfl,Pm h⟩
def Ot(x:dp):∀v∈vI x,v.oneCell'=true:=GH _
def vk(es:List dp):(iF es).length=es.length*4:=by
 induction es with
 |nil=>rfl|cons a l O=>
  have e:iF (a::l)=mO a++iF l:=by simp[iF]
  rw[e];simp[mO];omega
def yz(es:List dp)(h:∀e∈es,e.text.length<=1048576):(lx vI 4 es.toArray).toList=iF es:=by
 apply bX;intro j;by_cases Y:j<es.length*4;have hs:j<(lx vI 4 es.toArray).size:=by simpa using Y
 have U:j / 4<es.length:=by omega
 have e1:es.toArray[j / 4]! = es[j / 4]:=by rw[getElem!_pos _ _ (by simpa using U)];simp
 have g:=get_flatK vI 4 es.toArray j (by simpa using Y);rw[e1]at g;have O:=E8 (h _ (bA U));unfold vI at g;rw[O]at g;have:=BN es _ (j % 4) U (by omega);rw[show j / 4*4+j % 4=j by omega]at this;rw[this];have O:j % 4<(mO es[j / 4]).length:=by simp[mO];omega
 rw[getElem!_pos (mO _) _ O,getElem!_pos _ j hs]at g;rw[b6 O,<-g,cV,cR hs];rfl;rw[bI (by simp;omega),bI (by rw[vk];omega)]
def Mo{w:World}{base e n m cap g:Nat}{ws:List dp}(h:w.ownsRow base e 4 (.slice (some ⟨g,0,none⟩) m cap) n (iF ws))(hn:n=ws.length)(hb:∀e∈ws,e.text.length<=1048576):HoldsK vI 4 w g 0 ws.toArray:=by
 subst hn;intro j Y;rw[ly]at Y;have hs:j<(lx vI 4 ws.toArray).size:=by simpa using Y
 have O:(iF ws)[j]?=some ((lx vI 4 ws.toArray)[j]!):=by
  rw[<-yz ws hb,getElem!_pos _ j hs,cV,cR hs]
 rcases h.2 with⟨h0,_⟩|⟨g',aa,cur,he,_,hg,_,_,ab,U⟩
 simp at h0;obtain⟨⟨rfl,_⟩,_,rfl⟩:=he;refine⟨?_,?_⟩;rw[dn hg];rw[<-U,bR,if_pos (by omega)]at O;simpa using O;simp[World.frozen?,hg]
def Qr(h:F.size<=cur.size):(lw id 0 F cur).toList.take F.size=F.toList:=by
 apply bX;intro j;by_cases O:j<F.size;rw[bR,cV];unfold lw;rw[cY,cR (by omega)];simp only[kN,et,Nat.zero_add,true_and,O,if_true,Nat.sub_zero,id];rw[getElem!_pos F j O,cV,cR O];rw[bI (by simp;omega),bI (by simp;omega)]
def S6{u:Value}(h:u∈(lw id 0 F cur).toList):u∈F.toList\/u∈cur.toList:=by
 unfold lw at h;simp at h;obtain⟨i,hi,rfl⟩:=h;split;rename_i O;rw[getElem!_pos F i O];simp;simp
def Ol(base:Nat)(au:Option Addr)(cu:Nat)(es:List dp)(w:World)(U:w.ownsRow base 96 4 (.slice au es.length cu) es.length (iF es))(am:(es.map dp.name).Nodup)(hl:es.length<=1048576)(hb:∀e∈es,e.text.length<=1048576)(ah:kq Flat w (.slice au es.length cu)) :
  di prog 83 #[.slice au es.length cu,.func (.func 84) #[] #[]] w λe w2=>e=.returned (.tuple #[])/\Below base w w2/\
   ∃L:List dp,L.Perm es/\L.Pairwise (λx y=>fy x y=true)/\w2.ownsRow base 96 4 (.slice au es.length cu) es.length (iF L)/\kq Flat w2 (.slice au es.length cu):=by
 rcases U.2 with⟨he,hn⟩|⟨g,cap,cur,he,Y,ac,h1,h2,h3,h4⟩
 have hG:es=[]:=bZ.1 (by simpa using hn);subst hG;have O:=AnyF.slices_SortFunc_none Lx au cu (.func (.func 84) #[] #[]) w;change di prog 83 _ _ _ at O;refine O.mono ?_;rintro e w2 ⟨rfl,rfl⟩;exact⟨rfl,eC _ _,[],k5 _,List.Pairwise.nil,U,ah⟩;simp only[kG]at he;obtain⟨rfl,_,rfl⟩:=he;have ad:g<w.heap.size:=(cQ.1 ac).1
 have O:=AnyQ.slices_SortFunc Lx 4 isAgg96 sizeOf96 vI (λ_=>rfl) Ot TY Su 84 #[] g 0 cu es.toArray w
  (enters_of func84 (by kernel_rfl) rfl) (On g 0 _ w) (Mo U rfl hb) ad (by simp;omega)
 change di prog 83 _ _ _ at O;refine O.mono ?_;rintro e w2 ⟨rfl,d',nq,os,hp,hs,rfl⟩;have ae:d'.size=es.length:=by rw[hp.1];simp
 have ai:(sortWorldK vI 4 w g 0 nq d' os).heap[g]?=some (.cells (lw id 0 (lx vI 4 d') cur) 96 (0,0)):=by
  unfold sortWorldK putRowK;rw[heap_grow_old _ _ (by simpa using ad)];simp[putRow,mapBlock,Sort.ahead,Array.getElem?_modify,ac,onCells]
 have eL:d'.toList.Perm es:=by
  have e1:d'.extract 0 es.toArray.size=d':=by rw[<-hp.1];simp
  have e2:es.toArray.extract 0 es.toArray.size=es.toArray:=by simp
  have p3:=hp.2.2;rw[e1,e2]at p3;exact p3
 have af:∀e∈d'.toList,e.text.length<=1048576:=λe he=>hb e (eL.mem_iff.1 he)
 have hF:=by
  have:=yz _ af;simpa using this
 have aj:(lx vI 4 d').size=es.length*4:=by rw[ly,ae]
 have ag:d'.toList.Pairwise (λx y=>fy x y=true):=by
  have aa:=(eL.map _).nodup_iff.2 am;rw[cC];intro i j hi hj ak;have an:d'.toList.length=es.toArray.size:=by simpa using ae
  have h:=hs i j (et _) ak (by omega);have gi:d'[i]! = d'.toList[i]:=by rw[getElem!_pos d' i _];rfl
  have gj:d'[j]! = d'.toList[j]:=by rw[getElem!_pos d' j _];rfl
  rw[gi,gj]at h;have ci:=E8 (af _ (bA hi));have cj:=E8 (af _ (bA hj));rcases BD _ _ with h'|h'|h'
  exact h';rw[cB,bU,cC]at aa;exact absurd h'.2.2 (aa i j hi hj ak);have:ltOf TY d'.toList[j] _=true:=(vE ..).2 (by rw[ci,cj];exact h');rw[h]at this;cases this
 refine⟨rfl,wA Y ad,d'.toList,eL,ag,⟨by rw[vk];simp[ae],.inr ⟨g,cu,_,rfl,Y,ai,h1,h2,by simp[lw,h3],?_⟩⟩,?_⟩;rw[<-aj,Qr (by rw[aj,h3];exact Nat.mul_le_mul_right _ h1),hF];intro g' cs e' f al ab u hu;simp only[Value.ownBlock,kx]at al;subst al;rw[ai]at ab;obtain⟨rfl,_⟩:=ab;rcases S6 hu with h|h
 rw[hF]at h;obtain⟨x,_,hx⟩:=cM.1 h;exact BB x u hx;exact ah g cur _ _ rfl ac u h
end
section
open Go.Conc Go.RowKit Go.Maps
variable {n:Nat} {cl:Nat->Option Nat}
def ve(w:World)(a:Addr)(v:Value):(w.setCell a v).heap.size=w.heap.size:=by simp
def KU(c:Code):Code:=match c with
 |.seq _ (.seq _ (.seq _ y))=>y|_=>.skip
def P7:f80.name≠ "runtime.NumGoroutine":=by
 decide
def FV:iv.name≠ "runtime.NumGoroutine":=by
 decide
def ma(cl:Nat->Option Nat)(n r:Nat):Nat->Option Nat:=λk=>if k=n then some r else cl k
def Lu{r:Nat}(h:n<7):(mT cl).set! n (.chan (some r))=mT (ma cl n r):=by
 rcases(by omega:n=0\/n=1\/n=2\/n=3\/n=4\/n=5\/n=6)with rfl|rfl|rfl|rfl|rfl|rfl|rfl<;>rfl
def qo(A:Ask)(num:Nat)(p:Nat×dp):mB:=if A.has p.2=true then⟨num,p.1,p.2.name,true,xI p.2,p.2.text,p.2.du,p.2.dE⟩else⟨num,p.1,p.2.name,false,[],[],0,0⟩
def FC(A:Ask)(num:Nat)(p:Nat×dp):(qo A num p).val=nC A num p:=by
 unfold qo nC;split<;>rfl
structure Gj(ms:List mB):Prop where
 len:ms.length<=1048576
 each:∀m∈ms,m.xy<=1000/\m.at'<4611686018427387904/\m.name.length<=dj
 places:(ms.map λm=>(m.xy,m.at')).Nodup
 names:((dY ms ms).map dp.name).Nodup
 texts:∀e∈dY ms ms,e.text.length<=1048576
def Ri{a b c d:Nat}(h:QQ a b=QQ c d):a=c/\b=d:=by
 unfold QQ at h;simp only[Value.agg.injEq,Array.mk.injEq,List.cons.injEq,Value.int.injEq,true_and,and_true]at h;omega
def Gj.all{ms:List mB}(h:Gj ms):NX (ms.map mB.val) where
 met:=λv U=>by
  obtain⟨m,hm,rfl⟩:=b4.1 U;have:=h.each m hm;exact⟨m.xy,m.at',_,_,_,_,_,_,by omega,this.2.1,rfl⟩
 nodup:=by
  rw[bC];have O:=h.places;rw[cB,bU]at O⊢;refine O.imp fun {x y} hne e=>hne ?_;have:=Ri (a:=x.xy) (b:=x.at') (c:=y.xy) (d:=y.at') e;rw[this.1,this.2]
 len:=by
  rw[bH];have:=h.len;unfold dj;omega
def RU{ms:List mB}{l:List (Value×Value)}(U:(l.map kt).Perm (ms.map mB.val))(Y:∀p∈l,p.1=NT p.2):l.Perm (ms.map mB.kv):=by
 have e:l=(l.map kt).map λv=>(NT v,v):=by
  rw[bC];conv=>lhs;rw[<-cG l]
  refine bK λp hp=>?_;show p=(NT _,p.2);rw[<-Y p hp]
 have O:=U.map λv=>(NT v,v);rw[bC (l:=ms)]at O;rw[e];exact O
def Pw(ms:List mB)(L:List dp):Prop:=L.Perm (dY ms ms)/\L.Pairwise λx y=>fy x y=true
def Ck(ms:List mB)(l cp:Nat):Prop:=l=0/\cp=0/\Pw ms []
def Cg(ms:List mB)(off:Nat)(spot:Option Nat)(l cp:Nat)(cs:Array Value)(e:dq)(f:Nat×Nat):Prop:=
 off=0/\spot=none/\e=96/\f=(0,0)/\∃L,Pw ms L/\l=L.length/\l<=cp/\cp<=dj/\cs.size=cp*4/\cs.toList.take (l*4)=iF L
section
variable {Z:jj prog} {w:World} {T:List Frame} {dd q K:Nat} {wl:World} {V:Vs}
def Dt{A:Ask}{es:List dp}{ex:Obj}{sa:Option Addr}{sc bx b s:Nat}{ms ms0:List mB}{a2 a3 a4 a6 a8 a9 a10 a11 a12 bh bi a15 a16 a17 a18 a19 a20 a21 a22 a23 a24 a25 a26 a27 a28 a29 bj bk bl bm bn bo bp bq br bs bt:Value}(hT:∀ps,T=[ps]->ps.mode≠.panicking [ee])
  (hs:s=wl.heap.size) (hA:A.Ok) (hK:K<=s+5) (h5:5<=s) (ag:dd<s) (ah:5<=q) (hq:q<w.heap.size) (aa:w.heap[q]?=some ex) (hM:sJ ex es) (ab:∀(r:Nat)a c,wl.heap[r]?≠some (.map a c))
  (hl:es.length<=100000) (ai:∀e∈es,e.name.length<=dj/\e.text.length<=1048576/\(e.gone=false->0<=e.dE/\e.dE<=255)) (hn:n<=6) (hV:∀x∈V,x.1<s)
  (aj:wl.heap[bx]?=some (.cells #[.int .i64 A.m,.string A.q,.int .i64 A.t] 94 (0,0))) (hb:wl.heap[b]?=some (.cells (mT cl) 125 (0,0)))
  (ak:∀k,n<=k->cl k=none) (jP:∀k r,k<7->cl k=some r->∃vs,(r,some vs)∈V) (fG:∀x∈V,∃k vs,k<7/\cl k=some x.1/\x.2=some vs) (sT:∀k k' r,k<7->k'<7->cl k=some r->cl k'=some r->k=k') (fO:(V.map ks).Nodup) (ac:V.length=n)
  (al:sV V=ms0.map mB.val) (am:ms=(gT es).map (qo A n)++ms0) (ad:Gj ms)
  (fin:∀(E₂:Env prog)aP aL aQ,E₂.Z=Z->E₂.T=T->E₂.w0=w->(aL=[]\/∃k2,aL=.code .ret::k2)->BX prog E₂ Tryz.f49 aP aQ (Ck ms) (Cg ms)->dh E₂ [⟨49,aP,aL⟩] aQ []) :
  dh (mV prog Z w T dd q K false) [⟨49,#[.slice sa n sc,.map (some dd),a2,a3,a4,.pointer (some ⟨bx,0,none⟩),a6,.pointer (some ⟨b,0,none⟩),a8,a9,a10,a11,a12,bh,bi,a15,a16,a17,a18,a19,a20,a21,a22,a23,a24,a25,a26,a27,a28,a29,bj,bk,bl,bm,bn,bo,bp,bq,br,bs,bt],[.code (KU (ed Tryz.f49))]⟩] wl V:=by
 have HA:jt _:=And.intro hs (And.intro hA (And.intro hK (And.intro h5 (And.intro ag (And.intro ah (And.intro hq (And.intro aa (And.intro hM (And.intro ab (And.intro hl (And.intro ai (And.intro hn (And.intro hV (And.intro aj hb))))))))))))));have HC:jt _:=And.intro ak (And.intro jP (And.intro fG (And.intro sT (And.intro fO (And.intro ac (And.intro al (And.intro am (And.intro ad (And.intro fin hT)))))))));clear hs hA hK h5 ag ah hq aa hM ab hl ai hn hV aj hb ak jP fG sT fO ac al am ad fin hT;show dh _ [⟨_,_,[.code (.seq (.region 7 _ false) (.seq (.region 8 _ false) (.seq (.region 9 _ false) (.seq (.region 10 _ false) .ret))))]⟩] _ _;refine dh.sr λkk HK=>?_
 (iterate 5 (refine fc ?_;go_simp));refine oe rfl (by rfl) (by kernel_rfl) λy0 an ap=>?_;have e0:=dn (by rw[an];exact HA.out.2.2.2.2.2.2.2.2.2.2.2.2.2.2.1);have HY:jt (y0.heap=wl.heap/\y0.os=wl.os):=⟨an,ap⟩;clear an ap;unfold fT;go_simp;simp only[iG];obtain⟨hs,hA,hK,h5,ag,ah,hq,aa,hM,ab,hl,ai,hn,hV,aj,hb⟩:=HA.out;rw[<-HY.out.1]at hs ab aj hb;clear e0;refine dh.qp #[.int .i64 (n:Int),.map (some dd),.agg #[.int .i64 A.m,.string A.q,.int .i64 A.t],l0,l0,l0,l0,l0,l0,l0,l0] (i:=6) (gP:=f80) (c:=ed f80) rfl rfl func80 (by kernel_rfl) P7 rfl (by simp[dQ]) (by kernel_rfl) ?_;refine yY n A es ex s hs rfl hA hK h5 ag ah hq aa hM ab hl ai (by omega) hV λw2 z2 o2 aR p2=>?_;obtain⟨ak,jP,fG,sT,fO,ac,al,am,ad,fin,hT⟩:=HC.out;have aw:b<s:=by rw[hs];exact(cQ.1 hb).1
 have aC:w2.heap[b]?=some (.cells (mT cl) 125 (0,0)):=(o2 b aw).trans hb;have aS:n<7:=by omega
 have H2:jt _:=And.intro z2 (And.intro o2 (And.intro p2 (And.intro aC aw)));clear ak jP fG sT fO ac al am ad fin hT hs hA hK h5 ag ah hq aa hM ab hl ai hV aj hb hn z2 o2 aR p2 aC aw;rw[fv];go_simp;have aT:(n:Int)<7:=by omega
 (refine fc ?_;go_simp);clear aT;refine oe rfl (by rfl) (by kernel_rfl) λy1 ao aq=>?_;have gb:y1.heap[b]?=some (.cells (mT cl) 125 (0,0)):=by rw[ao];exact H2.out.2.2.2.1
 have e0:y1.cell? ⟨b,n,none⟩=some (.chan (cl n)):=by
  rw[dn gb];rcases(by omega:n=0\/n=1\/n=2\/n=3\/n=4\/n=5\/n=6)with rfl|rfl|rfl|rfl|rfl|rfl|rfl<;>rfl
 have f0:y1.frozen? ⟨b,n,none⟩=false:=dO gb n;have aD:jt (y1.heap=w2.heap/\y1.os=w2.os):=⟨ao,aq⟩;have HG:jt _:=gb;clear ao aq gb;unfold fT;go_simp;simp only[iG];clear e0 f0;obtain⟨w3,av⟩:∃w3,w3=y1.setCell ⟨b,n,none⟩ (.chan (some (s+3))):=⟨_,rfl⟩;have g3:w3.heap[b]?=some (.cells (mT (ma cl n (s+3))) 125 (0,0)):=by rw[av,heap_set HG.out n (.chan (some (s+3))),<-Lu aS];simp only[cW]
 have o3:∀r,r≠b->w3.heap[r]?=w2.heap[r]?:=λr hr=>by rw[av,e8 _ _ _ _ hr,aD.out.1]
 have z3:w3.heap.size=s+5:=by rw[av,ve,aD.out.1];exact H2.out.1
 have p3:w3.os=w2.os:=by rw[av,qL];exact aD.out.2
 rw[<-av];clear av HG aD y1;have H3:jt _:=And.intro g3 (And.intro o3 (And.intro z3 p3));clear g3 o3 z3 p3;refine dh.ie HK ?_;clear HK kk;refine dh.sr λkk HK=>?_
 (iterate 3 (refine fc ?_;go_simp));have aU:IntKind.i64.wrap ((n:Int)+1)=(n:Int)+1:=by simp only[kB];omega
 rw[aU];clear aU;obtain⟨ak,jP,fG,sT,fO,ac,al,am,ad,fin,hT⟩:=HC.out;obtain⟨hs,hA,hK,h5,ag,ah,hq,aa,hM,ab,hl,ai,hn,hV,aj,hb⟩:=HA.out;obtain⟨g3,o3,z3,p3⟩:=H3.out;obtain⟨z2,o2,p2,aC,aw⟩:=H2.out;obtain⟨V2,ae⟩:∃V2,V2=(s+3,some ((gT es).map (nC A n)))::V:=⟨_,rfl⟩;have aV:(n:Int)+1=(V2.length:Int):=by rw[ae,cw,ac];rfl
 have ax:sV V2=ms.map mB.val:=by
  rw[ae];show(gT es).map (nC A n)++sV V=_;rw[al,am,b8,bC];congr 1;refine bK λp _=>(FC A n p).symm
 have aM:∀k r,cl k=some r->k<7->r≠s+3:=λk r hr hk e=>by
  obtain⟨vs,h⟩:=jP k r hk hr;have:=hV _ h;simp only at this;omega
 have aH:∀k r,k<7->ma cl n (s+3) k=some r->∃vs,(r,some vs)∈V2:=λk r hk hr=>by
  unfold ma at hr;rw[ae];split at hr
  cases hr;exact⟨_,bF ..⟩;obtain⟨vs,h⟩:=jP k r hk hr;exact⟨vs,bN _ h⟩
 have ay:∀x∈V2,∃k vs,k<7/\ma cl n (s+3) k=some x.1/\x.2=some vs:=λx hx=>by
  rw[ae]at hx;rcases bB.1 hx with rfl|hx
  exact⟨n,_,aS,by unfold ma;rw[if_pos rfl],rfl⟩;obtain⟨k,vs,a1,a2,a3⟩:=fG x hx;refine⟨k,vs,a1,?_,a3⟩;have:k≠n:=λe=>by rw[e,ak n (ej _)]at a2;cases a2
  unfold ma;rw[if_neg this];exact a2
 have aI:∀k k' r,k<7->k'<7->ma cl n (s+3) k=some r->ma cl n (s+3) k'=some r->k=k':=λk k' r hk aW h1 h2=>by
  unfold ma at h1 h2;split at h1<;>split at h2;omega
  cases h1;exact absurd rfl (aM k' _ h2 aW)
  cases h2;exact absurd rfl (aM k _ h1 hk);exact sT k k' r hk aW h1 h2
 have ar:(V2.map ks).Nodup:=by
  rw[ae,bJ,bO];refine⟨λh=>?_,fO⟩;obtain⟨x,hx,e⟩:=b4.1 h;have:=hV x hx;simp only at e;omega
 rw[aV,<-ae];refine dh.qp (#[.pointer (some ⟨b,0,none⟩),.int .i64 (V2.length:Int),l0,l0,l0,l0,l0,l0,l0,l0,l0,l0,l0,l0,l0,l0,l0,l0,l0,l0,l0,l0,l0,l0,l0,l0,l0,l0,l0,l0]:Array Value) (i:=3) (gP:=iv) (c:=ed iv) rfl rfl func82 (by kernel_rfl) FV rfl (by simp[dQ]) (by kernel_rfl) ?_;refine Ff (mb:=s+5) rfl ad.all z3.symm (by omega) g3 aH ay aI ar (by rw[ae,cw,ac];omega) ax ?_;intro w4 l aX aY aZ _ _;have aN:Kg w4 (s+5) ms:=aZ.perm (RU aX aY);have ba:=aN.lt;have bc:jt _:=And.intro aN ba
 have bd:∀b,w.heap[b]?=some pF->b<w.heap.size/\(true=true->b≠q):=λb hb=>⟨(cQ.1 hb).1,λ_ e=>by
  obtain⟨a,c,hx⟩:=hM.isMap;rw[e,aa,hx]at hb
  cases hb⟩
 have bu:jt _:=bd;clear ak jP fG sT fO ac al am hs hA hK h5 ag ah hq aa hM ab hl ai hn hV aj hb g3 o3 z3 p3 z2 o2 p2 aC aw ae aV ax aM aH ay aI ar aX aY aZ aN ba HA HC H2 H3;have HF:jt _:=And.intro ad (And.intro fin hT);clear ad fin hT bd;show dh _ [⟨_,eP _ _ _,_⟩] _ _;rw[fv];go_simp;refine oe rfl (by rfl) (by kernel_rfl) λy0 an ap=>?_;have be:Kg y0 (s+5) ms:=jl.stay bc.out.1 (by rw[an]);have az:s+6<=y0.heap.size:=by rw[an];exact bc.out.2
 have aJ:=Ei (s+5) ms y0 be HF.out.1.len λm hm=>⟨(HF.out.1.each m hm).1,(HF.out.1.each m hm).2.2⟩;clear an ap be;unfold fT;go_simp;simp only[iG];refine⟨trivial,aJ.mono ?_⟩;clear aJ;rintro e w5 ⟨v,af,rfl,O,U,aE,a5⟩;refine⟨v,rfl,?_⟩;obtain⟨aO,aF,rfl,bf⟩:=jo U;have HO:jt _:=And.intro O (And.intro U (And.intro aE (And.intro a5 az)));clear O U aE a5 az bf
 (refine fc ?_;go_simp);refine dh.ie HK ?_;clear HK kk;refine dh.sr λkk HK=>?_
 (refine fc ?_;go_simp);refine oe rfl (by rfl) (by kernel_rfl) λy1 ao aq=>?_;obtain⟨O,U,aE,a5,az⟩:=HO.out;have eL:(dY ms af).Perm (dY ms ms):=Gw O;have a':y1.ownsRow y0.heap.size 96 4 (.slice aO (dY ms af).length aF) (dY ms af).length (iF (dY ms af)):=ii U (λk hk=>by rw[ao]);have aA:=Ol y0.heap.size aO aF (dY ms af) y1 a' ((eL.map _).nodup_iff.2 HF.out.1.names) (by have h1:=Cy ms af;have h2:=O.length_eq;have h3:=HF.out.1.len;omega) (λe he=>HF.out.1.texts e (eL.mem_iff.1 he)) (a5.stay λg hg=>by rw[ao]);have HP:jt _:=And.intro eL az;clear O U aE a5 az eL a' ao aq HO;unfold fT;go_simp;simp only[iG];refine⟨trivial,aA.mono ?_⟩;clear aA;rintro e w6 ⟨rfl,bv,L,aB,aG,Y,au⟩;refine⟨_,rfl,?_⟩;have H6:jt _:=And.intro aB (And.intro aG (And.intro Y au));clear bv aB aG Y au;refine dh.ie HK ?_;clear HK kk;refine dh.seq ?_;refine dh.region ?_
 (iterate 2 (refine fc ?_;go_simp));refine dh.inRegion ?_;refine HF.out.2.1 _ _ _ _ rfl rfl rfl (.inr ⟨_,rfl⟩) ⟨⟨.slice aO (dY ms af).length aF,λτ=>by simp[ef,results49,go_sem],?_⟩,bu.out⟩;obtain⟨aB,aG,Y,au⟩:=H6.out;have hL:L.length=(dY ms af).length:=aB.length_eq;have aK:Pw ms L:=⟨aB.trans HP.out.1,aG⟩;rcases Y.2 with⟨he,b0⟩|⟨g,cap,cur,he,bw,bg,h1,h2,h3,h4⟩
 left;simp only[kG]at he;refine⟨_,_,?_,he.2.1,he.2.2,?_⟩;rw[he.1];have:L=[]:=cy (by omega);rw[<-this];exact aK;right;simp only[kG]at he;obtain⟨rfl,_,rfl⟩:=he;refine⟨g,0,none,_,aF,cur,_,_,rfl,bg,au g cur _ _ rfl bg,λm hm bz=>?_,rfl,rfl,rfl,rfl,L,aK,hL.symm,h1,h2,h3,h4⟩;have:=hm.x.2.2 g bz;have:=HP.out.2;omega
end
end
section
open Go.Conc Go.RowKit Go.Maps
def atKey_mem{L:List (Lit×DataW Value)}(O:L.Pairwise (λp q=>p.1≠q.1)){k:Lit}{d:DataW Value}(Y:WideAt.IsKeyLit k)(hm:(k,d)∈L)(z:DataW Value):(DataW.map L).atKey k z=d:=by
 unfold DataW.atKey;simp only
 have:L.find? (λp=>p.1.sameKey k)=some (k,d):=by
  induction L with
  |nil=>cases hm
  |cons a L ih=>
   rw[List.pairwise_cons]at O;rw[bQ];rcases bB.1 hm with e|hm
   rw[<-e];simp only[WideAt.sameKey_self Y];have U:=O.1 _ hm;rw[sameKey_ne U];exact ih O.2 hm
 rw[this]
def Q8(e:dp):Flat (j6 e).2:=by
 refine .agg λi hi=>?_;have:=hi;match i,this with
 |0,_=>exact .bool _|1,_|2,_=>exact .string _|3,_|4,_=>exact .int ..
def P'{x:MapEntry}(O:Flat x.key)(U:Flat x.val)(m:Ren):tX m x x:=⟨O.refl m,U.refl m,rfl⟩
def LX{es:List MapEntry}(h:∀x∈es,Flat x.key/\Flat x.val)(m:Ren):dT (tX m) es es:=by
 induction es with
 |nil=>exact .nil|cons a l O=>exact .cons (P' (h a (by simp)).1 (h a (by simp)).2 m) (O λx U=>h x (by simp[U]))
def RH{es U:List MapEntry}{m:Ren}(h:∀x∈es,Flat x.key/\Flat x.val)(ha:dT (tX m) es U):U=es:=by
 induction ha with
 |nil=>rfl|@cons a b l l' O _ ih=>
  have Y:=h a (by simp);have e1:=Y.1.eq m _ O.key;have e2:=Y.2.eq m _ O.val;have e3:=O.born;rw[ih λx hx=>h x (by simp[hx])];cases a;subst e1 e2 e3;rfl
def Hw{w:World}{B:Nat}{es:List dp}(h:eE w B es):∃ex,w.heap[B]?=some ex/\sJ ex es:=by
 obtain⟨D,⟨xs,clock,hb,F,ac,hD⟩,hS⟩:=h
 have aa:∀x∈xs.toList,Flat x.key/\Flat x.val:=by
  intro x hx;obtain⟨y,hy⟩:=F.reads x hx;have gu:=WideElems.rd_key hy;obtain⟨nm,ad,ae⟩:=Ls fk gu
  have af:y=(.string nm,.held x.val):=by
   unfold WideElems.rd at hy;rw[gu]at hy;simp only[kT,lF,kN,kx]at hy;rw[<-hy,ae]
  refine⟨by rw[ad];exact .string _,?_⟩;have ab:(Lit.string nm,DataW.held _)∈(xs.toList.map (WideElems.rg _ 9 lF)).foldr _ []:=mem_sorted.2 (b4.2 ⟨x,hx,by rw[WideElems.rg_of hy,af]⟩);have ag:=(WideShapes.sorted_perm _).symm.pairwise (F.apart (WideMaps.string_law fk)) (λh=>h.symm);have U:=atKey_mem ag (k:=.string nm) trivial ab;rw[<-hD]at U;have O:=has_true_of_atKey U;rw[hS.has nm,List.any_eq_true]at O;obtain⟨p,hp,Y⟩:=O;have Y:=by simpa using Y
  have h2:=hS.at_ p hp (.held x.val);rw[Y,U]at h2;have h3:=by simpa using h2
  rw[h3];obtain⟨e,_,rfl⟩:=b4.1 hp;exact Q8 e
 refine⟨.map xs clock,hb,⟨xs,clock,rfl⟩,λm=>.map clock (LX aa m),λm o' ho=>?_,λw' B' ah=>?_⟩
 cases ho with
 |@map _ ai _ ha=>
  have:=RH aa ha;simp at this;rw[this]
 exact⟨D,⟨xs,clock,ah,F,ac,hD⟩,hS⟩
end
section
open Go.Conc
variable {q:Nat} {b5:Option Nat} {m:Ren} {w:World}
def VR.flatten{x x':Value}(h:VR m x x'):∃y,(∀U,VR U y x')/\(Flat x->y=x)/\∀t z,x=.iface t z->∃z',y=.iface t z':=by
 induction h with
 |fV v hv=>exact⟨_,λ_=>.fV v hv,λO=>(by cases O),λ_ _ e=>(by cases e)⟩|bool b=>exact⟨_,λ_=>.bool b,λ_=>rfl,λ_ _ e=>(by cases e)⟩|int k n=>exact⟨_,λ_=>.int k n,λ_=>rfl,λ_ _ e=>(by cases e)⟩|string s=>exact⟨_,λ_=>.string s,λ_=>rfl,λ_ _ e=>(by cases e)⟩|gR=>exact⟨_,λ_=>.gR,nofun,λ_ _ e=>(by cases e)⟩|fE l c=>exact⟨_,λ_=>.fE l c,nofun,λ_ _ e=>(by cases e)⟩|mQ=>exact⟨_,λ_=>.mQ,nofun,λ_ _ e=>(by cases e)⟩|je=>exact⟨_,λ_=>.je,nofun,λ_ _ e=>(by cases e)⟩|nilFunc=>exact⟨_,λ_=>.nilFunc,nofun,λ_ _ e=>(by cases e)⟩|nilIface=>exact⟨_,λ_=>.nilIface,nofun,λ_ _ e=>(by cases e)⟩|ptr _=>exact⟨_,λ_=>.fV _ trivial,λO=>(by cases O),λ_ _ e=>(by cases e)⟩|slice _ _ _=>exact⟨_,λ_=>.fV _ trivial,λO=>(by cases O),λ_ _ e=>(by cases e)⟩|map _=>exact⟨_,λ_=>.fV _ trivial,λO=>(by cases O),λ_ _ e=>(by cases e)⟩|gone _=>exact⟨_,λ_=>.fV _ trivial,λO=>(by cases O),λ_ _ e=>(by cases e)⟩|chan _=>exact⟨_,λ_=>.fV _ trivial,λO=>(by cases O),λ_ _ e=>(by cases e)⟩|iface t _ ih=>
  obtain⟨y,h1,_,_⟩:=ih;exact⟨.iface t y,λU=>.iface t (h1 U),λO=>(by cases O),λ_ _ e=>(by cases e;exact⟨_,rfl⟩)⟩
 |tuple _ _ _=>exact⟨_,λ_=>.fV _ trivial,λO=>(by cases O),λ_ _ e=>(by cases e)⟩|func O _ _ _ _ _ _=>
  cases O with
  |func f _=>exact⟨_,λ_=>.fV _ trivial,λO=>(by cases O),λ_ _ e=>(by cases e)⟩|yield _=>exact⟨_,λ_=>.fV _ trivial,λO=>(by cases O),λ_ _ e=>(by cases e)⟩
 |@ri lf n f c hs hi hx ih=>
  have Y:∀i(h:i<lf.size),∃y,(∀U,VR U y (f[i]'(hs▸h)))/\(Flat _->y=lf[i])/\∀t z,lf[i]=.iface t z->∃z',y=.iface t z':=λi h=>ih i h _;refine⟨.func _ (dc λi=>kd (Y _ i.2)) _,λU=>.ri (by simp[hs]) (λi h h'=>?_) (λt w hw=>?_),λO=>(by cases O),λ_ _ e=>(by cases e)⟩;simp only[cT];exact(kc (Y i _)).1 U;obtain⟨x,h0⟩:=hx t w hw;obtain⟨hl,e0⟩:=cQ.1 h0;obtain⟨z,hz⟩:=(kc (Y 0 hl)).2.2 t x e0;refine⟨z,?_⟩;rw[cR (by simpa using hl)];simp only[cT];rw[hz]
 |@agg c c' hs hi ih=>
  have Y:∀i(h:i<c.size),∃y,(∀U,VR U y (c'[i]'(hs▸h)))/\(Flat _->y=c[i])/\∀t z,c[i]=.iface t z->∃z',y=.iface t z':=λi h=>ih i h _;refine⟨.agg (dc λi=>kd (Y _ i.2)),λU=>.agg (by simp[hs]) λi h h'=>?_,λO=>?_,λ_ _ e=>(by cases e)⟩;simp only[cT];exact(kc (Y i _)).1 U;congr 1;refine df (by simp) λi h1 h2=>?_;simp only[cT];refine(kc (Y i h2)).2.1 ?_
  cases O with
  |agg O=>exact O i h2
def eD.flatten{c Y:Array Value}(h:eD m c Y):∃c1,(∀U,eD U c1 Y)/\c1.size=c.size/\∀i(O:i<c1.size)(h2:i<c.size),Flat c[i]->c1[i]=c[i]:=by
 have hc:∀i(O:i<c.size),∃y,(∀U,VR U y (Y[i]'(h.size▸O)))/\(Flat _->y=c[i]):=λi O=>by
  obtain⟨y,g1,g2,_⟩:=(h.idx i O _).flatten;exact⟨y,g1,g2⟩
 refine⟨dc λi=>kd (hc _ i.2),λU=>eD.il (by simp[h.size]) λi O h2=>?_,by simp,λi O h2 hf=>?_⟩;simp only[cT];exact(kc (hc i _)).1 U;simp only[cT];exact(kc (hc i h2)).2 hf
def xU:Obj:=.cells #[] 0 (0,0)
def VB(o:Obj)(w:World):World:={w with heap:=#[xU,xU,xU,xU,xU,o,xU]}
def U4(b5:Option Nat)(q:Nat)(h5:∀b,b5=some b->5<=b):Ren where
 blk:=λr=>if r=5 then b5 else none
 ch:=λ_=>none
 loose:=λr=>r=5
 ok:=OW prog NR DF false
 fF:=λf=>NR f=true
 iq:=False
 dead:=λr=>r=6
 dm:=λ_=>q
 sW:=λ_ _=>none
 lz:=λ_=>none
 G:=5
 po:=λr r' h=>by
  split at h
  .rename_i e
   have:=h5 r' h
   omega
  .cases h
 inj:=λr s t O U=>by
  split at O
  .split at U
   .omega
   .cases U
  .cases O
 vF:=λ_ _ _ h=>by cases h
def T9{Z:jj prog}{T:List Frame}(h5:∀b,b5=some b->5<=b):Rg (mV prog Z w T 6 q 6 false) (U4 b5 q h5):=
 ⟨Dr _ rfl rfl zN.symm,id,λ_ _ h=>(by cases h),rfl,rfl,rfl,rfl,λr O=>by have:r=5:=O;omega⟩
def TO(h5:∀b,b5=some b->5<=b)(hw:5<=w.heap.size){c1:Array Value}{e5:dq}(hb:∀b,b5=some b->∃Y f',w.heap[b]?=some (.cells Y e5 f')/\∀m1,eD m1 c1 Y) :
  WR (U4 b5 q h5) (VB (.cells c1 e5 (0,c1.size)) w) w:=by
 have key:∀r r',(U4 b5 q h5).blk r=some r'->r=5/\b5=some r':=λr r' h=>by
  have h:(if r=5 then b5 else none)=some r':=h;split at h;exact⟨by assumption,h⟩
  cases h
 refine⟨λr r' O=>?_,λr r' c e f Y e' f' O h1 h2 hn=>?_,λr r' c e f Y e' f' O h1 h2 hl o ho=>?_,λ_ _ h=>(by cases h),by show 5<=7;omega,hw,rfl,λ_ _ h=>(by cases h),λr r' O hl=>?_,λr O=>?_,λr i v hv=>(by cases hv)⟩;obtain⟨rfl,U⟩:=key r r' O;obtain⟨Y,f',g1,g2⟩:=hb r' U;exact⟨_,_,rfl,g1,.cells e5 _ f' (g2 _)⟩;obtain⟨rfl,U⟩:=key r r' O;exact absurd rfl hn;obtain⟨rfl,U⟩:=key r r' O;obtain⟨rfl,_,rfl⟩:=h1;show 0<=o/\o<c1.size;omega;obtain⟨rfl,U⟩:=key r r' O;exact⟨_,_,_,rfl⟩;have:=O;subst this;exact⟨rfl,_,_,_,rfl⟩
end
section
open Go.Conc Go.RowKit Go.Maps
section
variable {A:Ask} {es:List dp}
def AC(es:List dp):gT es=(cn es.length).map λk=>(k,(qR es).getD k ⟨[],false,[],0,0⟩):=by
 apply bX;intro k;rw[rB,bV];have O:=(nQ es).length_eq;by_cases h:k<es.length;rw[List.getElem?_range h];simp[bD,b6 (show k<(qR es).length by omega)];rw[bI (by omega),bI (by simp;omega)];rfl
def iA(num:Nat)(p:Nat×dp):(qo A num p).xy=num/\(qo A num p).at'=p.1/\(qo A num p).name=p.2.name/\(qo A num p).wanted=A.has p.2:=by
 unfold qo;split;exact⟨rfl,rfl,rfl,by simp_all⟩;exact⟨rfl,rfl,rfl,by simp_all⟩
def uq{e:dp}(h:A.has e=true):e.gone=false:=by
 unfold Ask.has at h
 cases O:e.gone with
 |false=>rfl|true=>rw[O]at h;simp at h
def Hn{num:Nat}{p:Nat×dp}(h:A.has p.2=true):(qo A num p).Nf=p.2:=by
 have O:=uq h;obtain⟨k,nm,U,tx,wt,tg⟩:=p;subst O;unfold qo;rw[if_pos h];rfl
def EV(es:List dp):(gT es).map kt=qR es:=by
 apply bX;intro k;rw[bV,rB];cases(qR es)[k]?<;>rfl
end
def Qd:Tryz.f49.name≠ "runtime.NumGoroutine":=by
 decide
end
section
open Go.RowKit Go.Sort
def QZ:∀n,lp n=om n:=by
 intro n;induction n using Nat.strongRecOn with
 |ind n O=>
  have e:∀d,d<=9->UInt8.ofNat (48+d)=48+UInt8.ofNat d:=λd U=>by
   rcases(by omega:d=0\/d=1\/d=2\/d=3\/d=4\/d=5\/d=6\/d=7\/d=8\/d=9)with rfl|rfl|rfl|rfl|rfl|rfl|rfl|rfl|rfl|rfl<;>rfl
  by_cases h:n<=9;rw[pG h,lp,dif_pos (by omega),e n h];rw[n9 h,lp,dif_neg (by omega),O _ (by omega),e _ (by omega)]
def Po(n:Nat)(Y:n<9223372036854775808)(w:World)(O:ls prog w "internal/strconv.uint64pow10" .u64 lv) :
  di prog 85 #[.int .i64 (n:Int)] w λe w'=>e=.returned (.string ⟨(om n).toArray⟩)/\eK w w':=by
 have h:=Any.strconv_Itoa Qi n (by omega) (by omega) w O;refine h.mono ?_;rintro e w' ⟨rfl,k,os,rfl⟩;refine⟨?_,⟨rfl,rfl,rfl,by simp[grow,World.drewN],λj U=>?_⟩⟩;unfold Lib.itoa;rw[if_neg (by omega),ln,QZ];show(w.heap++os)[j]?=_;rw[Array.getElem?_append_left U]
def Pf(e:dp)(w:World)(O:0<=e.du)(hI:∀y,eK w y->di prog 85 #[.int .i64 e.du] y λen w'=>en=.returned (.string ⟨(om e.du.toNat).toArray⟩)/\eK y w')(hn:e.name.length<=65536)(ht:e.text.length<=1048576)(hd:(om e.du.toNat).length<=100) :
  di prog 51 #[.agg #[.string ⟨e.name.toArray⟩,.string ⟨e.text.toArray⟩,.int .i64 e.du,.int .i64 e.dE]] w λen w'=>en=.returned (.string ⟨(fN e).toArray⟩)/\eK w w':=by
 obtain⟨nm,gn,tx,wt,tg⟩:=e;simp only at O hI hn ht hd⊢;obtain⟨db,U⟩:∃db:ByteArray,db=⟨(om wt.toNat).toArray⟩:=⟨_,rfl⟩;obtain⟨nb,Y⟩:∃nb:ByteArray,nb=⟨nm.toArray⟩:=⟨_,rfl⟩;obtain⟨tb,aa⟩:∃tb:ByteArray,tb=⟨tx.toArray⟩:=⟨_,rfl⟩;have ae:nb.size<=65536:=by rw[Y];show nm.toArray.size<=_;simpa using hn
 have af:tb.size<=1048576:=by rw[aa];show tx.toArray.size<=_;simpa using ht
 have ag:db.size<=100:=by rw[U];show(om wt.toNat).toArray.size<=_;simpa using hd
 have k0:¬9223372036854775807<nb.size+1:=by omega
 have k1:¬9223372036854775807<nb.size+1+db.size:=by omega
 have k2:¬9223372036854775807<nb.size+1+db.size+1:=by omega
 have k3:¬9223372036854775807<nb.size+1+db.size+1+tb.size:=by omega
 rw[<-U]at hI;rw[<-Y,<-aa];have HI:jt _:=hI;have ab:jt (db=⟨(om wt.toNat).toArray⟩/\nb=⟨nm.toArray⟩/\tb=⟨tx.toArray⟩):=⟨U,Y,aa⟩;clear hI O hn ht hd U Y aa;obtain⟨w0,O⟩:∃w0,w0=w.alloc (.cells #[.string nb,.string tb,.int .i64 wt,.int .i64 tg] 96):=⟨_,rfl⟩
 have hA:∀j,w0.cell? ⟨w.heap.size,j,none⟩=(#[Value.string nb,.string tb,.int .i64 wt,.int .i64 tg]:Array Value)[j]?:=λj=>by
  rw[O,kb _ _ _ _ rfl]
 have ac:jt (eK w w0):=by rw[O];exact eK.alloc _ _
 have d0:w0.cell? ⟨w.heap.size,0,none⟩=some (.string nb):=hA 0;have d1:w0.cell? ⟨w.heap.size,1,none⟩=some (.string tb):=hA 1;have d2:w0.cell? ⟨w.heap.size,2,none⟩=some (.int .i64 wt):=hA 2;clear hA;go_enter func51,ntmps51;go_wp2_with fail;rw[<-O];clear O;refine jN (by kernel_rfl) ?_;refine dy 0 ?_ ?_<|dy 1 ?_ ?_<|dy 2 ?_ ?_<|dy 3 ?_ ?_<|dy 4 ?_ ?_ ?_
 any_goals(intro y hy;have q:=dg hy d0;have q1:=dg hy d2;unfold fT;go_simp;refine⟨eK.refl _,?_⟩;with_reducible rfl)
 go_simp;refine dy 5 ?_ ?_ ?_;rotate_left
 .intro y hy;unfold fT;go_simp;refine⟨rfl,(HI.out y ((eK.trans ac.out hy))).mono ?_⟩;rintro e y2 ⟨rfl,h2⟩;refine⟨_,rfl,h2,?_⟩;with_reducible rfl
 go_simp;refine dy 6 ?_ ?_<|dy 7 ?_ ?_<|dy 8 ?_ ?_<|dy 9 ?_ ?_<|dy 10 ?_ ?_<|dy 11 ?_ ?_ ?_
 any_goals(intro y hy;have q:=dg hy d1;unfold fT;go_simp;refine⟨eK.refl _,?_⟩;with_reducible rfl)
 go_simp;refine sP (by kernel_rfl) ?_ _;intro y hy;have ad:jt (eK w y):=eK.trans ac.out hy;clear hy;go_simp;go_wp2;go_ret;refine⟨?_,ad.out⟩;show Ending.returned (.string (nb++⟨#[32]⟩++db++⟨#[32]⟩++tb))=_;obtain⟨rfl,rfl,rfl⟩:=ab.out;congr 2;unfold fN;apply la;simp[kW]
end
section
open Go.Conc Go.RowKit Go.Maps
variable {listed:Array Bool} {ops:Array Oper} {c:Code} {rest:List Nat} {b i:Nat} {o:Oper} {md:Region.Mode} {W:World}
noncomputable def marked (W:World) (Mp:Nat->Prop):World:={W with heap:=W.heap.mapIdx λb x=>@ite _ (Mp b) (kf _) pF x}
def Ct{Mp:Nat->Prop}(h:¬Mp b):(marked W Mp).heap[b]?=W.heap[b]?:=by
 show(W.heap.mapIdx _)[b]?=_;rw[cY]
 cases W.heap[b]? with
 |none=>rfl|some x=>simp[h]
def NC{Mp:Nat->Prop}(hb:b<W.heap.size)(h:Mp b):(marked W Mp).heap[b]?=some pF:=by
 show(W.heap.mapIdx _)[b]?=_;rw[cY,cR hb];simp[h]
def wX(W:World)(Mp:Nat->Prop):(marked W Mp).heap.size=W.heap.size:=by
 show(W.heap.mapIdx _).size=_;simp
noncomputable def fg (Z:jj prog) (W0:World) (Mp:Nat->Prop):Env prog where
 Z:=Z
 fK:=λb=>b<W0.heap.size/\¬Mp b
 w0:=marked W0 Mp
 T:=[]
 gl:=λg=>rj g=true
 st:=true
 fF:=λf=>tP f=true
 ok:=OW prog tP rj true
 X:=λm=>(∀r,Mp r->m.blk r=some r)/\∀r o v,Mp r->W0.cell? ⟨r,o,none⟩=some v->m.sW r o=some v
 le:=λ_ _ h x=>⟨λr hr=>h.blk r r (x.1 r hr),λr o v hr hv=>by rw[h.sW];exact x.2 r o v hr hv⟩
def GM(Z:jj prog)(W0:World)(Mp:Nat->Prop):∀b,b<(fg Z W0 Mp).w0.heap.size->(fg Z W0 Mp).fK b\/(fg Z W0 Mp).w0.heap[b]?=some pF:=λb hb=>by
 have hb:b<W0.heap.size:=by rw[<-wX W0 Mp];exact hb
 by_cases h:Mp b;exact .inr (NC hb h);exact .inl ⟨hb,h⟩
section
variable {Z:jj prog} {W0:World} {Mp:Nat->Prop} {fn:dk} {tm:Array Value} {os:List OF} {wl:World} {V:List (Nat×Option (List Value))} {k:List Item}
def yC(hi:ops[i]?=some o)(U:j1 o (dr ops tm)=true)(Y:EB prog tP rj true o.op=true)
  (O:∀τ,fT prog o ⟨tm,[]⟩ (tp wl τ) (λv y=>dh (fg Z W0 Mp) (⟨fn,(Act.put ⟨tm,[]⟩ o.dst v).tmps,.inRegion ops rest::k⟩::os) y V)):dh (fg Z W0 Mp) (⟨fn,tm,.inRegion ops (i::rest)::k⟩::os) wl V:=
 dh.TM hi U (vQ Y) O
def dI{v:Value}(h:dh (fg Z W0 Mp) (⟨fn,(Act.put ⟨tm,[]⟩ o.dst v).tmps,.inRegion ops rest::k⟩::os) wl V)(hi:ops[i]?=some o:=by rfl)(U:∀y:World,fT prog o ⟨tm,[]⟩ y (λu Y=>Same y Y/\u=v):=by intro y;unfold fT;go_simp;refine⟨rfl,?_⟩;with_reducible rfl)
  (O:j1 o (dr ops tm)=true:=by rfl) (ho:EB prog tP rj true o.op=true:=by kernel_rfl):dh (fg Z W0 Mp) (⟨fn,tm,.inRegion ops (i::rest)::k⟩::os) wl V:=dh.pu hi O (vQ ho) U h
def LV(O:jE (λo=>EB prog tP rj true o.op) c=true)(U:k.all iT=true)(Y:os≠[])(h:∀y0:World,y0.heap=wl.heap->y0.os=wl.os->c.wp prog (Fw (fg Z W0 Mp) fn k os V) ⟨tm,[]⟩ y0):dh (fg Z W0 Mp) (⟨fn,tm,.code c::k⟩::os) wl V:=
 dh.ET (nI O) U (.inl Y) λτ _=>h _ rfl rfl
def H'(O:jE (λo=>EB prog tP rj true o.op) c=true)(U:k.all iT=true)(Y:os≠[])(h:∀τ,c.wp prog (Fw (fg Z W0 Mp) fn k os V) ⟨tm,[]⟩ (tp wl τ)):dh (fg Z W0 Mp) (⟨fn,tm,.code c::k⟩::os) wl V:=
 dh.ET (nI O) U (.inl Y) λτ _=>h τ
end
def RR{acc:List Nat}(Y:j2 md ops listed=[]):∀(O t:Nat),k8 md ops O t listed acc=acc.reverse
 |0,_=>rfl
 |f+1,t=>by
  simp only[k8]
  split
  .rename_i q hq
   have U:(j2 md ops listed)[t % (j2 md ops listed).length]?=some q:=hq
   rw[Y]at U;simp at U
  rfl
def ym{j:Nat}(h1:j2 md ops listed=[j])(h2:j2 md ops (listed.setIfInBounds j true)=[])(U t:Nat):k8 md ops (U+1) t listed []=[j]:=by
 simp only[k8];split;rename_i q Y;have O:(j2 md ops listed)[t % (j2 md ops listed).length]?=some q:=Y;rw[h1]at O;have e0:t % ([j]).length=0:=ez t;rw[e0]at O;have hj:=by simpa using O.symm
 subst hj;exact RR h2 ..;rename_i Y;have O:(j2 md ops listed)[t % (j2 md ops listed).length]?=none:=Y;rw[h1]at O;have e0:t % ([j]).length=0:=ez t;rw[e0]at O;simp at O
def TD{last:Nat}{Z:jj prog}{W0:World}{Mp:Nat->Prop}(h:((cn ops.size).all λi=>i==last || (match ops[i]? with|some o=>EB prog tP rj true o.op|none=>true))=true):∀(i:Nat)o,i≠last->ops[i]?=some o->OkOp prog (fg Z W0 Mp).fF (fg Z W0 Mp).gl (fg Z W0 Mp).st o.op:=by
 intro i o O hi;have U:=(cQ.1 hi).1;have:=cO.1 h i (cf.2 U);rw[hi]at this;simp only[Bool.or_eq_true,beq_iff_eq]at this;rcases this with e|e
 exact absurd e O;exact vQ e
def J8(m:Nat)(hm:m<=3)(w:World):di prog 46 #[.int .i64 (m:Int)] w λe w'=>e=.returned (.bool true)/\w=w':=by
 have O:(m:Int)<=3:=by omega
 go_wp2;go_ret;exact⟨rfl,rfl⟩
def R2(w:World)(base:Nat)(es:List dp)(A:Ask)(most:Nat)(v:Value):Prop:=∃L:List dp,L.Perm (es.filter A.has)/\L.Pairwise (λx y=>fy x y=true)/\∃u,v=.tuple #[u,.int .i64 0]/\w.ownsRow base 9 1 u (L.take most).length (dl ((L.take most).map fN))
section
variable {Z:jj prog} {W0:World} {Mp:Nat->Prop} {fn:dk} {tm:Array Value} {os:List OF} {wl:World} {k:List Item}
def PL(c:Code):Code:=match c with
 |.seq _ (.seq _ (.seq _ (.seq _ y)))=>y|_=>.skip
def uS{fa:Option Addr}{l cp most:Nat}{L:List dp}{wl:World}{a0 a1 a2 a3 a5 a6 a7 a8 a9 a10 a11 av aw a15 a16 a17 a18 a19 a20 a21 a22 a23 a24 a25 a26 a27 a28 a29 ax ay az a' aA aB aC aD aE aF aG aH aI aJ aK aL aM aN aO aP aQ aR aS aT aU aV aW aX aY aZ ba bc bd be bf bh bi:Value}(hi:ops[i]?=some o)(hR:uc wl 4 (.slice fa l cp) l (iF L))(hL:l=L.length)(bt:1<=most)(bu:most<=20)(h5:5<=wl.heap.size)
  (O:∀e∈L,∀y:World,(∀r,r<5->y.heap[r]?=wl.heap[r]?)->di prog 51 #[.agg #[.string ⟨e.name.toArray⟩,.string ⟨e.text.toArray⟩,.int .i64 e.du,.int .i64 e.dE]] y λen w'=>en=.returned (.string ⟨(fN e).toArray⟩)/\eK y w')
  (hn:∀(w2:World)(u:Value),(∀r,r<wl.heap.size->w2.heap[r]?=wl.heap[r]?)->wl.heap.size<=w2.heap.size->w2.os=wl.os->w2.ownsRow wl.heap.size 9 1 u (L.take most).length (dl ((L.take most).map fN))->dh (fg Z W0 Mp) (⟨fn,eP o.dst tm (.tuple #[u,.int .i64 0]),.inRegion ops rest::k⟩::os) w2 []) :
  dh (fg Z W0 Mp) (⟨17,#[a0,a1,a2,a3,.int .i64 (most:Int),a5,a6,a7,a8,a9,a10,a11,.slice fa l cp,av,aw,a15,a16,a17,a18,a19,a20,a21,a22,a23,a24,a25,a26,a27,a28,a29,ax,ay,az,a',aA,aB,aC,aD,aE,aF,aG,aH,aI,aJ,aK,aL,aM,aN,aO,aP,aQ,aR,aS,aT,aU,aV,aW,aX,aY,aZ,ba,bc,bd,be,bf,bh,bi],[.code (PL (ed f17))]⟩::⟨fn,tm,.inRegion ops (i::rest)::k⟩::os) wl []:=by
 have HA:jt _:=And.intro hR (And.intro hL (And.intro h5 (And.intro O hn)));clear hR h5 O hn;show dh _ (⟨_,_,[.code (.seq (.region 6 _ false) (.seq (.seq (.region 7 _ false) (.block 0 _)) (.seq (.region 12 _ false) .ret)))]⟩::_) _ _;refine dh.sr λkk HK=>?_
 (refine dI ?_;go_simp);refine dh.ie HK ?_;clear HK kk;refine dh.sc λkk HK=>?_;refine LV (by kernel_rfl) (by rw[HK.out];rfl) (by simp) λy0 ah aa=>?_;obtain⟨hR,hL,h5,O,hn⟩:=HA.out;have ai:uc y0 4 (.slice fa l cp) l (iF L):=hR.later λa u h=>by simp only[ka]at h⊢;rw[ah];exact h
 obtain⟨n,aj⟩:∃n,n=min most l:=⟨_,rfl⟩;have br:min (most:Int) (l:Int)=(n:Int):=by omega
 have bv:n<=l:=by omega
 obtain⟨bw,bx,am,bz,an,_,ab⟩:=id ai;simp only[kG]at am;obtain⟨rfl,_,rfl⟩:=am;have b0:n<=cp:=by omega
 have bs:cp<=9223372036854775807:=an;have HR:jt _:=And.intro ai (And.intro ab (And.intro ah (And.intro aa aj)));clear hR hL h5 O hn ai ab ah aa aj an;obtain⟨i9,bj,ao,bk,bl⟩:=ei uK;go_wp2_with fail;go_loopw [13,56] (λu i wr=>∃j:Nat,j<=n/\i=.int .i64 j/\wr.ownsRow y0.heap.size 9 1 u j (dl ((L.take j).map fN))/\Below y0.heap.size y0 wr) (λ_ i _=>n-(intOf i).toNat)
 case atStart=>exact⟨0,et _,rfl,j4 _ _ _ _,eC _ _⟩
 case round=>
  obtain⟨j,hj,rfl,ac,hb⟩:=hrel;obtain⟨ag,cg,rfl,b1⟩:=dN ac;have HO:jt (wr.ownsRow y0.heap.size 9 1 (.slice ag j cg) j (dl ((L.take j).map fN))):=ac;have HB:jt (Below y0.heap.size y0 wr):=hb;clear ac hb;by_cases b2:j<n
  .have ak:j<L.length:=by omega
   obtain⟨e,he⟩:∃e,e=L[j]:=⟨_,rfl⟩;have af:e∈L:=by rw[he];exact bA ak
   have ad:∀c,c<4->(iF L)[j*4+c]?=(mO e)[c]?:=λc hc=>by rw[BN L j c ak hc,he]
   obtain⟨bg,og,rfl,bm⟩:=HR.out.2.1 (j*4) (.string ⟨e.name.toArray⟩) (ad 0 (by omega))
   have U:∀c u,c<4->(mO e)[c]?=some u->wr.cell? ⟨bg,og+j*4+c,none⟩=some u:=λc u hc hu=>by
    obtain⟨b',o',h1,h2⟩:=HR.out.2.1 (j*4+c) u (by rw[ad c hc];exact hu);simp only[kx,Addr.mk.injEq]at h1;obtain⟨rfl,rfl,_⟩:=h1;rw[Nat.add_assoc];exact dg HB.out h2
   have d0:wr.cell? ⟨bg,og+j*4,none⟩=some (.string ⟨e.name.toArray⟩):=U 0 _ (by omega) rfl;have d1:wr.cell? ⟨bg,og+j*4+1,none⟩=some (.string ⟨e.text.toArray⟩):=U 1 _ (by omega) rfl;have d2:wr.cell? ⟨bg,og+j*4+2,none⟩=some (.int .i64 e.du):=U 2 _ (by omega) rfl;have d3:wr.cell? ⟨bg,og+j*4+3,none⟩=some (.int .i64 e.dE):=U 3 _ (by omega) rfl;have HE:jt _:=And.intro he af;clear he af ad U bm;go_wp2_with fail;have ap:=HB.out.size;refine(HA.out.2.2.2.1 e HE.out.2 _ (λr hr=>?_)).mono ?_
   .have h5:=HA.out.2.2.1;have Y:=HR.out.2.2.1;rw[iM _ _ (by rw[Y]at ap;omega),HB.out.block r (by rw[Y];omega),Y]
   rintro en w5 ⟨rfl,hx⟩;have bn:=hx.size;simp only[j3]at bn;have al:Below wr.heap.size wr w5:=((eC _ _).alloc (ej _) _).trans (Below.mono hx (by simp));have bo:jt (Below y0.heap.size y0 w5):=HB.out.trans (al.mono ap);have aq:jt (w5.ownsRow y0.heap.size 9 1 (.slice ag j cg) j (dl ((L.take j).map fN))):=eH HO.out (λg hg=>al.block g (HO.out.lt g hg).2);clear d0 d1 d2 d3 hx al
   go_wp2_with (first
    |(at_builtin;refine fD _ rfl _ _ 31 rfl y0.heap.size 9 i9 (.string ⟨#[]⟩) 16 hZ bj ao bk bl rfl _ _ _ rfl (aq.out.alloc _) ⟨w5.heap.size,0,none⟩ _ rfl (wW rfl) rfl ?c1 ?c2 ?c3 ?_))
   case c1=>omega
   case c2=>unfold dj;omega
   case c3=>first|omega|(simp;omega)
   intro v3 w3 ae ar _
   have HO3:jt (w3.ownsRow y0.heap.size 9 1 v3 (j+1) (dl ((L.take (j+1)).map fN))):=by
    show w3.ownsRow _ _ _ _ _ _;rw[bL ak,b8,<-HE.out.1];rw[show(cP fN (List.take j L)++cP fN [e])=(L.take j).map fN++[fN e]from rfl,nf,List.map_take];exact ae
   have HB3:jt (Below y0.heap.size y0 w3):=(bo.out.alloc (by omega) _).grown ar (by simp;omega) (λg hg=>(aq.out.lt g hg).1);clear ae ar;go_wp2;go_roundw
   case rel=>exact⟨j+1,by omega,by go_num,HO3.out,HB3.out⟩
   case measure=>simp[intOf];omega
  have bp:j=n:=by omega
  subst bp;go_wp2;refine ia ?_;rw[HK.out];refine dh.seq (dh.region ?_)
  (iterate 3 (refine dI ?_;go_simp));refine dh.inRegion ?_;refine dh.back (v:=.tuple #[.slice ag j cg,.int .i64 0]) (.inr ⟨_,rfl⟩) func17 hi (λτ=>by simp[ef,results17,go_sem]) ?_;obtain⟨_,b3,h5,O,hn⟩:=HA.out;obtain⟨_,_,Y,aa,aj⟩:=HR.out;have hO:=HO.out;have hB:=HB.out;rw[Y]at hO hB;have au:(L.take most).length=j:=by rw[ct];omega
  have bq:L.take j=L.take most:=by
   by_cases hc:most<=L.length;rw[show j=most by omega];rw[show j=L.length by omega,cL,cb (by omega)]
  refine hn wr (.slice ag j cg) (λr hr=>?_) (by have:=hB.size;rw[Y]at this;exact this) (hB.os.trans aa) ?_;rw[hB.block r hr,Y];rw[au,<-bq];exact hO
end
end
section
open Go.RowKit Go.Maps
variable {xs:List Wd} {v:Value} {w':World}
structure lq(w0 w:World):Prop where
 os:w.os=w0.os
 size:w0.heap.size<=w.heap.size
 block:∀k,k<w0.heap.size->w.heap[k]?=w0.heap[k]?
def lq.refl(w:World):lq w w:=⟨rfl,ej _,λ_ _=>rfl⟩
def lq.trans{a b c:World}(h:lq a b)(O:lq b c):lq a c:=⟨O.os.trans h.os,er h.size O.size,λk U=>(O.block k (ev U h.size)).trans (h.block k U)⟩
def lq.of{w:World}(h:Below w.heap.size w w'):lq w w':=⟨h.os,h.size,h.block⟩
structure AW(w0 w:World)(F1 F2:Nat->Prop)(b:Nat)(buf:List dp)(ss:List (List dp))(ts:List (List Wd)):Prop where
 j:PJ w F1 F2 b buf ss ts
 T8:∀k,F1 k->w0.heap.size<=k
 NO:∀k,F2 k->w0.heap.size<=k
 low:lq w0 w
structure St(w w':World)(F1 F2 F1' F2':Nat->Prop):Prop where
 size:w.heap.size<=w'.heap.size
 block:∀k,k<w.heap.size->¬F1 k->¬F2 k->w'.heap[k]?=w.heap[k]?
 f1:∀k,F1' k->F1 k\/w.heap.size<=k
 f2:∀k,F2' k->F2 k\/w.heap.size<=k
def Kept(w:World)(F1 F2:Nat->Prop)(v:Value)(xs:List Wd):Prop:=w.ownsRow 0 9 1 v xs.length (dl xs)/\∀g,v.ownBlock=some g->¬F1 g/\¬F2 g
def Kept.step{w:World}{F1 F2 Y aa:Nat->Prop}(h:Kept w F1 F2 v xs)(st:St w w' F1 F2 Y aa):Kept w' Y aa v xs:=by
 have U:=λg O=>(h.1.lt g O).2;refine⟨eH h.1 λg O=>st.block g (U g O) (h.2 g O).1 (h.2 g O).2,λg O=>⟨λhf=>?_,λhf=>?_⟩⟩;rcases st.f1 g hf with h1|h1
 exact(h.2 g O).1 h1;have:=U g O;omega;rcases st.f2 g hf with h1|h1
 exact(h.2 g O).2 h1;have:=U g O;omega
def Kept.new{w0 w:World}{F1 F2:Nat->Prop}{b:Nat}{buf:List dp}{ss:List (List dp)}{ts:List (List Wd)}(h:AW w0 w F1 F2 b buf ss ts)(O:w'.ownsRow w.heap.size 9 1 v xs.length (dl xs)):Kept w' F1 F2 v xs:=
 ⟨jW O (et _),λg Y=>⟨λU=>by have:=h.j.Oh g U;have:=(O.lt g Y).1;omega,λU=>by have:=h.j.P8 g U;have:=(O.lt g Y).1;omega⟩⟩
def St.same{w:World}{F1 F2:Nat->Prop}(h:lq w w'):St w w' F1 F2 F1 F2:=⟨h.size,λk O _ _=>h.block k O,λ_ O=>.inl O,λ_ O=>.inl O⟩
def AW.same{w0 w:World}{F1 F2:Nat->Prop}{b:Nat}{buf:List dp}{ss:List (List dp)}{ts:List (List Wd)}(h:AW w0 w F1 F2 b buf ss ts)(O:lq w w'):AW w0 w' F1 F2 b buf ss ts:=⟨h.j.below O.size O.block,h.T8,h.NO,h.low.trans O⟩
section
variable {w0 w:World} {F1 F2:Nat->Prop} {b:Nat} {buf:List dp} {ss:List (List dp)} {ts:List (List Wd)}
def AW.Nf{f:dk}{args:Array Value}{code:Nat}{U:List dp}{aa:List (List dp)}(h:AW w0 w F1 F2 b buf ss ts)(hc:∀vM vK,sO vM vK w F1 b buf ss->di prog f args w (TC (sO vM vK) w F1 b code U aa)) :
  di prog f args w λe w'=>e=.returned (.int .i64 code)/\∃ab,AW w0 w' ab F2 b U aa ts/\St w w' F1 F2 ab F2:=by
 obtain⟨⟨h1,h2,h3,Bb,vS,B,n,vK,kn,h4,h5⟩,k1,k2,k3⟩:=h;refine(hc _ vK ⟨h1,Bb,vS,h4⟩).mono ?_;rintro e w' ⟨rfl,F',hp,hF,O⟩;refine⟨rfl,F',⟨PJ.entries h1 h2 h3 h4 h5 hp hF O,λk Y=>?_,k2,?_⟩,⟨O.size,λk Y hn _=>O.block k Y hn,hF,λ_ Y=>.inl Y⟩⟩;rcases hF k Y with hf|hf
 exact k1 k hf;exact er k3.size hf;exact⟨O.os.trans k3.os,er k3.size O.size,λk Y=>(O.block k (ev Y k3.size) λhf=>absurd (k1 k hf) (by omega)).trans (k3.block k Y)⟩
def AW.observe(h:AW w0 w F1 F2 b buf ss ts)(s:ByteArray)(hB:gG ts<=16777216)(hs:s.size<=dj) :
  di prog 34 #[.pointer (some ⟨b,0,none⟩),.string s] w λe w'=>e=.returned (.int .i64 (tO ts s.data.toList).1)/\∃Y,AW w0 w' F1 Y b buf ss (tO ts s.data.toList).2/\St w w' F1 F2 F1 Y:=by
 obtain⟨⟨h1,h2,h3,Bb,vS,B,n,vK,kn,h4,h5⟩,k1,k2,k3⟩:=h;refine(DE w F2 b ts s ⟨h2,B,n,vK,kn,h5⟩ hB hs).mono ?_;rintro e w' ⟨rfl,F',hp,hF,O⟩;refine⟨rfl,F',⟨PJ.words h1 h2 h3 h4 h5 hp hF O,k1,λk U=>?_,?_⟩,⟨O.size,λk U _ hn=>O.block k U hn,λ_ U=>.inl U,hF⟩⟩;rcases hF k U with hf|hf
 exact k2 k hf;exact er k3.size hf;exact⟨O.os.trans k3.os,er k3.size O.size,λk U=>(O.block k (ev U k3.size) λhf=>absurd (k2 k hf) (by omega)).trans (k3.block k U)⟩
def AW.DO(h:AW w0 w F1 F2 b buf ss ts)(O:NL w)(s:ByteArray)(most:Int)(U:gG ts<=16777216)(Y:s.size<=dj) :
  di prog 35 #[.pointer (some ⟨b,0,none⟩),.string s,.int .i64 most] w λe w'=>∃v,e=.returned (.tuple #[v,.int .i64 (vr ts s.data.toList most).2])/\Kept w' F1 F2 v (vr ts s.data.toList most).1/\AW w0 w' F1 F2 b buf ss ts/\lq w w':=by
 obtain⟨⟨h1,h2,h3,Bb,vS,B,n,vK,kn,h4,h5⟩,k1,k2,k3⟩:=id h;refine(F0 w F2 b ts s most O ⟨h2,_,_,B,n,vK,kn,h5⟩ U Y).mono ?_;rintro e w' ⟨v,rfl,ho,hb⟩;exact⟨v,rfl,Kept.new h ho,h.same (.of hb),.of hb⟩
def AW.Tv(h:AW w0 w F1 F2 b buf ss ts):∃U O,sO U O w F1 b buf ss:=by
 obtain⟨⟨Y,h2,h3,Bb,vS,B,n,O,kn,h4,h5⟩,k1,k2,k3⟩:=h;exact⟨_,_,Y,Bb,vS,h4⟩
def AW.del(h:AW w0 w F1 F2 b buf ss ts)(s:ByteArray)(U:s.size<=dj):di prog 37 #[.pointer (some ⟨b,0,none⟩),.string s] w λe w'=>e=.returned (.int .i64 (lu buf ss s.data.toList).1)/\∃O,AW w0 w' O F2 b (lu buf ss s.data.toList).2 ss ts/\St w w' F1 F2 O F2:=
 h.Nf λvM vK Y=>(R7 w F1 b buf ss s Y U).mono λ_ _ h=>⟨h.1,F1,h.2.1,λ_ hk=>.inl hk,h.2.2⟩
def AW.Ta(h:AW w0 w F1 F2 b buf ss ts)(s t:ByteArray)(x y:Int)(U:s.size<=dj)(Y:t.size<=dj):di prog 38 #[.pointer (some ⟨b,0,none⟩),.string s,.string t,.int .i64 x,.int .i64 y] w λe w'=>e=.returned (.int .i64 (j8 buf ss s.data.toList t.data.toList x y).1)/\∃O,AW w0 w' O F2 b (j8 buf ss s.data.toList t.data.toList x y).2 ss ts/\St w w' F1 F2 O F2:=
 h.Nf λvM vK hp=>(R4 w F1 b buf ss s t x y hp U Y).mono λ_ _ h=>⟨h.1,F1,h.2.1,λ_ hk=>.inl hk,h.2.2⟩
def AW.flush(h:AW w0 w F1 F2 b buf ss ts):di prog 29 #[.pointer (some ⟨b,0,none⟩)] w λe w'=>e=.returned (.int .i64 (dW buf ss).1)/\∃O,AW w0 w' O F2 b (dW buf ss).2.1 (dW buf ss).2.2 ts/\St w w' F1 F2 O F2:=
 h.Nf λY vK U=>TT w F1 b buf ss U
def AW.merge(h:AW w0 w F1 F2 b buf ss ts)(n:Int):di prog 39 #[.pointer (some ⟨b,0,none⟩),.int .i64 n] w λe w'=>e=.returned (.int .i64 (eZ ss n).1)/\∃O,AW w0 w' O F2 b buf (eZ ss n).2 ts/\St w w' F1 F2 O F2:=
 h.Nf λY vK U=>Uc w F1 b buf ss n U
def AW.iB(h:AW w0 w F1 F2 b buf ss ts):di prog 30 #[.pointer (some ⟨b,0,none⟩)] w λe w'=>e=.returned (.int .i64 ss.length)/\w=w':=by
 obtain⟨U,Y,O⟩:=h.Tv;exact Cp w F1 b buf ss O
end
def TB(w:World):di prog 31 #[] w λe w'=>∃(b:Nat)(F1 F2:Nat->Prop),e=.returned (.pointer (some ⟨b,0,none⟩))/\AW w w' F1 F2 b [] [] []/\Below w.heap.size w w':=by
 have af:=@jv prog;go_enter func31,ntmps31;go_wp2_with fail;refine(Q6 _).mono ?_;rintro e w1 ⟨B,rfl,aa,hC,O⟩;go_wp2;go_ret;have U:(w.alloc (Obj.map #[] 0)).heap.size=w.heap.size+1:=by simp
 have ab:eE (w.alloc (Obj.map #[] 0)) w.heap.size []:=dM.made w;have ac:eE w1 w.heap.size []:=dM.below ab O;rw[U]at O aa;have ad:=O.size;rw[U]at ad;have hb:Below w.heap.size w w1:=((eC _ _).alloc (ej _) _).trans (O.mono (by omega));have ae:=hC.lt;have Y:=hb.alloc (o:=.cells #[.map (some w.heap.size),.slice none 0 0,.map (some B),.slice none 0 0] 90) (by omega);refine⟨w1.heap.size,λk=>k=w1.heap.size\/k=w.heap.size,λk=>k=w1.heap.size\/k=B,rfl,⟨⟨?_,?_,?_,w.heap.size,.slice none 0 0,B,0,.slice none 0 0,[],?_,?_⟩,?_,?_,.of Y⟩,Y⟩;rintro k (rfl|rfl);simp;simp;omega;rintro k (rfl|rfl);simp;simp;omega;rintro k (h|h) (h'|h')<;>omega;exact⟨nA ..,Or.inl rfl,Or.inr rfl,dM.stay ac (fd _ _ _ (by omega)),j4 ..,nofun,KL⟩;refine⟨nA ..,Or.inl rfl,Or.inr rfl,?_,by simp[gG],j4 ..,nofun,by simp[eV],nofun,by simp⟩;refine(hC.stay (fd _ _ _ ae)).mono (ej _) (λws _=>by rw[Ph]);rintro k (rfl|rfl)<;>omega;rintro k (rfl|rfl)<;>omega
def C5{w:World}{F1 F2:Nat->Prop}(h:Kept w F1 F2 v xs):∃a c,v=.slice a xs.length c/\xs.length<=c/\c<=dj/\∀i(hi:i<xs.length),∃g,a=some ⟨g,0,none⟩/\w.cell? ⟨g,i,none⟩=some (.string ⟨xs[i].toArray⟩):=by
 rcases h.1.2 with⟨rfl,O⟩|⟨g,cap,cur,rfl,_,U,Y,h2,h3,h4⟩
 refine⟨none,0,by rw[O],by omega,et _,λi hi=>?_⟩;omega;refine⟨some _,cap,rfl,Y,h2,λi hi=>⟨g,rfl,?_⟩⟩;rw[dn U];have h5:=gV xs i hi;rw[<-h4,bR,if_pos (by omega)]at h5;simpa using h5
def QK{w:World}{F1 F2:Nat->Prop}(x y:Wd)(h:Kept w F1 F2 v [x,y]):di prog 27 #[v,.string ⟨x.toArray⟩,.string ⟨y.toArray⟩,.int .i64 2] w λe w'=>e=.returned (.bool true)/\w=w':=by
 obtain⟨a,c,rfl,Y,aa,O⟩:=C5 h;obtain⟨g,rfl,d0⟩:=O 0 (by simp);obtain⟨g',U,d1⟩:=O 1 (by simp);simp only[kx,Addr.mk.injEq,and_true]at U;subst U;go_wp2;go_ret;exact⟨rfl,rfl⟩
def Td{w:World}{F1 F2:Nat->Prop}(x:Wd)(y:ByteArray)(h:Kept w F1 F2 v [x]):di prog 27 #[v,.string ⟨x.toArray⟩,.string y,.int .i64 1] w λe w'=>e=.returned (.bool true)/\w=w':=by
 obtain⟨a,c,rfl,U,Y,O⟩:=C5 h;obtain⟨g,rfl,d0⟩:=O 0 (by simp);go_wp2;go_ret;exact⟨rfl,rfl⟩
end
section
open Go.Conc Go.RowKit Go.Maps
variable {A:Ask} {ms:List Value} {cap num:Nat} {w w':World}
structure SG(w:World)(num:Nat)(A:Ask)(cap:Nat)(ms:List Value):Prop where
 c0:w.heap[5]?=some (.cells #[.chan (some 10)] 167 (0,1))
 c2:w.heap[7]?=some (.cells #[.int .i64 num] 3 (0,1))
 c3:w.heap[8]?=some (.cells #[.int .i64 A.m,.string A.q,.int .i64 A.t] 94 (0,3))
 ch:w.heap[10]?=some (.chan cap ms.toArray false ms.length 0 false)
def SG.stay(h:SG w num A cap ms)(hb:∀k,k=5\/k=7\/k=8\/k=10->w'.heap[k]?=w.heap[k]?):SG w' num A cap ms:=
 ⟨(hb 5 (by simp)).trans h.c0,(hb 7 (by simp)).trans h.c2,(hb 8 (by simp)).trans h.c3,(hb 10 (by simp)).trans h.ch⟩
def SG.lt(h:SG w num A cap ms):10<w.heap.size:=eS h.ch
def SG.vJ(h:SG w num A cap ms)(O:lY w w'):SG w' num A cap ms:=by
 obtain⟨τ,O⟩:=O;have:=h.lt;exact h.stay λk U=>O.block k (by show k<w.heap.size;omega)
def SG.gN(h:SG w num A cap ms)(v:Value):SG {w with heap:=w.heap.setIfInBounds 10 (.chan cap (ms.toArray.push v) false (ms.length+1) 0 false)} num A cap (ms++[v]):=by
 have U:=h.lt;have hb:∀k,k≠10->(w.heap.setIfInBounds 10 (.chan cap (ms.toArray.push v) false (ms.length+1) 0 false))[k]?=w.heap[k]?:=λk O=>by rw[cS (Ne.symm O)]
 refine⟨(hb 5 (by omega)).trans h.c0,(hb 7 (by omega)).trans h.c2,(hb 8 (by omega)).trans h.c3,?_⟩;rw[cZ (by omega)];simp
def Rl{q:Nat}{e:dp}(hA:A.Ok)(h:SG w num A cap ms)(hc:ms.length<cap)(he:Told e) :
  di prog 118 #[.int .i64 (q:Int),.string ⟨e.name.toArray⟩,rC e,.pointer (some ⟨5,0,none⟩),.pointer (some ⟨7,0,none⟩),.pointer (some ⟨8,0,none⟩)] w λen w'=>en=.returned (.tuple #[])/\SG w' num A cap (ms++[nC A num (q,e)])/\dw (· = 10) w w':=by
 have HS:jt _:=h
 have HM:jt (∀y:World,di prog 119 #[.agg #[.int .i64 num,.int .i64 q],.string ⟨e.name.toArray⟩,rC e,.agg #[.int .i64 A.m,.string A.q,.int .i64 A.t]] y λx w'=>x=.returned (nC A num (q,e))/\eK y w'):=λy=>by
  refine(Gf num q ⟨e.name.toArray⟩ e.gone ⟨(xI e).toArray⟩ ⟨e.text.toArray⟩ e.du e.dE A.m A.t A.q y hA.m hA.t he.2.2 hA.q (by show e.text.toArray.size<=_;have:=he.2.1;simp;omega)).mono ?_;rintro x w' ⟨h1,h2⟩;exact⟨h1,h2⟩
 obtain⟨mv,ac⟩:∃mv,mv=nC A num (q,e):=⟨_,rfl⟩;rw[<-ac]at HM⊢;obtain⟨w0,ad⟩:∃w0,w.alloc (.cells #[.bool e.gone,.string ⟨(xI e).toArray⟩,.string ⟨e.text.toArray⟩,.int .i64 e.du,.int .i64 e.dE] 111)=w0:=⟨_,rfl⟩;have ae:jt (Below w.heap.size w w0):=by show Below _ _ _;rw[<-ad];exact(eC _ _).alloc (ej _) _
 have aa:w0.heap[w.heap.size]?=some (.cells #[.bool e.gone,.string ⟨(xI e).toArray⟩,.string ⟨e.text.toArray⟩,.int .i64 e.du,.int .i64 e.dE] 111 (0,0)):=by rw[<-ad];exact heap_alloc_new w _
 have Y:jt (SG w0 num A cap ms):=h.stay λk hk=>ae.out.block k (by have:=h.lt;omega);have HY:jt (∀y,lY w0 y->y.heap[w.heap.size]?=some (.cells #[.bool e.gone,.string ⟨(xI e).toArray⟩,.string ⟨e.text.toArray⟩,.int .i64 e.du,.int .i64 e.dE] 111 (0,0))):=λy ⟨τ,O⟩=>(O.block _ (eS aa)).trans aa;clear h he hA ac aa HS;unfold rC at HM⊢;go_enter func118,ntmps118;go_upto_region 1 with fail;refine ib (Sd:=λa y=>y.tape=w0.tape->nH _ _ _ [8] a y) (last:=8) (tl:=[]) (by kernel_rfl) ?_ (λa y h ht=>h ht);refine dH 0 ?_ ?_ ?_;rotate_left
 .intro y O;have U:=(Y.out.vJ O).c0;have q0:=dn U 0;clear U;unfold fT;go_simp;refine⟨eK.refl _,?_⟩;with_reducible rfl
 go_simp;refine dH 1 ?_ ?_ ?_;rotate_left
 .intro y O;have U:=(Y.out.vJ O).c2;have q0:=dn U 0;clear U;unfold fT;go_simp;refine⟨eK.refl _,?_⟩;with_reducible rfl
 go_simp;refine dH 2 ?_ ?_<|dH 3 ?_ ?_<|dH 4 ?_ ?_ ?_
 any_goals(intro y O;unfold fT;go_simp;refine⟨eK.refl _,?_⟩;with_reducible rfl)
 go_simp;refine dH 5 ?_ ?_ ?_;rotate_left
 .intro y O;have U:=HY.out y O;have q0:=dn U;clear U;unfold fT;go_simp;refine⟨eK.refl _,?_⟩;with_reducible rfl
 go_simp;refine dH 6 ?_ ?_ ?_;rotate_left
 .intro y O;have U:=(Y.out.vJ O).c3;have q0:=dn U;clear U;unfold fT;go_simp;refine⟨eK.refl _,?_⟩;with_reducible rfl
 go_simp;refine dH 7 ?_ ?_ ?_;rotate_left
 .intro y O;unfold fT;go_simp;refine⟨rfl,(HM.out y).mono ?_⟩;rintro e y2 ⟨rfl,h2⟩;refine⟨_,rfl,h2,?_⟩;with_reducible rfl
 go_simp;refine oA (by kernel_rfl) (λt=>Eg (by kernel_rfl) _ _) ?_;intro y O ht;have ab:=Y.out.vJ O;refine Ap (v:=mv) rfl rfl rfl rfl rfl rfl ab.ch (by simpa using hc) ?_;have af:jt _:=ab.gN mv
 have HF:jt (dw (· = 10) w {y with heap:=y.heap.setIfInBounds 10 (.chan cap (ms.toArray.push mv) false (ms.length+1) 0 false)}):=by
  obtain⟨τ,hx⟩:=O;have hb:=ae.out;refine⟨hx.os.trans hb.os,ht.trans hb.tape,hx.output.trans hb.output,?_,λk hk hn=>?_⟩;show _<=(y.heap.setIfInBounds 10 _).size;rw[Array.size_setIfInBounds];exact er hb.size hx.size;show(y.heap.setIfInBounds 10 _)[k]?=_;rw[cS (Ne.symm hn)];exact(hx.block k (ev hk hb.size)).trans (hb.block k hk)
 clear ab;generalize ({y with heap:=y.heap.setIfInBounds 10 (.chan cap (ms.toArray.push mv) false (ms.length+1) 0 false)}:World)=w3 at *;go_end0;exact⟨rfl,af.out,HF.out⟩
def UG(num:Nat)(A:Ask)(cap:Nat):Jf where
 fn:=118
 cp:=#[.pointer (some ⟨5,0,none⟩),.pointer (some ⟨7,0,none⟩),.pointer (some ⟨8,0,none⟩)]
 own k:=k=10
 QN k:=k=5\/k=7\/k=8\/k=10
 T w told:=SG w num A cap (told.map (nC A num))
def Sy{mx:Nat}(U:A.Ok)(hc:1099511627776<=cap):(UG num A cap).Ok mx where
 gP:=⟨_,_,func118,rfl,by kernel_rfl⟩
 sub _ h:=.inr (.inr (.inr h))
 lt:=by
  rintro w told k h O;have:=SG.lt h;have O:k=5\/k=7\/k=8\/k=10:=O;omega
 stay h hb:=SG.stay h hb
 tell:=by
  intro w q told e h _ hl Y _;refine(Rl (q:=q) U h (by rw[bH];omega) Y).mono ?_;rintro en w' ⟨rfl,g1,g2⟩;exact⟨rfl,by show SG _ _ _ _ _;rw[b8];exact g1,g2⟩
end
section
open Go.Conc Go.RowKit Go.Maps
def Uq(L:List Value)(w:World):Exit->Act->World->Prop:=λe a w'=>(e=.normal\/e=.ret)/\a.defers=r9/\(∃cap buf s r t,w'.heap[10]?=some (.chan cap buf false s r t)/\buf.toList=L)/\dw (· = 10) w w'
def Ux{num cap:Nat}{A:Ask}{S:ByteArray}{ps qs:List (Nat×dp)}{w:World}(hA:A.Ok)(hc:1099511627776<=cap)(h:SG w num A cap [])(Y:w.heap[6]?=some (.cells #[.string S] 9 (0,1)))(hS:S.size<=1099511627775)(hX:ij S.size S.data.toList=some (ps,qs)) :
  (vp f116).wp prog (Uq ((ps++qs).map (nC A num)) w) ⟨(vn 116 8 4 .skip).tmps,r9⟩ w:=by
 have O:=OH (Sy (num:=num) (mx:=S.size) hA hc) (w:=w) h hS (ej _);rw[hX]at O;rw[show(UG num A cap).v=.func (.func 118) #[] #[.pointer (some ⟨5,0,none⟩),.pointer (some ⟨7,0,none⟩),.pointer (some ⟨8,0,none⟩)]from rfl]at O;have aa:∀(fn:Fn)(first cap:Array Value)(w:World),(Instr.makeFunc fn first cap).run prog w=.ok (.func fn first cap) w:=λ_ _ _ _=>rfl;have c6:=dn Y 0;clear h Y hX;rw[show(vn 116 8 4 .skip).tmps=#[.pointer (some ⟨5,0,none⟩),.pointer (some ⟨6,0,none⟩),.pointer (some ⟨7,0,none⟩),.pointer (some ⟨8,0,none⟩),.chan (some 10),l0,l0,l0]from rfl];show Code.wp prog (Code.region 1 _ false) _ _ _;obtain⟨L,U⟩:∃L,L=(ps++qs).map (nC A num):=⟨_,rfl⟩;rw[<-U];have HL:jt _:=U;clear U;go_wp2_with fail;refine O.mono ?_;rintro e w2 ⟨g1,rfl,g2⟩;have HG:jt _:=g2;have HF:jt _:=g1;clear O g1 g2;go_wp2;exact⟨.inl rfl,rfl,⟨_,_,_,_,_,HG.out.ch,by rw[HL.out]⟩,HF.out⟩
end
section
open Go.Conc Go.RowKit Go.Maps
abbrev VO(s:Nat)(S:ByteArray)(num:Nat)(A:Ask):Nat->Array Value:=Vr s (.string S) num A
def Wa(S:ByteArray)(num:Nat)(A:Ask):Nat->Array Value|0=>#[.chan (some 10)]|1=>#[.string S]|2=>#[.int .i64 num]|_=>P5 A
abbrev VF:Nat->dq:=Vt 9
def M7{Z:jj prog}{w:World}{T:List Frame}{dd q K num s:Nat}{A:Ask}{S:ByteArray}{ps qs:List (Nat×dp)}{w6:World}{os:List OF}{lent:Bool}(hA:A.Ok)(hK:K<=s+5)(h5:5<=s)(ab:dd<s)
  (hc:∀i,i<4->w6.heap[bb s i]?=some (.cells (VO s S num A i) (VF i) (0,0))) (hS:S.size<=1099511627775) (hX:ij S.size S.data.toList=some (ps,qs)) :
  Sends (mV prog Z w T dd q K lent) (mV prog Z w T dd q (s+5) lent) 116 (xB (bb s)) os os w6 (uR w6 [bb s 0,bb s 1,bb s 2,bb s 3]) (s+3) ((ps++qs).map (nC A num)):=by
 refine Fv (cm:=VO s S num A) (cd:=Wa S num A) (te:=VF) (fz:=λ_=>(0,0)) (M:=none) (ex:=.map #[] 0) (cap:=1099511627776) Vi rfl rfl (by decide) (by decide) (by decide) UO (λv hv=>?_) ⟨rfl,rfl,rfl,rfl,rfl,Dr,λm O=>?_,λb=>?_,λi hi=>?_,Pg s,hc,λm O i hi=>?_,rfl,rfl,λi h1 h4 m mi w' a' O hw ac Y=>?_,nofun⟩ λτ=>?_;obtain⟨p,_,rfl⟩:=b4.1 hv;exact FZ A num p;obtain⟨x1,x2,x3⟩:=O.x;refine⟨x1,x2,λr O=>?_⟩;rcases O with O|O
 have:=x3 r O;omega;simp only[bB,bY,or_false,bb]at O;omega;exact⟨λh=>⟨h,nofun⟩,λh=>h.1⟩;have:=Lk s i;omega;obtain⟨x1,_,_⟩:=O.x;rw[x1];have:=(Lk s i).1;omega;have:i=1\/i=2\/i=3:=by omega
 rcases this with rfl|rfl|rfl
 exact Flat.arr (c:=#[.string S]) (λj U=>by
  have:=U;match j,this with
  |0,_=>exact .string _) Y
 exact Flat.arr (c:=#[.int _ num]) (λj U=>by
  have:=U;match j,this with
  |0,_=>exact .int ..) Y
 exact Flat.arr (c:=P5 A) (λj U=>by
  have:=U;match j,this with
  |0,_=>exact .int ..|1,_=>exact .string _|2,_=>exact .int ..) Y
 have aa:SG (tp (tU w6 (Wa S num A) VF 1099511627776 (.map #[] 0)) τ) num A _ []:=⟨rfl,rfl,rfl,rfl⟩;exact BI (Ux hA (ej _) aa rfl hS hX) λe a w' ⟨h1,h2,h3,_⟩=>⟨h1,h2,h3,.inl rfl⟩
end
section
open Go.Conc Go.RowKit Go.Maps
section
variable {Z:jj prog} {w:World} {T:List Frame} {dd q K:Nat} {lent:Bool} {fn:dk} {tm:Array Value} {os:List OF} {wl:World} {V:List (Nat×Option (List Value))} {k:List Item}
def xD(num:Nat)(A:Ask){S:ByteArray}{ps qs:List (Nat×dp)}{ops:Array Oper}{i:Nat}{rest:List Nat}{o:Oper}(s:Nat)(hs:s=wl.heap.size)(hi:ops[i]?=some o)(hA:A.Ok)(hK:K<=s+5)(h5:5<=s)(O:dd<s)(U:∀(r:Nat)a c,wl.heap[r]?≠some (.map a c))
  (Y:S.size<=1099511627775) (hX:ij S.size S.data.toList=some (ps,qs)) (hV:∀x∈V,x.1<s)
  (hn:∀w2:World,w2.heap.size=s+5->(∀r,r<s->w2.heap[r]?=wl.heap[r]?)->(∀(r:Nat)a c,w2.heap[r]?≠some (.map a c))->w2.os=wl.os->dh (mV prog Z w T dd q (s+5) lent) (⟨fn,eP o.dst tm (.chan (some (s+3))),.inRegion ops rest::k⟩::os) w2 ((s+3,some ((ps++qs).map (nC A num)))::V)) :
  dh (mV prog Z w T dd q K lent) (⟨79,#[.int .i64 num,.string S,.agg #[.int .i64 A.m,.string A.q,.int .i64 A.t],l0,l0,l0,l0,l0,l0,l0,l0],[.code (ed f79)]⟩::⟨fn,tm,.inRegion ops (i::rest)::k⟩::os) wl V:=by
 exact Hr (some S) num A _ s hs hi U hV (λw6 os aa _=>M7 (Z:=Z) (w:=w) (T:=T) (q:=q) (lent:=lent) (os:=os) hA hK h5 O aa Y hX) (λq' h1 h2=>absurd h1 h2) hn
end
end
section
open Go.Conc Go.RowKit Go.Maps
def yy(c:Code):Code:=match c with
 |.seq _ (.seq _ (.seq (.seq _ (.block _ (.loop x))) _))=>x|_=>.skip
def P6:f79.name≠ "runtime.NumGoroutine":=by
 decide
section
variable {Z:jj prog} {w:World} {T:List Frame} {dd q K:Nat} {wl:World} {V:Vs}
def Nb{A:Ask}{S:ByteArray}{ps qs:List (Nat×dp)}{cl:Nat->Option Nat}{sb so n sc bx b s k:Nat}{a2 a3 a4 a6 a8 a9 a10 aE a15 a16 a17 a18 a19 a20 a21 a22 a23 a24 a25 a26 a27 a28 a29 ao ap aq ar au av aw ax ay az a5:Value}{td:List Item}(hT:∀ps,T=[ps]->ps.mode≠.panicking [ee])
  (hs:s=wl.heap.size) (hA:A.Ok) (hK:K<=s+5) (h5:5<=s) (Y:dd<s) (O:∀(r:Nat)a c,wl.heap[r]?≠some (.map a c)) (hn:n<=6) (hk:k<n) (hV:∀x∈V,x.1<s)
  (aa:wl.heap[bx]?=some (.cells #[.int .i64 A.m,.string A.q,.int .i64 A.t] 94 (0,0))) (hb:wl.heap[b]?=some (.cells (mT cl) 125 (0,0)))
  (ad:wl.cell? ⟨sb,so+k,none⟩=some (.string S)) (ab:S.size<=1099511627775) (hX:ij S.size S.data.toList=some (ps,qs))
  (fin:∀(w2:World)(c8 c9 aF aG aH aI aJ aK aL aM aN aO aP:Value),w2.heap.size=s+5->(∀r,r<s->r≠b->w2.heap[r]?=wl.heap[r]?)->w2.heap[b]?=some (.cells (mT (ma cl k (s+3))) 125 (0,0))->(∀(r:Nat)a c,w2.heap[r]?≠some (.map a c))->w2.os=wl.os->
    dh (mV prog Z w T dd q (s+5) false) [⟨49,#[.slice (some ⟨sb,so,none⟩) n sc,.map (some dd),a2,a3,a4,.pointer (some ⟨bx,0,none⟩),a6,.pointer (some ⟨b,0,none⟩),c8,c9,a10,.slice (some ⟨sb,so,none⟩) n sc,.int .i64 (n:Int),.int .i64 ((k+1:Nat):Int),aF,aG,aH,aI,aJ,aK,aL,aM,aN,aO,aP,a25,a26,a27,a28,a29,ao,ap,aq,ar,au,av,aw,ax,ay,az,a5],.code (yy (ed Tryz.f49))::.inLoop (yy (ed Tryz.f49))::td⟩] w2 ((s+3,some ((ps++qs).map (nC A k)))::V)) :
  dh (mV prog Z w T dd q K false) [⟨49,#[.slice (some ⟨sb,so,none⟩) n sc,.map (some dd),a2,a3,a4,.pointer (some ⟨bx,0,none⟩),a6,.pointer (some ⟨b,0,none⟩),a8,a9,a10,.slice (some ⟨sb,so,none⟩) n sc,.int .i64 (n:Int),.int .i64 (k:Int),aE,a15,a16,a17,a18,a19,a20,a21,a22,a23,a24,a25,a26,a27,a28,a29,ao,ap,aq,ar,au,av,aw,ax,ay,az,a5],.code (yy (ed Tryz.f49))::.inLoop (yy (ed Tryz.f49))::td⟩] wl V:=by
 have HA:jt _:=And.intro hs (And.intro hA (And.intro hK (And.intro h5 (And.intro Y (And.intro O (And.intro hV (And.intro aa (And.intro hb (And.intro ad (And.intro ab (And.intro hX (And.intro fin hT))))))))))));clear hs hA hK h5 Y O hV aa hb ad ab hX fin hT;obtain⟨B,hB⟩:∃B,B=Item.inLoop (yy (ed Tryz.f49)):=⟨_,rfl⟩;rw[<-hB];have HB:jt _:=hB;clear hB;show dh _ [⟨_,_,.code (.seq (.region 3 _ false) (.seq (.cond _ .skip (.exit 0)) (.seq (.block 1 (.seq (.region 4 _ false) (.region 5 _ false))) (.region 6 _ false))))::_⟩] _ _;refine dh.sr λkk HK=>?_;have aR:(k:Int)<(n:Int):=by omega
 (refine fc ?_;go_simp);refine dh.ie HK ?_;clear HK kk;refine dh.seq (dh.zB trivial rfl (dh.skip ?_));refine dh.seq (dh.block (dh.sr λkk HK=>?_))
 (iterate 2 (refine fc ?_;go_simp));refine oe rfl (by rfl) (by kernel_rfl) λy0 aj ag=>?_
 have e0:y0.cell? ⟨sb,so+k,none⟩=some (.string S):=by
  have:=HA.out.2.2.2.2.2.2.2.2.2.1;unfold ka at this⊢;rw[aj];exact this
 have HY:jt (y0.heap=wl.heap/\y0.os=wl.os):=⟨aj,ag⟩;clear aj ag;unfold fT;go_simp;simp only[iG];clear e0
 (iterate 2 (refine fc ?_;go_simp));refine dh.ie HK ?_;clear HK kk;refine kY λkk HK=>?_;refine dh.region ?_
 (iterate 3 (refine fc ?_;go_simp));refine oe rfl (by rfl) (by kernel_rfl) λy1 a' ah=>?_;have ak:y1.heap=wl.heap:=a'.trans HY.out.1;have e0:=dn (by rw[ak];exact HA.out.2.2.2.2.2.2.2.1);have al:jt (y1.heap=wl.heap/\y1.os=wl.os):=⟨ak,ah.trans HY.out.2⟩;clear a' ah ak;unfold fT;go_simp;simp only[iG];obtain⟨hs,hA,hK,h5,Y,O,hV,aa,hb,ad,ab,hX,fin,hT⟩:=HA.out;rw[<-al.out.1]at hs O aa hb;clear e0;refine dh.qp #[.int .i64 (k:Int),.string S,.agg #[.int .i64 A.m,.string A.q,.int .i64 A.t],l0,l0,l0,l0,l0,l0,l0,l0] (i:=4) (gP:=f79) (c:=ed f79) rfl rfl func79 (by kernel_rfl) P6 rfl (by simp[dQ]) (by kernel_rfl) ?_;refine xD k A (S:=S) (ps:=ps) (qs:=qs) s hs rfl hA hK h5 Y O ab hX hV λw2 z2 o2 U p2=>?_;have ae:b<s:=by rw[hs];exact(cQ.1 hb).1
 have am:w2.heap[b]?=some (.cells (mT cl) 125 (0,0)):=(o2 b ae).trans hb;have aQ:k<7:=by omega
 have aA:∀r,r<s->w2.heap[r]?=wl.heap[r]?:=λr hr=>(o2 r hr).trans (by rw[al.out.1]);have aB:w2.os=wl.os:=p2.trans al.out.2;have H2:jt _:=And.intro z2 (And.intro aA (And.intro aB (And.intro am (And.intro ae U))));clear hs hA hK h5 Y O hV aa hb ad ab hX fin hT z2 o2 U p2 am ae aA aB;rw[fv];go_simp;have aC:(k:Int)<7:=by omega
 (refine fc ?_;go_simp);clear aC;refine oe rfl (by rfl) (by kernel_rfl) λy2 an ai=>?_;have gb:y2.heap[b]?=some (.cells (mT cl) 125 (0,0)):=by rw[an];exact H2.out.2.2.2.1
 have e0:y2.cell? ⟨b,k,none⟩=some (.chan (cl k)):=by
  rw[dn gb];rcases(by omega:k=0\/k=1\/k=2\/k=3\/k=4\/k=5\/k=6)with rfl|rfl|rfl|rfl|rfl|rfl|rfl<;>rfl
 have f0:y2.frozen? ⟨b,k,none⟩=false:=dO gb k;have af:jt (y2.heap=w2.heap/\y2.os=w2.os):=⟨an,ai⟩;have HG:jt _:=gb;clear an ai gb;unfold fT;go_simp;simp only[iG];clear e0 f0;obtain⟨w3,ac⟩:∃w3,w3=y2.setCell ⟨b,k,none⟩ (.chan (some (s+3))):=⟨_,rfl⟩;have g3:w3.heap[b]?=some (.cells (mT (ma cl k (s+3))) 125 (0,0)):=by rw[ac,heap_set HG.out k (.chan (some (s+3))),<-Lu aQ];simp only[cW]
 have o3:∀r,r≠b->w3.heap[r]?=w2.heap[r]?:=λr hr=>by rw[ac,e8 _ _ _ _ hr,af.out.1]
 have z3:w3.heap.size=s+5:=by rw[ac,ve,af.out.1];exact H2.out.1
 have p3:w3.os=w2.os:=by rw[ac,qL];exact af.out.2
 rw[<-ac];clear ac HG af y2;have H3:jt _:=And.intro g3 (And.intro o3 (And.intro z3 p3));clear g3 o3 z3 p3;refine dh.ie HK ?_;clear HK kk;refine dh.inBlock ?_;refine kY λkk HK=>?_;refine dh.region ?_
 (refine fc ?_;go_simp);have aD:IntKind.i64.wrap ((k:Int)+1)=((k+1:Nat):Int):=by simp only[kB];omega
 rw[aD];clear aD
 (refine fc ?_;go_simp);refine dh.inRegion ?_;rw[HK.out,HB.out];refine dh.inLoop ?_;obtain⟨hs,hA,hK,h5,Y,O,hV,aa,hb,ad,ab,hX,fin,hT⟩:=HA.out;obtain⟨g3,o3,z3,p3⟩:=H3.out;obtain⟨z2,o2,p2,am,ae,U⟩:=H2.out;have ek:(k:Int)+1=((k+1:Nat):Int):=by omega
 rw[ek,<-b8];refine fin w3 _ _ _ _ _ _ _ _ _ _ _ _ _ z3 (λr hr hn=>(o3 r hn).trans (o2 r hr)) g3 (λr a c h=>?_) (p3.trans p2);by_cases hr:r=b;rw[hr,g3]at h;cases h;rw[o3 r hr]at h;exact U r a c h
end
end
section
def jF(A:Ask)(P:Nat->List (Nat×dp)):Nat->List mB
 |0=>[]
 |k+1=>(P k).map (qo A k)++jF A P k
def allM(A:Ask)(P:Nat->List (Nat×dp))(es:List dp)(n:Nat):List mB:=(gT es).map (qo A n)++jF A P n
section
variable {A:Ask} {P Q:Nat->List (Nat×dp)}
def km(ps:List (Nat×dp)):List Wd:=ps.map λp=>p.2.name
def AB:∀n,(∀j,j<n->P j=Q j)->jF A P n=jF A Q n
 |0,_=>rfl|n+1,h=>by simp only[jF];rw[h n (by omega),AB n λj O=>h j (by omega)]
def uA:∀n,∀m∈jF A P n,m.xy<n
 |0,m,h=>by simp[jF]at h
 |n+1,m,h=>by
  rcases b9.1 h with h|h
  .obtain⟨p,_,rfl⟩:=b4.1 h
   rw[(iA n p).1];omega
  have:=uA n m h;omega
def Bt(l r:List mB)(x:Wd):eX (l++r) x=max (eX l x) (eX r x):=by
 induction l with
 |nil=>simp[eX]|cons a l O=>
  simp only[cN,eX,O];split<;>omega
def Dp(n:Nat)(ps:List (Nat×dp))(x:Wd):eX (ps.map (qo A n)) x=if x∈km ps then n else 0:=by
 induction ps with
 |nil=>simp[eX,km]|cons p ps U=>
  have e:km (p::ps)=p.2.name::km ps:=rfl;rw[e,bJ];simp only[eX,(iA n p).1,(iA n p).2.2.1,U];by_cases h:p.2.name=x;by_cases O:x∈km ps<;>simp[h,O];have Y:¬x=p.2.name:=λe=>h e.symm;by_cases O:x∈km ps<;>simp[h,O,Y]
def xp(n:Nat)(x:Wd):eX (jF A P (n+1)) x=if x∈km (P n)then n else eX (jF A P n) x:=by
 show eX (_++_) x=_;rw[Bt,Dp];split;have:eX (jF A P n) x<=n:=vH _ _ λm hm=>by have:=uA n m hm;omega
 omega;omega
def FQ:∀n,∀m∈jF A P n,m.wanted=true->m.Nf.name=m.name
 |0,m,h=>by simp[jF]at h
 |n+1,m,h=>by
  intro O
  rcases b9.1 h with h|h
  .obtain⟨p,_,rfl⟩:=b4.1 h
   rw[(iA n p).2.2.2]at O;rw[Hn O,(iA n p).2.2.1]
  exact FQ n m h O
def Gu(P:Nat->List (Nat×dp)):Nat->List dp
 |0=>[]
 |n+1=>sn (P n)++(Gu P n).filter λe=>!decide (e.name∈km (P n))
def A1:∀n,dY (jF A P n) (jF A P n)=(Gu P n).filter A.has
 |0=>rfl
 |n+1=>by
  have ih:=A1 n
  show dY _ ((P n).map _++jF A P n)=(sn _++_).filter _;unfold dY;rw[bT,b8,bT];congr 1;rw[cz,bC]
  have e:(P n).filter ((λm=>m.wanted&&m.xy==eX (jF A P (n+1)) m.name) ∘ qo A n)=(P n).filter (A.has ∘ kt):=by
   apply bW;intro p O;have Y:p.2.name∈km _:=b4.2 ⟨p,O,rfl⟩;simp only[Function.comp_apply,(iA n p).1,(iA n p).2.2.1,(iA n p).2.2.2,xp,if_pos Y,beq_self_eq_true,Bool.and_true]
  rw[e];rw[cz];apply bK;intro p O;exact Hn (b7.1 O).2
  have e:(jF A P n).filter (λm=>m.wanted&&m.xy==eX (jF A P (n+1)) m.name)=((jF A P n).filter λm=>m.wanted&&m.xy==eX (jF A P n) m.name).filter λm=>!decide (m.Nf.name∈km (P n)):=by
   rw[bS];apply bW;intro m hm;have hs:=uA n m hm;rw[xp]
   cases hw:m.wanted with
   |false=>simp|true=>
    rw[FQ n m hm hw];by_cases U:m.name∈km (P n);have:(m.xy==n)=false:=by simp;omega
    simp[U,this];simp[U]
  rw[e];have f:=cz (f:=mB.Nf) (p:=λe=>!decide (e.name∈km (P n))) (l:=(jF A P n).filter λm=>m.wanted&&m.xy==eX (jF A P n) m.name);unfold dY at ih;rw[ih]at f;refine f.symm.trans ?_;rw[bS,bS];congr 1;funext x;exact Bool.and_comm ..
def Jt(b:List dp)(e:dp):j5 b e = !decide (e.name∈b.map dp.name):=by
 unfold j5 qY;rw[Bool.eq_iff_iff];simp[List.findIdx?_eq_none_iff]
def FH{ss:List (List dp)}(O:∀j(h:j<ss.length),(sn (P j)).Perm ss[j]):∀n,n<=ss.length->(Gu P n).Perm (eu (ss.take n))
 |0,_=>by simp[Gu,eu]
 |n+1,h=>by
  have Y:=FH O n (by omega)
  have U:=O n (by omega);rw[bL _,ew];refine(k7 U ?_).trans cE
  have e:(λe=>!decide (e.name∈km (P n)))=j5 ss[n]:=by
   funext e;rw[Jt]
   have h1:e.name∈km (P n)↔e.name∈ss[n].map dp.name:=by
    have:=(U.map dp.name).mem_iff (a:=e.name);rw[bC]at this;exact this
   rw[decide_eq_decide.2 h1]
  rw[e];exact Y.filter _
def Az(U:∀j,(km (P j)).Nodup):∀n,((Gu P n).map dp.name).Nodup
 |0=>List.Pairwise.nil
 |n+1=>by
  show((sn _++_).map _).Nodup
  rw[b8,bM]
  refine⟨by rw[bC];exact U n,(Az U n).sublist ((ck).map _),?_⟩
  rintro x Y y hy rfl
  obtain⟨e,he,rfl⟩:=b4.1 hy
  have O:=by simpa using(b7.1 he).2
  rw[bC]at Y;exact O Y
end
end
section
open Go.Conc Go.RowKit Go.Maps
section
variable {Z:jj prog} {w:World} {T:List Frame} {dd q:Nat}
def PD{A:Ask}{es:List dp}{ex:Obj}{Ss:Nat->ByteArray}{P:Nat->List (Nat×dp)}{sa:Option Addr}{n sc bx b:Nat}{ms:List mB}(hT:∀ps,T=[ps]->ps.mode≠.panicking [ee])
  (hA:A.Ok) (a5:5<=q) (hq:q<w.heap.size) (a':w.heap[q]?=some ex) (hM:sJ ex es) (hl:es.length<=100000) (aA:∀e∈es,e.name.length<=dj/\e.text.length<=1048576/\(e.gone=false->0<=e.dE/\e.dE<=255)) (hn:n<=6)
  (hS:∀j,j<n->(Ss j).size<=1099511627775/\∃ps qs,ij (Ss j).size (Ss j).data.toList=some (ps,qs)/\P j=ps++qs) (af:∀a,sa=some a->a.block≠b) (aB:bx≠b)
  (aC:ms=(gT es).map (qo A n)++jF A P n) (aD:Gj ms)
  (fin:∀(E₂:Env prog)av ag aw,E₂.Z=Z->E₂.T=T->E₂.w0=w->(ag=[]\/∃k2,ag=.code .ret::k2)->BX prog E₂ Tryz.f49 av aw (Ck ms) (Cg ms)->dh E₂ [⟨49,av,ag⟩] aw []) :
  ∀(d k K s:Nat)(wl:World)(V:Vs)(cl:Nat->Option Nat)(a2 a3 a4 a6 a8 a9 a10 ah a15 a16 a17 a18 a19 a20 a21 a22 a23 a24 a25 a26 a27 a28 a29 ai aj ak al am an ao ap aq ar au:Value),n=k+d->s=wl.heap.size->K<=s->5<=s->dd<s->(∀(r:Nat)a c,wl.heap[r]?≠some (.map a c))->(∀x∈V,x.1<s)->
   wl.heap[bx]?=some (.cells #[.int .i64 A.m,.string A.q,.int .i64 A.t] 94 (0,0))->wl.heap[b]?=some (.cells (mT cl) 125 (0,0))->(∀a,sa=some a->a.block<s)->(∀j,j<n->∃sb so,sa=some ⟨sb,so,none⟩/\wl.cell? ⟨sb,so+j,none⟩=some (.string (Ss j)))->
   (∀j,k<=j->cl j=none)->(∀j r,j<7->cl j=some r->∃vs,(r,some vs)∈V)->(∀x∈V,∃j vs,j<7/\cl j=some x.1/\x.2=some vs)->(∀j j' r,j<7->j'<7->cl j=some r->cl j'=some r->j=j')->(V.map ks).Nodup->V.length=k->sV V=(jF A P k).map mB.val->
   dh (mV prog Z w T dd q K false) [⟨49,#[.slice sa n sc,.map (some dd),a2,a3,a4,.pointer (some ⟨bx,0,none⟩),a6,.pointer (some ⟨b,0,none⟩),a8,a9,a10,.slice sa n sc,.int .i64 (n:Int),.int .i64 (k:Int),ah,a15,a16,a17,a18,a19,a20,a21,a22,a23,a24,a25,a26,a27,a28,a29,ai,aj,ak,al,am,an,ao,ap,aq,ar,au],.code (yy (ed Tryz.f49))::.inLoop (yy (ed Tryz.f49))::.inBlock 0::[.code (KU (ed Tryz.f49))]⟩] wl V:=by
 intro d;induction d with
 |zero=>
  intro k K s wl V cl a2 a3 a4 a6 a8 a9 a10 ah a15 a16 a17 a18 a19 a20 a21 a22 a23 a24 a25 a26 a27 a28 a29 ai aj ak al am an ao ap aq ar au ax hs hK h5 Y aa hV O hb ac ae U jP fG sT fO ab ad;obtain rfl:n=k:=ax;have HC:jt _:=And.intro hs (And.intro hK (And.intro h5 (And.intro Y (And.intro aa (And.intro hV (And.intro O (And.intro hb (And.intro U (And.intro jP (And.intro fG (And.intro sT (And.intro fO (And.intro ab ad)))))))))))));clear hs hK h5 Y aa hV O hb ac ae U jP fG sT fO ab ad;show dh _ [⟨_,_,.code (.seq (.region 3 _ false) (.seq (.cond _ .skip (.exit 0)) _))::_⟩] _ _;refine dh.sr λkk HK=>?_
  (refine fc ?_;go_simp);refine dh.ie HK ?_;clear HK kk;refine dh.seq (dh.nW trivial (by first|rfl|simp[iW]) ?_);refine dh.exit (k':=[.code (KU (ed Tryz.f49))]) rfl ?_;obtain⟨hs,hK,h5,Y,aa,hV,O,hb,U,jP,fG,sT,fO,ab,ad⟩:=HC.out;exact Dt (s:=s) (ms0:=jF A P n) (ms:=ms) hT hs hA (by omega) h5 Y a5 hq a' hM aa hl aA hn hV O hb U jP fG sT fO ab ad aC aD fin
 |succ d ih=>
  intro k K s wl V cl a2 a3 a4 a6 a8 a9 a10 ah a15 a16 a17 a18 a19 a20 a21 a22 a23 a24 a25 a26 a27 a28 a29 ai aj ak al am an ao ap aq ar au ax hs hK h5 Y aa hV O hb ac ae U jP fG sT fO ab ad;obtain⟨hz,ps,qs,hX,hP⟩:=hS k (by omega);obtain⟨sb,so,rfl,aE⟩:=ae k (by omega);have ac:sb<s:=ac _ rfl;have af:sb≠b:=af _ rfl;refine Nb hT hs hA (by omega) h5 Y aa hn (by omega) hV O hb aE hz hX λw2 c8 c9 aI aJ aK aL aM aN aO aP aQ aR aS z2 o2 g2 ay p2=>?_;have aF:bx<s:=by rw[hs];exact(cQ.1 O).1
  refine ih (k+1) (s+5) (s+5) w2 _ (ma cl k (s+3)) _ _ _ _ _ _ _ _ _ _ _ _ _ _ _ _ _ _ _ _ _ _ _ _ _ _ _ _ _ _ _ _ _ _ (by omega) z2.symm (ej _) (by omega) (by omega) ay (λx hx=>?_) ((o2 bx aF aB).trans O) g2 (λa e=>by cases e;show sb<s+5;omega) (λj hj=>?_) (λj hj=>?_) (λj r hj hr=>?_) (λx hx=>?_) (λj j' r hj az hr hr'=>?_) ?_ (by simp[ab]) ?_;rcases bB.1 hx with rfl|hx
  show s+3<s+5;omega;have:=hV x hx;omega;obtain⟨aG,aH,e,this⟩:=ae j hj;refine⟨aG,aH,e,?_⟩;cases e;unfold ka at this⊢;rw[o2 sb ac af];exact this;unfold ma;rw[if_neg (by omega)];exact U j (by omega);unfold ma at hr;split at hr
  cases hr;exact⟨_,bF⟩;obtain⟨vs,h⟩:=jP j r hj hr;exact⟨vs,bN _ h⟩;rcases bB.1 hx with rfl|hx
  exact⟨k,_,by omega,by simp[ma],rfl⟩;obtain⟨j,vs,h1,h2,h3⟩:=fG x hx;refine⟨j,vs,h1,?_,h3⟩;unfold ma;rw[if_neg (λe=>by rw[e,U k (ej _)]at h2;cases h2)];exact h2;unfold ma at hr hr'
  have hold:∀i r,i<7->cl i=some r->r≠s+3:=λi r hi h e=>by
   obtain⟨vs,h⟩:=jP i r hi h;have:=hV _ h;omega
  split at hr<;>split at hr';omega
  cases hr;exact absurd rfl (hold j' _ az hr')
  cases hr';exact absurd rfl (hold j _ hj hr);exact sT j j' r hj az hr hr';rw[bJ,bO];refine⟨λh=>?_,fO⟩;obtain⟨x,hx,e⟩:=b4.1 h;have:=hV x hx;omega;show(ps++qs).map _++sV V=((P k).map _++jF A P k).map _;rw[b8 (l₁:=(P k).map _),bC,hP];congr 1;exact bK λp _=>(FC A k p).symm
end
end
section
open Go.Conc Go.RowKit Go.Maps
section
variable {Z:jj prog} {w:World} {T:List Frame} {dd q K:Nat} {wl:World}
def Pu{A:Ask}{es:List dp}{ex:Obj}{Ss:Nat->ByteArray}{P:Nat->List (Nat×dp)}{sa:Option Addr}{n sc s:Nat}{ms:List mB}(hT:∀ps,T=[ps]->ps.mode≠.panicking [ee])
  (hs:s=wl.heap.size) (hA:A.Ok) (hK:K<=s) (h5:5<=s) (ak:dd<s) (ad:5<=q) (hq:q<w.heap.size) (ae:w.heap[q]?=some ex) (hM:sJ ex es) (af:∀(r:Nat)a c,wl.heap[r]?≠some (.map a c))
  (hl:es.length<=100000) (ag:∀e∈es,e.name.length<=dj/\e.text.length<=1048576/\(e.gone=false->0<=e.dE/\e.dE<=255))
  (hn:n<=6) (hS:∀j,j<n->(Ss j).size<=1099511627775/\∃ps qs,ij (Ss j).size (Ss j).data.toList=some (ps,qs)/\P j=ps++qs) (Y:∀a,sa=some a->a.block<s) (ah:∀j,j<n->∃sb so,sa=some ⟨sb,so,none⟩/\wl.cell? ⟨sb,so+j,none⟩=some (.string (Ss j)))
  (ai:ms=(gT es).map (qo A n)++jF A P n) (aj:Gj ms)
  (fin:∀(E₂:Env prog)am al an,E₂.Z=Z->E₂.T=T->E₂.w0=w->(al=[]\/∃k2,al=.code .ret::k2)->BX prog E₂ Tryz.f49 am an (Ck ms) (Cg ms)->dh E₂ [⟨49,am,al⟩] an []) :
  dh (mV prog Z w T dd q K false) [⟨49,#[.slice sa n sc,.map (some dd),.agg #[.int .i64 A.m,.string A.q,.int .i64 A.t],l0,l0,l0,l0,l0,l0,l0,l0,l0,l0,l0,l0,l0,l0,l0,l0,l0,l0,l0,l0,l0,l0,l0,l0,l0,l0,l0,l0,l0,l0,l0,l0,l0,l0,l0,l0,l0,l0],[.code (ed Tryz.f49)]⟩] wl []:=by
 have HN:jt _:=And.intro hn (And.intro hS (And.intro Y ah));clear hn hS Y ah;have HC:jt _:=And.intro hs (And.intro hA (And.intro hK (And.intro h5 (And.intro ak (And.intro ad (And.intro hq (And.intro ae (And.intro hM (And.intro af (And.intro hl (And.intro ag (And.intro ai (And.intro aj (And.intro fin hT))))))))))))));clear hs hA hK h5 ak ad hq ae hM af hl ag ai aj fin hT;show dh _ [⟨_,_,[.code (.seq (.region 0 _ false) (.seq (.region 1 _ false) (.seq (.seq (.region 2 _ false) (.block 0 (.loop (.seq (.region 3 _ false) (.seq (.cond _ .skip (.exit 0)) _))))) (KU (ed Tryz.f49)))))]⟩] _ _;refine dh.sc λkk HK=>?_;refine jA (by kernel_rfl) (by rw[HK.out];rfl) (.inr HC.out.2.2.2.2.2.2.2.2.2.2.2.2.2.2.2) λy0 ab U=>?_;have HY:jt (y0.heap=wl.heap/\y0.os=wl.os):=⟨ab,U⟩;clear ab U;go_wp2;refine ia ?_;rw[HK.out];clear HK kk;obtain⟨w3,aa⟩:∃w3,w3=y0.alloc (.cells #[.int .i64 A.m,.string A.q,.int .i64 A.t] 94):=⟨_,rfl⟩;have O:y0.heap.size=s:=by rw[HY.out.1];exact HC.out.1.symm
 have z3:w3.heap.size=s+1:=by rw[aa];simp[O]
 have o3:∀r,r<s->w3.heap[r]?=wl.heap[r]?:=λr hr=>by rw[aa,iM _ _ (by rw[O];omega),HY.out.1]
 have g3:w3.heap[s]?=some (.cells #[.int .i64 A.m,.string A.q,.int .i64 A.t] 94 (0,0)):=by rw[aa,kK _ _ O.symm]
 have p3:w3.os=wl.os:=by rw[aa];exact HY.out.2
 rw[<-aa,O];clear aa HY O y0;have H3:jt _:=And.intro z3 (And.intro o3 (And.intro g3 p3));clear z3 o3 g3 p3;refine dh.sc λkk HK=>?_;refine jA (by kernel_rfl) (by rw[HK.out];rfl) (.inr HC.out.2.2.2.2.2.2.2.2.2.2.2.2.2.2.2) λy0 ab U=>?_;have HY:jt (y0.heap=w3.heap/\y0.os=w3.os):=⟨ab,U⟩;clear ab U;go_wp2;refine ia ?_;rw[HK.out];clear HK kk;obtain⟨w4,ac⟩:∃w4,w4=y0.alloc (.cells (mT λ_=>none) 125):=⟨_,rfl⟩;have O:y0.heap.size=s+1:=by rw[HY.out.1];exact H3.out.1
 have z4:w4.heap.size=s+2:=by rw[ac];simp[O]
 have o4:∀r,r<s+1->w4.heap[r]?=w3.heap[r]?:=λr hr=>by rw[ac,iM _ _ (by rw[O];omega),HY.out.1]
 have g4:w4.heap[s+1]?=some (.cells (mT λ_=>none) 125 (0,0)):=by rw[ac,kK _ _ O.symm]
 rw[show y0.alloc (.cells #[.chan none,.chan none,.chan none,.chan none,.chan none,.chan none,.chan none] 125)=w4 from ac.symm,O];clear ac HY O y0;have H4:jt _:=And.intro z4 (And.intro o4 g4);clear z4 o4 g4;refine dh.seq ?_;refine dh.sr λkk HK=>?_
 (iterate 3 (refine fc ?_;go_simp));refine dh.ie HK ?_;clear HK kk;refine dh.block (dh.loop ?_);obtain⟨hs,hA,hK,h5,ak,ad,hq,ae,hM,af,hl,ag,ai,aj,fin,hT⟩:=HC.out;obtain⟨z3,o3,g3,p3⟩:=H3.out;obtain⟨z4,o4,g4⟩:=H4.out;obtain⟨hn,hS,Y,ah⟩:=HN.out;refine PD (b:=s+1) (bx:=s) (Ss:=Ss) (P:=P) hT hA ad hq ae hM hl ag hn hS (λa e=>by have:=Y a e;omega) (by omega) ai aj fin n 0 K (s+2) w4 [] (λ_=>none) _ _ _ _ _ _ _ _ _ _ _ _ _ _ _ _ _ _ _ _ _ _ _ _ _ _ _ _ _ _ _ _ _ _ (by omega) z4.symm (by omega) (by omega) (by omega) (λr a c=>?_) (λx hx=>by cases hx) ((o4 s (by omega)).trans g3) g4 (λa e=>by have:=Y a e;omega) (λj hj=>?_) (λ_ _=>rfl) (λ_ _ _ h=>by cases h) (λx hx=>by cases hx) (λ_ _ _ _ _ h=>by cases h) List.nodup_nil rfl rfl;by_cases h1:r<s;rw[o4 r (by omega),o3 r h1];exact af r a c;by_cases h2:r=s;rw[h2,o4 s (by omega),g3];simp;by_cases h3:r=s+1;rw[h3,g4];simp;rw[cU (by omega)];simp;obtain⟨sb,so,e,this⟩:=ah j hj;have ao:sb<s:=Y _ e;refine⟨sb,so,e,?_⟩;unfold ka at this⊢;rw[o4 sb (by omega),o3 sb ao];exact this
end
end
section
open Go.Conc Go.RowKit Go.Maps
section
variable {E:Env prog} {fn:dk} {tm:Array Value} {os:List OF} {wl:World} {k:List Item}
def dh.Ra{ops:Array Oper}{i:Nat}{rest:List Nat}{o:Oper}{xs:Array Operand}{ts:Array dq}{A:Ask}{es:List dp}{Ss:Nat->ByteArray}{P:Nat->List (Nat×dp)}{ms:List mB}{sa:Option Addr}{n sc lb:Nat}(ac:∀b,b<E.w0.heap.size->E.fK b\/E.w0.heap[b]?=some pF)(aO:E.st=true)(hi:ops[i]?=some o)(au:j1 o (dr ops tm)=true)(ho:o.op=.call {callee:=.value (.func 49),args:=xs,argTypes:=ts})(av:∀x∈xs.toList,dQ E.fF E.gl x)
  (aw:xs.size=3) (ad:xs.map (iW tm)=#[.slice sa n sc,.map (some lb),.agg #[.int .i64 A.m,.string A.q,.int .i64 A.t]]) (hA:A.Ok) (hs:eE wl lb es) (aP:5<=lb) (ax:(sa=none/\n=0)\/∃sb U c e f,sa=some ⟨sb,U,none⟩/\5<=sb/\wl.heap[sb]?=some (.cells c e f)/\∀j,j<n->c[U+j]?=some (.string (Ss j))) (hn:n<=6) (ay:∀j,j<n->(Ss j).size<=1099511627775/\∃ps qs,ij (Ss j).size (Ss j).data.toList=some (ps,qs)/\P j=ps++qs) (ag:ms=(gT es).map (qo A n)++jF A P n) (az:Gj ms)
  (hl:es.length<=100000) (a5:∀e∈es,e.name.length<=dj/\e.text.length<=1048576/\(e.gone=false->0<=e.dE/\e.dE<=255))
  (aA:∀l cp,Ck ms l cp->dh E (⟨fn,eP o.dst tm (.slice none l cp),.inRegion ops rest::k⟩::os) wl [])
  (ae:∀off spot l cp cs e f,Cg ms off spot l cp cs e f->(∀v∈cs.toList,Flat v)->dh E (⟨fn,eP o.dst tm (.slice (some ⟨wl.heap.size,off,spot⟩) l cp),.inRegion ops rest::k⟩::os) {wl with heap:=wl.heap.push (.cells cs e f)} []) :
  dh E (⟨fn,tm,.inRegion ops (i::rest)::k⟩::os) wl []:=by
 refine dh.phase (R0:=Ck ms) (R1:=Cg ms) (gP:=Tryz.f49) (c:=ed Tryz.f49) ac hi au func49 (by kernel_rfl) Qd ho av ?_ aA ae;intro m w ys T aB hw Y hT;rw[ad]at Y;have hG:m.G=5:=aB.qf.env.G.trans zN;obtain⟨ex,ah,hM⟩:=Hw hs;have h0:=Y.idx 0 (by simp) (by rw[<-Y.size];simp);have h1:=Y.idx 1 (by simp) (by rw[<-Y.size];simp);have h2:=Y.idx 2 (by simp) (by rw[<-Y.size];simp);have aC:ys.size=3:=by rw[<-Y.size];rfl
 obtain⟨y0,y1,y2,rfl⟩:∃y0 y1 y2,ys=#[y0,y1,y2]:=⟨ys[0],ys[1],ys[2],by
  refine df (by simp[aC]) λj h1 h2=>?_;have:j<3:=by omega
  rcases(by omega:j=0\/j=1\/j=2)with rfl|rfl|rfl<;>rfl⟩
 have h0:VR m (.slice sa n sc) y0:=h0;have h1:VR m (.map (some lb)) y1:=h1;have h2:VR m (.agg #[.int .i64 A.m,.string A.q,.int .i64 A.t]) y2:=h2
 have aa:Flat (.agg #[.int .i64 (A.m:Int),.string A.q,.int .i64 (A.t:Int)]):=.agg λi hi=>by
  have:i<3:=hi;match i,this with
  |0,_|2,_=>exact .int _ _|1,_=>exact .string _
 have e2:=aa.eq m _ h2;subst e2
 obtain⟨q,rfl,hq⟩:∃q,y1=.map (some q)/\m.blk lb=some q:=by
  cases h1 with
  |map hb=>exact⟨_,rfl,hb⟩|gone hd=>
   obtain⟨_,c,e,f,hc⟩:=hw.dead lb hd;obtain⟨a,c2,hx⟩:=hM.isMap;rw[ah,hx]at hc;cases hc
 have aD:5<=q:=by
  have:=m.po lb q hq;omega
 obtain⟨o1,o2,g1,g2,g3⟩:=hw.obj lb q hq;rw[ah]at g1;cases g1;have aE:=hM.inv m _ g3;subst aE;have aF:q<w.heap.size:=(cQ.1 g2).1;have aG:5<=w.heap.size:=by have:=hw.Ld;omega
 have fin:∀(b5:Option Nat)(h5:∀b,b5=some b->5<=b)(c1:Array Value)(e5:dq)(hb:∀b,b5=some b->∃c' f',w.heap[b]?=some (.cells c' e5 f')/\∀m1,eD m1 c1 c')(s5:Option Addr)(ai:∀a,s5=some a->a.block<7)(aj:∀j,j<n->∃U,s5=some ⟨5,U,none⟩/\c1[U+j]?=some (.string (Ss j))),VR (U4 b5 q h5) (.slice s5 n sc) y0->
   ∃(O:Env prog)(ak:Array Value)(m1:Ren)(al:World),O.Z=E.Z/\O.T=T/\O.w0=w/\(∀b,O.fK b↔b<w.heap.size)/\Rg O m1/\WR m1 al w/\(∀r b,m1.blk r=some b->m1.loose r)/\eD m1 ak (#[y0,.map (some q),.agg #[.int .i64 A.m,.string A.q,.int .i64 A.t]]++cX (Tryz.f49.ntmps-xs.size) l0)/\
   ((∀(E₂:Env prog)am af an,E₂.Z=E.Z->E₂.T=T->E₂.w0=w->(af=[]\/∃k2,af=.code .ret::k2)->BX prog E₂ Tryz.f49 am an (Ck ms) (Cg ms)->dh E₂ [⟨49,am,af⟩] an [])->dh O [⟨49,ak,[.code (ed Tryz.f49)]⟩] al []):=by
  intro b5 h5 c1 e5 hb s5 ai aj aH;refine⟨mV prog E.Z w T 6 q 6 false,#[.slice s5 n sc,.map (some 6),.agg #[.int .i64 A.m,.string A.q,.int .i64 A.t]]++cX 38 l0,U4 b5 q h5,VB (.cells c1 e5 (0,c1.size)) w,rfl,rfl,rfl,λb=>⟨λh=>h.1,λh=>⟨h,λh=>by cases h⟩⟩,T9 h5,TO h5 aG hb,λr b hr=>?_,?_,λao=>?_⟩;have hr:(if r=5 then b5 else none)=some b:=hr;split at hr;assumption
  cases hr
  .rw[aw];have hn:Tryz.f49.ntmps-3=38:=by kernel_rfl
   rw[hn];refine eD.append (eD.il rfl λi h1 h2=>?_) (.replicate _ (.undef _));have:i<3:=h1;match i,this with
   |0,_=>exact aH|1,_=>exact .gone rfl|2,_=>exact aa.refl _
  have ap:(#[.slice s5 n sc,.map (some 6),.agg #[.int .i64 A.m,.string A.q,.int .i64 A.t]]++cX 38 l0:Array Value)=#[.slice s5 n sc,.map (some 6),.agg #[.int .i64 A.m,.string A.q,.int .i64 A.t],l0,l0,l0,l0,l0,l0,l0,l0,l0,l0,l0,l0,l0,l0,l0,l0,l0,l0,l0,l0,l0,l0,l0,l0,l0,l0,l0,l0,l0,l0,l0,l0,l0,l0,l0,l0,l0,l0]:=by kernel_rfl
  rw[ap];refine Pu (s:=7) (Ss:=Ss) (P:=P) hT rfl hA (by omega) (by omega) (by omega) aD aF g2 hM (λr a c h=>?_) hl a5 hn ay ai (λj hj=>?_) ag az ao;rotate_left
  .obtain⟨U,e,h⟩:=aj j hj;refine⟨5,U,e,?_⟩;rw[dn (show(VB (.cells c1 e5 (0,c1.size)) w).heap[5]?=some (.cells c1 e5 (0,c1.size))from rfl)];exact h
  have h:(#[xU,xU,xU,xU,xU,Obj.cells c1 e5 (0,c1.size),xU]:Array Obj)[r]?=some (.map a c):=h;match r,h with
  |0,h|1,h|2,h|3,h|4,h|5,h|6,h=>cases h
  |r+7,h=>simp at h
 rcases ax with⟨rfl,rfl⟩|⟨sb,U,c,e,f,rfl,aN,hc,aq⟩
 .cases h0 with
  |fE l c=>exact fin none (λb h=>by cases h) #[] 0 (λb h=>by cases h) none (λa h=>by cases h) (λj hj=>absurd hj (by omega)) (.fE _ _)
 cases h0 with
 |@slice a a' _ _ aI=>
  cases aI with
  |@mk b b' off spot ar=>
   obtain⟨o1,o2,k1,k2,k3⟩:=hw.obj sb b' ar;rw[hc]at k1;cases k1
   cases k3 with
   |@cells _ c' _ _ f' aJ=>
    obtain⟨c1,ae,aQ,aK⟩:=aJ.flatten
    have aL:5<=b':=by
     have:=m.po sb b' ar;omega
    refine fin (some b') (λx hx=>by cases hx;exact aL) c1 e (λx hx=>by cases hx;exact⟨c',f',k2,ae⟩) (some ⟨5,U,none⟩) (λa h=>by cases h;show 5<7;omega) (λj hj=>⟨U,rfl,?_⟩) (.slice _ _ (.mk rfl));obtain⟨aM,hv⟩:=cQ.1 (aq j hj);have ab:U+j<c1.size:=by omega
    rw[cR ab,aK _ ab aM (by rw[hv];exact .string _),hv]
end
end
section
open Go.Conc Go.RowKit Go.Maps
section
variable {Z:jj prog} {W0:World} {Mp:Nat->Prop} {fn:dk} {tm:Array Value} {os:List OF} {wl:World} {k:List Item}
def Nh{ops:Array Oper}{i:Nat}{rest:List Nat}{o:Oper}{b lb:Nat}{vS vM vK:Value}{sa:Option Addr}{n sc mode dE most:Nat}{Ss:Nat->ByteArray}{P:Nat->List (Nat×dp)}{R:List dp}{qb:ByteArray}{es:List dp}(hi:ops[i]?=some o)(al:vS=.slice sa n sc)
  (hb:wl.heap[b]?=some (.cells #[.map (some lb),vS,vM,vK] 90 (0,0))) (hs:eE wl lb es) (ah:5<=lb) (am:((sa=none/\n=0)\/∃sb so c e f,sa=some ⟨sb,so,none⟩/\5<=sb/\wl.heap[sb]?=some (.cells c e f)/\∀j,j<n->c[so+j]?=some (.string (Ss j)))/\n<=6/\(∀j,j<n->(Ss j).size<=1099511627775/\∃ps qs,ij (Ss j).size (Ss j).data.toList=some (ps,qs)/\P j=ps++qs)/\∀A:Ask,A.Ok->Gj (allM A P es n)/\(dY (allM A P es n) (allM A P es n)).Perm (R.filter A.has))
  (hl:es.length<=100000) (ae:∀e∈es,e.name.length<=65536/\e.text.length<=1048576/\(e.gone=false->0<=e.dE/\e.dE<=255))
  (hm:mode<=3) (ht:dE<=255) (a':1<=most) (aA:most<=20) (hq:eA qb.data.toList=true) (aB:qb.size<=1000)
  (O:∀e∈R,e.gone=false->∀y:World,(∀r,r<5->y.heap[r]?=wl.heap[r]?)->di prog 51 #[.agg #[.string ⟨e.name.toArray⟩,.string ⟨e.text.toArray⟩,.int .i64 e.du,.int .i64 e.dE]] y λen w'=>en=.returned (.string ⟨(fN e).toArray⟩)/\eK y w') (h5:5<=wl.heap.size)
  (hn:∀(w2:World)(v:Value),(∀r,r<wl.heap.size->w2.heap[r]?=wl.heap[r]?)->wl.heap.size<=w2.heap.size->w2.os=wl.os->R2 w2 wl.heap.size R ⟨mode,⟨(dX qb.data.toList).toArray⟩,dE⟩ most v->dh (fg Z W0 Mp) (⟨fn,eP o.dst tm v,.inRegion ops rest::k⟩::os) w2 []) :
  dh (fg Z W0 Mp) (⟨17,#[.pointer (some ⟨b,0,none⟩),.int .i64 (mode:Int),.string qb,.int .i64 (dE:Int),.int .i64 (most:Int),l0,l0,l0,l0,l0,l0,l0,l0,l0,l0,l0,l0,l0,l0,l0,l0,l0,l0,l0,l0,l0,l0,l0,l0,l0,l0,l0,l0,l0,l0,l0,l0,l0,l0,l0,l0,l0,l0,l0,l0,l0,l0,l0,l0,l0,l0,l0,l0,l0,l0,l0,l0,l0,l0,l0,l0,l0,l0,l0,l0,l0,l0],[.code (ed f17)]⟩::⟨fn,tm,.inRegion ops (i::rest)::k⟩::os) wl []:=by
 have HA:jt _:=And.intro hb (And.intro hs (And.intro ah (And.intro am (And.intro hl (And.intro ae (And.intro O (And.intro h5 (And.intro hn al))))))));have HM:jt _:=And.intro hm (And.intro ht (And.intro a' (And.intro aA (And.intro hq aB))));clear hb hs ah am hl ae O h5 hn al;show dh _ (⟨_,_,[.code (.seq (.region 0 _ false) (.seq (.seq (.region 1 _ false) (.cond _ _ .skip)) (.seq (.seq (.region 3 _ false) (.cond _ _ .skip)) (.seq (.region 5 _ true) (.seq (.region 6 _ false) (.seq (.seq (.region 7 _ false) (.block 0 _)) (.seq (.region 12 _ false) .ret)))))))]⟩::_) _ _;refine dh.sr λkk HK=>?_
 (iterate 2 (refine dI ?_;go_simp));refine dh.ie HK ?_;clear HK kk;refine dh.seq (dh.sc λkk HK=>?_);refine H' (by kernel_rfl) (by rw[HK.out];rfl) (by simp) λτ=>?_;have g1:¬((dE:Int)<0):=by omega
 have g2:¬((255:Int)<(dE:Int)):=by omega
 have c1:=J8 mode hm (tp wl τ);have c2:=Gy (most:Int) (tp wl τ);rw[decide_eq_true (show(1:Int)<=most/\(most:Int)<=20 by omega)]at c2;have c3:=λτ=>rI qb (tp wl τ) (by unfold dj;omega);rw[hq]at c3;have C3:jt _:=c3;clear hm ht a' aA hq aB c3;go_wp2_with fail;refine c1.mono ?_;rintro e w' ⟨rfl,rfl⟩;clear c1;go_wp2_with fail;refine c2.mono ?_;rintro e w' ⟨rfl,rfl⟩;clear c2;go_wp2;refine ia (dh.rR τ ?_);rw[HK.out];simp only[decide_eq_false (lo.2 g1),decide_eq_false (lo.2 g2),Bool.or_false];clear HK kk g1 g2;refine dh.nW trivial rfl (dh.skip (dh.seq (dh.sc λkk HK=>?_)));refine H' (by kernel_rfl) (by rw[HK.out];rfl) (by simp) λτ=>?_;have c3:=C3.out τ;clear C3;go_wp2_with fail;refine c3.mono ?_;rintro e w' ⟨rfl,rfl⟩;clear c3;go_wp2;refine ia (dh.rR τ ?_);rw[HK.out];clear HK kk;refine dh.nW trivial rfl (dh.skip (dh.sc λkk HK=>?_))
 have ao:jt (∀y,lY wl y->y.cell? ⟨b,1,none⟩=some vS):=λy hy=>by
  obtain⟨τ,h⟩:=hy;exact dg h (show(tp wl τ).cell? _=_ by rw[dn (w:=tp wl τ) (show(tp wl τ).heap[b]?=_ from HA.out.1)];rfl)
 have ap:jt (∀y,lY wl y->y.cell? ⟨b,0,none⟩=some (.map (some lb))):=λy hy=>by
  obtain⟨τ,h⟩:=hy;exact dg h (show(tp wl τ).cell? _=_ by rw[dn (w:=tp wl τ) (show(tp wl τ).heap[b]?=_ from HA.out.1)];rfl)
 obtain⟨fb,aq⟩:∃fb:ByteArray,fb=⟨(dX qb.data.toList).toArray⟩:=⟨_,rfl⟩;have ar:jt (∀y:World,di prog 50 #[.string qb] y λe w'=>e=.returned (.string fb)/\eK y w'):=λy=>by rw[aq];exact pW qb y (by have:=HM.out;omega)
 have au:jt _:=aq;clear aq;refine dh.IL (Sd:=λa y=>lY wl y/\a.defers=[]/\dh _ (⟨_,a.tmps,.inRegion _ [13,14]::_⟩::_) y _) (last:=13) (tl:=[14]) (by kernel_rfl) (TD (by kernel_rfl)) ?_ (λa y h=>h.2);refine dH 0 ?_ ?_<|dH 1 ?_ ?_<|dH 2 ?_ ?_<|dH 3 ?_ ?_<|dH 4 ?_ ?_<|dH 5 ?_ ?_<|dH 6 ?_ ?_<|dH 7 ?_ ?_<|dH 8 ?_ ?_<|dH 9 ?_ ?_ ?_
 any_goals(intro y hy;have q:=ao.out y hy;have q1:=ap.out y hy;unfold fT;go_simp;refine⟨eK.refl _,?_⟩;with_reducible rfl)
 go_simp;refine dH 10 ?_ ?_ ?_;rotate_left
 .intro y hy;unfold fT;go_simp;refine⟨rfl,(ar.out y).mono ?_⟩;rintro e y2 ⟨rfl,h2⟩;refine⟨_,rfl,h2,?_⟩;with_reducible rfl
 go_simp;refine dH 11 ?_ ?_<|dH 12 ?_ ?_ ?_
 any_goals(intro y hy;unfold fT;go_simp;refine⟨eK.refl _,?_⟩;with_reducible rfl)
 go_simp;refine oA (by kernel_rfl) (λt=>ym (by kernel_rfl) (by kernel_rfl) _ _) ?_;intro y hy;refine⟨hy,rfl,?_⟩;obtain⟨τ,hx⟩:=hy;obtain⟨hb,hs,ah,am,hl,ae,O,h5,hn,al⟩:=HA.out;have af:wl.heap.size<=y.heap.size:=hx.size;have hold:∀r,r<wl.heap.size->y.heap[r]?=wl.heap[r]?:=λr hr=>hx.block r hr;have ab:y.os=wl.os:=hx.os;have av:eE y lb es:=dM.stay hs (hold lb (dM.lt hs));subst al;have ag:Ask.Ok ⟨mode,fb,dE⟩:=⟨HM.out.1,by show dE<256;have:=HM.out;omega,by rw[au.out];show(dX qb.data.toList).toArray.size<=_;rw[List.size_toArray,fH];have:=HM.out;simp;omega⟩;obtain⟨aw,ax,ay,az⟩:=am;have ai:=az ⟨mode,fb,dE⟩ ag;refine dh.Ra (A:=⟨mode,fb,dE⟩) (es:=es) (Ss:=Ss) (P:=P) (ms:=allM ⟨mode,fb,dE⟩ P es n) (sa:=sa) (n:=n) (sc:=sc) (lb:=lb) (xs:=#[.tmp 38,.tmp 42,.tmp 47]) (GM _ _ _) rfl rfl rfl rfl (by simp[dQ]) rfl (by kernel_rfl) ag av ah (aw.imp id λ⟨sb,so,c,e,f,h1,h2,h3,h4⟩=>⟨sb,so,c,e,f,h1,h2,by rw[hold _ (cQ.1 h3).1];exact h3,h4⟩) ax ay rfl ai.1 hl (λe he=>⟨by have:=(ae e he).1;unfold dj;omega,(ae e he).2⟩) ?_ ?_
 .intro l cp hr;obtain⟨rfl,rfl,_⟩:=id hr;have ad:uc y 4 (.slice none 0 0) 0 (iF []):=uc.nil y 4;have U:Pw (allM ⟨mode,fb,dE⟩ P es n) []:=hr.2.2;have Y:List.Perm [] (R.filter (Ask.has ⟨mode,fb,dE⟩)):=U.1.trans ai.2;have HH:jt _:=And.intro Y (And.intro U.2 (And.intro hold (And.intro af (And.intro ab (And.intro h5 (And.intro O (And.intro hn ad)))))));clear hb hs ah aw ax ay az ai hl ae O h5 hn af hold ab av ag U Y ad HA ap ao ar hx;rw[fv];go_simp
  (refine dI ?_;go_simp);refine dh.ie HK ?_;show dh _ (⟨_,_,[.code (PL (ed f17))]⟩::_) _ _;obtain⟨Y,a5,hold,af,ab,h5,O,hn,ad⟩:=HH.out;refine uS (L:=[]) hi ad rfl HM.out.2.2.1 HM.out.2.2.2.1 (by omega) (λe he y2 ac=>?_) (λw2 u h1 h2 h3 h4=>?_);have aa:=(Y.mem_iff.1 he);rw[b7]at aa;exact O e aa.1 (uq aa.2) y2 (λr hr=>(ac r hr).trans (hold r (by omega)));refine hn w2 _ (λr hr=>(h1 r (by omega)).trans (hold r hr)) (by omega) (h3.trans ab) ⟨[],?_,a5,u,rfl,jW h4 (by omega)⟩;rw[<-au.out];exact Y
 intro off spot l cp cs e f hr aH;obtain⟨rfl,rfl,rfl,rfl,L,aC,rfl,aD,aE,an,aj⟩:=hr;obtain⟨y2,ac⟩:∃y2:World,y2={y with heap:=y.heap.push (.cells cs 96 (0,0))}:=⟨_,rfl⟩;have ak:∀r,r<y.heap.size->y2.heap[r]?=y.heap[r]?:=λr hr=>by rw[ac];show(y.heap.push _)[r]?=_;rw[da,if_neg (by omega)]
 have aI:y2.heap.size=y.heap.size+1:=by rw[ac];simp
 have aF:y2.os=y.os:=by rw[ac]
 have aG:y2.heap[y.heap.size]?=some (.cells cs 96 (0,0)):=by rw[ac];simp
 have ad:uc y2 4 (.slice (some ⟨y.heap.size,0,none⟩) L.length cp) L.length (iF L):=uc.jk (base:=0) (e:=96) ⟨by rw[vk],.inr ⟨y.heap.size,cp,cs,rfl,et _,aG,aD,aE,an,aj⟩⟩;rw[<-ac];have hold:∀r,r<wl.heap.size->y2.heap[r]?=wl.heap[r]?:=λr hr=>(ak r (by omega)).trans (hold r hr);have af:wl.heap.size<=y2.heap.size:=by omega
 have ab:y2.os=wl.os:=aF.trans ab;clear ak aI aF aG aD aE an aj aH ac;have U:Pw (allM ⟨mode,fb,dE⟩ P es n) L:=aC;have Y:List.Perm L (R.filter (Ask.has ⟨mode,fb,dE⟩)):=U.1.trans ai.2;have HH:jt _:=And.intro Y (And.intro U.2 (And.intro hold (And.intro af (And.intro ab (And.intro h5 (And.intro O (And.intro hn ad)))))));clear hb hs ah aw ax ay az ai hl ae O h5 hn af hold ab av ag U aC Y ad HA ap ao ar hx;rw[fv];go_simp
 (refine dI ?_;go_simp);refine dh.ie HK ?_;show dh _ (⟨_,_,[.code (PL (ed f17))]⟩::_) _ _;obtain⟨Y,a5,hold,af,ab,h5,O,hn,ad⟩:=HH.out;refine uS (L:=L) hi ad rfl HM.out.2.2.1 HM.out.2.2.2.1 (by omega) (λe he y2 ac=>?_) (λw2 u h1 h2 h3 h4=>?_);have aa:=(Y.mem_iff.1 he);rw[b7]at aa;exact O e aa.1 (uq aa.2) y2 (λr hr=>(ac r hr).trans (hold r (by omega)));refine hn w2 _ (λr hr=>(h1 r (by omega)).trans (hold r hr)) (by omega) (h3.trans ab) ⟨L,?_,a5,u,rfl,jW h4 (by omega)⟩;rw[<-au.out];exact Y
end
end
section
section
variable {A:Ask} {P:Nat->List (Nat×dp)}
def Hc(O:∀j,(P j).length<=130):∀n,(jF A P n).length<=n*130
 |0=>by simp[jF]
 |n+1=>by
  have:=Hc O n
  have:=O n;simp only[jF,bG,bH];omega
def FB:∀n,∀m∈jF A P n,∃j,j<n/\∃p∈P j,m=qo A j p
 |0,m,h=>by simp[jF]at h
 |n+1,m,h=>by
  rcases b9.1 h with h|h
  .obtain⟨p,O,rfl⟩:=b4.1 h
   exact⟨n,by omega,p,O,rfl⟩
  obtain⟨j,U,x⟩:=FB n m h;exact⟨j,by omega,x⟩
def xk(O:∀j,((P j).map ks).Nodup):∀n,((jF A P n).map λm=>(m.xy,m.at')).Nodup
 |0=>List.Pairwise.nil
 |n+1=>by
  show((_++_:List mB).map _).Nodup
  rw[b8,bM]
  refine⟨?_,xk O n,?_⟩
  .rw[bC]
   have e:((λm=>(m.xy,m.at')) ∘ qo A n)=(λk=>(n,k)) ∘ ks:=by
    funext p;simp only[Function.comp_apply,(iA n p).1,(iA n p).2.1]
   rw[e,<-bC];have h:=O n;unfold cB at h⊢;rw[bU];exact h.imp λh e=>h (Prod.mk.inj e).2
  rintro x U y Y rfl;rw[bC]at U;obtain⟨p,_,rfl⟩:=b4.1 U;obtain⟨m,hm,he⟩:=b4.1 Y;have:=uA n m hm;have:=(Prod.mk.inj he).1;simp only[(iA n p).1]at this;omega
def FM:∀n,∀e∈Gu P n,∃j,j<n/\e∈sn (P j)
 |0,e,h=>by simp[Gu]at h
 |n+1,e,h=>by
  rcases b9.1 h with h|h
  .exact⟨n,by omega,h⟩
  .obtain⟨j,O,x⟩:=FM n e (b7.1 h).1
   exact⟨j,by omega,x⟩
end
def Je(A:Ask)(l:List dp):(dv l).filter A.has=l.filter A.has:=by
 unfold dv;rw[bS];apply bW;intro e _
 cases h:A.has e with
 |false=>rfl|true=>rw[uq h];rfl
def vD{e:dp}(h:NN e):e.name.length<=dj/\e.text.length<=1048576:=by
 have O:=(fZ (ru h)).2;refine⟨by unfold dj;omega,?_⟩;rcases h with h|h
 have:=(kg h.2.2.1);omega;rw[h.1];simp
def Qy{buf:List dp}{ss:List (List dp)}(hI:Inv buf ss):∃P:Nat->List (Nat×dp),
  (∀j(h:j<ss.length),∃ps qs,ij (dK ss[j]).length (dK ss[j])=some (ps,qs)/\P j=ps++qs)/\
  ∀A:Ask,Gj (allM A P buf ss.length)/\(dY (allM A P buf ss.length) (allM A P buf ss.length)).Perm ((dP ss buf).filter A.has):=by
 have ac:∀j,∃p:List (Nat×dp),∀h:j<ss.length,∃ps qs,ij (dK ss[j]).length (dK ss[j])=some (ps,qs)/\p=ps++qs/\(sn p).Perm ss[j]/\qk 0 (dK ss[j]).length p:=by
  intro j;by_cases h:j<ss.length;obtain⟨gs,es,Y,h2⟩:=tV (hI.iB _ (bA h));obtain⟨ps,qs,h3,h4,h5,h6⟩:=Nu Y;exact⟨ps++qs,λ_=>⟨ps,qs,h3,rfl,by rw[show sn (ps++qs)=sn ps++sn qs from b8,h4,h5];exact h2,h6⟩⟩;exact⟨[],λh'=>absurd h' h⟩
 obtain⟨P0,ab⟩:=kr ac;refine⟨P0,λj h=>?_,λA=>?_⟩
 .obtain⟨ps,qs,Y,h2,_⟩:=ab j h;exact⟨ps,qs,Y,h2⟩
 obtain⟨P,hP⟩:∃P:Nat->List (Nat×dp),P=λj=>if j<ss.length then P0 j else if j=ss.length then gT buf else []:=⟨_,rfl⟩
 have aa:P ss.length=gT buf:=by rw[hP];simp
 have fG:allM A P0 buf ss.length=jF A P (ss.length+1):=by
  show _++_=_++_;rw[aa,AB (P:=P0) (Q:=P) ss.length λj hj=>by rw[hP];simp[hj]]
 have af:(dv buf).length<=30:=er (lB _ _) hI.all
 have ad:buf.length<=130:=by
  have Y:=jM buf;have h2:=hI.gone;have:=pP buf;omega
 have ae:∀j(h:j<ss.length),ss[j].length<=130:=λj h=>lm (hI.iB _ (bA h))
 have U:∀j,∃l:List dp,(sn (P j)).Perm l/\(l.map dp.name).Nodup/\l.length<=130/\(∀e∈l,NN e)/\((P j).map ks).Nodup/\(∀p∈P j,p.1<4611686018427387904)/\(∀h:j<(ss++[buf]).length,l=(ss++[buf])[j]):=by
  intro j;rcases Nat.lt_trichotomy j ss.length with h|h|h
  obtain⟨ps,qs,_,_,h2,h3⟩:=ab j h;have e:P j=P0 j:=by rw[hP];simp[h]
  have hs:=hI.iB _ (bA h);refine⟨ss[j],by rw[e];exact h2,hs.nodup,ae j h,hs.each,?_,λp hp=>?_,λ_=>by rw[List.getElem_append_left h]⟩;rw[e];unfold cB;rw[bU];exact h3.2.2.imp λh=>Nat.ne_of_lt h;rw[e]at hp;have:=(h3.2.1 p hp).2;have:=pB hs;omega;subst h;refine⟨buf,by rw[aa];show(cP _ _).Perm _;rw[EV];exact nQ buf,hI.nodup,ad,hI.each,?_,λp hp=>?_,λ_=>by simp⟩;rw[aa,AC,bC];exact(List.nodup_range).map _ (λ_ _ h e=>h e);rw[aa,AC]at hp;obtain⟨k,hk,rfl⟩:=b4.1 hp;have:=cf.1 hk;omega;have e:P j=[]:=by rw[hP];simp[show ¬j<ss.length by omega,show ¬j=ss.length by omega]
  exact⟨[],by rw[e];exact .refl _,List.Pairwise.nil,by simp,by simp,by rw[e];exact List.Pairwise.nil,by rw[e];simp,λh'=>by simp at h';omega⟩
 have hL:∀j,(P j).length<=130:=λj=>by
  obtain⟨l,Y,_,h3,_⟩:=U j;have:=Y.length_eq;rw[bH]at this;omega
 have hN:∀j,(km _).Nodup:=λj=>by
  obtain⟨l,Y,h2,_⟩:=U j;have:=(Y.map _).nodup_iff.2 h2;rw[bC]at this;exact this
 have hG:∀j,∀p∈P j,NN _:=λj p hp=>by
  obtain⟨l,Y,_,_,h4,_⟩:=U j;exact h4 _ (Y.mem_iff.1 (b4.2 ⟨p,hp,rfl⟩))
 have ag:=hI.qg;have O:dY (allM A P0 buf ss.length) (allM A P0 buf ss.length)=(Gu P (ss.length+1)).filter A.has:=by rw[fG,A1]
 constructor;refine⟨?_,λm hm=>?_,?_,?_,?_⟩;rw[fG];have:=Hc (A:=A) hL (ss.length+1);omega;rw[fG]at hm;obtain⟨j,hj,p,hp,rfl⟩:=FB _ m hm;rw[(iA j p).1,(iA j p).2.1,(iA j p).2.2.1];obtain⟨l,_,_,_,_,_,h6,_⟩:=U j;exact⟨by omega,h6 p hp,(vD (hG j p hp)).1⟩;rw[fG];exact xk (λj=>(U j).elim λl h=>h.2.2.2.2.1) _;rw[O];exact(Az hN _).sublist ((ck).map _);rw[O];intro e he;obtain⟨j,_,h⟩:=FM _ e (b7.1 he).1;obtain⟨p,hp,rfl⟩:=b4.1 h;exact(vD (hG j p hp)).2;rw[O,fl,Je]
 have:=FH (P:=P) (ss:=ss++[buf]) (λj h=>by
  obtain⟨l,Y,_,_,_,_,_,h7⟩:=U j;rw[<-h7 h]
  exact Y) (ss.length+1) (by simp)
 rw[cb (by simp)]at this;exact this.filter _
end
section
open Go.Conc Go.RowKit Go.Maps
variable {ops:Array Oper} {qb:ByteArray} {e:dp} {rest:List Nat} {i:Nat} {o:Oper}
def Aa:∀(ss:List (List dp))(a:List dp),(a.map dp.name).Nodup->(∀s∈ss,(s.map dp.name).Nodup)->((ss.foldl dL a).map dp.name).Nodup
 |[],_,h,_=>h|s::ss,a,h,O=>Aa ss _ (qw h (O s (by simp))) λx U=>O x (by simp[U])
def rM{buf:List dp}{ss:List (List dp)}(h:Inv buf ss):((dP ss buf).map dp.name).Nodup:=by
 rw[fl];refine nh (Aa _ [] List.Pairwise.nil λs U=>?_);rcases b9.1 U with O|O
 exact(h.iB s O).nodup;simp only[bE]at O;rw[O];exact h.nodup
def xb{R L:List dp}{mode dE most:Nat}(O:(R.map dp.name).Nodup)(Y:∀e∈R,e.gone=false)(hm:mode<=3)(ht:dE<=255)(aa:1<=most)(ab:most<=20)(hq:eA qb.data.toList=true)
  (U:L.Perm (R.filter (Ask.has ⟨mode,⟨(dX qb.data.toList).toArray⟩,dE⟩))) (hs:L.Pairwise λx y=>fy x y=true):(L.take most).map fN=(rG R mode qb.data.toList dE most).1:=by
 have e1:R.filter (Ask.has ⟨mode,⟨(dX qb.data.toList).toArray⟩,dE⟩)=R.filter λe=>rp mode dE qb.data.toList e:=by
  refine bW λe he=>?_;unfold Ask.has rp dG;rw[Y e he];simp
 rw[e1]at U;have h:=uB (mode:=mode) (dE:=dE) (most:=most) (q:=qb.data.toList) O hs (by simpa using U);unfold rG;rw[if_neg (by omega),if_pos hq];rw[h];simp
abbrev lK(w:World):Prop:=ls prog w "internal/strconv.uint64pow10" .u64 lv
def Ji{w y:World}(h:lK w)(hb:∀r,r<5->y.heap[r]?=w.heap[r]?):lK y:=by
 unfold lK ls World.var? at h⊢;have U:∃g,g<5/\prog.globalNamed "internal/strconv.uint64pow10" = some g:=⟨2,by omega,by kernel_rfl⟩;obtain⟨g,O,e⟩:=U;rw[e]at h⊢;simp only[kT]at h⊢;rw[hb g O];exact h
def Ow(h:tC e)(y:World)(U:lK y)(h5:5<=y.heap.size):di prog 51 #[.agg #[.string ⟨e.name.toArray⟩,.string ⟨e.text.toArray⟩,.int .i64 e.du,.int .i64 e.dE]] y λY w'=>Y=.returned (.string ⟨(fN e).toArray⟩)/\eK y w':=by
 obtain⟨_,h1,h2,_,h3,h4,_⟩:=h;have hn:=(fZ h1).2;have aa:=kg h2;refine Pf e y h3 (λy2 O=>?_) (by omega) (by omega) ?_;have:=Po e.du.toNat (by omega) y2 (Ji U λr hr=>O.block r (by omega));rw[show e.du.toNat=e.du by omega]at this;exact this;have:=Fg 7 e.du.toNat (by omega) (by omega);omega
def KG:∀(L:List (List dp))(a:List dp){e:dp},e∈L.foldl dL a->e∈a\/∃l∈L,e∈l
 |[],_,_,h=>.inl h|l::L,a,e,h=>by
  rcases KG L _ h with h|⟨m,hm,h⟩
  rcases lP.1 h with h|h
  exact .inl h.1;exact .inr ⟨l,by simp,h⟩;exact .inr ⟨m,by simp[hm],h⟩
def Ca{buf:List dp}{ss:List (List dp)}(h:Inv buf ss)(he:e∈dP ss buf):tC e:=by
 rw[fl]at he;obtain⟨h1,h2⟩:=b7.1 he
 have O:NN e:=by
  rcases KG _ _ h1 with U|⟨l,hl,U⟩
  simp at U;rcases b9.1 hl with Y|Y
  exact(h.iB l Y).each e U;simp only[bE]at Y;subst Y;exact h.each e U
 rcases O with O|O
 exact O;rw[O.1]at h2;simp at h2
def ML:f17.name≠ "runtime.NumGoroutine":=by
 decide
section
variable {Z:jj prog} {W0:World} {Mp:Nat->Prop} {fn:dk} {tm:Array Value} {os:List OF} {wl w0:World} {k:List Item} {F1 F2:Nat->Prop} {b:Nat} {buf:List dp} {ss:List (List dp)} {ts:List (List Wd)}
def AW.Mt{mode dE most:Nat}(hi:ops[i]?=some o)(h:AW w0 wl F1 F2 b buf ss ts)(h5:5<=w0.heap.size)(ac:lK wl)
  (hm:mode<=3) (ht:dE<=255) (ag:1<=most) (ah:most<=20) (hq:eA qb.data.toList=true)
  (hn:∀(w2:World)(u:Value)(L:List dp),AW w0 w2 F1 F2 b buf ss ts->lq wl w2->L.Perm ((dP ss buf).filter (Ask.has ⟨mode,⟨(dX qb.data.toList).toArray⟩,dE⟩))->(L.Pairwise λx y=>fy x y=true)->Kept w2 F1 F2 u ((L.take most).map fN)->dh (fg Z W0 Mp) (⟨fn,eP o.dst tm (.tuple #[u,.int .i64 0]),.inRegion ops rest::k⟩::os) w2 []) :
  dh (fg Z W0 Mp) (⟨17,#[.pointer (some ⟨b,0,none⟩),.int .i64 (mode:Int),.string qb,.int .i64 (dE:Int),.int .i64 (most:Int),l0,l0,l0,l0,l0,l0,l0,l0,l0,l0,l0,l0,l0,l0,l0,l0,l0,l0,l0,l0,l0,l0,l0,l0,l0,l0,l0,l0,l0,l0,l0,l0,l0,l0,l0,l0,l0,l0,l0,l0,l0,l0,l0,l0,l0,l0,l0,l0,l0,l0,l0,l0,l0,l0,l0,l0,l0,l0,l0,l0,l0,l0],[.code (ed f17)]⟩::⟨fn,tm,.inRegion ops (i::rest)::k⟩::os) wl []:=by
 obtain⟨⟨h1,h2,h3,Bb,vS,B,n,vK,kn,h4,h6⟩,k1,k2,k3⟩:=id h
 have ai:qb.size<=1000:=by
  have:=kg hq;have e:qb.size=qb.data.toList.length:=by show qb.data.size=_;rw[Array.length_toList]
  omega
 have aj:=er h5 k3.size;have hI:=h4.inv;have ar:=qM hI
 have ak:∀e∈buf,e.name.length<=65536/\e.text.length<=1048576/\(e.gone=false->0<=e.dE/\e.dE<=255):=λe he=>by
  have O:=hI.each e he;have h1:=(fZ (ru O)).2;refine⟨by omega,(vD O).2,λe0=>?_⟩;rcases O with O|O
  exact⟨O.2.2.2.2.2.2.1,O.2.2.2.2.2.2.2⟩;rw[O.1]at e0;cases e0
 have ad:=h4.row;obtain⟨P,al,am⟩:=Qy hI
 have aa:∃sa sc,vS=.slice sa ss.length sc/\((sa=none/\ss.length=0)\/∃sb so c e f,sa=some ⟨sb,so,none⟩/\5<=sb/\wl.heap[sb]?=some (.cells c e f)/\∀j,j<ss.length->c[so+j]?=some (.string ⟨(dK (ss.getD j [])).toArray⟩)):=by
  rcases ad.2 with⟨rfl,h0⟩|⟨g,cap,cur,rfl,_,O,c1,c2,c3,c4⟩
  exact⟨none,0,by rw[h0],.inl ⟨rfl,h0⟩⟩;refine⟨_,cap,rfl,.inr ⟨g,0,cur,_,_,rfl,er h5 (k1 g (h4.lr g rfl)),O,λj U=>?_⟩⟩;have ab:=gV (ss.map dK) j (by simpa using U);rw[<-c4,bR,if_pos (by simpa using U)]at ab
  have e1:(ss.map dK)[j]'(by simpa using U)=dK (ss.getD j []):=by
   rw[List.getElem_map,bD,b6 U];rfl
  rw[e1]at ab;simpa using ab
 obtain⟨sa,sc,an,ao⟩:=aa;refine Nh (es:=buf) (R:=dP ss buf) (P:=P) (Ss:=λj=>⟨(dK _).toArray⟩) hi an h4.blk h4.say (er h5 (k1 Bb h4.fB)) ⟨ao,hI.qg,λj U=>?_,λA _=>am A⟩ (by omega) ak hm ht ag ah hq ai (λe he O y hy=>?_) aj ?_;have e1:ss.getD j []=ss[j]:=by rw[bD,b6 U];rfl
 have hl:=pB (hI.iB _ (bA U));obtain⟨ps,qs,q1,q2⟩:=al j U;simp only[e1];have e2:(⟨(dK ss[j]).toArray⟩:ByteArray).size=(dK ss[j]).length:=by simp[lc]
 exact⟨by omega,ps,qs,q1,q2⟩;exact Ow (Ca hI he) y (Ji ac hy) (by have:=hy 4 (by omega);rw[cR (show 4<wl.heap.size by omega)]at this;have:=(cQ.1 this).1;omega);intro w2 v hb hz ho ae;obtain⟨L,ap,aq,u,rfl,af⟩:=ae;have Y:lq wl w2:=⟨ho,hz,hb⟩;refine hn w2 u L (h.same Y) Y ap aq (Kept.new h ?_);rw[bH];exact af
def AW.Tg{xs:Array Operand}{U:Array dq}{mode dE most:Nat}(h:AW w0 wl F1 F2 b buf ss ts)(h5:5<=w0.heap.size)(O:lK wl)(hq:eA qb.data.toList=true)
  (hn:∀(w2:World)(u:Value)(L:List dp),AW w0 w2 F1 F2 b buf ss ts->lq wl w2->L.Perm ((dP ss buf).filter (Ask.has ⟨mode,⟨(dX qb.data.toList).toArray⟩,dE⟩))->(L.Pairwise λx y=>fy x y=true)->Kept w2 F1 F2 u ((L.take most).map fN)->dh (fg Z W0 Mp) (⟨fn,eP o.dst tm (.tuple #[u,.int .i64 0]),.inRegion ops rest::k⟩::os) w2 [])
  (hi:ops[i]?=some o) (Y:j1 o (dr ops tm)=true) (ho:o.op=.call {callee:=.value (.func 17),args:=xs,argTypes:=U}) (aa:∀x∈xs.toList,dQ (fg Z W0 Mp).fF (fg Z W0 Mp).gl x)
  (ha:xs.map (iW tm)=#[.pointer (some ⟨b,0,none⟩),.int .i64 (mode:Int),.string qb,.int .i64 (dE:Int),.int .i64 (most:Int)]) (hm:mode<=3) (ht:dE<=255) (ab:1<=most) (ac:most<=20):dh (fg Z W0 Mp) (⟨fn,tm,.inRegion ops (i::rest)::k⟩::os) wl []:=by
 have ad:xs.size=5:=by have:=congrArg Array.size ha;simpa using this
 refine dh.qp _ (gP:=f17) (c:=ed f17) hi Y func17 (by kernel_rfl) ML ho aa ?_ (h.Mt hi h5 O hm ht ab ac hq hn);rw[ha,ad];kernel_rfl
end
end
section
structure pw where
 name:Wd
 text:Wd
 du:Int
 dE:Int
 there:Bool
def jh:pw:=⟨[],[],0,0,false⟩
structure Raw where
 name:Int
 text:Int
 du:Int
 dE:Int
def AU(k:pw):dp:=⟨k.name,false,k.text,k.du,k.dE⟩
def kC(x:Raw):pw:=⟨tr (pk x.name 12),Bi (pk x.text 258),(x.du.natAbs % 1000001:Nat),(pk x.dE 256:Nat),true⟩
def rh(K:List pw)(x:Raw):List pw:=
 if x.du<0 then K.set (pk x.name 12) {K.getD (pk x.name 12) jh with there:=false}else K.set (pk x.name 12) (kC x)
def Di(l:List dp):Prop:=∀e∈l,∃k,k<12/\e.name=tr k
def Kq{i j:Nat}(hi:i<12)(Y:j<12)(h:tr i=tr j):i=j:=by
 have O:=by simpa[tr]using h
 have U:=congrArg UInt8.toNat O;simp only[UInt8.toNat_ofNat']at U;omega
def FE{k:Nat}(h:k<12):gq (tr k)=true:=by
 rcases(by omega:k=0\/k=1\/k=2\/k=3\/k=4\/k=5\/k=6\/k=7\/k=8\/k=9\/k=10\/k=11)with rfl|rfl|rfl|rfl|rfl|rfl|rfl|rfl|rfl|rfl|rfl|rfl<;>decide
def Un(n:Nat):Bool:=eA (Bi n) && !(Bi n).isEmpty&&decide ((Bi n).length<=20)
def TQ:(cn 258).all Un=true:=by kernel_rfl
def KX{n:Nat}(h:n<258):eA (Bi n)=true/\Bi n≠[]/\(Bi n).length<=20:=by
 have:=cO.1 TQ n (cf.2 h);simp only[Un,Bool.and_eq_true,decide_eq_true_eq,Bool.not_eq_true',List.isEmpty_eq_false_iff]at this;exact⟨this.1.1,this.1.2,this.2⟩
def Om{l m:List Wd}(U:l.Nodup)(hm:m.Nodup)(h:∀x∈l,x∈m):l.length<=m.length:=by
 have Y:(m.filter λx=>decide (x∈l)).Perm l:=by
  rw[List.perm_ext_iff_of_nodup (hm.sublist ck) U];intro x;rw[b7];exact⟨λh=>of_decide_eq_true h.2,λO=>⟨h x O,decide_eq_true O⟩⟩
 have h1:=Y.length_eq;have h2:=ce (λx=>decide (x∈l)) m;omega
def uo{l:List dp}(O:(l.map dp.name).Nodup)(h:Di l):l.length<=12:=by
 have:=Om O (m:=(cn 12).map tr) (by decide) λx U=>by
  obtain⟨e,Y,rfl⟩:=b4.1 U;obtain⟨k,hk,e1⟩:=h e Y;exact b4.2 ⟨k,cf.2 hk,e1.symm⟩
 simpa using this
def Ce{a b:List dp}(O:Di a)(hb:Di b):Di (dL a b):=λe U=>by
 rcases lP.1 U with h|h
 exact O e h.1;exact hb e h
def wL{a:List dp}(O:Di a):Di (dv a):=λe U=>O e (b7.1 U).1
structure Sk(K:List pw)(buf:List dp)(ss:List (List dp)):Prop where
 len:K.length=12
 inv:Inv buf ss
 qg:Di buf
 B4:∀s∈ss,Di s
 x9:∀k(h:k<K.length),K[k].there=true->K[k].name=tr k/\(∃n,n<258/\K[k].text=Bi n)/\0<=K[k].du/\K[k].du<=1000000/\0<=K[k].dE/\K[k].dE<=255
 there:∀e,e∈dP ss buf↔∃i,∃h:i<K.length,K[i].there=true/\e=AU K[i]
def Sk.new:Sk (List.replicate 12 jh) [] [] where
 len:=by simp
 inv:=KL;qg:=λe h=>by simp at h
 B4:=λs h=>by simp at h
 x9:=λk h O=>by rw[cD]at O;cases O
 there:=λe=>by
  constructor;intro h;simp[dP,mA,dL,dv]at h;rintro⟨i,h,O,_⟩;rw[cD]at O;cases O
section
variable {K:List pw} {buf:List dp} {ss:List (List dp)}
def Sk.U5(h:Sk K buf ss):(dP ss buf).length<=12:=uo (rM h.inv) λe O=>by
 obtain⟨i,hi,U,rfl⟩:=(h.there e).1 O;exact⟨i,by rw[<-h.len];exact hi,(h.x9 i hi U).1⟩
def Sk.Hm(h:Sk K buf ss){k:Nat}(hk:k<12){e:dp}{kn:pw}(hI:Inv (dL buf [e]) ss)(hn:e.name=tr k)(hg:kn.there = !e.gone)
  (hq:kn.there=true->AU kn=e/\(∃n,n<258/\kn.text=Bi n)/\0<=kn.du/\kn.du<=1000000/\0<=kn.dE/\kn.dE<=255):Sk (K.set k kn) (dL buf [e]) ss where
 len:=by rw[bP];exact h.len
 inv:=hI
 qg:=Ce h.qg λx hx=>by
  simp only[bE]at hx;rw[hx];exact⟨k,hk,hn⟩
 B4:=h.B4
 x9:=λi hi ht=>by
  rw[bP]at hi;rw[ca]at ht⊢;split at ht;rename_i e1;subst e1;simp only[if_true];obtain⟨O,U⟩:=hq ht;refine⟨?_,U⟩;rw[<-hn,<-O];rfl;rename_i e1;rw[if_neg e1];exact h.x9 i hi ht
 there:=λx=>by
  have hT:=h.there x;rw[rm,qm];rw[fl]at hT;rw[b9,b7,iw,hT];have e1:x.name ∉ names [e]↔x.name≠tr k:=by simp[names,hn]
  rw[e1];constructor;rintro(⟨⟨i,hi,O,rfl⟩,U⟩|O);refine⟨i,by rw[bP];exact hi,?_⟩;rw[ca];have:k≠i:=λY=>U (by rw[show(AU K[i]).name=K[i].name from rfl,(h.x9 i hi O).1,Y]);rw[if_neg this];exact⟨O,rfl⟩;obtain⟨U,h3⟩:=b7.1 O;simp only[bE]at U;subst U;have h4:kn.there=true:=by rw[hg];exact h3
  refine⟨k,by rw[bP,h.len];exact hk,?_⟩;rw[ca];simp only[if_true];exact⟨h4,(hq h4).1.symm⟩;rintro⟨i,hi,O,rfl⟩;rw[bP]at hi;rw[ca]at O⊢;split at O;rename_i Y;subst Y;simp only[if_true];refine .inr (b7.2 ?_);rw[(hq O).1];exact⟨by simp,by rw[<-hg];exact O⟩
  rename_i Y;rw[if_neg Y];refine .inl ⟨⟨i,hi,O,rfl⟩,λe3=>Y ?_⟩;rw[show(AU K[i]).name=K[i].name from rfl,(h.x9 i hi O).1]at e3;exact(Kq (by rw[<-h.len];exact hi) hk e3).symm
def Sk.Ta(h:Sk K buf ss)(x:Raw)(hx:¬x.du<0) :
  (j8 buf ss (kC x).name (kC x).text (kC x).du (kC x).dE).1=0/\Sk (rh K x) (j8 buf ss (kC x).name (kC x).text (kC x).du (kC x).dE).2 ss:=by
 have O:=kD x.name 12 (by omega);have U:=KX (kD x.text _ (by omega));have hg:=kD x.dE 256 (by omega);have aa:=h.U5;have Y:=KY h.inv (kC x).name (kC x).text (kC x).du (kC x).dE;have hw:(kC x).du=((x.du.natAbs % 1000001)):=rfl;have ab:(kC x).dE=((pk _ _)):=rfl
 have e:j8 buf ss (kC x).name (kC x).text (kC x).du (kC x).dE=(0,dL buf [AU (kC x)]):=by
  unfold j8;rw[if_pos (show gq (kC x).name=true from FE O),if_pos (show eA (kC x).text=true/\(kC x).text≠[]from⟨U.1,U.2.1⟩),if_neg (by omega),if_neg (by omega)];rfl
 rw[e]at Y⊢;refine⟨rfl,?_⟩;unfold rh;rw[if_neg hx];exact h.Hm O Y rfl rfl λ_=>⟨rfl,⟨_,kD _ _ (by omega),rfl⟩,by omega,by omega,by omega,by omega⟩
def Sk.del(h:Sk K buf ss)(x:Raw)(hx:x.du<0) :
  (lu buf ss (tr (pk x.name 12))).1=(if(K.getD (pk x.name 12) jh).there then 0 else 5)/\Sk (rh K x) (lu buf ss (tr (pk x.name 12))).2 ss:=by
 have U:=kD x.name 12 (by omega);obtain⟨k,ek⟩:∃k,k=pk x.name 12:=⟨_,rfl⟩;rw[<-ek]at U;have O:k<K.length:=by rw[h.len];exact U
 have hI:=K8 h.inv (tr k);have Y:K.getD k jh=K[k]:=by rw[bD,b6 O];rfl
 unfold rh;rw[<-ek,if_pos hx,Y]
 cases ht:K[k].there with
 |false=>
  have hn:=qD λhm=>by
   obtain⟨e,he,e1⟩:=b4.1 hm;obtain⟨i,hi,h1,rfl⟩:=(h.there e).1 he;rw[show(AU _).name=K[i].name from rfl,(h.x9 i hi h1).1]at e1;have:=Kq (by rw[<-h.len];exact hi) U e1;subst this;rw[ht]at h1;cases h1
  have e:lu buf ss (tr k)=(5,buf):=by
   unfold lu;rw[if_pos (FE U),if_pos hn]
  rw[e]
  have e2:K.set k {K[k]with there:=false}=K:=by
   have:({K[k]with there:=false})=K[k]:=by rw[<-ht]
   rw[this,List.set_getElem_self]
  rw[e2];exact⟨rfl,h⟩
 |true=>
  have hn:=λhf=>vC hf (b4.2 ⟨AU _,(h.there _).2 ⟨k,O,ht,rfl⟩,(h.x9 k O ht).1⟩);have hb:=uo h.inv.nodup h.qg
  have e:lu buf ss (tr k)=(0,dL buf [⟨tr k,true,[],0,0⟩]):=by
   unfold lu;rw[if_pos (FE U),if_neg hn,if_neg (by omega)]
  rw[e]at hI⊢;exact⟨rfl,h.Hm U hI rfl rfl nofun⟩
def Sk.flush(h:Sk K buf ss):Sk K (dW buf ss).2.1 (dW buf ss).2.2/\
  (((dW buf ss).1=0/\((dW buf ss).2.2.length=ss.length+1\/(ss.length=0/\(dW buf ss).2.2.length=0)))\/(((dW buf ss).1=5\/(dW buf ss).1=4)/\(dW buf ss).2.2.length=ss.length)):=by
 have hI:=BJ h.inv;unfold dW at hI⊢;split;exact⟨h,.inr ⟨.inl rfl,rfl⟩⟩;split;exact⟨h,.inr ⟨.inr rfl,rfl⟩⟩;rename_i hb h6;rw[if_neg hb,if_neg h6]at hI;simp only at hI⊢
 have hT:dP (if 0<(fi buf ss).length then ss++[fi buf ss]else ss) []=dP ss buf:=by
  by_cases O:ss.length=0;have:=bZ.1 O;subst this;have U:fi buf []=dv buf:=by simp[fi]
  rw[U];split;rw[fl];show dv (dL _ [])=dv (dL [] buf);rw[jZ,lV,lV,kA];have aa:dv buf=[]:=bZ.1 (by omega);show dv (dL [] [])=dv (dL [] buf);rw[lV,lV,aa];rfl;have U:fi buf ss=buf:=by simp[fi,O]
  rw[U,if_pos (by omega),fl,fl,ew _,jZ]
 refine⟨⟨h.len,hI,nofun,λs hs=>?_,h.x9,λe=>by rw[hT];exact h.there e⟩,.inl ⟨trivial,?_⟩⟩;split at hs;rcases b9.1 hs with Y|Y
 exact h.B4 s Y;simp only[bE]at Y;rw[Y];unfold fi;split;exact wL h.qg;exact h.qg;exact h.B4 s hs;split;simp;rename_i hz;right
 have O:ss.length=0:=by
  by_cases O:ss.length=0;exact O;have U:fi buf ss=buf:=by simp[fi,O]
  rw[U]at hz;omega
 exact⟨O,O⟩
def Sk.merge(h:Sk K buf ss)(n:Int):Sk K buf (eZ ss n).2/\
  (((eZ ss n).1=0/\((eZ ss n).2.length+1=ss.length\/(eZ ss n).2.length+2=ss.length))\/((eZ ss n).1=6/\(eZ ss n).2.length=ss.length)):=by
 have hI:=Da h.inv n;by_cases h0:n<0\/ss.length-1<=n;have e:eZ ss n=(6,ss):=by unfold eZ;rw[if_pos h0]
 rw[e];exact⟨h,.inr ⟨rfl,rfl⟩⟩;obtain⟨k,rfl⟩:∃k:Nat,n=k:=⟨n.toNat,by omega⟩;have hk:k+1<ss.length:=by omega
 have ha:ss.getD k []∈ss:=by
  rw[bD,b6 (by omega)];exact bA _
 have hb:ss.getD (k+1) []∈ss:=by
  rw[bD,b6 hk];exact bA _
 have O:=Ce (h.B4 _ ha) (h.B4 _ hb);have U:=qw (h.inv.iB _ ha).nodup (h.inv.iB _ hb).nodup
 have hm:Di (jc ss k):=by
  unfold jc;split;exact wL O;exact O
 have hl:=by
  refine uo ?_ hm;unfold jc;split;exact nh U;exact U
 have e:eZ ss k=(0,ss.take k++(pM k (ss.getD k []) (ss.getD (k+1) [])++ss.drop (k+2))):=by
  unfold eZ;rw[if_neg h0,ln,if_neg (by omega),AM]
 rw[e]at hI⊢;simp only at hI⊢;refine⟨⟨h.len,hI,h.qg,λs hs=>?_,h.x9,λx=>?_⟩,.inl ⟨trivial,?_⟩⟩;rcases b9.1 hs with Y|Y
 exact h.B4 s (List.mem_of_mem_take Y);rcases b9.1 Y with h2|h2
 rw[(K5 h2).1];exact hm;exact h.B4 s (List.mem_of_mem_drop h2);have:=wK ss k hk [buf];rw[fl,this,<-fl];exact h.there x;have Y:=Lc k (ss.getD k []) (ss.getD (k+1) []);simp only[bG,ct,List.length_drop];omega
end
end
section
open Go.RowKit
variable {w y:World}
def pV{P:Program}{ops:Array Oper}{Q:Exit->Act->World->Prop}{a:Act}(h:Q .normal a w):nH P ops Q [] a w:=λ_ _ _=>⟨.normal,a,w,h,.one step_region_end⟩
def ki(x:Raw):Value:=.agg #[.int .i64 x.name,.int .i64 x.text,.int .i64 x.du,.int .i64 x.dE]
def K2(k:pw):Value:=.agg #[.string ⟨k.name.toArray⟩,.string ⟨k.text.toArray⟩,.int .i64 k.du,.int .i64 k.dE,.bool k.there]
structure Raw.Ok(x:Raw):Prop where
 n0 : -9223372036854775808<=x.name
 n1:x.name<=9223372036854775807
 t0 : -9223372036854775808<=x.text
 t1:x.text<=9223372036854775807
 w0 : -9223372036854775808<=x.du
 w1:x.du<=9223372036854775807
 g0 : -9223372036854775808<=x.dE
 g1:x.dE<=9223372036854775807
def lg{a:Addr}{v:Value}(h:lY w y)(O:w.cell? a=some v):y.cell? a=some v:=by
 obtain⟨τ,U⟩:=h;exact dR a v _ _ (show(tp w τ).cell? a=some v from O) U
def FU(w:World)(a:Addr)(v:Value):(w.setCell a v).os=w.os:=rfl
def uU(w:World)(a:Addr)(v:Value):(w.setCell a v).tape=w.tape:=rfl
def zQ(w:World)(a:Addr)(v:Value):(w.setCell a v).output=w.output:=rfl
structure Vn(y y5:World)(b o:Nat)(cs:Array Value)(t:dq)(v0 v1 v2 v3 v4:Value):Prop where
 blk:y5.heap[b]?=some (.cells (((((cs.setIfInBounds o v0).setIfInBounds (o+1) v1).setIfInBounds (o+2) v2).setIfInBounds (o+3) v3).setIfInBounds (o+4) v4) t (0,0))
 other:∀k,k≠b->y5.heap[k]?=y.heap[k]?
 size:y5.heap.size=y.heap.size
 os:y5.os=y.os
 tape:y5.tape=y.tape
 output:y5.output=y.output
def Ky{b o:Nat}{cs:Array Value}{t:dq}(h:y.heap[b]?=some (.cells cs t (0,0)))(v0 v1 v2 v3 v4:Value):Vn y (((((y.setCell ⟨b,o,none⟩ v0).setCell ⟨b,o+1,none⟩ v1).setCell ⟨b,o+2,none⟩ v2).setCell ⟨b,o+3,none⟩ v3).setCell ⟨b,o+4,none⟩ v4) b o cs t v0 v1 v2 v3 v4 where
 blk:=by
  have O:=heap_set h o v0;have U:=heap_set O (o+1) v1;have Y:=heap_set U (o+2) v2;have h3:=heap_set Y (o+3) v3;exact heap_set h3 (o+4) v4
 other k hk:=by rw[e8 _ _ _ _ hk,e8 _ _ _ _ hk,e8 _ _ _ _ hk,e8 _ _ _ _ hk,e8 _ _ _ _ hk]
 size:=by simp
 os:=by rw[FU,FU,FU,FU,FU]
 tape:=by rw[uU,uU,uU,uU,uU]
 output:=by rw[zQ,zQ,zQ,zQ,zQ]
def Oa(h:lY w y)(O:y.tape=w.tape):eK w y:=by
 obtain⟨τ,U,h2,Y,h4,h5⟩:=h;exact⟨U,O,Y,h4,h5⟩
def zq(x:Raw)(hx:x.Ok)(w:World):di prog 22 #[ki x] w λe w'=>e=.returned (K2 (kC x))/\eK w w':=by
 obtain⟨xn,xt,Y,xg⟩:=x;obtain⟨n0,n1,t0,t1,w0,w1,g0,g1⟩:=hx;simp only at n0 n1 t0 t1 w0 w1 g0 g1;unfold ki;simp only;obtain⟨q,hq⟩:∃q:Int,q=((Y.natAbs % 1000001:Nat):Int):=⟨_,rfl⟩;have ad:0<=q:=by omega
 have ae:q<=1000000:=by omega
 obtain⟨wa,U⟩:∃wa,wa=(w.alloc (.cells #[.int .i64 xn,.int .i64 xt,.int .i64 Y,.int .i64 xg] 48)).alloc (.cells #[.string ⟨#[]⟩,.string ⟨#[]⟩,.int .i64 0,.int .i64 0,.bool false] 36):=⟨_,rfl⟩;have ab:jt (eK w wa):=by rw[U];exact(eK.alloc _ _).trans (eK.alloc _ _)
 have hA:wa.heap[w.heap.size]?=some (.cells #[.int .i64 xn,.int .i64 xt,.int .i64 Y,.int .i64 xg] 48 (0,0)):=by rw[U,(eK.alloc _ _).block _ (by simp)];exact qu _ _
 have hB:wa.heap[w.heap.size+1]?=some (.cells #[.string ⟨#[]⟩,.string ⟨#[]⟩,.int .i64 0,.int .i64 0,.bool false] 36 (0,0)):=by
  rw[U,<-j3];exact qu _ _
 have HB:jt _:=hB;have d0:=dn hA;have HN:jt (∀y,di prog 23 #[.int .i64 xn] y λe w'=>e=.returned (.string ⟨(tr (pk xn 12)).toArray⟩)/\y=w'):=λy=>vR xn y n0 n1;have HT:jt (∀y,di prog 45 #[.int .i64 xt] y λe w'=>e=.returned (.string ⟨(Bi (pk xt 258)).toArray⟩)/\eK y w'):=λy=>Cb xt y t0 t1;have HP:jt (∀y,di prog 15 #[.int .i64 xg,.int .i64 256] y λe w'=>e=.returned (.int .i64 (pk xg 256:Nat))/\y=w'):=λy=>gH xg 256 y g0 g1 (by omega) (by omega)
 have HK:jt (K2 (kC ⟨xn,xt,Y,xg⟩)=.agg #[.string ⟨(tr (pk xn 12)).toArray⟩,.string ⟨(Bi (pk xt 258)).toArray⟩,.int .i64 q,.int .i64 (pk xg 256:Nat),.bool true]):=by
  show K2 _=_;rw[hq];rfl
 rw[HK.out];clear hA hB HK;generalize (⟨(tr (pk xn 12)).toArray⟩:ByteArray)=sn at *;generalize (⟨(Bi (pk xt 258)).toArray⟩:ByteArray)=st at *;generalize ((pk xg 256:Nat):Int)=gg at *
 have key:(Y.tmod 1000001 = -q/\-q<0)\/(Y.tmod 1000001=q/\¬q<0):=by
  by_cases ac:0<=Y;have:=ld (a:=Y) (b:=1000001) ac;omega;have:=ld (a:=-Y) (b:=1000001) (by omega);rw[Int.neg_tmod]at this;omega
 have k1:IntKind.i64.wrap (-q) = -q:=by simp only[kB];omega
 have k2:IntKind.i64.wrap q=q:=by simp only[kB];omega
 clear hq;rcases key with⟨hr,hl⟩|⟨hr,hl⟩
 all_goals
  go_enter func22,ntmps22;go_wp2_with fail;rw[<-U];clear U;refine ib (Sd:=λa y=>y.tape=wa.tape->nH _ _ _ [11] a y) (last:=11) (tl:=[]) (by kernel_rfl) ?_ (λa y h ht=>h ht);refine dH 0 ?_ ?_<|dH 1 ?_ ?_ ?_
  any_goals(intro y O;have q0:=lg O (d0 0);unfold fT;go_simp;refine⟨eK.refl _,?_⟩;with_reducible rfl)
  go_simp;refine dH 2 ?_ ?_ ?_;rotate_left
  .intro y O;unfold fT;go_simp;refine⟨rfl,(HN.out y).mono ?_⟩;rintro e y2 ⟨rfl,rfl⟩;refine⟨_,rfl,eK.refl _,?_⟩;with_reducible rfl
  go_simp;refine dH 3 ?_ ?_<|dH 4 ?_ ?_ ?_
  any_goals(intro y O;have q0:=lg O (d0 1);unfold fT;go_simp;refine⟨eK.refl _,?_⟩;with_reducible rfl)
  go_simp;refine dH 5 ?_ ?_ ?_;rotate_left
  .intro y O;unfold fT;go_simp;refine⟨rfl,(HT.out y).mono ?_⟩;rintro e y2 ⟨rfl,h2⟩;refine⟨_,rfl,h2,?_⟩;with_reducible rfl
  go_simp;refine dH 6 ?_ ?_<|dH 7 ?_ ?_<|dH 8 ?_ ?_ ?_
  any_goals(intro y O;have q0:=lg O (d0 3);unfold fT;go_simp;refine⟨eK.refl _,?_⟩;with_reducible rfl)
  go_simp;refine dH 9 ?_ ?_ ?_;rotate_left
  .intro y O;unfold fT;go_simp;refine⟨rfl,(HP.out y).mono ?_⟩;rintro e y2 ⟨rfl,rfl⟩;refine⟨_,rfl,eK.refl _,?_⟩;with_reducible rfl
  go_simp;refine dH 10 ?_ ?_ ?_
  any_goals(intro y O;unfold fT;go_simp;refine⟨eK.refl _,?_⟩;with_reducible rfl)
  go_simp;refine oA (by kernel_rfl) (λt=>Eg (by kernel_rfl) _ _) ?_;intro y O ht;refine lO rfl rfl ?_
  have aa:y.heap[w.heap.size+1]?=some (.cells #[.string ⟨#[]⟩,.string ⟨#[]⟩,.int .i64 0,.int .i64 0,.bool false] 36 (0,0)):=by
   obtain⟨τ,he⟩:=O;exact(he.block _ (cQ.1 HB.out).1).trans HB.out
  have c0:=dn aa;have f0:=dO aa;unfold fT;go_simp;refine pV ?_;have S:=Ky (o:=0) aa (.string sn) (.string st) (.int .i64 q) (.int .i64 gg) (.bool true);have hE:eK w y:=ab.out.trans (Oa O ht);clear c0 f0 aa O ht;change Vn y (((((y.setCell ⟨w.heap.size+1,0,none⟩ (.string sn)).setCell ⟨w.heap.size+1,1,none⟩ (.string st)).setCell ⟨w.heap.size+1,2,none⟩ (.int .i64 q)).setCell ⟨w.heap.size+1,3,none⟩ (.int .i64 gg)).setCell ⟨w.heap.size+1,4,none⟩ (.bool true)) _ _ _ _ _ _ _ _ _ at S;generalize ((((y.setCell ⟨w.heap.size+1,0,none⟩ (.string sn)).setCell ⟨w.heap.size+1,1,none⟩ (.string st)).setCell ⟨w.heap.size+1,2,none⟩ (.int .i64 q)).setCell ⟨w.heap.size+1,3,none⟩ (.int .i64 gg)).setCell ⟨w.heap.size+1,4,none⟩ (.bool true)=y5 at *;have e0:=dn S.blk;have HE:jt (eK w y5):=⟨S.os.trans hE.os,S.tape.trans hE.tape,S.output.trans hE.output,by rw[S.size];exact hE.size,λk hk=>(S.other k (by omega)).trans (hE.block k hk)⟩;clear S hE HN HT HP ab HB;go_wp2
  try simp only[Exit.inBlock,Exit.then]
  exact bodyPost_ret (v:=.agg #[.string sn,.string st,.int .i64 q,.int .i64 gg,.bool true]) (by simp[ef,results22,go_sem,e0]) rfl ⟨rfl,HE.out⟩
end
section
def ea:dp:=⟨[97],false,[78,101,119,32,89,111,114,107],50,1⟩
def eb:dp:=⟨[98],false,[78,101,119,97,114,107],70,3⟩
def ec:dp:=⟨[99],false,[89,111,114,107],60,1⟩
def gb:dp:=⟨[98],true,[],0,0⟩
def t1:j8 [] [] ea.name ea.text 50 1=(0,[ea]):=by kernel_rfl
def t2:j8 [ea] [] eb.name eb.text 70 3=(0,[ea,eb]):=by kernel_rfl
def t3:j8 [ea,eb] [] ec.name ec.text 60 1=(0,[ea,eb,ec]):=by kernel_rfl
def t4:(rG (dP [] [ea,eb,ec]) 0 [110,101,119] 0 5).1=[fN eb,fN ea]:=by kernel_rfl
def t5:(rG (dP [] [ea,eb,ec]) 1 [89,79,82,75] 0 5).1=[fN ec,fN ea]:=by kernel_rfl
def t6:(rG (dP [] [ea,eb,ec]) 2 [110,119,101] 2 5).1=[fN eb]:=by kernel_rfl
def t7:(dW [ea,eb,ec] [])=(0,[],[[ea,eb,ec]]):=by kernel_rfl
def t8:lu [] [[ea,eb,ec]] [98]=(0,[gb]):=by kernel_rfl
def t9:(dW [gb] [[ea,eb,ec]])=(0,[],[[ea,eb,ec],[gb]]):=by kernel_rfl
def t10:iV [[ea,eb,ec],[gb]] 1=([1,1,98,0,0,0,0,0,0],0):=by kernel_rfl
def t11:(eZ [[ea,eb,ec],[gb]] 0).1=0/\(eZ [[ea,eb,ec],[gb]] 0).2.length=1:=by constructor<;>kernel_rfl
def VQ:List (List Wd):=[[[116,104,101],[99,97,116],[115,97,116]]]
def VZ:List (List Wd):=[[[116,104,101],[99,97,116],[115,97,116]],[[116,104,101],[99,97,116],[114,97,110]]]
def t12:tO [] [116,104,101,32,99,97,116,32,115,97,116]=(0,VQ):=by kernel_rfl
def t13:tO VQ [116,104,101,32,99,97,116,32,114,97,110]=(0,VZ):=by kernel_rfl
def t14:vr VZ [116,104,101,32,99,97,116] 2=([[114,97,110],[115,97,116]],0):=by kernel_rfl
def t15:fN ea=[97,32,53,48,32,78,101,119,32,89,111,114,107]:=by
 unfold fN;rw[show ea.du.toNat=50 from rfl,n9 (by omega),pG (by omega)];rfl
def t16:fN eb=[98,32,55,48,32,78,101,119,97,114,107]:=by
 unfold fN;rw[show eb.du.toNat=70 from rfl,n9 (by omega),pG (by omega)];rfl
def t17:fN ec=[99,32,54,48,32,89,111,114,107]:=by
 unfold fN;rw[show ec.du.toNat=60 from rfl,n9 (by omega),pG (by omega)];rfl
end
section
open Go.RowKit
def A7(s:ByteArray)(w:World)(O:s.size<=1099511627776) :
  di prog 54 #[.string s] w λe w'=>e=.returned (.string ⟨(dC s.data.toList).toArray⟩)/\Below w.heap.size w w':=by
 have U:=rA (w:=w) (l:=[u8 s.size]) _ 1 (by rw[iX]) rfl (by unfold dj;omega);have hb:=(eC _ w).alloc (ej _) (.cells #[.int .u8 (s.size % 256)] 5);go_wp2;go_ret;refine⟨xW ?_,hb⟩;exact Nk _ s
def Ja(n:Int)(w:World)(O : -9223372036854775808<=n)(U:n<=9223372036854775807) :
  di prog 55 #[.int .i64 n] w λe w'=>e=.returned (.string ⟨(eR n).toArray⟩)/\Below w.heap.size w w':=by
 have Y:=rA (w:=w) (l:=eR n) #[.int .u8 (n.tdiv 65536 % 256),.int .u8 ((n.tdiv 256).tmod 256 % 256),.int .u8 (n.tmod 256 % 256)] 3 (by simp only[eR,fo,bJ,List.map_nil,Qo]) rfl (by unfold dj;omega);have hb:=(eC _ w).alloc (ej _) (.cells #[.int .u8 (n.tdiv 65536 % 256),.int .u8 ((n.tdiv 256).tmod 256 % 256),.int .u8 (n.tmod 256 % 256)] 5);go_wp2;go_ret;exact⟨rfl,hb⟩
def GY(e:dp)(h:tC e)(g:ByteArray)(w:World)(hg:g.size<=8) :
  di prog 24 #[MB e true,.string g] w λen w'=>en=.returned (.string ⟨(dK (Cn e g.data.toList)).toArray⟩)/\eK w w':=by
 have ad:=Og h g.data.toList;obtain⟨ae,af⟩:=uL h;have hk:(dG e).length<=24:=(oy h).1;rcases e with⟨n,gn,t,wt,tg⟩;have ag:0<=wt/\wt<=1000000/\0<=tg/\tg<=255:=⟨h.2.2.2.2.1,h.2.2.2.2.2.1,h.2.2.2.2.2.2.1,h.2.2.2.2.2.2.2⟩;simp only at ae af;have al:(dX t).length<=24:=hk;unfold MB;simp only;obtain⟨wb,Y⟩:∃wb,wb=w.alloc (.cells #[.string ⟨n.toArray⟩,.string ⟨t.toArray⟩,.int .i64 wt,.int .i64 tg,.bool true] 36):=⟨_,rfl⟩;have HB:jt (eK w wb):=by rw[Y];exact eK.alloc _ _
 have hA:wb.heap[w.heap.size]?=some (.cells #[.string ⟨n.toArray⟩,.string ⟨t.toArray⟩,.int .i64 wt,.int .i64 tg,.bool true] 36 (0,0)):=by rw[Y];exact qu _ _
 have d0:=dn hA;have bz:∀x:Wd,(⟨x.toArray⟩:ByteArray).size=x.length:=λx=>by show x.toArray.size=_;simp
 have aa:jt (∀(x:Wd)y,x.length<=1000->di prog 54 #[.string ⟨x.toArray⟩] y λe w'=>e=.returned (.string ⟨(dC x).toArray⟩)/\eK y w'):=λx y hx=>A7 ⟨x.toArray⟩ y (by rw[bz];omega);have HF:jt (∀y,di prog 56 #[.string ⟨t.toArray⟩] y λe w'=>e=.returned (.string ⟨(dX t).toArray⟩)/\eK y w'):=λy=>LG ⟨t.toArray⟩ y (by rw[bz];omega);have am:jt (∀y,di prog 54 #[.string ⟨(dX t).toArray⟩] y λe w'=>e=.returned (.string ⟨(dC (dX t)).toArray⟩)/\eK y w'):=λy=>aa.out _ y (by omega);have an:jt (∀y,di prog 54 #[.string ⟨n.toArray⟩] y λe w'=>e=.returned (.string ⟨(dC n).toArray⟩)/\eK y w'):=λy=>aa.out _ y (by omega);have ao:jt (∀y,di prog 54 #[.string ⟨t.toArray⟩] y λe w'=>e=.returned (.string ⟨(dC t).toArray⟩)/\eK y w'):=λy=>aa.out _ y (by omega);have ap:jt (∀y,di prog 54 #[.string g] y λe w'=>e=.returned (.string ⟨(dC g.data.toList).toArray⟩)/\eK y w'):=λy=>A7 g y (by omega);have H3:jt (∀y,di prog 55 #[.int .i64 wt] y λe w'=>e=.returned (.string ⟨(eR wt).toArray⟩)/\eK y w'):=λy=>Ja wt y (by omega) (by omega);have pl:∀x:Wd,(dC x).length=x.length+1:=λx=>by simp[dC]
 have z1:(⟨(dC (dX t)).toArray⟩:ByteArray).size<=30:=by rw[bz,pl];omega
 have z2:(⟨(dC n).toArray⟩:ByteArray).size<=30:=by rw[bz,pl];omega
 have z3:(⟨(dC t).toArray⟩:ByteArray).size<=30:=by rw[bz,pl];omega
 have z4:(⟨(dC g.data.toList).toArray⟩:ByteArray).size<=30:=by rw[bz,pl];simp;omega
 have z5:(⟨(eR wt).toArray⟩:ByteArray).size<=3:=by rw[bz];simp[eR]
 have aq:tg % 256=tg:=by omega
 have HQ:jt (∀s:Wd,s=(if g.data.toList=[]then [0]else 1::dC g.data.toList)->(⟨s.toArray⟩:ByteArray)++(⟨#[0]⟩++⟨(eR wt).toArray⟩++⟨#[0,1]⟩)++(⟨(dC (dX t)).toArray⟩++⟨(eR wt).toArray⟩++⟨#[1]⟩++⟨(dC n).toArray⟩++⟨(dC t).toArray⟩++⟨(eR wt).toArray⟩++⟨#[u8 tg]⟩++⟨#[0]⟩)=⟨(dK (Cn ⟨n,gn,t,wt,tg⟩ g.data.toList)).toArray⟩):=λs hs=>by
  rw[ad,<-hs];apply la;apply Array.toList_inj.1;simp[kW,ku,dG]
 clear ad aa h hA;generalize (⟨(dK (Cn ⟨n,gn,t,wt,tg⟩ g.data.toList)).toArray⟩:ByteArray)=aw at *;generalize ax:(⟨(dC (dX t)).toArray⟩:ByteArray)=pf at *;generalize ay:(⟨(dC n).toArray⟩:ByteArray)=pn at *;generalize az:(⟨(dC t).toArray⟩:ByteArray)=pt at *;generalize ar:(⟨(dC g.data.toList).toArray⟩:ByteArray)=pg at *;generalize (⟨(eR wt).toArray⟩:ByteArray)=tw at *;generalize (⟨(dX t).toArray⟩:ByteArray)=fb at *;generalize (⟨n.toArray⟩:ByteArray)=nb at *;generalize (⟨t.toArray⟩:ByteArray)=tb at *;have HW:jt _:=ag;have a1:¬(9223372036854775807<pf.size+tw.size):=by omega
 have a2:¬(9223372036854775807<pf.size+tw.size+1):=by omega
 have a3:¬(9223372036854775807<pf.size+tw.size+1+pn.size):=by omega
 have a4:¬(9223372036854775807<pf.size+tw.size+1+pn.size+pt.size):=by omega
 have a5:¬(9223372036854775807<pf.size+tw.size+1+pn.size+pt.size+tw.size):=by omega
 have a6:¬(9223372036854775807<pf.size+tw.size+1+pn.size+pt.size+tw.size+1):=by omega
 have a7:¬(9223372036854775807<pf.size+tw.size+1+pn.size+pt.size+tw.size+1+1):=by omega
 have ah:∀y:World,(convert 60 9 (.slice (some ⟨y.heap.size,0,none⟩) 1 1)).run prog (y.alloc (.cells #[.int .u8 tg] 5))=.ok (.string ⟨#[u8 tg]⟩) (y.alloc (.cells #[.int .u8 tg] 5)):=λy=>rA (w:=y) (l:=[u8 tg]) #[.int .u8 tg] 1 (by rw[iX,aq]) rfl (by unfold dj;omega);have a':jt _:=ah;clear ae af hk al bz pl ag ah;go_enter func24,ntmps24;by_cases U:g.data.toList=[]
 case' pos=>
  have au:g.toList.isEmpty=true:=by rw[ByteArray.toList_eq,U];rfl
  have ai:jt _:=HQ.out [0] (by rw[if_pos U]);clear U HQ;go_wp2_with fail;rw[<-Y];obtain⟨w1,ac⟩:∃w1,w1=wb:=⟨_,rfl⟩;rw[<-ac];have ab:eK wb w1:=by rw[ac];exact eK.refl _
  clear ac
 case' neg=>
  have au:g.toList.isEmpty=false:=by rw[ByteArray.toList_eq];simpa using U
  have hQ:=HQ.out _ (by rw[if_neg U]);have e1:(⟨(1::dC g.data.toList).toArray⟩:ByteArray)=⟨#[1]⟩++pg:=by rw[<-ar];exact(mZ [1] _).symm
  rw[e1]at hQ;have ai:jt _:=hQ;clear U HQ hQ e1;go_wp2_with fail;rw[<-Y];refine(ap.out _).mono ?_;rintro e w1 ⟨rfl,ab⟩;have c2:=dg ab (d0 2);go_wp2_with fail
 all_goals
  refine(H3.out _).mono ?_;rintro e w2 ⟨rfl,aj⟩;have hx:=ab.trans aj;have e0:=dg hx (d0 0);have e1:=dg hx (d0 1);have e2:=dg hx (d0 2);have e3:=dg hx (d0 3);have ak:jt (eK w w2):=HB.out.trans hx;clear ab aj hx d0 Y HB;go_wp2_with fail;refine jN (by kernel_rfl) ?_;refine dy 0 ?_ ?_<|dy 1 ?_ ?_<|dy 2 ?_ ?_<|dy 3 ?_ ?_ ?_
  any_goals
   intro y O;have q0:=dg O e0;have q1:=dg O e1;have q2:=dg O e2;have q3:=dg O e3;unfold fT;go_simp
   first
    |(refine⟨eK.refl _,?_⟩;with_reducible rfl)
    |(first|refine⟨rfl,(HF.out y).mono ?_⟩|refine⟨rfl,(am.out y).mono ?_⟩
      rintro e y2 ⟨rfl,hz⟩;refine⟨_,rfl,hz,?_⟩;with_reducible rfl)
  go_simp;refine dy 4 ?_ ?_<|dy 5 ?_ ?_<|dy 6 ?_ ?_<|dy 7 ?_ ?_<|dy 8 ?_ ?_ ?_
  any_goals
   intro y O;have q0:=dg O e0;have q1:=dg O e1;have q2:=dg O e2;have q3:=dg O e3;unfold fT;go_simp
   first
    |(refine⟨eK.refl _,?_⟩;with_reducible rfl)
    |(refine⟨rfl,(H3.out y).mono ?_⟩
      rintro e y2 ⟨rfl,hz⟩;refine⟨_,rfl,hz,?_⟩;with_reducible rfl)
  go_simp;refine dy 9 ?_ ?_<|dy 10 ?_ ?_<|dy 11 ?_ ?_<|dy 12 ?_ ?_<|dy 13 ?_ ?_ ?_
  any_goals
   intro y O;have q0:=dg O e0;have q1:=dg O e1;have q2:=dg O e2;have q3:=dg O e3;unfold fT;go_simp
   first
    |(refine⟨eK.refl _,?_⟩;with_reducible rfl)
    |(refine⟨rfl,(an.out y).mono ?_⟩
      rintro e y2 ⟨rfl,hz⟩;refine⟨_,rfl,hz,?_⟩;with_reducible rfl)
  go_simp;refine dy 14 ?_ ?_<|dy 15 ?_ ?_<|dy 16 ?_ ?_<|dy 17 ?_ ?_<|dy 18 ?_ ?_ ?_
  any_goals
   intro y O;have q0:=dg O e0;have q1:=dg O e1;have q2:=dg O e2;have q3:=dg O e3;unfold fT;go_simp
   first
    |(refine⟨eK.refl _,?_⟩;with_reducible rfl)
    |(refine⟨rfl,(ao.out y).mono ?_⟩
      rintro e y2 ⟨rfl,hz⟩;refine⟨_,rfl,hz,?_⟩;with_reducible rfl)
  go_simp;refine dy 19 ?_ ?_<|dy 20 ?_ ?_<|dy 21 ?_ ?_<|dy 22 ?_ ?_<|dy 23 ?_ ?_ ?_
  any_goals
   intro y O;have q0:=dg O e0;have q1:=dg O e1;have q2:=dg O e2;have q3:=dg O e3;unfold fT;go_simp
   first
    |(refine⟨eK.refl _,?_⟩;with_reducible rfl)
    |(refine⟨rfl,(H3.out y).mono ?_⟩
      rintro e y2 ⟨rfl,hz⟩;refine⟨_,rfl,hz,?_⟩;with_reducible rfl)
  go_simp;refine Du (rs:=[24]) (by kernel_rfl) (by simp) ?_;intro i hi;simp only[bE]at hi;subst hi;refine yi (λg=>(.slice (some ⟨g,0,none⟩) 1 1:Value)) (λg y=>y.cell? ⟨g,0,none⟩=some (.int .u8 (IntKind.u8.wrap tg))) rfl (eY _) (λg=>(dR _ _)) (by rfl) ?_ ?_
  .intro y O;unfold fT;go_simp;exact⟨eK.alloc _ _,rfl,by rw[kb _ _ _ _ rfl];rfl⟩
  intro gb;refine dy 25 ?_ ?_ ?_ (hC:=((eY _).and (dR _ _)));rotate_left
  .intro y O;have q:=BO O.2;unfold fT;go_simp;refine⟨eK.refl _,?_⟩;with_reducible rfl
  go_simp;refine dy 26 ?_ ?_ (dy 27 ?_ ?_ (dy 28 ?_ ?_ ?_ (hC:=((eY _).and (dR _ _)))) (hC:=((eY _).and (dR _ _)))) (hC:=((eY _).and (dR _ _)))
  any_goals(intro y O;unfold fT;go_simp;refine⟨eK.refl _,?_⟩;with_reducible rfl)
  refine sP (by kernel_rfl) ?_ _;intro y O;have av:jt (eK w y):=ak.out.trans O.1;clear O e0 e1 e2 e3 ak;go_simp;go_wp2;go_ret;exact⟨xW ai.out,av.out⟩
end

end
end Go.Proofs.YtocbogeoffeolaaGreatDoor
