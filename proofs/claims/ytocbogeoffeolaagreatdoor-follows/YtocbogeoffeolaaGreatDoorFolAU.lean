import Derived.Test.YtocbogeoffeolaaGreatDoorFolAR
import Derived.Test.YtocbogeoffeolaaGreatDoorFolAT
import Derived.Shelf.SlIter.Sorted
import Derived.Shelf.Strconv.Itoa3
set_option linter.unusedVariables false
set_option linter.unusedSimpArgs false
set_option maxHeartbeats 8000000
set_option maxRecDepth 1000000
open List renaming mem_cons->bk,getElem?_eq_getElem->bl,not_mem_nil->bm,mem_cons_of_mem->bn,getElem?_map->bo,length_map->bp,map_cons->bq,mem_map->br
open Array renaming getElem?_eq_none->bs,getElem?_setIfInBounds_ne->bt,getElem?_eq_some_iff->bu,getElem?_eq_getElem->bv,ext_getElem?->bw
open Go.Proofs.Tryz renaming underlying9->bx,underlying0->bz,zeroValue9->b0,zeroValue0->b1,underlying4->b2,zeroValue4->b3,sizeOf9->b4,sizeOf0->b5,isAgg9->b6,isAgg0->b7,underlying229->b8,underlying184->b9,underlying177->b',underlying141->bA,zeroValue229->bB,zeroValue184->bC,zeroValue177->bD,zeroValue141->bE,underlying85->bF,sizeOf4->bG,underlying5->bH,underlying3->bI,zeroValue5->bJ,zeroValue3->bK,isAgg4->bL
open Go.RowKit.Below renaming heap_setCell->bM
open Go renaming callsIn_wide->bN,FuncId->bO,maxLen->bP,yielded->bQ,Calls->bR
open Go.World renaming size_alloc->bS,cell?->bT
open Option.some renaming injEq->bU
open Go.Region renaming wanted->bV
open Go.Fence renaming wide->bW
open Go renaming undef->bX
namespace Go.Proofs.YtocbogeoffeolaaGreatDoor
open Go.Proofs.Tryz
section
open Go.Shelf
def Ct:Go.Shelf.Ren:=⟨fun|7=>122|10=>163|n=>n,fun|23=>85|26=>9|3=>111|28=>177|0=>0|27=>176|33=>81|4=>4|n=>n,fun|n=>n⟩
theorem QX:Go.Proofs.SlLaysZ.n7 prog Ct:={
 mixed:=by kernel_rfl
 f7:=⟨f122.name,by decide,func122.trans (congrArg some (by kernel_rfl))⟩,f10:=⟨f163.name,by decide,func163.trans (congrArg some (by kernel_rfl))⟩,t0:=bz,a0:=b7,z0:=b5,v0:=b1,t4:=b2,a4:=bL,z4:=bG,v4:=b3,t23:=bF,a23:=isAgg85,z23:=sizeOf85,v23:=zeroValue85,t26:=bx,a26:=b6,z26:=b4,v26:=b0,t27:=underlying176,a27:=isAgg176,z27:=sizeOf176,v27:=zeroValue176,t28:=b',a28:=isAgg177,z28:=sizeOf177,v28:=bD,t33:=underlying81,a33:=isAgg81,z33:=sizeOf81
 v33:=zeroValue81}
def xB:Go.Shelf.Ren:=⟨fun|6=>121|8=>161|9=>162|11=>216|13=>125|12=>217|23=>172|24=>173|14=>243|15=>244|16=>245|17=>246|18=>247|19=>248|20=>249|21=>250|22=>251|25=>271|26=>219|27=>220|28=>272|29=>273|30=>175|31=>279|n=>n,fun|26=>9|28=>177|24=>31|0=>0|3=>3|37=>184|48=>229|50=>141|4=>4|40=>222|39=>221|45=>226|5=>5|9=>9|51=>272|55=>276|57=>292|58=>212|33=>81|n=>n,fun|n=>n⟩
theorem Qr:Go.Proofs.SlLaysZ.n6 prog xB:={
 mixed:=by kernel_rfl
 f6:=⟨f121.name,by decide,func121.trans (congrArg some (by kernel_rfl))⟩,f8:=⟨f161.name,by decide,func161.trans (congrArg some (by kernel_rfl))⟩,f11:=⟨f216.name,by decide,func216.trans (congrArg some (by kernel_rfl))⟩,t0:=bz,a0:=b7,z0:=b5,v0:=b1,t24:=underlying31,a24:=isAgg31,z24:=sizeOf31,v24:=zeroValue31,t26:=bx,a26:=b6,z26:=b4,v26:=b0,t28:=b',a28:=isAgg177,z28:=sizeOf177,v28:=bD
 i26:=by kernel_rfl}
def EL:Go.Shelf.Ren:=⟨fun|6=>83|15=>125|14=>124|28=>172|29=>173|20=>164|21=>165|22=>166|23=>167|24=>168|25=>169|26=>170|27=>171|46=>218|47=>219|48=>220|49=>221|50=>222|57=>252|n=>n,fun|22=>82|24=>96|25=>133|3=>3|39=>184|0=>0|53=>229|55=>141|4=>4|46=>222|45=>221|50=>226|5=>5|9=>9|66=>272|70=>276|76=>292|77=>212|n=>n,fun|n=>n⟩
theorem JZ:Go.Proofs.SlLaysF0.n6 prog EL:={
 mixed:=by kernel_rfl
 f6:=⟨f83.name,by decide,func83.trans (congrArg some (by kernel_rfl))⟩,f14:=⟨f124.name,by decide,func124.trans (congrArg some (by kernel_rfl))⟩,f15:=func125.trans (congrArg some (by kernel_rfl)),f20:=⟨f164.name,by decide,func164.trans (congrArg some (by kernel_rfl))⟩,f21:=⟨f165.name,by decide,func165.trans (congrArg some (by kernel_rfl))⟩,f22:=⟨f166.name,by decide,func166.trans (congrArg some (by kernel_rfl))⟩,f23:=⟨f167.name,by decide,func167.trans (congrArg some (by kernel_rfl))⟩,f24:=⟨f168.name,by decide,func168.trans (congrArg some (by kernel_rfl))⟩,f25:=⟨f169.name,by decide,func169.trans (congrArg some (by kernel_rfl))⟩,f26:=⟨f170.name,by decide,func170.trans (congrArg some (by kernel_rfl))⟩,f27:=⟨Tryz.f171.name,by decide,func171.trans (congrArg some (by kernel_rfl))⟩,f28:=func172.trans (congrArg some (by kernel_rfl)),f29:=func173.trans (congrArg some (by kernel_rfl)),f46:=⟨f218.name,by decide,func218.trans (congrArg some (by kernel_rfl))⟩,f47:=func219.trans (congrArg some (by kernel_rfl)),f48:=func220.trans (congrArg some (by kernel_rfl)),f49:=⟨f221.name,by decide,func221.trans (congrArg some (by kernel_rfl))⟩,f50:=⟨f222.name,by decide,func222.trans (congrArg some (by kernel_rfl))⟩,f57:=⟨f252.name,by decide,func252.trans (congrArg some (by kernel_rfl))⟩,t0:=bz,a0:=b7,z0:=b5,v0:=b1,t3:=bI,a3:=isAgg3,z3:=sizeOf3,v3:=bK,t4:=b2,a4:=bL,z4:=bG,v4:=b3,t5:=bH,a5:=isAgg5,z5:=sizeOf5,v5:=bJ,t9:=bx,a9:=b6,z9:=b4,v9:=b0,t22:=underlying82,a22:=isAgg82,z22:=sizeOf82,v22:=zeroValue82,t25:=underlying133,a25:=isAgg133,z25:=sizeOf133,v25:=zeroValue133,t39:=b9,a39:=isAgg184,z39:=sizeOf184,v39:=bC,t45:=underlying221,a45:=isAgg221,z45:=sizeOf221,v45:=zeroValue221,t46:=underlying222,a46:=isAgg222,z46:=sizeOf222,v46:=zeroValue222,t50:=underlying226,a50:=isAgg226,z50:=sizeOf226,v50:=zeroValue226,t53:=b8,a53:=isAgg229,z53:=sizeOf229,v53:=bB,t55:=bA,a55:=isAgg141,z55:=sizeOf141,v55:=bE,t66:=underlying272,a66:=isAgg272,z66:=sizeOf272,v66:=zeroValue272,t70:=underlying276,a70:=isAgg276,z70:=sizeOf276,v70:=zeroValue276,t76:=underlying292,a76:=isAgg292,z76:=sizeOf292,v76:=zeroValue292,t77:=underlying212,a77:=isAgg212,z77:=sizeOf212
 v77:=zeroValue212}
def CG:Go.Shelf.Ren:=⟨fun|171=>85|243=>129|246=>176|283=>223|284=>224|285=>225|286=>226|129=>173|317=>253|318=>254|319=>255|320=>256|337=>274|338=>275|n=>n,fun|3=>3|9=>9|2=>2|4=>4|171=>278|0=>0|53=>141|37=>60|5=>5|173=>280|212=>295|51=>229|20=>20|213=>296|46=>184|232=>312|233=>313|n=>n,fun|17=>2|18=>3|19=>4|n=>n⟩
theorem NG:Go.Proofs.LaysM.n171 prog CG:={
 mixed:=by kernel_rfl
 f129:=func173.trans (congrArg some (by kernel_rfl)),f171:=func85.trans (congrArg some (by kernel_rfl)),f243:=func129.trans (congrArg some (by kernel_rfl)),f246:=func176.trans (congrArg some (by kernel_rfl)),f283:=func223.trans (congrArg some (by kernel_rfl)),f284:=func224.trans (congrArg some (by kernel_rfl)),f285:=func225.trans (congrArg some (by kernel_rfl)),f286:=func226.trans (congrArg some (by kernel_rfl)),f317:=func253.trans (congrArg some (by kernel_rfl)),f318:=func254.trans (congrArg some (by kernel_rfl)),f319:=func255.trans (congrArg some (by kernel_rfl)),f320:=func256.trans (congrArg some (by kernel_rfl)),f337:=func274.trans (congrArg some (by kernel_rfl)),f338:=func275.trans (congrArg some (by kernel_rfl)),t0:=bz,a0:=b7,z0:=b5,v0:=b1,t2:=underlying2,a2:=isAgg2,z2:=sizeOf2,v2:=zeroValue2,t3:=bI,a3:=isAgg3,z3:=sizeOf3,v3:=bK,t4:=b2,a4:=bL,z4:=bG,v4:=b3,t5:=bH,a5:=isAgg5,z5:=sizeOf5,v5:=bJ,t9:=bx,a9:=b6,z9:=b4,v9:=b0,t20:=underlying20,a20:=isAgg20,z20:=sizeOf20,v20:=zeroValue20,t37:=underlying60,a37:=isAgg60,z37:=sizeOf60,v37:=zeroValue60,t46:=b9,a46:=isAgg184,z46:=sizeOf184,v46:=bC,t51:=b8,a51:=isAgg229,z51:=sizeOf229,v51:=bB,t53:=bA,a53:=isAgg141,z53:=sizeOf141,v53:=bE,t171:=underlying278,a171:=isAgg278,z171:=sizeOf278,v171:=zeroValue278,t173:=underlying280,a173:=isAgg280,z173:=sizeOf280,v173:=zeroValue280,t212:=underlying295,a212:=isAgg295,z212:=sizeOf295,v212:=zeroValue295,t213:=underlying296,a213:=isAgg296,z213:=sizeOf296,t232:=underlying312,a232:=isAgg312,z232:=sizeOf312,v232:=zeroValue312,t233:=underlying313,a233:=isAgg313,z233:=sizeOf313,v233:=zeroValue313,g17:=by kernel_rfl
 g18:=by kernel_rfl
 g19:=by kernel_rfl
 i0:=by kernel_rfl
 i2:=by kernel_rfl
 i3:=by kernel_rfl
 i4:=by kernel_rfl
 i5:=by kernel_rfl
 i9:=by kernel_rfl
 i20:=by kernel_rfl
 i37:=by kernel_rfl
 i46:=by kernel_rfl
 i51:=by kernel_rfl
 i53:=by kernel_rfl
 i171:=by kernel_rfl
 i173:=by kernel_rfl
 i212:=by kernel_rfl
 i232:=by kernel_rfl
 i233:=by kernel_rfl
 m17:=by kernel_rfl
 m18:=by kernel_rfl
 m19:=by kernel_rfl}
end
section
open Go.RowKit Go.Maps Go.Sort Go.Shelf
theorem MS(m:Nat):AnyZ.SortsIn prog xB bW m:=
 ⟨λblk off cap ss W O B D=>bN.2 (Any.slices_Sort_string yN blk off cap ss W O B D),
  λp cap W=>bN.2 (Any.slices_Sort_string_none yN p cap W)⟩
theorem NH(B:Nat)(w:World):bR prog 122 #[.map (some B)] w λe w'=>e=.returned (.func (.func 163) #[] #[.pointer (some ⟨w.heap.size,0,none⟩)])/\w'=w.alloc (.cells #[.map (some B)] 85):=
 bN.1 (AnyZ.keys_in QX bW 5 trivial rfl (some B) w)
theorem FR(B:Nat)(l:List (Wd×Value))(w:World)(h:ir prog 9 w B l)(hl:l.length<=100000) :
  bR prog 121 #[.func (.func 163) #[] #[.pointer (some ⟨w.heap.size,0,none⟩)]] (w.alloc (.cells #[.map (some B)] 85)) λe w'=>∃v,e=.returned v/\
   w'.ownsRow (w.heap.size+1) 9 1 v l.length (gQ ((l.map Prod.fst).mergeSort λx y=>decide (x<=y)))/\Below (w.heap.size+1) (w.alloc (.cells #[.map (some B)] 85)) w':=by
 obtain⟨D,O,W⟩:=h;have ad:=O.lt
 have Y:SeqGives bW 2 prog 163 #[.pointer (some ⟨w.heap.size,0,none⟩)] encStr (λss=>ss.Perm (strKeys D)) (Maps.size D) (w.alloc (.cells #[.map (some B)] 85)):=
  AnyZ.keys_gives (ρ:=Ct) {QX with} bW _ trivial rfl (by omega) w.heap.size B _ D _ (by simp) (by simp) (by
   obtain⟨es,clock,hb,Ft,W,hD⟩:=O
   exact⟨es,clock,(Below.heap_alloc _ _ B ad).trans hb,Ft,W,hD⟩)
 have hc:=bN.1 (AnyZ.sorted_in Qr bW 5 trivial trivial trivial trivial rfl (by omega) (MS _) (enters_of func162 (by kernel_rfl) rfl) 163 #[.pointer (some ⟨w.heap.size,0,none⟩)] trivial (enters_of func163 (by kernel_rfl) rfl) _ _ (by rw[W.size]; unfold bP; omega) (by rw[W.size]; omega) _ Y);refine hc.mono ?_;rintro e w' ⟨v,ss,rfl,hp,U,_,hb⟩
 have aa:Collected D (λ_=>false) (l.map Prod.fst):=⟨W.nodup,λx=>by
  rw[W.has x,List.any_eq_true,br]
  simp⟩
 have ab:=hp.trans (aa.perm O (string_keyed (by kernel_rfl)) (by kernel_rfl) (λ_=>rfl)).symm;have ac:ss.length=l.length:=by rw[ab.length_eq]; simp
 rw[bS]at U hb;refine⟨v,rfl,?_,hb⟩;rw[ac,mergeSort_of_perm ab]at U;exact U
end
section
open Go.Conc Go.RowKit Go.Maps
variable {es:List gS} {ms:List Value} {cap num:Nat} {w w':World}
structure Ask where
 m:Nat
 q:ByteArray
 t:Nat
structure Ask.Ok(A:Ask):Prop where
 m:A.m<=3
 t:A.t<256
 q:A.q.size<=1048576
def Ask.has(A:Ask)(e:gS):Bool:=!e.gone&&(r8 A.t e.il.toNat&&nD A.m A.q.data.toList (iD e.text))
def bytes(l:Wd):ByteArray:=⟨l.toArray⟩
def tO(A:Ask)(k:Nat)(p:Nat×gS):Value:=if A.has p.2=true then Bn k p.1 (bytes p.2.name) true (bytes (Bq p.2)) (bytes p.2.text) p.2.gT p.2.il else Bn k p.1 (bytes p.2.name) false OS OS 0 0
def oP(es:List gS):List gS:=es.mergeSort λa b=>decide (a.name<=b.name)
def ja(es:List gS):List (Nat×gS):=(oP es).zipIdx.map λp=>(p.2,p.1)
theorem lI(es:List gS):(oP es).Perm es:=List.mergeSort_perm _ _
theorem EV(es:List gS):(oP es).map gS.name=(es.map gS.name).mergeSort λx y=>decide (x<=y):=List.map_mergeSort λ_ _ _ _=>rfl
theorem th(es:List gS)(k:Nat):(ja es)[k]?=((oP es)[k]?).map λe=>(k,e):=by
 simp[ja,List.getElem?_zipIdx];cases(oP es)[k]?<;>rfl
theorem xQ(es:List gS):(ja es).length=es.length:=by simp[ja,(lI es).length_eq]
theorem EA{k:Nat}(B:k<es.length):∃e,(oP es)[k]?=some e/\e∈es/\((es.map gS.name).mergeSort λx y=>decide (x<=y))[k]?=some e.name:=by
 have h:k<(oP es).length:=by rw[(lI es).length_eq]; exact B
 refine⟨(oP es)[k],bl h,(lI es).mem_iff.1 (List.getElem_mem h),?_⟩;rw[<-EV,bo,bl h];rfl
theorem LV(B:(es.map gS.name).Nodup){e:gS}(D:e∈es)(z:Value):pM (es.map mF) e.name z=tJ e:=by
 have:(es.map mF).find? (λp=>p.1==e.name)=some (mF e):=by
  induction es with
  |nil=>cases D
  |cons x es U=>
   rw[bq,List.nodup_cons]at B;rw[bq,List.find?_cons];by_cases O:x.name=e.name
   .rcases bk.1 D with rfl|h
    .simp[mF]
    .exact absurd (List.mem_map_of_mem h) (O▸B.1)
   .have:((mF x).1==e.name)=false:=by simpa[mF]using O
    rw[this];rcases bk.1 D with rfl|h
    .exact absurd rfl O
    .exact U B.2 h
 unfold pM;rw[this];rfl
structure SW(w:World)(num:Nat)(es:List gS)(A:Ask)(cap:Nat)(ms:List Value):Prop where
 c0:w.cell? ⟨5,0,none⟩=some (.chan (some 10))
 c1:w.cell? ⟨6,0,none⟩=some (.map (some 11))
 c2:w.cell? ⟨7,0,none⟩=some (.int .i64 num)
 c3:w.cell? ⟨8,0,none⟩=some (.int .i64 A.m)
 c4:w.cell? ⟨8,1,none⟩=some (.string A.q)
 c5:w.cell? ⟨8,2,none⟩=some (.int .i64 A.t)
 ch:w.heap[10]?=some (.chan cap ms.toArray false ms.length 0 false)
 sm:je w 11 es
theorem SW.lt{A:Ask}(h:SW w num es A cap ms):11<w.heap.size:=h.sm.lt
theorem SW.ext{A:Ask}(h:SW w num es A cap ms)(B:kC w w'):SW w' num es A cap ms:=by
 have D:=h.lt;exact⟨(B.cell (p:=⟨5,0,none⟩) (by show(5:Nat)<_; omega)).trans h.c0,(B.cell (p:=⟨6,0,none⟩) (by show(6:Nat)<_; omega)).trans h.c1,(B.cell (p:=⟨7,0,none⟩) (by show(7:Nat)<_; omega)).trans h.c2,(B.cell (p:=⟨8,0,none⟩) (by show(8:Nat)<_; omega)).trans h.c3,(B.cell (p:=⟨8,1,none⟩) (by show(8:Nat)<_; omega)).trans h.c4,(B.cell (p:=⟨8,2,none⟩) (by show(8:Nat)<_; omega)).trans h.c5,(B.block 10 (by omega)).trans h.ch,h.sm.below B⟩
theorem SW.tp{A:Ask}(h:SW w num es A cap ms)(τ:Tape):SW (tp w τ) num es A cap ms:=by
 obtain⟨B,O,U,W,Y,h6,h7,D,h8,h9⟩:=h;exact⟨B,O,U,W,Y,h6,h7,D,h8,h9⟩
theorem SW.GD{A:Ask}(h:SW w num es A cap ms)(B:rZ w w'):SW w' num es A cap ms:=by
 obtain⟨τ,B⟩:=B;exact(h.tp τ).ext B
theorem SW.km{A:Ask}(h:SW w num es A cap ms)(v:Value):SW {w with heap:=w.heap.setIfInBounds 10 (.chan cap (ms.toArray.push v) false (ms.length+1) 0 false)} num es A cap (ms++[v]):=by
 have O:=h.lt;have hb:∀k,k≠10->(w.heap.setIfInBounds 10 (.chan cap (ms.toArray.push v) false (ms.length+1) 0 false))[k]?=w.heap[k]?:=λk D=>by rw[bt (Ne.symm D)]
 have B:∀(k o:Nat),k≠10->bT {w with heap:=w.heap.setIfInBounds 10 (.chan cap (ms.toArray.push v) false (ms.length+1) 0 false)} ⟨k,o,none⟩=w.cell? ⟨k,o,none⟩:=λk o D=>by
  simp only[bT,hb k D]
 refine⟨(B 5 0 (by omega)).trans h.c0,(B 6 0 (by omega)).trans h.c1,(B 7 0 (by omega)).trans h.c2,(B 8 0 (by omega)).trans h.c3,(B 8 1 (by omega)).trans h.c4,(B 8 2 (by omega)).trans h.c5,?_,h.sm.stay (hb 11 (by omega))⟩;show(w.heap.setIfInBounds 10 _)[10]?=_;rw[Array.getElem?_setIfInBounds_self_of_lt (by omega)];simp
end
section
open Go.Conc Go.RowKit Go.Maps
def wL:List Deferred:=[⟨.collected 9,#[.chan (some 10)]⟩]
theorem Mm{f:bO}{tm:Array Value}{rest:Code}{w:World}{L:List Value}{W:World->Prop}{Q:Exit->Act->World->Prop}(h:rest.wp prog Q ⟨tm,wL⟩ w)
  (Y:∀e a w',Q e a w'->(e=.normal\/e=.ret)/\a.defers=wL/\(∃cap O s r t,w'.heap[10]?=some (.chan cap O false s r t)/\O.toList=L)/\W w') :
  ∃n B,runN prog n (lone ⟨f,tm,[.code rest],wL,.run,.normal,none⟩ [door prog] w)=.next (LS.m B)/\Nt prog f L W B:=by
 obtain⟨e,a,w',hq,D⟩:=h ⟨f,#[],[],[],.run,.normal,none⟩ [] [door prog];obtain⟨he,hd,hh,hk⟩:=Y e a w' hq
 have hr:∃td n,runN prog n (lone ⟨f,tm,[.code rest],wL,.run,.normal,none⟩ [door prog] w)=.next (lone ⟨f,a.tmps,td,a.defers,.returning,.normal,none⟩ [door prog] w'):=by
  rcases he with rfl|rfl
  .obtain⟨n,U⟩:=(show Steps _ _ _ from D).trans (.one step_end);exact⟨[],n,U⟩
  .obtain⟨td,n,U⟩:=D;exact⟨td,n,U⟩
 obtain⟨td,n,U⟩:=hr;exact⟨n,⟨⟨f,a.tmps,td,a.defers,.returning,.normal,none⟩,[door prog],w'⟩,U,rfl,rfl,hd,rfl,hh,hk⟩
def SX(L:List Value)(o:Option Obj):Exit->Act->World->Prop:=λe a w'=>(e=.normal\/e=.ret)/\a.defers=wL/\(∃cap B s r t,w'.heap[10]?=some (.chan cap B false s r t)/\B.toList=L)/\w'.heap[11]?=o
theorem Ll{w w':World}{base e sz n:Nat}{v:Value}{xs:List Value}(h:w.ownsRow base e sz v n xs)(hb:∀g,base<=g->g<w.heap.size->w'.heap[g]?=w.heap[g]?):w'.ownsRow base e sz v n xs:=by
 obtain⟨W,B⟩:=h;refine⟨W,?_⟩;rcases B with B|⟨g,cap,D,Y,O,U,h5⟩
 .exact .inl B
 .exact .inr ⟨g,cap,D,Y,O,(hb g O (bu.1 U).1).trans U,h5⟩
theorem zZ{w y:World}(h:rZ w y)(g:Nat)(B:g<w.heap.size):y.heap[g]?=w.heap[g]?:=by
 obtain⟨τ,h⟩:=h;exact h.block g B
theorem Tb(num:Nat)(es:List gS)(A:Ask)(hA:A.Ok)(cap:Nat)(w:World)(h:SW w num es A cap [])(ai:es.length<=cap)(hl:es.length<=100000)(aj:∀e∈es,e.name.length<=bP/\e.text.length<=1048576/\(e.gone=false->0<=e.il/\e.il<=255))(a9:num<=1000) :
  (I3 f120).wp prog (SX ((ja es).map (tO A num)) (w.heap[11]?)) ⟨(DI 120 27 6 .skip).tmps,wL⟩ w:=by
 have HS:Hid (SW _ _ _ _ _ _):=h;have c1:=h.c1;obtain⟨D,hD⟩:∃D,D=(ja es).map (tO A num):=⟨_,rfl⟩;have HD:Hid (D=(ja es).map (tO A num)):=hD;rw[<-hD];clear hD;have W:=FR 11 (es.map mF) w h.sm (by simpa using hl);have HK:Hid (∀y,y=w->bR prog 122 #[.map (some 11)] y λe w'=>e=.returned (.func (.func 163) #[] #[.pointer (some ⟨w.heap.size,0,none⟩)])/\w'=w.alloc (.cells #[.map (some 11)] 85)):=λy O=>by subst O; exact NH 11 _
 rw[show(DI 120 27 6 .skip).tmps=#[.pointer (some ⟨5,0,none⟩),.pointer (some ⟨6,0,none⟩),.pointer (some ⟨7,0,none⟩),.pointer (some ⟨8,0,none⟩),bX,bX,.chan (some 10),bX,bX,bX,bX,bX,bX,bX,bX,bX,bX,bX,bX,bX,bX,bX,bX,bX,bX,bX,bX]from rfl];show Code.wp prog (Code.seq (Code.region 1 _ false) (Code.block 0 (Code.loop _))) _ _ _;obtain⟨N,hN⟩:∃N,N=(es.map gS.name).mergeSort λx y=>decide (x<=y):=⟨_,rfl⟩;have ak:(es.map mF).map Prod.fst=es.map gS.name:=by simp[mF]
 rw[ak,<-hN,bp]at W;have Y:es.length=N.length:=by rw[hN]; simp
 rw[Y]at W ai hl;have al:=W;have HN:Hid (N=(es.map gS.name).mergeSort λx y=>decide (x<=y)):=hN;have am:Hid (es.length=N.length):=Y;have a4:Hid (∀e∈es,e.name.length<=bP/\e.text.length<=1048576/\(e.gone=false->0<=e.il/\e.il<=255)):=aj;have a5:=h.lt;clear W hN Y ak aj h;go_wp2_with (go_at_call 122; refine(HK.out _ rfl).mono ?_; rintro e y ⟨rfl,rfl⟩);refine al.mono ?_;rintro e y ⟨v,rfl,U,hb⟩;obtain⟨av,cv,rfl,a'⟩:=ib U
 have HX:Hid (kC w y):=by
  show Below _ _ _;exact((Below.refl _ _).alloc (Nat.le_refl _) _).trans (Below.mono hb (by omega))
 have HR:Hid (y.ownsRow 12 9 1 (.slice av N.length cv) N.length (gQ N)):=ownsRow_base_a U (by omega);clear U hb HK al;have HS1:Hid (SW y num es A cap []):=HS.out.ext HX.out;have HK1:Hid (y.heap[11]?=w.heap[11]?):=HX.out.block 11 a5;clear HX HS c1;go_wp2_with fail;go_loopw [11] (λi wr=>∃k:Nat,k<=N.length/\i=.int .i64 k/\SW wr num es A cap (D.take k)/\wr.ownsRow 12 9 1 (.slice av N.length cv) N.length (gQ N)/\wr.heap[11]?=w.heap[11]?) (λi _=>N.length-(intOf i).toNat)
 case atStart=>exact⟨0,Nat.zero_le _,rfl,HS1.out,HR.out,HK1.out⟩
 case round=>
  obtain⟨k,hk,rfl,an,ao,ap⟩:=hrel;have B:Hid (SW _ _ _ _ _ _):=an;have aa:Hid (wr.ownsRow 12 9 1 (.slice av N.length cv) N.length (gQ N)):=ao;have ab:Hid (wr.heap[11]?=w.heap[11]?):=ap;clear an ao ap HS1 HR HK1;have aq:Hid (D.length=N.length):=by show _=_; rw[HD.out,bp,xQ,am.out]
  by_cases hlt:k<N.length
  .obtain⟨bg,og,rfl,ac⟩:=lV aa.out k _ (kW N k hlt);go_upto_region 4 with fail;obtain⟨e,ar,ad,ae⟩:=EA (es:=es) (k:=k) (by rw[am.out]; exact hlt)
   have au:N[k]=e.name:=by
    rw[<-HN.out,bl hlt,bU]at ae;exact ae
   rw[au];obtain⟨aw,ax,ay⟩:=a4.out e ad
   have HM:Hid (∀y:World,bR prog 119 #[.agg #[.int .i64 num,.int .i64 k],.string ⟨e.name.toArray⟩,tJ e,.agg #[.int .i64 A.m,.string A.q,.int .i64 A.t]] y λx w'=>x=.returned (tO A num (k,e))/\kC y w'):=λy=>by
    refine(O8 num k ⟨e.name.toArray⟩ e.gone ⟨(Bq e).toArray⟩ ⟨e.text.toArray⟩ e.gT e.il A.m A.t A.q y hA.m hA.t ay hA.q (by show e.text.toArray.size<=_; simpa using ax)).mono ?_;rintro x w' ⟨h1,h2⟩;exact⟨h1,h2⟩
   have af:Hid (∀y,SW y num es A cap (D.take k)->(Instr.lookup 85 (.map (some 11)) (.string ⟨e.name.toArray⟩) false).run prog y=.ok (tJ e) y):=λy O=>by
    rw[(ir.look O.sm bx bF (J3 y) e.name aw).1,LV (by have:=O.sm.nodup; simpa[mF]using this) ad]
   have az:D[k]?=some (tO A num (k,e)):=by rw[HD.out,bo,th,ar]; rfl
   have HT:Hid (D.take (k+1)=D.take k++[tO A num (k,e)]):=by
    obtain⟨a6,a7⟩:=List.getElem?_eq_some_iff.1 az;show _=_;rw[List.take_succ_eq_append_getElem a6,a7]
   obtain⟨sv,a0⟩:∃sv,sv=tJ e:=⟨_,rfl⟩;obtain⟨mv,a1⟩:∃mv,mv=tO A num (k,e):=⟨_,rfl⟩;rw[<-a0]at HM af;rw[<-a1]at HM HT;clear a0 a1 au aw ax ay ar ad ae az ac;refine zA (Sd:=λa y=>xZ _ _ _ [10] a y) (last:=10) (tl:=[]) (by kernel_rfl) ?_ (λa y h _=>h);refine jA 0 ?_ ?_<|jA 1 ?_ ?_<|jA 2 ?_ ?_<|jA 3 ?_ ?_<|jA 4 ?_ ?_<|jA 5 ?_ ?_<|jA 6 ?_ ?_<|jA 7 ?_ ?_<|jA 8 ?_ ?_ ?_
   any_goals(intro y O; have q:=(B.out.GD O).c0; have q1:=(B.out.GD O).c2; have q2:=(B.out.GD O).c1; have q3:=af.out y (B.out.GD O); have q4:=(B.out.GD O).c3; have q5:=(B.out.GD O).c4; have q6:=(B.out.GD O).c5; unfold jh; go_simp; refine⟨kC.refl _,?_⟩; with_reducible rfl)
   go_simp;refine jA 9 ?_ ?_ ?_;rotate_left
   .intro y O; unfold jh; go_simp; refine⟨rfl,(HM.out y).mono ?_⟩; rintro e y2 ⟨rfl,h2⟩; refine⟨_,rfl,h2,?_⟩; with_reducible rfl
   go_simp;refine Jj (by kernel_rfl) (λt=>Sq (by kernel_rfl) _ _) ?_;intro y O;have ag:=B.out.GD O;have a8:=aq.out;refine Hv (v:=mv) rfl rfl rfl rfl rfl rfl ag.ch (by simp; omega) ?_;have ah:=ag.km mv;rw[<-HT.out]at ah
   have a2:=Ll (w':={y with heap:=y.heap.setIfInBounds 10 (.chan cap ((D.take k).toArray.push mv) false ((D.take k).length+1) 0 false)}) aa.out (λg h1 h2=>by
    show(y.heap.setIfInBounds 10 _)[g]?=_;rw[bt (by omega)]
    exact zZ O g h2)
   have a3:({y with heap:=y.heap.setIfInBounds 10 (.chan cap ((D.take k).toArray.push mv) false ((D.take k).length+1) 0 false)}:World).heap[11]?=w.heap[11]?:=by
    show(y.heap.setIfInBounds 10 _)[11]?=_;rw[bt (by omega),zZ O 11 B.out.lt];exact ab.out
   generalize ({y with heap:=y.heap.setIfInBounds 10 (.chan cap ((D.take k).toArray.push mv) false ((D.take k).length+1) 0 false)}:World)=w3 at *;have HS4:Hid (SW _ _ _ _ _ _):=ah;have HR4:Hid (w3.ownsRow 12 9 1 (.slice (some ⟨bg,og,none⟩) N.length cv) N.length (gQ N)):=a2;have HK4:Hid (w3.heap[11]?=w.heap[11]?):=a3;clear ah a2 a3 O ag a8 HM af HT B aa ab;go_wp2;go_roundw
   case rel=>exact⟨k+1,hlt,by simp,HS4.out,HR4.out,HK4.out⟩
   case measure=>simp[intOf]; omega
  .obtain rfl:k=N.length:=by omega
   go_wp2;exact⟨.inl rfl,rfl,⟨_,_,_,_,_,B.out.ch,by rw[List.toList_toArray,<-aq.out,List.take_length]⟩,ab.out⟩
end
section
open Go.Conc Go.RowKit Go.Maps
variable {ops:Array Oper} {c x y:Code} {rest:List Nat} {i:Nat} {o:Oper}
def TV(dd q K:Nat)(m:Ren):Prop:=(m.dead=λr=>r=dd)/\m.dm dd=q/\∀r,m.loose r->r<K
def tu(P:Program)(Z:ob P)(w:World)(T:List Frame)(dd q K:Nat)(lent:Bool):Env P where
 Z:=Z
 jv:=λb=>b<w.heap.size/\(lent=true->b≠q)
 w0:=w
 T:=T
 gl:=λg=>E3 g=true
 st:=false
 jz:=λf=>Of f=true
 ok:=NL P Of E3 false
 X:=TV dd q K
 le:=λm B h ⟨D,O,U⟩=>⟨h.dead.trans D,by rw[h.dm]; exact O,λr W=>U r (h.less r W)⟩
theorem Js{Z:ob prog}{w:World}{T:List Frame}{dd q K:Nat}{lent:Bool}(m:Ren)(B:m.ok=(tu prog Z w T dd q K lent).ok)(D:m.jz=(tu prog Z w T dd q K lent).jz)(O:m.G=prog.globals.size):oh prog m (tu prog Z w T dd q K lent).gl (tu prog Z w T dd q K lent).st:=S7 B D (O.trans xT)
section
variable {P:Program} {E:Env P} {fn:bO} {tm:Array Value} {os:List OF} {wl:World} {V:List (Nat×Option (List Value))} {k:List Item}
theorem gP.ij(τ:Nat->Question->Nat)(h:gP E os wl V):gP E os (tp wl τ) V:=gP.tape (τ:=wl.tape) h
def Mj(E:Env P)(fn:bO)(k:List Item)(os:List OF)(V:List (Nat×Option (List Value))):Exit->Act->World->Prop:=λe a w'=>a.defers=[]/\∃k',((e=.normal/\k'=k)\/∃id,e=.exit id/\exitTo id k=some k')/\gP E (⟨fn,a.tmps,k'⟩::os) w' V
theorem gP.JG(B:jy E.ok c)(D:k.all nz=true)(O:wE E os)(h:∀τ,Bl τ wl->c.wp P (Mj E fn k os V) ⟨tm,[]⟩ (tp wl τ)):gP E (⟨fn,tm,.code c::k⟩::os) wl V:=gP.code B D O h λ_ _ _ h=>h
theorem gP.SS(hi:ops[i]?=some o)(D:bV o (bQ ops tm)=true)(O:OkOp P E.jz E.gl E.st o.op)
  (B:∀τ,jh P o ⟨tm,[]⟩ (tp wl τ) (λv y=>gP E (⟨fn,(Act.put ⟨tm,[]⟩ o.dst v).tmps,.inRegion ops rest::k⟩::os) y V)):gP E (⟨fn,tm,.inRegion ops (i::rest)::k⟩::os) wl V:=by
 refine gP.any hi D O λτ=>?_;have:=B τ;unfold jh at this;refine ik.mono (λv y h=>?_) this;rw[ve]at h;exact h
end
section
variable {Z:ob prog} {w:World} {T:List Frame} {dd q K:Nat} {lent:Bool} {fn:bO} {tm:Array Value} {os:List OF} {wl:World} {V:List (Nat×Option (List Value))} {k:List Item}
theorem j8(hi:ops[i]?=some o)(D:bV o (bQ ops tm)=true)(O:Ke prog Of E3 false o.op=true)
  (B:∀τ,jh prog o ⟨tm,[]⟩ (tp wl τ) (λv y=>gP (tu prog Z w T dd q K lent) (⟨fn,(Act.put ⟨tm,[]⟩ o.dst v).tmps,.inRegion ops rest::k⟩::os) y V)):gP (tu prog Z w T dd q K lent) (⟨fn,tm,.inRegion ops (i::rest)::k⟩::os) wl V:=
 gP.SS hi D (Ed O) B
theorem ta(hi:ops[i]?=some o)(D:bV o (bQ ops tm)=true)(U:Ke prog Of E3 false o.op=true)
  (B:∀O:World,O.heap=wl.heap->O.os=wl.os->jh prog o ⟨tm,[]⟩ O (λv y=>gP (tu prog Z w T dd q K lent) (⟨fn,(Act.put ⟨tm,[]⟩ o.dst v).tmps,.inRegion ops rest::k⟩::os) y V)):gP (tu prog Z w T dd q K lent) (⟨fn,tm,.inRegion ops (i::rest)::k⟩::os) wl V:=
 j8 hi D U λτ=>B (tp wl τ) rfl rfl
theorem m8(B:mM (λo=>Ke prog Of E3 false o.op) c=true)(O:k.all nz=true)(U:wE (tu prog Z w T dd q K lent) os)(h:∀D:World,D.heap=wl.heap->D.os=wl.os->c.wp prog (Mj (tu prog Z w T dd q K lent) fn k os V) ⟨tm,[]⟩ D):gP (tu prog Z w T dd q K lent) (⟨fn,tm,.code c::k⟩::os) wl V:=
 gP.JG (qS B) O U λτ _=>h (tp wl τ) rfl rfl
theorem gP.Jl{P:Program}{E:Env P}{c:Operand}(B:wj c)(e:lG tm c=.bool true)(h:gP E (⟨fn,tm,.code x::k⟩::os) wl V):gP E (⟨fn,tm,.code (.cond c x y)::k⟩::os) wl V:=gP.cond B e h
theorem gP.sH{P:Program}{E:Env P}{c:Operand}(B:wj c)(e:lG tm c=.bool false)(h:gP E (⟨fn,tm,.code y::k⟩::os) wl V):gP E (⟨fn,tm,.code (.cond c x y)::k⟩::os) wl V:=gP.cond B e h
theorem lR(d:Option Tmp)(tm:Array Value)(v:Value):jg d tm v=(Act.put ⟨tm,[]⟩ d v).tmps:=by rw[ve]
theorem im{P:Program}{E:Env P}{tmps:Array Value}{w':World}(h:gP E (⟨fn,tmps,k⟩::os) w' V):Mj E fn k os V .normal ⟨tmps,[]⟩ w':=⟨rfl,k,.inl ⟨rfl,rfl⟩,h⟩
end
end
section
open Go.Conc Go.RowKit Go.Maps
structure vD(ex:Obj)(es:List gS):Prop where
 isMap:∃a c,ex=.map a c
 T3:∀m:Ren,OR m ex ex
 inv:∀(m:Ren)o',OR m ex o'->o'=ex
 say:∀(w:World)(B:Nat),w.heap[B]?=some ex->je w B es
def bb(s:Nat):Nat->Nat|0=>s+4|1=>s+1|2=>s|_=>s+2
def Sc(A:Ask):Array Value:=#[.int .i64 A.m,.string A.q,.int .i64 A.t]
def Tw(s dd num:Nat)(A:Ask):Nat->Array Value|0=>#[.chan (some (s+3))]|1=>#[.map (some dd)]|2=>#[.int .i64 num]|_=>Sc A
def TH(num:Nat)(A:Ask):Nat->Array Value|0=>#[.chan (some 10)]|1=>#[.map (some 11)]|2=>#[.int .i64 num]|_=>Sc A
def Tx:Nat->TypeId|0=>167|1=>85|2=>3|_=>94
theorem QS(s i:Nat):s<=bb s i/\bb s i<s+5:=by
 unfold bb;split<;>omega
theorem Ru(s:Nat):∀i j,i<4->j<4->bb s i=bb s j->i=j:=by
 intro i j hi B h;have:i=0\/i=1\/i=2\/i=3:=by omega
 have:j=0\/j=1\/j=2\/j=3:=by omega
 rcases ‹i=0\/_› with rfl|rfl|rfl|rfl<;>rcases ‹j=0\/_› with rfl|rfl|rfl|rfl<;>simp[bb]at h⊢
theorem Flat.arr{c:Array Value}(h:∀i(hi:i<c.size),Flat c[i]){m mi:Ren}{B:Array Value}(D:iI m c B):iI mi c B:=by
 have:B=c:=by
  apply bw;intro i;by_cases hi:i<c.size
  .obtain⟨O,U,W⟩:=D.get (bv hi);rw[U,(h i hi).eq m O W,bv hi]
  .rw[bs (by rw[<-D.size]; omega),bs (by omega)]
 subst this;exact iI.kG rfl λi hi _=>(h i hi).refl mi
theorem ML(A:Ask)(k:Nat)(p:Nat×gS):Flat (tO A k p):=by
 unfold tO;split
 .refine .agg λi hi=>?_;have:i<8:=hi
  match i,this with
  |0,_|1,_|6,_|7,_=>exact .int _ _
  |2,_|4,_|5,_=>exact .string _
  |3,_=>exact .bool _
 .refine .agg λi hi=>?_;have:i<8:=hi
  match i,this with
  |0,_|1,_|6,_|7,_=>exact .int _ _
  |2,_|4,_|5,_=>exact .string _
  |3,_=>exact .bool _
theorem LY{Z:ob prog}{w:World}{T:List Frame}{dd q K num s:Nat}{A:Ask}{es:List gS}{ex:Obj}{O:World}{os:List OF}(hA:A.Ok)(hK:K<=s+5)(h5:5<=s)(ag:dd<s)
  (hc:∀i,i<4->O.heap[bb s i]?=some (.cells (Tw s dd num A i) (Tx i) (0,0))) (aa:5<=q) (hq:q<w.heap.size) (ab:w.heap[q]?=some ex) (Y:vD ex es) (ac:∀(m:Ren)(r:Nat)(o:Obj),O.heap[r]?=some o->¬OR m o ex)
  (hl:es.length<=100000) (ad:∀e∈es,e.name.length<=bP/\e.text.length<=1048576/\(e.gone=false->0<=e.il/\e.il<=255)) (U:num<=1000) :
  Sends (tu prog Z w T dd q K false) (tu prog Z w T dd q (s+5) true) 120 (Bw (bb s)) os os O (xa O [bb s 0,bb s 1,bb s 2,bb s 3]) (s+3) ((ja es).map (tO A num)):=by
 refine O3 (cm:=Tw s dd num A) (cd:=TH num A) (te:=Tx) (fz:=λ_=>(0,0)) (M:=some q) (ex:=ex) (cap:=es.length) SA rfl rfl (by decide) (by decide) (by decide) Tk (λv hv=>?_) ⟨rfl,rfl,rfl,rfl,rfl,Js,λm B=>?_,λb=>?_,λi hi=>?_,Ru s,hc,λm B i hi=>?_,rfl,rfl,λi D h4 m mi w' a' B hw ae ha=>?_,λb hb=>?_⟩ λτ=>?_
 .obtain⟨p,_,rfl⟩:=br.1 hv;exact ML A num p
 .obtain⟨x1,x2,x3⟩:=B.x;refine⟨x1,x2,λr B=>?_⟩;rcases B with B|B
  .have:=x3 r B; omega
  .simp only[bk,bm,or_false,bb]at B;omega
 .simp only[tu,ne_eq,bU];constructor
  .rintro⟨D,W⟩; exact⟨⟨D,λh=>by cases h⟩,λe=>W trivial e.symm⟩
  .rintro⟨⟨D,_⟩,W⟩; exact⟨D,λ_ e=>W e.symm⟩
 .have:=QS s i; omega
 .obtain⟨x1,_,_⟩:=B.x;rw[x1];have:=(QS s i).1;show ¬(bb s i=dd);omega
 .obtain⟨x1,x2,_⟩:=B.x;have:i=1\/i=2\/i=3:=by omega
  rcases this with rfl|rfl|rfl
  .have hz:=ha.size;obtain⟨v',e1,e2⟩:=ha.get (show(Tw s dd num A 1)[0]?=some (.map (some dd))from rfl)
   have hv:v'=.map (some q):=by
    cases e2 with
    |gone hd=>rw[x2]
    |map hb=>
     rw[(hw.dead dd (by rw[x1])).1]at hb;cases hb
   subst hv
   have:a'=#[.map (some q)]:=by
    apply bw;intro j
    match j with
    |0=>rw[e1]; rfl
    |j+1=>rw[bs (by rw[<-hz]; show 1<=j+1; omega),bs (by show 1<=j+1; omega)]
   subst this;exact iI.one (.map (ae q rfl))
  .exact Flat.arr (c:=#[.int .i64 num]) (λj hj=>by
    have:j<1:=hj
    match j,this with
    |0,_=>exact .int _ _) ha
  .exact Flat.arr (c:=Sc A) (λj hj=>by
    have:j<3:=hj
    match j,this with
    |0,_=>exact .int _ _
    |1,_=>exact .string _
    |2,_=>exact .int _ _) ha
 .cases hb;obtain⟨a,c,e⟩:=Y.isMap;exact⟨aa,⟨hq,λh=>by cases h⟩,ab,Y.T3,Y.inv,λa' e' f' h=>(by rw[h]at e; cases e),ac⟩
 .have af:SW (tp (wF O (TH num A) Tx es.length ex) τ) num es A es.length []:=by
   refine⟨rfl,rfl,rfl,rfl,rfl,rfl,rfl,Y.say _ _ rfl⟩
  exact Mm (Tb num es A hA es.length _ af (Nat.le_refl _) hl ad U) λe a w' ⟨D,W,h3,h4⟩=>⟨D,W,h3,.inr (h4.trans rfl)⟩
end
section
open Go.Conc Go.RowKit Go.Maps
variable {ops:Array Oper} {rest:List Nat} {o:Oper} {P:Program} {E:Env P}
def jc(f:Func):Code:=match f.body with
 |some c=>c
 |none=>.skip
theorem gP.KW{fn:bO}{tm:Array Value}{os:List OF}{wl:World}{V:List (Nat×Option (List Value))}{k:List Item}{i:Nat}(hi:ops[i]?=some o)(B:bV o (bQ ops tm)=true)
  (D:∀(O:Array Value)(w:World),(execOp (lG O) o).runT P w #[]=(.ok (.value (.chan (some w.heap.size))) {w with heap:=w.heap.push (.chan 0 #[] false 0 0 false)},#[]))
  (h:gP E (⟨fn,(Act.put ⟨tm,[]⟩ o.dst (.chan (some wl.heap.size))).tmps,.inRegion ops rest::k⟩::os) {wl with heap:=wl.heap.push nk} ((wl.heap.size,none)::V)):gP E (⟨fn,tm,.inRegion ops (i::rest)::k⟩::os) wl V:=
 gP.makeChan hi B D (by rw[ve]at h; exact h)
section
variable {Z:ob prog} {w:World} {T:List Frame} {dd q K:Nat} {lent:Bool} {fn:bO} {tm:Array Value} {os:List OF} {wl:World} {V:List (Nat×Option (List Value))} {k:List Item}
theorem KI{m:Ren}{Pd:Nat->Prop}{ρ:Nat->iC}{gs:Array Goroutine}{w':World}{t:Trace}{q:Nat}{a:Array MapEntry}{c:Nat}(U:E.jv q)(hw:E.w0.heap[q]?=some (.map a c))(B:Co P E.jv E.w0 Pd ρ m wl gs w' t)(j:Nat)(O:Ren)(r':Nat)(W:(ρ j).oe=some O):O.blk r'≠some q:=by
 intro hb;have hl:=B.ff j O W r' q hb U;obtain⟨aa,D⟩:=B.wr W;obtain⟨c1,e1,f1,hc⟩:=D.lk r' q hb hl;obtain⟨o,o',Y,h2,h3⟩:=D.obj r' q hb;rw[(B.fix q U).2,hw]at h2;cases h2;rw[hc]at Y;cases Y;cases h3
theorem ze(num:Nat)(A:Ask)(es:List gS)(ex:Obj){i:Nat}(s:Nat)(hs:s=wl.heap.size)(hi:ops[i]?=some o)(hA:A.Ok)(hK:K<=s+5)(h5:5<=s)(ak:dd<s)(al:5<=q)(hq:q<w.heap.size)(ag:w.heap[q]?=some ex)(hM:vD ex es)(am:∀(r:Nat)a c,wl.heap[r]?≠some (.map a c))
  (hl:es.length<=100000) (an:∀e∈es,e.name.length<=bP/\e.text.length<=1048576/\(e.gone=false->0<=e.il/\e.il<=255)) (ah:num<=1000) (hV:∀x∈V,x.1<s)
  (hn:∀w2:World,w2.heap.size=s+5->(∀r,r<s->w2.heap[r]?=wl.heap[r]?)->(∀(r:Nat)a c,w2.heap[r]?≠some (.map a c))->w2.os=wl.os->gP (tu prog Z w T dd q (s+5) true) (⟨fn,jg o.dst tm (.chan (some (s+3))),.inRegion ops rest::k⟩::os) w2 ((s+3,some ((ja es).map (tO A num)))::V)) :
  gP (tu prog Z w T dd q K false) (⟨80,#[.int .i64 num,.map (some dd),.agg #[.int .i64 A.m,.string A.q,.int .i64 A.t],bX,bX,bX,bX,bX,bX,bX,bX],[.code (jc f80)]⟩::⟨fn,tm,.inRegion ops (i::rest)::k⟩::os) wl V:=by
 show gP _ (⟨_,_,[.code (.seq (.region 0 _ false) (.seq (.region 1 _ false) (.seq (.region 2 _ false) (.seq (.region 3 _ false) .ret))))]⟩::_) _ _;refine gP.seq ?_;have HS:Hid (s=wl.heap.size):=hs;clear hs;refine m8 (by kernel_rfl) rfl (.inl (by simp)) λU B D=>?_;have HY:Hid (U.heap=wl.heap/\U.os=wl.os):=⟨B,D⟩;clear B D;go_wp2;refine im ?_;obtain⟨B,D⟩:=HY.out;obtain⟨w3,Y⟩:∃w3,w3=(((U.alloc (.cells #[.int .i64 num] 3)).alloc (.cells #[.map (some dd)] 85)).alloc (.cells #[.int .i64 A.m,.string A.q,.int .i64 A.t] 94)):=⟨_,rfl⟩;have O:U.heap.size=s:=by rw[B]; exact HS.out.symm
 have z3:w3.heap.size=s+3:=by rw[Y]; simp[O]
 have o3:∀r,r<s->w3.heap[r]?=wl.heap[r]?:=λr W=>by
  rw[Y,lD _ _ (by simp[O]; omega),lD _ _ (by simp[O]; omega),lD _ _ (by rw[O]; omega),B]
 have g0:w3.heap[s]?=some (.cells #[.int .i64 num] 3 (0,0)):=by rw[Y,lD _ _ (by simp only[bS,O]; omega),lD _ _ (by simp only[bS,O]; omega),nh _ _ O.symm]
 have g1:w3.heap[s+1]?=some (.cells #[.map (some dd)] 85 (0,0)):=by rw[Y,lD _ _ (by simp[O]),nh _ _ (by simp[O])]
 have g2:w3.heap[s+2]?=some (.cells #[.int .i64 A.m,.string A.q,.int .i64 A.t] 94 (0,0)):=by rw[Y,nh _ _ (by simp[O])]
 have p3:w3.os=wl.os:=by rw[Y]; exact D
 rw[<-Y,O];clear Y B D O HY U;refine gP.seq (gP.region ?_);refine gP.KW (i:=0) rfl rfl (λaq w=>by kernel_rfl) ?_;rw[z3];obtain⟨w4,ab⟩:∃w4:World,w4={w3 with heap:=w3.heap.push nk}:=⟨_,rfl⟩;have z4:w4.heap.size=s+4:=by rw[ab]; simp[z3]
 have o4:∀r,r<s+3->w4.heap[r]?=w3.heap[r]?:=λr W=>by rw[ab]; show(w3.heap.push _)[r]?=_; rw[Array.getElem?_push,if_neg (by omega)]
 have g3:w4.heap[s+3]?=some nk:=by rw[ab]; show(w3.heap.push _)[s+3]?=_; rw[<-z3]; simp
 have p4:w4.os=wl.os:=by rw[ab]; exact p3
 rw[<-ab];clear ab;have ai:s+1+1=s+2:=rfl;rw[ai];clear ai;go_simp;refine ta rfl (by rfl) (by kernel_rfl) λU B D=>?_;have HY:Hid (U.heap=w4.heap/\U.os=w4.os):=⟨B,D⟩;clear B D;unfold jh;go_simp;simp only[ik];obtain⟨B,D⟩:=HY.out;obtain⟨w5,ac⟩:∃w5,w5=U.alloc (.cells #[.chan none] 167):=⟨_,rfl⟩;have z5:w5.heap.size=s+5:=by rw[ac]; simp[B,z4]
 have o5:∀r,r<s+4->w5.heap[r]?=w4.heap[r]?:=λr W=>by rw[ac,lD _ _ (by rw[B,z4]; exact W),B]
 have g4:w5.heap[s+4]?=some (.cells #[.chan none] 167 (0,0)):=by rw[ac,nh _ _ (by rw[B,z4])]
 have p5:w5.os=wl.os:=by rw[ac]; exact D.trans p4
 rw[<-ac,B,z4];clear ac B D HY U;refine ta rfl (by rfl) (by kernel_rfl) λU B D=>?_;have c4:U.cell? ⟨s+4,0,none⟩=some (.chan none):=by rw[Ps (by rw[B]; exact g4)]; rfl
 have f4:U.frozen? ⟨s+4,0,none⟩=false:=Ue (by rw[B]; exact g4) 0;have HY:Hid (U.heap=w5.heap/\U.os=w5.os):=⟨B,D⟩;clear B D;unfold jh;go_simp;simp only[ik];obtain⟨B,D⟩:=HY.out;obtain⟨w6,ad⟩:∃w6,w6=U.setCell ⟨s+4,0,none⟩ (.chan (some (s+3))):=⟨_,rfl⟩;have z6:w6.heap.size=s+5:=by rw[ad]; simp[B,z5]
 have o6:∀r,r≠s+4->w6.heap[r]?=w5.heap[r]?:=λr W=>by rw[ad,bM _ _ _ _ W,B]
 have g6:w6.heap[s+4]?=some (.cells #[.chan (some (s+3))] 167 (0,0)):=by rw[ad]; exact heap_setCell_box_a _ (by rw[B]; exact g4)
 have p6:w6.os=wl.os:=by rw[ad]; exact D.trans p5
 rw[<-ad];clear ad B D HY c4 f4 U;refine gP.inRegion (gP.seq (gP.region ?_));have k0:w6.heap[s]?=some (.cells #[.int .i64 num] 3 (0,0)):=by rw[o6 _ (by omega),o5 _ (by omega),o4 _ (by omega)]; exact g0
 have k1:w6.heap[s+1]?=some (.cells #[.map (some dd)] 85 (0,0)):=by rw[o6 _ (by omega),o5 _ (by omega),o4 _ (by omega)]; exact g1
 have k2:w6.heap[s+2]?=some (.cells #[.int .i64 A.m,.string A.q,.int .i64 A.t] 94 (0,0)):=by rw[o6 _ (by omega),o5 _ (by omega),o4 _ (by omega)]; exact g2
 have k3:w6.heap[s+3]?=some nk:=by rw[o6 _ (by omega),o5 _ (by omega)]; exact g3
 have ko:∀r,r<s->w6.heap[r]?=wl.heap[r]?:=λr W=>by rw[o6 _ (by omega),o5 _ (by omega),o4 _ (by omega),o3 _ W]
 clear g0 g1 g2 g3 g4 o3 o4 o5 o6 z3 z4 z5 p3 p4 p5
 have aj:∀j,j<4->w6.heap[bb s j]?=some (.cells (Tw s dd num A j) (Tx j) (0,0)):=by
  intro j hj
  match j,hj with
  |0,_=>exact g6
  |1,_=>exact k1
  |2,_=>exact k0
  |3,_=>exact k2
 have ae:∀(r:Nat)a c,w6.heap[r]?≠some (.map a c):=by
  intro r a c h;by_cases h1:r<s
  .rw[ko r h1]at h; exact am r a c h
  .have h2:=(bu.1 h).1;rw[z6]at h2;have:r=s\/r=s+1\/r=s+2\/r=s+3\/r=s+4:=by omega
   rcases this with rfl|rfl|rfl|rfl|rfl
   .rw[k0]at h; cases h
   .rw[k1]at h; cases h
   .rw[k2]at h; cases h
   .rw[k3]at h; cases h
   .rw[g6]at h; cases h
 obtain⟨ar,au,af⟩:=hM.isMap
 have hS:=λos=>LY (Z:=Z) (T:=T) (os:=os) hA hK h5 ak aj al hq ag hM (λm r o h1 h2=>by
  rw[af]at h2;cases h2
  exact ae _ _ _ h1) hl an ah
 refine gP.go (i:=0) (j:=1) (f:=120) (q:=9) (rc:=s+3) (Uf:=tu prog Z w T dd q (s+5) true) (Uo:=xa w6 [bb s 0,bb s 1,bb s 2,bb s 3]) (L:=(ja es).map (tO A num)) (Ut:=?os2) (Uv:=(s+3,some ((ja es).map (tO A num)))::V) rfl rfl rfl rfl rfl rfl rfl rfl ?hcx ?hq ?hS ?h1 ?h2 ?h3 ?h4 ?h5 ?h6
 case hS=>
  have e:Array.map (lG #[Value.int IntKind.i64 ↑num,Value.map (some dd),Value.agg #[Value.int IntKind.i64 ↑A.m,Value.string A.q,Value.int IntKind.i64 ↑A.t],Value.pointer (some {block:=s,off:=0}),Value.pointer (some {block:=s+1,off:=0}),Value.pointer (some {block:=s+2,off:=0}),Value.chan none,Value.pointer (some {block:=s+4,off:=0}),Value.chan (some (s+3)),bX,bX]) #[Operand.tmp 7,Operand.tmp 4,Operand.tmp 3,Operand.tmp 5]=Bw (bb s):=by kernel_rfl
  rw[e];exact hS _
 .intro x hx;simp only[bk,bm,or_false]at hx;rcases hx with rfl|rfl|rfl|rfl<;>trivial
 .show 9<11;decide
 .intro q' h1 h2 m Pd ρ gs w' t av ao aw j m' r' W;have:q'=q:=Classical.byContradiction λap=>h2 ⟨h1.1,λ_=>ap⟩;subst this;exact KI h1 (ag.trans (by rw[af])) ao j m' r' W
 .simp
 .intro x hx;rcases bk.1 hx with rfl|hx
  .exact .inl rfl
  .refine .inr ⟨bn _ hx,λe=>?_⟩;have:=hV x hx;rw[e]at this;exact absurd this (by show ¬(s+3<s); omega)
 .simp
 .intro r vs W;rcases bk.1 W with W|W
  .cases W
  .exact bn _ W
 .obtain⟨w7,aa⟩:∃w7,w7=xa w6 [bb s 0,bb s 1,bb s 2,bb s 3]:=⟨_,rfl⟩;have z7:w7.heap.size=s+5:=by rw[aa,As]; exact z6
  have o7:∀r,r<s->w7.heap[r]?=wl.heap[r]?:=λr W=>by
   rw[aa,tn _ (by simp only[bk,bm,or_false,bb]; omega)];exact ko r W
  have g7:w7.heap[s+4]?=some (.cells #[.chan (some (s+3))] 167 (0,1)):=by
   rw[aa];exact D6 w6 (by simp[bb]) g6
  have m7:∀(r:Nat)a c,w7.heap[r]?≠some (.map a c):=by
   intro r a c h;rw[aa,D7]at h
   cases he:w6.heap[r]? with
   |none=>rw[he]at h; cases h
   |some o=>
    rw[he]at h;simp only[Option.map_some,bU]at h;split at h
    .cases o<;>simp[Qw]at h;exact ae _ _ _ he
    .exact ae r a c (by rw[he,h])
  have p7:w7.os=wl.os:=by rw[aa]; exact p6
  rw[<-aa];clear aa hS aj ae k0 k1 k2 k3 ko g6 z6 p6;refine gP.inRegion (gP.seq ?_);refine m8 (by kernel_rfl) rfl (.inl (by simp)) λU B D=>?_;have c7:U.cell? ⟨s+4,0,none⟩=some (.chan (some (s+3))):=by rw[Ps (by rw[B]; exact g7)]; rfl
  have HY:Hid (U.heap=w7.heap/\U.os=w7.os):=⟨B,D⟩;clear B D;simp only[List.setIfInBounds_toArray,List.set_cons_succ,List.set_cons_zero];go_wp2;refine im ?_;obtain⟨B,D⟩:=HY.out;refine gP.back (v:=.chan (some (s+3))) (.inr ⟨_,rfl⟩) func80 hi (λτ=>?_) (hn U (by rw[B]; exact z7) (λr W=>by rw[B]; exact o7 r W) (λr a c=>by rw[B]; exact m7 r a c) (D.trans p7));kernel_rfl
end
end
section
open Go.Conc Go.RowKit Go.Maps
variable {yk v3:Bool} {v2 v4 v5:ByteArray} {v0 v1 v6 v7:Int} {s:Nat}
def Ki:Value:=.agg #[.int .i64 0,.int .i64 0,.string ⟨#[]⟩,.bool false,.string ⟨#[]⟩,.string ⟨#[]⟩,.int .i64 0,.int .i64 0]
def qD(cl:Nat->Option Nat):Array Value:=#[.chan (cl 0),.chan (cl 1),.chan (cl 2),.chan (cl 3),.chan (cl 4),.chan (cl 5),.chan (cl 6)]
def N1(v:Value):Prop:=∃(a b:Int)(c:ByteArray)(d:Bool)(e f:ByteArray)(g h:Int),v=.agg #[.int .i64 a,.int .i64 b,.string c,.bool d,.string e,.string f,.int .i64 g,.int .i64 h]
def uY(w:World)(s:Nat)(v0 v1 v2 v3 v4 v5 v6 v7:Value):World:=(((((((w.setCell ⟨s,0,none⟩ v0).setCell ⟨s,1,none⟩ v1).setCell ⟨s,2,none⟩ v2).setCell ⟨s,3,none⟩ v3).setCell ⟨s,4,none⟩ v4).setCell ⟨s,5,none⟩ v5).setCell ⟨s,6,none⟩ v6).setCell ⟨s,7,none⟩ v7
theorem zB{w:World}{v0 v1 v2 v3 v4 v5 v6 v7 B D O U W Y u6 u7:Value}{t:TypeId}{f:Nat×Nat}(h:w.heap[s]?=some (.cells #[B,D,O,U,W,Y,u6,u7] t f)):(uY w s v0 v1 v2 v3 v4 v5 v6 v7).heap[s]?=some (.cells #[v0,v1,v2,v3,v4,v5,v6,v7] t f):=by
 unfold uY;rw[heap_set (heap_set (heap_set (heap_set (heap_set (heap_set (heap_set (heap_set h 0 v0) 1 v1) 2 v2) 3 v3) 4 v4) 5 v5) 6 v6) 7 v7];rfl
theorem AO(w:World){r:Nat}(v0 v1 v2 v3 v4 v5 v6 v7:Value)(h:r≠s):(uY w s v0 v1 v2 v3 v4 v5 v6 v7).heap[r]?=w.heap[r]?:=by
 unfold uY;rw[bM _ _ _ _ h,bM _ _ _ _ h,bM _ _ _ _ h,bM _ _ _ _ h,bM _ _ _ _ h,bM _ _ _ _ h,bM _ _ _ _ h,bM _ _ _ _ h]
theorem wv(w:World)(s:Nat)(v0 v1 v2 v3 v4 v5 v6 v7:Value):(uY w s v0 v1 v2 v3 v4 v5 v6 v7).heap.size=w.heap.size:=by
 unfold uY;simp
theorem uL(w:World)(p:Addr)(v:Value):(w.setCell p v).os=w.os:=by
 unfold World.setCell;split <;>(try split) <;>(try split)<;>rfl
theorem DL(w:World)(s:Nat)(v0 v1 v2 v3 v4 v5 v6 v7:Value):(uY w s v0 v1 v2 v3 v4 v5 v6 v7).os=w.os:=by
 unfold uY;simp only[uL]
def nb:Code->Nat->Code
 |.cond _ x _,0=>x
 |.cond _ _ y,n+1=>nb y n
 |_,_=>.skip
def QK(c:Code):Code:=match c with
 |.seq _ (.seq _ (.seq _ (.block _ c)))=>c
 |_=>.skip
def S6(yk:Bool)(v x0 x2 x3 x4 x5 x6 B D:Value):Nat->Array Value
 |0=>#[x0,.bool yk,v,x3,x4,x5,x6,B,D]
 |1=>#[x0,.bool yk,x2,v,x4,x5,x6,B,D]
 |2=>#[x0,.bool yk,x2,x3,v,x5,x6,B,D]
 |3=>#[x0,.bool yk,x2,x3,x4,v,x6,B,D]
 |4=>#[x0,.bool yk,x2,x3,x4,x5,v,B,D]
 |5=>#[x0,.bool yk,x2,x3,x4,x5,x6,v,D]
 |_=>#[x0,.bool yk,x2,x3,x4,x5,x6,B,v]
section
variable {Z:ob prog} {w:World} {T:List Frame} {dd q K:Nat} {lent:Bool} {fn:bO} {tm:Array Value} {os:List OF} {wl:World} {V:List (Nat×Option (List Value))} {k:List Item}
theorem M5{tmps:Array Value}{k:Int}{w3:World}(B:w3.heap[s]?=some (.cells #[.int .i64 v0,.int .i64 v1,.string v2,.bool v3,.string v4,.string v5,.int .i64 v6,.int .i64 v7] 172 (0,0)))(τ)(D:tmps[2]?=some (.int .i64 k))(O:tmps[3]?=some (.pointer (some ⟨s,0,none⟩)))(U:tmps[4]?=some (.bool yk)) :
  (results f123 tmps).run prog (tp w3 τ)=.ok (.tuple #[.int .i64 k,.agg #[.int .i64 v0,.int .i64 v1,.string v2,.bool v3,.string v4,.string v5,.int .i64 v6,.int .i64 v7],.bool yk]) (tp w3 τ):=by
 have B:(tp w3 τ).heap[s]?=some (.cells #[.int .i64 v0,.int .i64 v1,.string v2,.bool v3,.string v4,.string v5,.int .i64 v6,.int .i64 v7] 172 (0,0)):=B;generalize tp w3 τ=w4 at *;have W:w4.cell? ⟨s,0,none⟩=some (.int .i64 v0):=by rw[Ps B]; rfl
 have f0:w4.frozen? ⟨s,0,none⟩=false:=Ue B 0;have Y:w4.cell? ⟨s,1,none⟩=some (.int .i64 v1):=by rw[Ps B]; rfl
 have f1:w4.frozen? ⟨s,1,none⟩=false:=Ue B 1;have e2:w4.cell? ⟨s,2,none⟩=some (.string v2):=by rw[Ps B]; rfl
 have f2:w4.frozen? ⟨s,2,none⟩=false:=Ue B 2;have e3:w4.cell? ⟨s,3,none⟩=some (.bool v3):=by rw[Ps B]; rfl
 have f3:w4.frozen? ⟨s,3,none⟩=false:=Ue B 3;have e4:w4.cell? ⟨s,4,none⟩=some (.string v4):=by rw[Ps B]; rfl
 have f4:w4.frozen? ⟨s,4,none⟩=false:=Ue B 4;have e5:w4.cell? ⟨s,5,none⟩=some (.string v5):=by rw[Ps B]; rfl
 have f5:w4.frozen? ⟨s,5,none⟩=false:=Ue B 5;have e6:w4.cell? ⟨s,6,none⟩=some (.int .i64 v6):=by rw[Ps B]; rfl
 have f6:w4.frozen? ⟨s,6,none⟩=false:=Ue B 6;have e7:w4.cell? ⟨s,7,none⟩=some (.int .i64 v7):=by rw[Ps B]; rfl
 have f7:w4.frozen? ⟨s,7,none⟩=false:=Ue B 7;simp[results,results123,go_sem,W,Y,e2,e3,e4,e5,e6,e7,D,O,U]
theorem xN{ops:Array Oper}{i:Nat}{rest:List Nat}{o:Oper}{a0 a1 a2 a4 a5 a6 a7 a8 a9 ac ad ae af ag ah ai aj ak al am an ao ap aq ar au av aw ax ay az a3 a' aA aB aC aD aE aF aG aH aI aJ aK aL aM aN aO aP aQ aR aS aT aU aV aW aX aY aZ ba bc bd be bf bg bh bi bj x0 x2 x3 x4 x5 x6 x7 x8:Value}(j:Nat)(hj:j<7)(hi:ops[i]?=some o)(W:wl.heap.size=s+1)(B:wl.heap[s]?=some (.cells #[.int .i64 0,.int .i64 0,.string ⟨#[]⟩,.bool false,.string ⟨#[]⟩,.string ⟨#[]⟩,.int .i64 0,.int .i64 0] 172 (0,0)))
  (hn:∀w2:World,w2.heap.size=s+1->(∀r,r<s->w2.heap[r]?=wl.heap[r]?)->w2.os=wl.os->gP (tu prog Z w T dd q K lent) (⟨fn,jg o.dst tm (.tuple #[.int .i64 (j:Int),.agg #[.int .i64 v0,.int .i64 v1,.string v2,.bool v3,.string v4,.string v5,.int .i64 v6,.int .i64 v7],.bool yk]),.inRegion ops rest::k⟩::os) w2 V) :
  gP (tu prog Z w T dd q K lent) (⟨123,#[a0,a1,a2,.pointer (some ⟨s,0,none⟩),a4,a5,a6,a7,a8,a9,ac,ad,ae,af,ag,ah,ai,aj,ak,al,am,an,ao,ap,aq,ar,au,av,aw,ax,ay,az,a3,.tuple (S6 yk (.agg #[.int .i64 v0,.int .i64 v1,.string v2,.bool v3,.string v4,.string v5,.int .i64 v6,.int .i64 v7]) x0 x2 x3 x4 x5 x6 x7 x8 j),a',aA,aB,aC,aD,aE,aF,aG,aH,aI,aJ,aK,aL,aM,aN,aO,aP,aQ,aR,aS,aT,aU,aV,aW,aX,aY,aZ,ba,bc,bd,be,bf,bg,bh,bi,bj],[.code (nb (QK (jc f123)) j),.inBlock 0]⟩::⟨fn,tm,.inRegion ops (i::rest)::k⟩::os) wl V:=by
 obtain⟨P1,O⟩:∃x,wl.os=x:=⟨_,rfl⟩;obtain⟨H0,h0⟩:∃x,wl.heap=x:=⟨_,rfl⟩;rw[O,h0]at hn;have Y:∀r,r<s->wl.heap[r]?=H0[r]?:=λr _=>by rw[h0]
 clear h0;have HC:Hid _:=hn;clear hn;rcases(by omega:j=0\/j=1\/j=2\/j=3\/j=4\/j=5\/j=6)with rfl|rfl|rfl|rfl|rfl|rfl|rfl
 all_goals
  show gP _ (⟨_,_,[.code (.seq (.region _ _ false) (.seq (.region _ _ true) .ret)),.inBlock 0]⟩::_) _ _;dsimp only[S6];refine gP.seq ?_;refine m8 (by kernel_rfl) rfl (.inl (by simp)) λD ab U=>?_;rw[<-ab]at W Y B;have O:=U.trans O;clear ab U;have e0:D.cell? ⟨s,0,none⟩=some (.int .i64 0):=by rw[Ps B]; rfl
  have f0:D.frozen? ⟨s,0,none⟩=false:=Ue B 0;have e1:D.cell? ⟨s,1,none⟩=some (.int .i64 0):=by rw[Ps B]; rfl
  have f1:D.frozen? ⟨s,1,none⟩=false:=Ue B 1;have e2:D.cell? ⟨s,2,none⟩=some (.string ⟨#[]⟩):=by rw[Ps B]; rfl
  have f2:D.frozen? ⟨s,2,none⟩=false:=Ue B 2;have e3:D.cell? ⟨s,3,none⟩=some (.bool false):=by rw[Ps B]; rfl
  have f3:D.frozen? ⟨s,3,none⟩=false:=Ue B 3;have e4:D.cell? ⟨s,4,none⟩=some (.string ⟨#[]⟩):=by rw[Ps B]; rfl
  have f4:D.frozen? ⟨s,4,none⟩=false:=Ue B 4;have e5:D.cell? ⟨s,5,none⟩=some (.string ⟨#[]⟩):=by rw[Ps B]; rfl
  have f5:D.frozen? ⟨s,5,none⟩=false:=Ue B 5;have e6:D.cell? ⟨s,6,none⟩=some (.int .i64 0):=by rw[Ps B]; rfl
  have f6:D.frozen? ⟨s,6,none⟩=false:=Ue B 6;have e7:D.cell? ⟨s,7,none⟩=some (.int .i64 0):=by rw[Ps B]; rfl
  have f7:D.frozen? ⟨s,7,none⟩=false:=Ue B 7;have HZ:Hid _:=And.intro W (And.intro Y O);have HG:=B;clear W Y O B;go_wp2;refine im ?_;clear e0 e1 e2 e3 e4 e5 e6 e7 f0 f1 f2 f3 f4 f5 f6 f7;obtain⟨W,Y,O⟩:=HZ.out;obtain⟨w2,hw2⟩:∃w2,w2=uY D s (.int .i64 v0) (.int .i64 v1) (.string v2) (.bool v3) (.string v4) (.string v5) (.int .i64 v6) (.int .i64 v7):=⟨_,rfl⟩;replace W:w2.heap.size=s+1:=by rw[hw2,wv]; exact W
  replace Y:∀r,r<s->w2.heap[r]?=H0[r]?:=λr hr=>by rw[hw2,AO _ _ _ _ _ _ _ _ _ (by omega)]; exact Y r hr
  have B:w2.heap[s]?=some (.cells #[.int .i64 v0,.int .i64 v1,.string v2,.bool v3,.string v4,.string v5,.int .i64 v6,.int .i64 v7] 172 (0,0)):=by rw[hw2]; exact zB HG
  replace O:w2.os=P1:=by rw[hw2,DL]; exact O
  unfold uY at hw2;rw[<-hw2];clear hw2 HZ HG;refine gP.seq ?_;refine m8 (by kernel_rfl) rfl (.inl (by simp)) λD ab U=>?_;rw[<-ab]at W Y B;have O:=U.trans O;clear ab U;have e0:D.cell? ⟨s,0,none⟩=some (.int .i64 v0):=by rw[Ps B]; rfl
  have f0:D.frozen? ⟨s,0,none⟩=false:=Ue B 0;have e1:D.cell? ⟨s,1,none⟩=some (.int .i64 v1):=by rw[Ps B]; rfl
  have f1:D.frozen? ⟨s,1,none⟩=false:=Ue B 1;have e2:D.cell? ⟨s,2,none⟩=some (.string v2):=by rw[Ps B]; rfl
  have f2:D.frozen? ⟨s,2,none⟩=false:=Ue B 2;have e3:D.cell? ⟨s,3,none⟩=some (.bool v3):=by rw[Ps B]; rfl
  have f3:D.frozen? ⟨s,3,none⟩=false:=Ue B 3;have e4:D.cell? ⟨s,4,none⟩=some (.string v4):=by rw[Ps B]; rfl
  have f4:D.frozen? ⟨s,4,none⟩=false:=Ue B 4;have e5:D.cell? ⟨s,5,none⟩=some (.string v5):=by rw[Ps B]; rfl
  have f5:D.frozen? ⟨s,5,none⟩=false:=Ue B 5;have e6:D.cell? ⟨s,6,none⟩=some (.int .i64 v6):=by rw[Ps B]; rfl
  have f6:D.frozen? ⟨s,6,none⟩=false:=Ue B 6;have e7:D.cell? ⟨s,7,none⟩=some (.int .i64 v7):=by rw[Ps B]; rfl
  have f7:D.frozen? ⟨s,7,none⟩=false:=Ue B 7;have HZ:Hid _:=And.intro W (And.intro Y O);have HG:=B;clear W Y O B;go_region;refine im ?_;clear e0 e1 e2 e3 e4 e5 e6 e7 f0 f1 f2 f3 f4 f5 f6 f7;obtain⟨W,Y,O⟩:=HZ.out;obtain⟨w2,hw2⟩:∃w2,w2=uY D s (.int .i64 v0) (.int .i64 v1) (.string v2) (.bool v3) (.string v4) (.string v5) (.int .i64 v6) (.int .i64 v7):=⟨_,rfl⟩;replace W:w2.heap.size=s+1:=by rw[hw2,wv]; exact W
  replace Y:∀r,r<s->w2.heap[r]?=H0[r]?:=λr hr=>by rw[hw2,AO _ _ _ _ _ _ _ _ _ (by omega)]; exact Y r hr
  have B:w2.heap[s]?=some (.cells #[.int .i64 v0,.int .i64 v1,.string v2,.bool v3,.string v4,.string v5,.int .i64 v6,.int .i64 v7] 172 (0,0)):=by rw[hw2]; exact zB HG
  replace O:w2.os=P1:=by rw[hw2,DL]; exact O
  unfold uY at hw2;rw[<-hw2];clear hw2 HZ HG;obtain⟨w3,aa⟩:∃w3,w3=w2.drew:=⟨_,rfl⟩;replace B:w3.heap[s]?=some (.cells #[.int .i64 v0,.int .i64 v1,.string v2,.bool v3,.string v4,.string v5,.int .i64 v6,.int .i64 v7] 172 (0,0)):=by rw[aa]; exact B
  have HC:=HC.out w3 (by rw[aa]; exact W) (λr hr=>by rw[aa]; exact Y r hr) (by rw[aa]; exact O);rw[<-aa];clear aa W Y O;exact gP.back (.inr ⟨_,rfl⟩) func123 hi (λτ=>M5 B τ rfl rfl rfl) HC
end
end
section
open Go.Conc Go.RowKit Go.Maps
theorem BX{v:Value}(h:N1 v):Flat v:=by
 obtain⟨a,b,c,d,e,f,g,h,rfl⟩:=h;refine .agg λi hi=>?_;have:i<8:=hi
 match i,this with
 |0,_|1,_|6,_|7,_=>exact .int _ _
 |2,_|4,_|5,_=>exact .string _
 |3,_=>exact .bool _
theorem Mx:N1 Ki:=⟨0,0,⟨#[]⟩,false,⟨#[]⟩,⟨#[]⟩,0,0,rfl⟩
section
variable {Z:ob prog} {w:World} {T:List Frame} {dd q K:Nat} {lent:Bool} {fn:bO} {tm:Array Value} {os:List OF} {wl:World} {V:List (Nat×Option (List Value))} {k:List Item}
theorem Ly{ops:Array Oper}{i:Nat}{rest:List Nat}{o:Oper}{cl:Nat->Option Nat}(b s:Nat)(hs:s=wl.heap.size)(ac:b<s)(hi:ops[i]?=some o)(hb:wl.heap[b]?=some (.cells (qD cl) 125 (0,0)))
  (mL:∀k r,k<7->cl k=some r->∃vs,(r,some vs)∈V) (yf:∀k k' r,k<7->k'<7->cl k=some r->cl k'=some r->k=k') (O:∃k r,k<7/\cl k=some r) (kg:(V.map Prod.fst).Nodup) (h8:∀r vs,(r,some vs)∈V->∀v∈vs,N1 v)
  (hv:∀(k' r:Nat)v vs(w2:World),k'<7->cl k'=some r->(r,some (v::vs))∈V->w2.heap.size=s+1->(∀r,r<s->w2.heap[r]?=wl.heap[r]?)->w2.os=wl.os->gP (tu prog Z w T dd q K lent) (⟨fn,jg o.dst tm (.tuple #[.int .i64 k',v,.bool true]),.inRegion ops rest::k⟩::os) w2 (tK V r vs))
  (he:∀(k' r:Nat)(w2:World),k'<7->cl k'=some r->(r,some [])∈V->w2.heap.size=s+1->(∀r,r<s->w2.heap[r]?=wl.heap[r]?)->w2.os=wl.os->gP (tu prog Z w T dd q K lent) (⟨fn,jg o.dst tm (.tuple #[.int .i64 k',Ki,.bool false]),.inRegion ops rest::k⟩::os) w2 (uo V r)) :
  gP (tu prog Z w T dd q K lent) (⟨123,#[.pointer (some ⟨b,0,none⟩),bX,bX,bX,bX,bX,bX,bX,bX,bX,bX,bX,bX,bX,bX,bX,bX,bX,bX,bX,bX,bX,bX,bX,bX,bX,bX,bX,bX,bX,bX,bX,bX,bX,bX,bX,bX,bX,bX,bX,bX,bX,bX,bX,bX,bX,bX,bX,bX,bX,bX,bX,bX,bX,bX,bX,bX,bX,bX,bX,bX,bX,bX,bX,bX,bX,bX,bX,bX,bX],[.code (jc f123)]⟩::⟨fn,tm,.inRegion ops (i::rest)::k⟩::os) wl V:=by
 show gP _ (⟨_,_,[.code (.seq (.region 0 _ false) (.seq (.seq (.region 1 _ false) (.seq (.region 2 _ false) (.seq (.region 3 _ false) (.seq (.region 4 _ false) (.seq (.region 5 _ false) (.seq (.region 6 _ false) (.region 7 _ false))))))) (.seq (.region 8 _ false) (.block 0 _))))]⟩::_) _ _
 have HC:Hid ((∀(k' r:Nat)v vs(w2:World),k'<7->cl k'=some r->(r,some (v::vs))∈V->w2.heap.size=s+1->(∀r,r<s->w2.heap[r]?=wl.heap[r]?)->w2.os=wl.os->gP (tu prog Z w T dd q K lent) (⟨fn,jg o.dst tm (.tuple #[.int .i64 k',v,.bool true]),.inRegion ops rest::k⟩::os) w2 (tK V r vs))/\
  (∀(k' r:Nat)(w2:World),k'<7->cl k'=some r->(r,some [])∈V->w2.heap.size=s+1->(∀r,r<s->w2.heap[r]?=wl.heap[r]?)->w2.os=wl.os->gP (tu prog Z w T dd q K lent) (⟨fn,jg o.dst tm (.tuple #[.int .i64 k',Ki,.bool false]),.inRegion ops rest::k⟩::os) w2 (uo V r))/\
  (∀k r,k<7->cl k=some r->∃vs,(r,some vs)∈V)/\(∀k k' r,k<7->k'<7->cl k=some r->cl k'=some r->k=k')/\(∃k r,k<7/\cl k=some r)/\(V.map Prod.fst).Nodup/\(∀r vs,(r,some vs)∈V->∀v∈vs,N1 v)):=⟨hv,he,mL,yf,O,kg,h8⟩
 have HS:Hid (s=wl.heap.size/\b<s):=⟨hs,ac⟩;have HB:Hid (wl.heap[b]?=some (.cells (qD cl) 125 (0,0))):=hb;clear hv he mL yf O kg h8 hs ac hb;refine gP.seq ?_;refine m8 (by kernel_rfl) rfl (.inl (by simp)) λU B D=>?_;have HY:Hid (U.heap=wl.heap/\U.os=wl.os):=⟨B,D⟩;clear B D;go_wp2;refine im ?_;obtain⟨B,D⟩:=HY.out;obtain⟨w3,W⟩:∃w3,w3=U.alloc (.cells #[.int .i64 0,.int .i64 0,.string ⟨#[]⟩,.bool false,.string ⟨#[]⟩,.string ⟨#[]⟩,.int .i64 0,.int .i64 0] 172):=⟨_,rfl⟩;have aa:U.heap.size=s:=by rw[B]; exact HS.out.1.symm
 have z3:w3.heap.size=s+1:=by rw[W]; simp[aa]
 have o3:∀r,r<s->w3.heap[r]?=wl.heap[r]?:=λr Y=>by
  rw[W,lD _ _ (by rw[aa]; omega),B]
 have g0:w3.heap[s]?=some (.cells #[.int .i64 0,.int .i64 0,.string ⟨#[]⟩,.bool false,.string ⟨#[]⟩,.string ⟨#[]⟩,.int .i64 0,.int .i64 0] 172 (0,0)):=by rw[W,nh _ _ aa.symm]
 have p3:w3.os=wl.os:=by rw[W]; exact D
 rw[<-W,aa];clear W B D aa HY U;have gb:w3.heap[b]?=some (.cells (qD cl) 125 (0,0)):=by rw[o3 b HS.out.2]; exact HB.out
 refine gP.seq ?_;refine m8 (by kernel_rfl) rfl (.inl (by simp)) λU B D=>?_;have d0:U.cell? ⟨b,0,none⟩=some (.chan (cl 0)):=by rw[Ps (by rw[B]; exact gb)]; rfl
 have d1:U.cell? ⟨b,1,none⟩=some (.chan (cl 1)):=by rw[Ps (by rw[B]; exact gb)]; rfl
 have d2:U.cell? ⟨b,2,none⟩=some (.chan (cl 2)):=by rw[Ps (by rw[B]; exact gb)]; rfl
 have d3:U.cell? ⟨b,3,none⟩=some (.chan (cl 3)):=by rw[Ps (by rw[B]; exact gb)]; rfl
 have d4:U.cell? ⟨b,4,none⟩=some (.chan (cl 4)):=by rw[Ps (by rw[B]; exact gb)]; rfl
 have d5:U.cell? ⟨b,5,none⟩=some (.chan (cl 5)):=by rw[Ps (by rw[B]; exact gb)]; rfl
 have d6:U.cell? ⟨b,6,none⟩=some (.chan (cl 6)):=by rw[Ps (by rw[B]; exact gb)]; rfl
 have HY:Hid (U.heap=w3.heap/\U.os=w3.os):=⟨B,D⟩;have HW:Hid (w3.heap.size=s+1/\(∀r,r<s->w3.heap[r]?=wl.heap[r]?)/\w3.heap[s]?=some (.cells #[.int .i64 0,.int .i64 0,.string ⟨#[]⟩,.bool false,.string ⟨#[]⟩,.string ⟨#[]⟩,.int .i64 0,.int .i64 0] 172 (0,0))/\w3.os=wl.os):=⟨z3,o3,g0,p3⟩;clear B D z3 o3 g0 p3 gb;go_wp2;refine im ?_;clear d0 d1 d2 d3 d4 d5 d6;obtain⟨z3,o3,g0,p3⟩:=HW.out;obtain⟨B,D⟩:=HY.out;rw[<-B]at z3 o3 g0;have p3:=D.trans p3;clear B D HY HW;obtain⟨hv,he,mL,yf,O,kg,h8⟩:=HC.out;refine gP.seq (gP.region ?_);refine gP.select (i:=0) (x0:=8) (x1:=12) (x2:=16) (x3:=20) (x4:=24) (x5:=28) (x6:=32) (z:=Ki) (cl:=cl) rfl rfl (λad w=>by kernel_rfl) (BX Mx) rfl rfl rfl rfl rfl rfl rfl mL yf O kg (λr vs Y v hv=>BX (h8 r vs Y v hv)) ?_ ?_
 .intro k' r v vs ab Y hm;have hn:=λ(w2:World) a b c=>hv k' r v vs w2 ab Y hm a b c;obtain⟨v0,v1,v2,v3,v4,v5,v6,v7,rfl⟩:=h8 r _ hm v (List.mem_cons_self ..);have HN:Hid _:=hn;clear hv he mL yf O kg h8 HC hn hm HS HB;rcases(by omega:k'=0\/k'=1\/k'=2\/k'=3\/k'=4\/k'=5\/k'=6)with rfl|rfl|rfl|rfl|rfl|rfl|rfl
  all_goals
   rw[lR];simp only[yr,goInt];go_simp
   iterate 8 (refine j8 rfl (by rfl) (by kernel_rfl) λτ=>?_; unfold jh; go_simp; simp only[ik]; refine gP.ij τ ?_)
   refine gP.inRegion (gP.block ?_)
   repeat refine gP.sH trivial rfl ?_
   refine gP.Jl trivial rfl ?_;apply xN _ (by decide) hi z3 g0 λw2 a b c=>HN.out w2 a (λr Y=>(b r Y).trans (o3 r Y)) (c.trans p3);exact bX
 .intro k' r ab Y hm;have hn:=λ(w2:World) a b c=>he k' r w2 ab Y hm a b c;have HN:Hid _:=hn;clear hv he mL yf O kg h8 HC hn hm HS HB;rcases(by omega:k'=0\/k'=1\/k'=2\/k'=3\/k'=4\/k'=5\/k'=6)with rfl|rfl|rfl|rfl|rfl|rfl|rfl
  all_goals
   rw[lR];simp only[yr,goInt,Ki];go_simp
   iterate 8 (refine j8 rfl (by rfl) (by kernel_rfl) λτ=>?_; unfold jh; go_simp; simp only[ik]; refine gP.ij τ ?_)
   refine gP.inRegion (gP.block ?_)
   repeat refine gP.sH trivial rfl ?_
   refine gP.Jl trivial rfl ?_;apply xN _ (by decide) hi z3 g0 λw2 a b c=>HN.out w2 a (λr Y=>(b r Y).trans (o3 r Y)) (c.trans p3);exact bX
end
end
end Go.Proofs.YtocbogeoffeolaaGreatDoor
