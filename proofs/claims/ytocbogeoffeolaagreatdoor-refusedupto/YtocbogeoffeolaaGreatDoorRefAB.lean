import Derived.Test.YtocbogeoffeolaaGreatDoorRefAA
import Derived.Shelf.Strings.FieldsFuncAny
import Derived.Shelf.Bits.Mul64
import Derived.Shelf.Small.Strs
import Derived.Shelf.SlSortCmp.WholeK
import Derived.Shelf.SlSortCmp.NoneTotal
import Derived.Shelf.SlGeneric
import Derived.Maps.OwnOps
import Derived.DeepKeys4
import Derived.Laws.IdiomCopy
import Derived.Laws.MakeOwn
set_option linter.all false
set_option maxHeartbeats 8000000
set_option maxRecDepth 1000000
open Go renaming cell_later->bl,maxLen->bm,Calls->bn,run_underlying->bo,bodyPost_ret->bp,TypeId->bq,rounds_succ->br,keyOf->bs,results->bt,wp_loop_rounds->bu,wpList->bv,info_parts->bw,wpList_plain->bx,goInt->bz,execOp->b3,deep_law_laid->b4
open List renaming take_succ_eq_append_getElem->b5,getD_eq_getElem?_getD->b6,getElem?_eq_some_iff->b7,mem_singleton->b8,getElem_mem->b9,mem_append->bA,getElem?_eq_getElem->bB,take_of_length_le->bC,length_append->bD,mem_map->bE,pairwise_iff_getElem->bF,getElem?_eq_none->bG,mem_of_mem_drop->bH,mem_cons_of_mem->bI,map_cons->bJ
open Nat renaming le_refl->bL,zero_le->bM,lt_trichotomy->bN,mod_eq_of_lt->bO,div_eq_of_lt->bP,mul_le_mul->bQ,zero_add->bR
open Go.Proofs.Tryz renaming underlying31->bS,results95->bT,underlying141->bU,underlying86->bV,underlying9->bW,underlying3->bX,underlying170->bY,underlying145->bZ,underlying143->ca,zeroValue9->cb,zeroValue3->cc,underlying184->cd,zeroValue184->ce,zeroValue141->cf,sizeOf9->cg,sizeOf3->ch,ntmps95->ci,ntmps35->cj,underlying4->ck,underlying0->cm,zeroValue4->cn,zeroValue0->cp,isAgg9->ct,isAgg3->cw,func95->cx,func35->cy
open Go.MapKept renaming run_getObj_map->cz,run_setObj_map->c4,stamped_iff->c5
open Go.Instr renaming mapUpdate->c6,lookup->c7,mapEntry->c8,entryStore->c9,entry->cA,next->cB
open Array renaming getElem?_eq_some_iff->cC,getElem?_modify->cD,getElem?_setIfInBounds->cE,getElem?_eq_none->cF,ext_getElem?->cG
open Go.Result renaming andThen->cH
open Go.RowKit.Below renaming refl->cI,heap_alloc->cJ,heap_setCell->cL
open Go.World renaming cell?_alloc_at->cM,ownsRow_nil->cN,ownsMap_made->cO
open Option.some renaming injEq->cP
open Go.IntKind renaming wrap_u64->cQ,signed->cR,bits->cS,min->cT,max->cU,wrap_u8->cV
open Go.Sort renaming alloc_eq_grow->cW,grow_grow->cX,mapBlock->cY,putRowK->cZ,putRow->da
open Bool renaming and_eq_true->db
open Go.RowKit renaming Hid->dc
open Go.Program renaming keyLits->dd
open Go.Maps renaming has->de,atKey_put_other->df,atKey_put_same->dg,size->dh
open Option renaming map->di
open Go.Value renaming ownBlock->dj,formed->dk,cells->dl
open UInt8 renaming ofNat->dm
namespace Go.Proofs.YtocbogeoffeolaaGreatDoor
open Go.Proofs.Tryz
section
open Go.Shelf
def xT:Go.Shelf.Ren:=⟨fun|229=>135|n=>n,fun|9=>9|40=>194|31=>31|152=>244|3=>3|0=>0|4=>4|21=>21|154=>246|n=>n,fun|n=>n⟩
theorem RL:Go.Proofs.Lays.n229 prog xT:={
 mixed:=by kernel_rfl
 f229:=func135.trans (congrArg some (by kernel_rfl)),t0:=cm,a0:=isAgg0,z0:=sizeOf0,v0:=cp,t3:=bX,a3:=cw,z3:=ch,v3:=cc,t4:=ck,a4:=isAgg4,z4:=sizeOf4,v4:=cn,t9:=bW,a9:=ct,z9:=cg,v9:=cb,t21:=underlying21,a21:=isAgg21,z21:=sizeOf21,v21:=zeroValue21,t31:=bS,a31:=isAgg31,z31:=sizeOf31,v31:=zeroValue31,t40:=underlying194,a40:=isAgg194,z40:=sizeOf194,v40:=zeroValue194,t152:=underlying244,a152:=isAgg244,z152:=sizeOf244,v152:=zeroValue244,t154:=underlying246,a154:=isAgg246,z154:=sizeOf246
 v154:=zeroValue246}
def Hr:Go.Shelf.Ren:=⟨fun|264=>195|n=>n,fun|53=>141|46=>184|n=>n,fun|n=>n⟩
theorem Lr:Go.Proofs.Lays.n264 prog Hr:={
 mixed:=by kernel_rfl
 f264:=func195.trans (congrArg some (by kernel_rfl)),t46:=cd,a46:=isAgg184,z46:=sizeOf184,v46:=ce,t53:=bU,a53:=isAgg141,z53:=sizeOf141
 v53:=cf}
def GA:Go.Shelf.Ren:=⟨fun|106=>139|213=>197|265=>232|n=>n,fun|9=>9|3=>3|n=>n,fun|n=>n⟩
theorem S7:Go.Proofs.Lays.n106 prog GA:={
 mixed:=by kernel_rfl
 f106:=func139.trans (congrArg some (by kernel_rfl)),f213:=func197.trans (congrArg some (by kernel_rfl)),f265:=func232.trans (congrArg some (by kernel_rfl)),t3:=bX,a3:=cw,z3:=ch,v3:=cc,t9:=bW,a9:=ct,z9:=cg
 v9:=cb}
def Fy:Go.Shelf.Ren:=⟨fun|6=>96|15=>125|14=>137|28=>172|29=>173|20=>187|21=>188|22=>189|23=>190|24=>191|25=>192|26=>193|27=>194|46=>228|47=>219|48=>220|49=>229|50=>230|57=>265|n=>n,fun|22=>145|24=>150|25=>152|3=>3|39=>184|0=>0|53=>229|55=>141|4=>4|46=>222|45=>221|50=>226|5=>5|9=>9|66=>272|70=>276|76=>292|77=>212|n=>n,fun|n=>n⟩
theorem I6:Go.Proofs.SlLaysF0.n6 prog Fy:={
 mixed:=by kernel_rfl
 f6:=⟨f96.name,by decide,func96.trans (congrArg some (by kernel_rfl))⟩,f14:=⟨f137.name,by decide,func137.trans (congrArg some (by kernel_rfl))⟩,f15:=func125.trans (congrArg some (by kernel_rfl)),f20:=⟨f187.name,by decide,func187.trans (congrArg some (by kernel_rfl))⟩,f21:=⟨f188.name,by decide,func188.trans (congrArg some (by kernel_rfl))⟩,f22:=⟨f189.name,by decide,func189.trans (congrArg some (by kernel_rfl))⟩,f23:=⟨Tryz.f190.name,by decide,func190.trans (congrArg some (by kernel_rfl))⟩,f24:=⟨f191.name,by decide,func191.trans (congrArg some (by kernel_rfl))⟩,f25:=⟨f192.name,by decide,func192.trans (congrArg some (by kernel_rfl))⟩,f26:=⟨f193.name,by decide,func193.trans (congrArg some (by kernel_rfl))⟩,f27:=⟨f194.name,by decide,func194.trans (congrArg some (by kernel_rfl))⟩,f28:=func172.trans (congrArg some (by kernel_rfl)),f29:=func173.trans (congrArg some (by kernel_rfl)),f46:=⟨f228.name,by decide,func228.trans (congrArg some (by kernel_rfl))⟩,f47:=func219.trans (congrArg some (by kernel_rfl)),f48:=func220.trans (congrArg some (by kernel_rfl)),f49:=⟨Tryz.f229.name,by decide,func229.trans (congrArg some (by kernel_rfl))⟩,f50:=⟨f230.name,by decide,func230.trans (congrArg some (by kernel_rfl))⟩,f57:=⟨Tryz.f265.name,by decide,func265.trans (congrArg some (by kernel_rfl))⟩,t0:=cm,a0:=isAgg0,z0:=sizeOf0,v0:=cp,t3:=bX,a3:=cw,z3:=ch,v3:=cc,t4:=ck,a4:=isAgg4,z4:=sizeOf4,v4:=cn,t5:=underlying5,a5:=isAgg5,z5:=sizeOf5,v5:=zeroValue5,t9:=bW,a9:=ct,z9:=cg,v9:=cb,t22:=bZ,a22:=isAgg145,z22:=sizeOf145,v22:=zeroValue145,t25:=underlying152,a25:=isAgg152,z25:=sizeOf152,v25:=zeroValue152,t39:=cd,a39:=isAgg184,z39:=sizeOf184,v39:=ce,t45:=underlying221,a45:=isAgg221,z45:=sizeOf221,v45:=zeroValue221,t46:=underlying222,a46:=isAgg222,z46:=sizeOf222,v46:=zeroValue222,t50:=underlying226,a50:=isAgg226,z50:=sizeOf226,v50:=zeroValue226,t53:=underlying229,a53:=isAgg229,z53:=sizeOf229,v53:=zeroValue229,t55:=bU,a55:=isAgg141,z55:=sizeOf141,v55:=cf,t66:=underlying272,a66:=isAgg272,z66:=sizeOf272,v66:=zeroValue272,t70:=underlying276,a70:=isAgg276,z70:=sizeOf276,v70:=zeroValue276,t76:=underlying292,a76:=isAgg292,z76:=sizeOf292,v76:=zeroValue292,t77:=underlying212,a77:=isAgg212,z77:=sizeOf212
 v77:=zeroValue212}
end
section
open Go.RowKit
theorem Jv(x:Nat)(h:x<128):((dm x).toNat:Int)=(x:Int):=by
 rw[UInt8.toNat_ofNat']; omega
theorem MX(x:Nat)(U:x<=1114111)(W:World):FnGives prog 136 #[] #[encR x] (.bool (qQ x)) W:=by
 show bn prog 136 #[.int .i32 (x:Int)] W _;by_cases h:x<128
 .have Y:(decide (128<=(x:Int)))=false:=by simp; omega
  have O:qQ x = !ik (dm x):=by unfold qQ; rw[decide_eq_false (by omega)]; rfl
  have hc:IntKind.u8.wrap (x:Int)=((dm x).toNat:Int):=by rw[Jv x h,cV]; omega
  rw[O];generalize dm x=c at *;go_enter func136,ntmps136;go_wp2_with fail;refine(pq c _).mono ?_;rintro e w' ⟨rfl,rfl⟩;go_wp2;go_ret;exact⟨rfl,0,rfl⟩
 .have O:qQ x=true:=by unfold qQ; rw[decide_eq_true (by omega)]; rfl
  go_wp2;go_ret;exact⟨rfl,0,rfl⟩
theorem TG:(prog.info? (xT.t 154)).map (λi=>(i.zero,i.size,i.bytes))=some (some (.agg #[.int .i64 0,.int .i64 0]),2,16):=by kernel_rfl
theorem IP(f:ByteArray)(w:World)(Y:∀k(h:k<f.size),(f[k]'h).toNat<128)(hs:f.size<=4294967296) :
  bn prog 94 #[.string f] w λe w'=>∃v,e=.returned v/\w'.ownsRow w.heap.size 9 1 v (kX f.data.toList).length (gr (kX f.data.toList))/\Below w.heap.size w w':=by
 have O:=Any.strings_FieldsFunc_runes RL _ _ (enters_of func136 (by kernel_rfl) rfl) qQ f w hs (λW x hx _=>MX x hx W) TG yM;rw[EY f Y,H7,List.length_map]at O;go_enter func94,ntmps94;go_wp2_with (refine O.mono ?_; rintro e w' ⟨A,rfl,hA,U,hb⟩);go_ret;exact⟨_,rfl,U,hb⟩
theorem Jr(s:ByteArray)(O:il s.data.toList=true):∀k(h:k<(⟨(ir s.data.toList).toArray⟩:ByteArray).size),((⟨(ir s.data.toList).toArray⟩:ByteArray)[k]'h).toNat<128:=by
 intro k h;have hm:=F5 _ k h;generalize (⟨(ir _).toArray⟩:ByteArray)[k]'h=x at hm⊢;obtain⟨c,U,rfl⟩:=bE.1 hm;simp only[il,db]at O;have Y:=List.all_eq_true.1 O.2 c U;simp only[mh,decide_eq_true_eq]at Y;unfold Ac;split
 .rw[UInt8.toNat_add];have:(32:UInt8).toNat=32:=rfl;omega
 .omega
theorem xR(s:ByteArray)(w:World)(Y:il s.data.toList=true) :
  bn prog 67 #[.string s] w λe w'=>∃v,e=.returned v/\w'.ownsRow w.heap.size 9 1 v (kX (ir s.data.toList)).length (gr (kX (ir s.data.toList)))/\Below w.heap.size w w':=by
 have hs:=by
  have:=by simp only[il,db,decide_eq_true_eq]at Y; exact Y.1
  simpa using this
 have aa:=Jr s Y
 have ab:(⟨(ir s.data.toList).toArray⟩:ByteArray).size<=4294967296:=by
  show(ir _).length<=_;rw[jH];have:s.data.toList.length=s.size:=by simp
  omega
 go_enter func67,ntmps67;go_wp2_with fail;refine(rb s w (by omega)).mono ?_;rintro e w1 ⟨rfl,O⟩;go_wp2_with fail;refine(IP _ w1 aa ab).mono ?_;rintro e w2 ⟨v,rfl,U,ac⟩;go_wp2;go_ret;refine⟨_,rfl,mA U O.size,O.trans (ac.mono O.size)⟩
end
section
open Go.RowKit Go.Maps
variable {ws ws':List Wd} {f:List Wd->Nat} {B n:Nat} {w w':World}
def o8(ws:List Wd):Value:=.agg #[.string ⟨(ws.getD 0 []).toArray⟩,.string ⟨(ws.getD 1 []).toArray⟩,.string ⟨(ws.getD 2 []).toArray⟩]
def nv(ws:List Wd):Prop:=ws.length<=3/\∀x∈ws,x≠[]/\x.length<=24
theorem Tryz.tz:laidOutB prog=true:=by kernel_rfl
theorem Rn:(match prog.underlying 143 with|some (.array _ _)|some (.struct _)=>true|_=>false)=true:=by rw[ca]
theorem Oo:143<prog.types.size:=of_decide_eq_true (by kernel_rfl)
theorem rp:Keyed prog 143:=Keyed.of_law (b4 Tryz.tz (m:=2) (by omega) Oo (by kernel_rfl) Rn)
theorem GI:prog.cellsOf 143=3:=by kernel_rfl
theorem PT:prog.cellsOf 9=1:=by kernel_rfl
theorem IK:prog.keyType 143=true:=by kernel_rfl
theorem LB(w:World):(zeroValue 141).run prog w=.ok (.int .u64 0) w:=by kernel_rfl
theorem LI:∃d,prog.types.size=d+1:=⟨prog.types.size-1,by have:=Oo; omega⟩
theorem A2(d:Nat)(s:ByteArray)(O:s.size<=bm):prog.keyLits (d+1) 9 [.string s]=some [.string s.data.toList]:=by
 unfold dd;simp[bW,O]
theorem Qn(a b c:ByteArray)(O:a.size<=bm)(hb:b.size<=bm)(U:c.size<=bm):∃l,bs prog 143 (.agg #[.string a,.string b,.string c])=some l:=by
 obtain⟨d,Y⟩:=LI;unfold bs;rw[IK,Y];have hf:(Value.agg #[.string a,.string b,.string c]).formed prog 143=true:=by simp[dk,ca,GI]
 rw[hf];unfold dd;simp[ca,GI,PT,dl,List.range,List.range.loop,A2 d a O,A2 d b hb,A2 d c U]
theorem Pm(h:nv ws)(j:Nat):(ws.getD j []).length<=24:=by
 by_cases O:j<ws.length
 .rw[b6,bB O];exact(h.2 _ (b9 O)).2
 .rw[b6,bG (by omega)];simp
theorem size_le(h:nv ws)(j:Nat):(⟨(ws.getD j []).toArray⟩:ByteArray).size<=bm:=by
 have:=Pm h j;show(ws.getD j []).length<=bm;unfold bm;omega
theorem Ee(h:nv ws):∃l,bs prog 143 (o8 ws)=some l:=Qn _ _ _ (size_le h 0) (size_le h 1) (size_le h 2)
theorem Qj(h:nv ws)(h':nv ws')(e:o8 ws=o8 ws'):ws=ws':=by
 unfold o8 at e;simp only[Value.agg.injEq,Array.mk.injEq,List.cons.injEq,Value.string.injEq,ByteArray.mk.injEq,and_true]at e;obtain⟨O,U,e2⟩:=e;obtain⟨h1,h2⟩:=h;obtain⟨aa,Y⟩:=h'
 match ws,ws' with
 |[],[]=>rfl
 |[],y::_=>have:=(Y y (by simp)).1; simp at O; exact absurd O this
 |x::_,[]=>have:=(h2 x (by simp)).1; exact absurd O this
 |[x],[y]=>simp at O; rw[O]
 |[_],_::y::_=>have:=(Y y (by simp)).1; simp at U; exact absurd U this
 |_::x::_,[_]=>have:=(h2 x (by simp)).1; exact absurd U this
 |[x,x'],[y,y']=>simp at O U; rw[O,U]
 |[_,_],_::_::y::_=>have:=(Y y (by simp)).1; simp at e2; exact absurd e2 this
 |_::_::x::_,[_,_]=>have:=(h2 x (by simp)).1; exact absurd e2 this
 |[x,x',x''],[y,y',y'']=>simp at O U e2; rw[O,U,e2]
 |_::_::_::_::_,_=>simp at h1
 |_,_::_::_::_::_=>simp at aa
theorem T'{l Y:Lit}(h:nv ws)(h':nv ws')(hl:bs prog 143 (o8 ws)=some l)(O:bs prog 143 (o8 ws')=some Y)(U:ws'≠ws):Y≠l:=by
 intro e;rw[e]at O;exact U (Qj h' h (rp.inj O hl))
def iD(w:World)(B n:Nat)(f:List Wd->Nat):Prop:=
 ∃D:DataW Unit,w.ownsMap prog 143 (plainElem prog 141) B n D/\∀ws l,nv ws->bs prog 143 (o8 ws)=some l->D.atKey l (.lit (.int .u64 0))=.lit (.int .u64 (f ws:Nat))
theorem iD.made(w:World):iD (w.alloc (.map #[] 0)) w.heap.size 0 (λ_=>0):=⟨.map [],cO ..,λ_ _ _ _=>rfl⟩
theorem iD.stay(h:iD w B n f)(hb:w'.heap[B]?=w.heap[B]?):iD w' B n f:=by
 obtain⟨D,⟨es,clock,O,U⟩,Y⟩:=h;exact⟨D,⟨es,clock,hb.trans O,U⟩,Y⟩
theorem iD.lt(h:iD w B n f):B<w.heap.size:=by
 obtain⟨D,O,_⟩:=h;exact O.lt
theorem iD.mono{m:Nat}{g:List Wd->Nat}(h:iD w B n f)(U:n<=m)(Y:∀ws,nv ws->f ws=g ws):iD w B m g:=by
 obtain⟨D,h1,h2⟩:=h;exact⟨D,h1.mono U,λws l O hl=>by rw[h2 ws l O hl,Y ws O]⟩
theorem iD.below(h:iD w B n f)(hb:Below w.heap.size w w'):iD w' B n f:=h.stay (hb.block B h.lt)
theorem iD.look(h:iD w B n f)(Y:nv ws):(c7 86 (.map (some B)) (o8 ws) false).run prog w=.ok (.int .u64 (f ws:Nat)) w:=by
 obtain⟨D,h1,h2⟩:=h;obtain⟨l,hl⟩:=Ee Y;obtain⟨c,U,O,_⟩:=h1.lookup_int rp bV bU (LB w) hl;rw[h2 ws l Y hl]at O;simp only[DataW.lit.injEq,Lit.int.injEq,true_and]at O;rw[U,<-O]
theorem iD.put(h:iD w B n f)(hr:nv ws)(hn:n<bm)(v:Nat)(hv:v<18446744073709551616) :
  ∃w',(c6 86 (.map (some B)) (o8 ws) (.int .u64 (v:Nat))).run prog w=.ok () w'/\iD w' B (n+1) (λx=>if x=ws then v else f x)/\w.grownBy w' (some B):=by
 obtain⟨D,h1,h2⟩:=h;have hw:(Lit.int .u64 v).wf=true:=by simp[Lit.wf,cT,cU,cS,cR]; omega
 obtain⟨l,Y⟩:=Ee hr;obtain⟨w',U,ho,hg⟩:=h1.update rp bV hn Y (plainElem_int bU hw);refine⟨w',U,⟨_,ho,λx lx hx O=>?_⟩,hg⟩;show _=DataW.lit (Lit.int _ ((if x=ws then v else f x:Nat)));by_cases e:x=ws
 .subst e;rw[Y]at O;simp only[cP]at O;subst O;rw[if_pos rfl,dg h1.isMap (rp.key Y)]
 .rw[if_neg e,df (T' hr hx Y O e)];exact h2 x lx hx O
end
section
open Go.RowKit Go.Maps Go.ChangeMaps Go.WideElems
variable {ws:List Wd} {f:List Wd->Nat} {kl:Lit} {x y:MapEntry} {B n s:Nat} {key:Value}
def zB(w:World)(B:Nat)(s:Nat)(key:Value):Prop:=∃(es:Array MapEntry)(clock i:Nat)(e:MapEntry),w.heap[B]?=some (.map es clock)/\es[i]?=some e/\e.key=key/\e.born=s
section
variable {H:Type} {P:Program} {k:bq} {R:Value->Option (DataW H×List MemPlace)} {es:Array MapEntry} {clock:Nat} {w:World} {t e:bq} {b:Nat}
theorem yn{es:Array MapEntry}{j:Nat}{O:MapEntry}(U:es[j]?=some O)(f g:MapEntry->MapEntry)(h:f O=g O):es.modify j f=es.modify j g:=by
 apply cG;intro i;rw[cD,cD];by_cases hi:j=i
 .subst hi;rw[U];simp[h]
 .rw[if_neg hi,if_neg hi]
theorem EO(K:Keyed P k)(U:P.underlying t=some (.map k e)){z:Value}(hz:(zeroValue e).run P w=.ok z w)(hb:w.heap[b]?=some (.map es clock))(F:Fit P k R es clock)(jX:bs P k key=some kl) :
  ∃v s w',(c7 t (.map (some b)) key false).run P w=.ok v w/\(c8 t (.map (some b)) key).run P w=.ok (.tuple #[v,bz (s:Nat)]) w'/\(c6 t (.map (some b)) key v).run P w=.ok () w'/\zB w' b s key:=by
 rcases K.find w jX es.toList F.keys with⟨O,h2⟩|⟨j,Y,O,h2,h3⟩
 .refine⟨z,clock,setBlock w b (.map (es.push ⟨key,z,clock⟩) (clock+1)),?_,?_,?_,?_⟩
  .simp[c7,bo U,cz hb,K.check w _ jX,O,hz,cH]
  .simp[c8,bo U,cz hb,K.check w false jX,O,hz,c4 _ hb,cH,setBlock]
  .simp[c6,bo U,cz hb,K.check w false jX,O,c4 _ hb,cH,setBlock]
  .exact⟨_,_,es.size,⟨key,z,clock⟩,heap_setBlock_same hb _,by simp,rfl,rfl⟩
 .have hj:=by simpa using h2
  refine⟨Y.val,Y.born,setBlock w b (.map (es.modify j λe=>{e with key:=key}) clock),?_,?_,?_,?_⟩
  .simp[c7,bo U,cz hb,K.check w _ jX,O,cH]
  .simp[c8,bo U,cz hb,K.check w false jX,O,hj,h3,K.stays w jX,c4 _ hb,cH,setBlock]
  .rw[yn hj _ (λe=>{e with key:=key,val:=Y.val}) (by simp)];simp[c6,bo U,cz hb,K.check w false jX,O,hj,h3,K.stays w jX,c4 _ hb,cH,setBlock]
  .refine⟨_,_,j,{Y with key:=key},heap_setBlock_same hb _,?_,rfl,rfl⟩;rw[cD,if_pos rfl,hj]
   first|rfl|skip
theorem born_inj{es:Array MapEntry}(hn:(es.toList.map (·.born)).Nodup){i j:Nat}(hi:es[i]?=some x)(hj:es[j]?=some y)(h:x.born=y.born):i=j:=by
 have U:es.toList[i]?=some x:=by simpa using hi
 have Y:es.toList[j]?=some y:=by simpa using hj
 obtain⟨a1,a2⟩:=b7.1 U;obtain⟨b1,b2⟩:=b7.1 Y;rw[List.Nodup,List.pairwise_map]at hn;have hp:=bF.1 hn;rcases bN i j with O|O|O
 .exact absurd (by rw[a2,b2]; exact h) (hp i j a1 b1 O)
 .exact O
 .exact absurd (by rw[a2,b2]; exact h.symm) (hp j i b1 a1 O)
theorem key_inj{es:Array MapEntry}(hn:es.toList.Pairwise λx y=>x.key≠y.key){i j:Nat}(hi:es[i]?=some x)(hj:es[j]?=some y)(h:x.key=y.key):i=j:=by
 have U:es.toList[i]?=some x:=by simpa using hi
 have Y:es.toList[j]?=some y:=by simpa using hj
 obtain⟨a1,a2⟩:=b7.1 U;obtain⟨b1,b2⟩:=b7.1 Y;have hp:=bF.1 hn;rcases bN i j with O|O|O
 .exact absurd (by rw[a2,b2]; exact h) (hp i j a1 b1 O)
 .exact O
 .exact absurd (by rw[a2,b2]; exact h.symm) (hp j i b1 a1 O)
theorem Ay(K:Keyed P k)(ht:P.underlying t=some (.map k e))(hb:w.heap[b]?=some (.map es clock))(F:Fit P k R es clock){v:Value}(jX:bs P k key=some kl)(hE:zB w b s key) :
  ∃w',(c9 t (.map (some b)) (bz (s:Nat)) v).run P w=.ok () w'/\(c6 t (.map (some b)) key v).run P w=.ok () w':=by
 obtain⟨af,aa,i,e0,O,hi,hk,hs⟩:=hE;rw[hb]at O;obtain⟨rfl,rfl⟩:=O;have U:=(c5 es clock).1 F.stamped
 have Y:es.findIdx? (λe=>(e.born:Int)==s)=some i:=by
  obtain⟨ab,ac⟩:=cC.1 hi;rw[Array.findIdx?_eq_some_iff_getElem];refine⟨ab,by rw[ac]; simp[hs],λj hj=>?_⟩;simp only[Bool.not_eq_true,beq_eq_false_iff_ne,ne_eq];intro hh;have ad:j<es.size:=by omega
  have:=born_inj U.2.1 (i:=j) (j:=i) (Array.getElem?_eq_getElem ad) hi (by omega);omega
 rcases K.find w jX _ F.keys with⟨h1,h2⟩|⟨j,e1,h1,h2,h3⟩
 .exact absurd hk (h2 e0 (List.mem_of_getElem? (by simpa using hi)))
 .have hj:=by simpa using h2
  have ae:=key_inj U.2.2 hi hj (by rw[hk,h3]);subst ae;refine⟨setBlock w b (.map (es.modify i λe=>{e with val:=v}) clock),?_,?_⟩
  .simp[c9,cz hb,asInt,asIntOf,bz,Y,c4 _ hb,cH,setBlock]
  .rw[yn hj _ (λe=>{e with key:=key,val:=v}) (by simp[h3])];simp[c6,bo ht,cz hb,K.check w false jX,h1,hj,h3,K.stays w jX,c4 _ hb,cH,setBlock]
end
theorem iD.entry{w:World}(h:iD w B n f)(O:nv ws)(hn:n<bm)(hv:f ws<18446744073709551616) :
  ∃s w',(c8 86 (.map (some B)) (o8 ws)).run prog w=.ok (.tuple #[.int .u64 (f ws:Nat),bz (s:Nat)]) w'/\zB w' B s (o8 ws)/\iD w' B (n+1) f/\w.grownBy w' (some B):=by
 have hl:=h.look O;obtain⟨D,⟨es,clock,hb,F,hs,hD⟩,h2⟩:=id h;obtain⟨l,U⟩:=Ee O;obtain⟨v,s,w',g1,g2,g3,g4⟩:=EO rp bV (LB w) hb F U;rw[hl]at g1;simp only[Result.ok.injEq,and_true]at g1;subst g1;obtain⟨aa,Y,p2,p3⟩:=h.put O hn _ hv;rw[g3]at Y;simp only[Result.ok.injEq,true_and]at Y;subst Y;refine⟨s,w',g2,g4,p2.mono (bL _) (λx _=>?_),p3⟩;by_cases e:x=ws
 .subst e; simp
 .rw[if_neg e]
theorem iD.store{w:World}(h:iD w B n f)(Y:nv ws)(hn:n<bm)(hE:zB w B s (o8 ws))(v:Nat)(hv:v<18446744073709551616) :
  ∃w',(c9 86 (.map (some B)) (bz (s:Nat)) (.int .u64 (v:Nat))).run prog w=.ok () w'/\iD w' B (n+1) (λx=>if x=ws then v else f x)/\w.grownBy w' (some B):=by
 obtain⟨D,⟨es,clock,hb,F,hs,hD⟩,h2⟩:=id h;obtain⟨l,O⟩:=Ee Y;obtain⟨w',g1,g2⟩:=Ay (v:=.int _ v) rp bV hb F O hE;obtain⟨aa,U,p2,p3⟩:=h.put Y hn v hv;rw[g2]at U;simp only[Result.ok.injEq,true_and]at U;subst U;exact⟨w',g1,p2,p3⟩
end
section
open Go.RowKit Go.Maps
theorem Ii:(prog.info? 9).map (·.size)=some 1:=by kernel_rfl
def oX:Obj:=.cells #[.string ⟨#[]⟩,.string ⟨#[]⟩,.string ⟨#[]⟩] 143
def Cj(ws:List Wd)(j:Nat):Value:=.string ⟨(ws.getD j []).toArray⟩
theorem C5{b:Nat}{t:bq}{fz:Nat×Nat}:∀(vs:List Value)(o:Nat)(w:World)(cs:Array Value),w.heap[b]?=some (.cells cs t fz)->
  ∃cs',(w.setCells b o vs).heap[b]?=some (.cells cs' t fz)/\cs'.size=cs.size/\(∀j,j<o\/o+vs.length<=j->cs'[j]?=cs[j]?)/\(∀j,o+j<cs.size->j<vs.length->cs'[o+j]?=vs[j]?):=by
 intro vs
 induction vs with
 |nil=>intro o w cs h; exact⟨cs,h,rfl,λ_ _=>rfl,nofun⟩
 |cons v vs ih=>
  intro o w cs h;obtain⟨cs',h1,h2,Y,h4⟩:=ih _ _ _ (heap_set h o v);refine⟨cs',h1,by simpa using h2,λj O=>?_,λj O U=>?_⟩
  .rw[Y j (by simp at O; omega)];simp only[cE];rw[if_neg (by simp at O; omega)]
  .cases j with
   |zero=>
    rw[Y _ (by omega)];simp only[cE,Nat.add_zero,if_true,List.getElem?_cons_zero];rw[if_pos (by omega)]
   |succ j=>
    have:=h4 j (by simp; omega) (by simpa using U);rw[show o+(j+1)=o+1+j by omega,this];simp
theorem BO{b:Nat}:∀(vs:List Value)(o:Nat)(w:World)(k:Nat),k≠b->(w.setCells b o vs).heap[k]?=w.heap[k]?:=by
 intro vs
 induction vs with
 |nil=>intro o w k _; rfl
 |cons v vs U=>
  intro o w k O;rw[World.setCells,U _ _ k O,cL _ _ _ _ O]
theorem AZ{b B:Nat}{w0:World}(O:B<=b):∀(vs:List Value)(o:Nat)(w:World),Below B w0 w->Below B w0 (w.setCells b o vs):=by
 intro vs
 induction vs with
 |nil=>intro o w h; exact h
 |cons v vs U=>
  intro o w h;exact U _ _ (h.setCell O _)
theorem pU(w:World)(o:Obj):(w.alloc o).heap[w.heap.size]?=some o:=by simp[World.alloc,-World.alloc_eq]
theorem KA(w:World)(a:Option Addr)(c:Nat)(ws:List Wd)(hr:∀j u,(gr ws)[j]?=some u->∃b off,a=some ⟨b,off,none⟩/\w.cell? ⟨b,off+j,none⟩=some u)(h3:ws.length<=3) :
  ∃W2 v,(Builtin.copy_ #[31,31] 3 #[.slice (some ⟨w.heap.size+1,0,none⟩) 3 3,.slice a ws.length c]).run prog ((w.alloc oX).alloc oX)=.ok v W2/\
   W2.heap[w.heap.size+1]?=some (.cells #[Cj ws 0,Cj ws 1,Cj ws 2] 143 (0,0))/\W2.heap[w.heap.size]?=some (.cells #[.string ⟨#[]⟩,.string ⟨#[]⟩,.string ⟨#[]⟩] 143 (0,0))/\Below w.heap.size w W2:=by
 have hb:Below w.heap.size w ((w.alloc oX).alloc oX):=((cI _ _).alloc (bL _) _).alloc (by simp) _
 have O:((w.alloc oX).alloc oX).heap[w.heap.size+1]?=some (.cells #[.string ⟨#[]⟩,.string ⟨#[]⟩,.string ⟨#[]⟩] 143 (0,0)):=by
  have e:w.heap.size+1=(w.alloc oX).heap.size:=by simp
  rw[e];exact pU _ _
 have Y:((w.alloc oX).alloc oX).heap[w.heap.size]?=some (.cells #[.string ⟨#[]⟩,.string ⟨#[]⟩,.string ⟨#[]⟩] 143 (0,0)):=by
  rw[cJ _ _ _ (by simp)];exact pU _ _
 by_cases h0:ws=[]
 .subst h0;exact⟨_,_,run_copy_none (P:=prog) _ _ _ _ 9 _ _ 3 3 0 c bS Ii rfl,O,Y,hb⟩
 .have aa:0<ws.length:=List.length_pos_iff.2 h0;obtain⟨b,o,rfl,_⟩:=hr 0 _ (kh ws 0 aa)
  have ab:=run_copy_cells (P:=prog) ((w.alloc oX).alloc oX) 31 31 3 9 (w.heap.size+1) 0 3 3 ⟨b,o,none⟩ ws.length c (gr ws) bS Ii (by rw[gL]; simp[Nat.min_def]; omega)
   (λj v U=>by
     obtain⟨b',o',e,hc⟩:=hr j v U
     simp only[cP,Addr.mk.injEq]at e
     obtain⟨rfl,rfl,_⟩:=e
     have e2:(⟨b,o,none⟩:Addr).add j=⟨b,o+j,none⟩:=by
      unfold Addr.add
      split
      .rename_i h; rw[h]; rfl
      .rfl
     rw[e2]
     exact bl hb hc)
   (λj U=>by
     rw[gL]at U
     rw[gq O]
     have:j<3:=by omega
     match j,this with
     |0,_=>rfl
     |1,_=>rfl
     |2,_=>rfl)
   (λj _=>gP O _) n4
  obtain⟨cs',g1,g2,g3,g4⟩:=C5 (gr ws) 0 _ _ O;refine⟨_,_,ab,?_,?_,?_⟩
  .rw[g1];congr 1;congr 1;apply cG;intro j;by_cases U:j<ws.length
   .have:=g4 j (by simp; omega) (by rw[gL]; exact U);rw[bR]at this;rw[this,Ei ws j U];have:j<3:=by omega
    match j,this with
    |0,_=>rfl
    |1,_=>rfl
    |2,_=>rfl
   .rw[g3 j (Or.inr (by rw[gL]; omega))];have hg:ws.getD j []=[]:=by rw[b6,bG (by omega)]; rfl
    by_cases ac:j<3
    .match j,ac with
     |0,_=>unfold Cj; rw[hg]; rfl
     |1,_=>unfold Cj; rw[hg]; rfl
     |2,_=>unfold Cj; rw[hg]; rfl
    .rw[cF (by simp; omega),cF (by simp; omega)]
  .rw[BO _ _ _ _ (by omega)]; exact Y
  .exact AZ (by omega) _ _ _ hb
theorem tX(v:Value)(ws:List Wd)(w:World)(hv:Rd w v (gr ws))(h3:ws.length<=3) :
  bn prog 93 #[v] w λe w'=>e=.returned (o8 ws)/\Below w.heap.size w w':=by
 obtain⟨a,c,rfl,hc,hm,hr⟩:=hv;rw[gL]at hc⊢;obtain⟨O,v2,hcp,Y,U,hb⟩:=KA w a c ws hr h3;unfold oX at hcp;have c0:O.cell? ⟨w.heap.size+1,0,none⟩=some (Cj ws 0):=gq Y 0;have c1:O.cell? ⟨w.heap.size+1,1,none⟩=some (Cj ws 1):=gq Y 1;have c2:O.cell? ⟨w.heap.size+1,2,none⟩=some (Cj ws 2):=gq Y 2;have d0:O.cell? ⟨w.heap.size,0,none⟩=some (.string ⟨#[]⟩):=gq U 0;have d1:O.cell? ⟨w.heap.size,1,none⟩=some (.string ⟨#[]⟩):=gq U 1;have d2:O.cell? ⟨w.heap.size,2,none⟩=some (.string ⟨#[]⟩):=gq U 2;have f0:O.frozen? ⟨w.heap.size,0,none⟩=false:=gP U 0;have f1:=gP U 1;have f2:=gP U 2;unfold Cj at *;go_wp2;refine bp (v:=.agg _) (by simp[bt,results93,go_sem,d0,d1,d2]) rfl ⟨rfl,?_⟩;exact((hb.setCell (bL _) _).setCell (bL _) _).setCell (bL _) _
end
section
open Go.RowKit Go.Maps
theorem Ml(v:Value)(ws:List Wd)(x:Wd)(w:World)(hv:Rd w v (gr ws)) :
  bn prog 186 #[v,.string ⟨x.toArray⟩] w λe w'=>(∃z:Int,e=.returned (.int .i64 z)/\(0<=z↔x∈ws))/\w=w':=by
 obtain⟨a,c,rfl,hc,hm,Y⟩:=hv;rw[gL]at hc⊢;unfold bm at hm;go_enter func186,ntmps186;go_wp2;go_loop [8] (λi=>∃k:Nat,k<=ws.length/\i=.int .i64 k/\x ∉ ws.take k) (λi=>ws.length-(intOf i).toNat)
 case atStart=>exact⟨0,bM _,rfl,by simp⟩
 case round=>
  obtain⟨k,hk,rfl,U⟩:=hrel;have HN:dc _:=U;clear U;by_cases O:k<ws.length
  .obtain⟨b,o,rfl,h0⟩:=Y k _ (kh ws k O);have HM:dc (ws[k]∈ws):=b9 O;have HT:dc (ws.take (k+1)=ws.take k++[ws[k]]):=b5 O;have HR:dc _:=Y;clear Y;generalize ws[k]=y at *;by_cases he:x=y
   .subst he;go_wp2;go_ret;exact⟨⟨k,rfl,⟨λ_=>HM.out,λ_=>by omega⟩⟩,rfl⟩
   .have hb:(x==y)=false:=by simpa using he
    have HX:dc _:=he;go_wp2;go_round
    case rel=>exact⟨k+1,by omega,by go_num,by rw[HT.out,bA,b8]; rintro(h|h); exact HN.out h; exact HX.out h⟩
    case measure=>simp[intOf]; omega
  .go_wp2;go_ret;refine⟨⟨-1,rfl,⟨λh=>absurd h (by omega),λh=>?_⟩⟩,rfl⟩;have:=HN.out;rw[bC (by omega)]at this;exact absurd h this
theorem DN(v:Value)(ws:List Wd)(x:Wd)(w:World)(hv:Rd w v (gr ws)) :
  bn prog 134 #[v,.string ⟨x.toArray⟩] w λe w'=>e=.returned (.bool (decide (x∈ws)))/\w=w':=by
 have O:=Ml v ws x w hv;go_enter func134,ntmps134;go_wp2_with fail;refine O.mono ?_;rintro e w' ⟨⟨z,rfl,hz⟩,rfl⟩;by_cases U:x∈ws
 .have Y:dc _:=decide_eq_true U;go_wp2;go_ret;exact⟨iy (by rw[Y.out]),rfl⟩
 .have h0:=λh=>U (hz.1 h);have Y:dc _:=decide_eq_false U;clear O hz U;go_wp2;go_ret;exact⟨iy (by rw[Y.out]; exact decide_eq_false (by omega)),rfl⟩
theorem FT(b o B n:Nat)(f:List Wd->Nat)(kn:List Wd)(v:Value)(ws:List Wd)(w:World)(hB:w.cell? ⟨b,o,none⟩=some (.map (some B)))(hC:iD w B n f)(hv:Rd w v (gr ws))
  (ah:∀x∈ws,x≠[]/\x.length<=24) (hf:∀x∈ws,f [x]=0↔x ∉ kn) (hl:ws.length<=1000) :
  bn prog 92 #[.pointer (some ⟨b,o,none⟩),v] w λe w'=>∃u,e=.returned u/\w'.ownsRow w.heap.size 9 1 u (jF kn ws ws.length).length (gr (jF kn ws ws.length))/\Below w.heap.size w w':=by
 obtain⟨a,c,rfl,hc,hm,hr⟩:=hv;rw[gL]at hc⊢;unfold bm at hm;obtain⟨i0,hi,ai,aj,ak⟩:=bw yM;go_enter func92,ntmps92;go_wp2;go_loopw [5,10] (λu i wr=>∃k:Nat,k<=ws.length/\i=.int .i64 k/\wr.ownsRow w.heap.size 9 1 u (jF kn ws k).length (gr (jF kn ws k))/\Below w.heap.size w wr) (λ_ i _=>ws.length-(intOf i).toNat)
 case atStart=>exact⟨0,bM _,rfl,cN _ _ _ _,cI _ _⟩
 case round=>
  obtain⟨k,hk,rfl,O,hb⟩:=hrel;have HS:=hb.size;have am:=(Aj kn ws k hk).2.2;by_cases ab:k<ws.length
  .obtain⟨ba,oa,rfl,h0⟩:=hr k _ (kh ws k ab);have HE:dc (jF kn ws (k+1)=if ws[k]∈kn\/ws[k]∈jF kn ws k then jF kn ws k else jF kn ws k++[ws[k]]):=AX kn ws k ab;have hx:=ah _ (b9 ab);have ac:=hf _ (b9 ab);generalize ws[k]=x at *;have an:=bl hb h0;have ao:=bl hb hB;have U:=(hC.below hb).look (ws:=[x]) ⟨by simp,by simpa using hx⟩;rw[show o8 [x]=.agg #[.string ⟨x.toArray⟩,.string ⟨#[]⟩,.string ⟨#[]⟩]from rfl]at U;have HR:dc _:=hr;clear hr h0;obtain⟨au,cu,rfl,ap⟩:=gU O;by_cases Y:f [x]=0
   .have HK:dc (x ∉ kn):=ac.1 Y;rw[Y]at U;have ag:(c7 86 (.map (some B)) (.agg #[.string ⟨x.toArray⟩,.string ⟨#[]⟩,.string ⟨#[]⟩]) false).run prog wr=.ok (.int .u64 0) wr:=U;clear U Y ac;have ad:=DN _ (jF kn ws k) x wr (Rd.lT O);go_wp2_with fail;refine ad.mono ?_;rintro e w' ⟨rfl,rfl⟩;clear ad;by_cases aa:x∈jF kn ws k
    .have HE2:dc (jF kn ws (k+1)=jF kn ws k):=by show _=_; rw[HE.out,if_pos (Or.inr aa)]
     rw[decide_eq_true aa];clear aa;go_wp2;go_roundw
     case rel=>exact⟨k+1,by omega,by go_num,by rw[HE2.out]; exact O,hb⟩
     case measure=>simp[intOf]; omega
    .have HE2:dc (jF kn ws (k+1)=jF kn ws k++[x]):=by show _=_; rw[HE.out,if_neg (by rintro(h|h); exact HK.out h; exact aa h)]
     rw[decide_eq_false aa];clear aa
     go_wp2_with (first
      |(at_builtin; refine jc _ rfl _ _ 31 rfl w.heap.size 9 i0 (.string ⟨#[]⟩) 16 bS hi ai aj ak rfl _ _ _ rfl (O.alloc _) ⟨wr.heap.size,0,none⟩ _ rfl lr rfl ?c1 ?c2 ?c3 ?_))
     case c1=>omega
     case c2=>unfold bm; omega
     case c3=>first|omega|(simp; omega)
     intro v' w1 hown' ae _;rw[<-pB,<-HE2.out]at hown';have hb':=(hb.alloc HS _).grown ae (by simp; omega) (λb hb=>(O.lt b hb).1);have al:dc ((jF kn ws k).length+1=(jF kn ws (k+1)).length):=by show _=_; rw[HE2.out]; simp
     rw[al.out]at hown';go_wp2;go_roundw
     case rel=>exact⟨k+1,by omega,by go_num,hown',hb'⟩
     case measure=>simp[intOf]; omega
   .have af:x∈kn:=by
     by_cases h:x∈kn
     .exact h
     .exact absurd (ac.2 h) Y
    have HE2:dc (jF kn ws (k+1)=jF kn ws k):=by show _=_; rw[HE.out,if_pos (Or.inl af)]
    generalize f [x]=m at *;have aq:((m:Int)==0)=false:=by simpa using Y
    clear af ac Y;go_wp2;go_roundw
    case rel=>exact⟨k+1,by omega,by go_num,by rw[HE2.out]; exact O,hb⟩
    case measure=>simp[intOf]; omega
  .have ek:k=ws.length:=by omega
   subst ek;go_wp2;go_ret;exact⟨_,rfl,O,hb⟩
end
section
open Go.RowKit Go.Maps
variable {kn':List Wd} {f:List Wd->Nat} {b base n:Nat} {F:Nat->Prop} {v vB vK vK' vS:Value} {w wr:World}
def VX(O:List (List Wd)):Prop:=∀t∈O,∀x∈t,x≠[]/\x.length<=24
structure PW(w:World)(F:Nat->Prop)(b:Nat)(vB vS:Value)(ts:List (List Wd))(B n:Nat)(vK:Value)(kn:List Wd):Prop where
 blk:w.heap[b]?=some (.cells #[vB,vS,.map (some B),vK] 90 (0,0))
 fb:F b
 fB:F B
 cnt:iD w B n (iW ts)
 room:n<=8*jP ts
 row:w.ownsRow 0 9 1 vK kn.length (gr kn)
 nT:∀k,vK.ownBlock=some k->F k
 perm:kn.Perm (iN ts)
 ok:VX ts
 rz:kn.length<=60
theorem PW.known{O:List (List Wd)}{B:Nat}{kn:List Wd}(h:PW w F b vB vS O B n vK kn)(x:Wd):iW O [x]=0↔x ∉ kn:=by
 rw[Mx,h.perm.mem_iff]
structure NJ(w wr:World)(F:Nat->Prop)(b:Nat)(vB vS:Value)(ts:List (List Wd))(B n:Nat)(vK:Value)(kn:List Wd)(base:Nat)(v:Value)(t:List Wd)(P:List (List Wd)):Prop where
 blk:wr.heap[b]?=some (.cells #[vB,vS,.map (some B),vK] 90 (0,0))
 cnt:iD wr B (n+2*P.length) (λws=>iW ts ws+P.count ws)
 row:wr.ownsRow 0 9 1 vK kn.length (gr kn)
 nT:∀k,vK.ownBlock=some k->SM F w wr k
 frame:gz F w wr
 arg:wr.ownsRow base 9 1 v t.length (gr t)
theorem vr{B:Nat}(h:iD w B n f){e m:Nat}{xs:List Value}(Y:w.ownsRow base e 1 v m xs):v.ownBlock≠some B:=by
 obtain⟨D,⟨es,clock,h1,_⟩,_⟩:=h;rcases Y.2 with⟨rfl,_⟩|⟨g,cap,aa,rfl,_,O,_⟩
 .simp[dj]
 .intro U;simp only[dj,cP]at U;rw[U,h1]at O;cases O
theorem zZ{B:Nat}(h:iD w B n f){cs:Array Value}{t:bq}{fz:Nat×Nat}(hb:w.heap[b]?=some (.cells cs t fz)):b≠B:=by
 obtain⟨D,⟨es,clock,O,_⟩,_⟩:=h;intro e;rw[e,O]at hb;cases hb
theorem NE{w1 w2:World}{ts:List (List Wd)}{B:Nat}{kn:List Wd}{t:List Wd}(hF:∀k,F k->k<w.heap.size)(O:PW w F b vB vS ts B n vK kn)
  (hv:w.ownsRow base 9 1 v t.length (gr t)) (ae:∀k,v.ownBlock=some k->¬F k) (aa:Below w.heap.size w w1) (ho:w2.ownsRow 0 9 1 vK' kn'.length (gr kn')) (hg:w1.grownBy w2 vK.ownBlock) (ac:vK'.ownBlock=vK.ownBlock\/vK'.ownBlock=some w1.heap.size) :
  w2.heap[b]?=some (.cells #[vB,vS,.map (some B),vK] 90 (0,0))/\NJ w (w2.setCell ⟨b,3,none⟩ vK') F b vB vS ts B n vK' kn' base v t []:=by
 have aj:=aa.size;have ak:=hg.size;have hold:∀k,k<w.heap.size->some k≠vK.ownBlock->w2.heap[k]?=w.heap[k]?:=λk U af=>by rw[hg.block k (by omega) af,aa.block k U]
 have ag:=hF b O.fb;have ah:=hF B O.fB;have ab:w2.heap[b]?=some (.cells #[vB,vS,.map (some B),vK] 90 (0,0)):=by rw[hold b ag (λe=>sI O.blk O.row (by decide) e.symm)]; exact O.blk
 have al:(w2.setCell ⟨b,3,none⟩ vK').heap.size=w2.heap.size:=by simp[World.setCell]
 have Y:∀k,k≠b->(w2.setCell ⟨b,3,none⟩ vK').heap[k]?=w2.heap[k]?:=λk U=>cL _ _ _ _ U;refine⟨ab,⟨by rw[heap_set ab]; rfl,?_,?_,?_,?_,?_⟩⟩
 .refine(O.cnt.stay ?_).mono (by simp) (λws _=>by simp);rw[Y B (λe=>zZ O.cnt O.blk e.symm),hold B ah (λe=>vr O.cnt O.row e.symm)]
 .refine iz ho (λk U=>Y k (λe=>?_));subst e;exact sI ab ho (by decide) U
 .intro k U;rcases ac with h|h
  .exact Or.inl (O.nT k (by rw[<-h]; exact U))
  .rw[h]at U;simp only[cP]at U;have:=(ho.lt k (by rw[h,U])).2;exact Or.inr ⟨by omega,by omega⟩
 .refine⟨hg.os.trans aa.os,hg.tape.trans aa.tape,hg.output.trans aa.output,by omega,λk U hn=>?_⟩;rw[Y k (λe=>hn (by rw[e]; exact O.fb))];exact hold k U (λe=>hn (O.nT k e.symm))
 .refine iz hv (λk U=>?_);have ad:=ae k U;have ai:=(hv.lt k U).2;rw[Y k (λe=>ad (by rw[e]; exact O.fb)),hold k ai (λe=>ad (O.nT k e.symm))]
theorem OS{w3 w4:World}{ts:List (List Wd)}{B:Nat}{kn:List Wd}{t:List Wd}{P:List (List Wd)}(O:NJ w wr F b vB vS ts B n vK kn base v t P)(aa:F B)
  (U:Below wr.heap.size wr w3) (ws:List Wd) (ab:iD w4 B (n+2*P.length+2) (λx=>if x=ws then iW ts ws+P.count ws+1 else iW ts x+P.count x)) (Y:w3.grownBy w4 (some B)) :
  NJ w w4 F b vB vS ts B n vK kn base v t (P++[ws]):=by
 have ae:=U.size;have af:=Y.size;have hold:∀k,k<wr.heap.size->k≠B->w4.heap[k]?=wr.heap[k]?:=λk hk ac=>by rw[Y.block k (by omega) (by simpa using ac),U.block k hk]
 have ad:=(cC.1 O.blk).1;refine⟨?_,?_,?_,?_,?_,?_⟩
 .rw[hold b ad (zZ O.cnt O.blk)]; exact O.blk
 .refine ab.mono (by simp; omega) (λx _=>?_);rw[List.count_append];by_cases e:x=ws
  .subst e; simp; omega
  .rw[if_neg e,List.count_singleton];have:(ws==x)=false:=by simpa using λh=>e h.symm
   rw[this];simp
 .exact iz O.row (λk hk=>hold k (O.row.lt k hk).2 (λe=>vr O.cnt O.row (by rw[hk,e])))
 .intro k hk;rcases O.nT k hk with h|h
  .exact Or.inl h
  .exact Or.inr ⟨h.1,by omega⟩
 .refine O.frame.trans (G:=λk=>k=B) ⟨Y.os.trans U.os,Y.tape.trans U.tape,Y.output.trans U.output,by omega,λk hk hn=>hold k hk hn⟩ (λi _ hi=>by subst hi; exact aa)
 .exact iz O.arg (λk hk=>hold k (O.arg.lt k hk).2 (λe=>vr O.cnt O.arg (by rw[hk,e])))
theorem Pu{O:List (List Wd)}{B:Nat}{kn:List Wd}{t:List Wd}(U:PW w F b vB vS O B n vK kn)(Y:NJ w wr F b vB vS O B n vK' kn' base v t (lP t t.length))
  (hk:kn'.Perm (iN (O++[t]))) (ht:∀x∈t,x≠[]/\x.length<=24) (aa:¬60<(iN (O++[t])).length):PW wr (SM F w wr) b vB vS (O++[t]) B (n+2*(lP t t.length).length) vK' kn' where
 blk:=Y.blk
 fb:=Or.inl U.fb;fB:=Or.inl U.fB
 cnt:=Y.cnt.mono (bL _) (λws hr=>by
  show iW O ws+(lP t t.length).count ws=_
  rw[Q3 t ws hr.1,Mn])
 room:=by
  have h1:=U.room;have h2:=BN t t.length;have:jP (O++[t])=jP O+(t.length+1):=by simp[jP]
  omega
 row:=Y.row;nT:=Y.nT;perm:=hk
 ok:=by
  intro x hx;rcases bA.1 hx with h|h
  .exact U.ok x h
  .simp at h; subst h; exact ht
 rz:=by rw[hk.length_eq]; omega
theorem Ls(F:Nat->Prop)(b:Nat)(vB vS:Value)(U:List (List Wd))(B n:Nat)(vK:Value)(kn:List Wd)(t:List Wd)(base:Nat)(v:Value)(w:World)(hF:∀k,F k->k<w.heap.size)(hP:PW w F b vB vS U B n vK kn)
  (hv:w.ownsRow base 9 1 v t.length (gr t)) (aC:∀k,v.ownBlock=some k->¬F k) (ht:∀x∈t,x≠[]/\x.length<=24) (hl:t.length<=24) (hB:jP U<=16777216) :
  bn prog 66 #[.pointer (some ⟨b,2,none⟩),v] w λe w'=>
   (60<(iN (U++[t])).length/\e=.returned (.bool false)/\Below w.heap.size w w')\/
   (¬60<(iN (U++[t])).length/\e=.returned (.bool true)/\(∃n' vK' kn',PW w' (SM F w w') b vB vS (U++[t]) B n' vK' kn')/\gz F w w'):=by
 obtain⟨av,cv,rfl,aW⟩:=gU hv;obtain⟨aK,cK,rfl,aX⟩:=gU hP.row;have a0:=(A9 kn U t hP.perm).length_eq;rw[bD]at a0;have aY:=(Aj kn t t.length (bL _)).2.2;have aR:=hP.rz;have aD:w.cell? ⟨b,2,none⟩=some (.map (some B)):=by rw[gq hP.blk]; rfl
 have a3:w.cell? ⟨b,3,none⟩=some (.slice aK kn.length cK):=by rw[gq hP.blk]; rfl
 obtain⟨i0,hi,aE,aF,aG⟩:=bw yM;go_enter func66,ntmps66;go_wp2_with fail;refine(FT b 2 B n (iW U) kn _ t w aD hP.cnt (Rd.lT hv) ht (λx _=>hP.known x) (by omega)).mono ?_;rintro e w1 ⟨u,rfl,hu,ai⟩;obtain⟨au,cu,rfl,aZ⟩:=gU hu;have a4:=bl ai a3;by_cases aq:60<(iN (U++[t])).length
 .have HK:dc _:=aq;have a5:60<(kn.length:Int)+((jF kn t t.length).length:Int):=by omega
  clear aq a0;go_wp2;go_ret;exact Or.inl ⟨HK.out,rfl,ai⟩
 .have HK:dc _:=aq;have a5:(kn.length:Int)+((jF kn t t.length).length:Int)<=60:=by omega
  have ba:w1.frozen? ⟨b,3,none⟩=false:=by
   have:w1.heap[b]?=_:=(ai.block b (hF b hP.fb)).trans hP.blk;exact gP this 3
  have a6:=K6 hP.row ai;clear aq
  go_wp2_with (first
   |(at_builtin; refine jk _ rfl _ _ 31 rfl 0 9 i0 (.string ⟨#[]⟩) 16 bS hi aE aF aG rfl _ _ _ rfl a6 _ (gr (jF kn t t.length)) rfl (Rd.lT hu) n4 ?c1 ?c2 (bM _) ?_))
  case c1=>rw[gL]; omega
  case c2=>rw[gL]; unfold bm; omega
  intro vK' w2 ab a7 aj
  have ag:w2.ownsRow 0 9 1 vK' (kn++jF kn t t.length).length (gr (kn++jF kn t t.length)):=by
   rw[gL]at ab;have e1:gr (kn++jF kn t t.length)=gr kn++gr (jF kn t t.length):=by simp[gr]
   rw[e1,bD];exact ab
  obtain⟨ak,hS0⟩:=NE hF hP hv aC ai ag a7 aj;obtain⟨a8,a9,rfl,aS⟩:=gU ag;have aT:w2.cell? ⟨b,3,none⟩=some (.slice aK kn.length cK):=by rw[gq ak]; rfl
  have aU:w2.frozen? ⟨b,3,none⟩=false:=gP ak 3;have aH:=(A9 kn U t hP.perm);have HP:dc _:=hP;clear hP ak a6 ab a7 aj hu a3 a4 hv;generalize kn++jF kn t t.length=kn' at *;go_wp2_with fail;go_loopw [6] (λi wr=>∃e:Nat,e<=t.length/\i=.int .i64 ((e:Int)+1)/\NJ w wr F b vB vS U B n (.slice a8 kn'.length a9) kn' base (.slice av t.length cv) t (lP t e)) (λi _=>t.length+1-(intOf i).toNat)
  case atStart=>exact⟨0,bM _,by simp,hS0⟩
  case round=>
   obtain⟨e,he,rfl,hS⟩:=hrel;by_cases bc:e<t.length
   .have hd:decide ((e:Int)+1<=(t.length:Int))=true:=by simp; omega
    go_wp2_with fail;go_loopw [7] (λi wx=>∃q:Nat,q<=min (e+1) 3+1/\i=.int .i64 (e+1-min (e+1) 3+q:Nat)/\NJ w wx F b vB vS U B n (.slice a8 kn'.length a9) kn' base (.slice av t.length cv) t (lP t e++(l8 t (e+1)).take q)) (λi _=>e+2-(intOf i).toNat)
    case atStart=>exact⟨0,bM _,by congr 1; omega,by simpa using hS⟩
    case round=>
     obtain⟨q,hq,rfl,ac⟩:=hrel;obtain⟨Y,al⟩:∃Y,Y=e+1-min (e+1) 3+q:=⟨_,rfl⟩;have bd:dc _:=al;rw[<-al];by_cases be:Y<=e+1
     .have aI:wr.cell? ⟨b,2,none⟩=some (.map (some B)):=by rw[gq ac.blk]; rfl
      have a':e+1<=t.length:=by omega
      have bf:(0:Int)<=(e:Int)+1:=by omega
      have bh:(e:Int)+1<=(cv:Int):=by omega
      have ax:Rd wr (.slice (if cv=Y then av else di (λx=>x.add Y) av) (e+1-Y) (cv-Y)) (gr ((t.take (e+1)).drop Y)):=
       ((Rd.lT ac.arg).Ph (e+1) a').Ai Y (by simp; omega)
      obtain⟨ws,am⟩:∃ws,ws=(t.take (e+1)).drop Y:=⟨_,rfl⟩;have h3:ws.length<=3:=by rw[am]; simp; omega
      have ah:nv ws:=⟨h3,λx hx=>ht x (by rw[am]at hx; exact List.mem_of_mem_take (bH hx))⟩
      have HER:dc ((l8 t (e+1)).take (q+1)=(l8 t (e+1)).take q++[ws]):=by
       show _=_;have aJ:q<(l8 t (e+1)).length:=by rw[qH]; omega
       rw[b5 aJ,FO,<-al,am]
      rw[<-am]at ax;clear am;obtain⟨P,ar⟩:∃P,P=lP t e++(l8 t (e+1)).take q:=⟨_,rfl⟩;rw[<-ar]at ac
      have bi:P.length<=4*24+4:=by
       rw[ar,bD];have:=BN t e;have:((l8 t (e+1)).take q).length<=4:=by have:=qH t (e+1); simp; omega
       omega
      have aL:=List.count_le_length (a:=ws) (l:=P);have HPD:dc _:=ar;obtain⟨c,hc⟩:∃c,c=iW U ws+P.count ws:=⟨_,rfl⟩;have mP:=qB U ws;have bj:c<=16777400:=by omega
      have aM:=HP.out.room;have bk:IntKind.u64.wrap ((c:Int)+1)=(c:Int)+1:=by rw[cQ]; omega
      have aN:=ac;have aw:=ac.cnt
      have ae:bn prog 93 #[.slice (if cv=Y then av else di (λx=>x.add Y) av) (e+1-Y) (cv-Y)] wr.drew λe' w3=>e'=.returned (o8 ws)/\Below wr.heap.size wr w3/\w3.cell? ⟨b,2,none⟩=some (.map (some B))/\
        (c7 86 (.map (some B)) (o8 ws) false).run prog w3=.ok (.int .u64 (c:Int)) w3/\
        ∃(s:Nat)(w4 w5:World),(c8 86 (.map (some B)) (o8 ws)).run prog w3=.ok (.tuple #[.int .u64 (c:Int),.int .i64 (s:Int)]) w4/\(c7 86 (.map (some B)) (o8 ws) false).run prog w4=.ok (.int .u64 (c:Int)) w4/\
        (c9 86 (.map (some B)) (.int .i64 (s:Int)) (.int .u64 ((c:Int)+1))).run prog w4=.ok () w5/\
        iD w5 B (n+2*P.length+2) (λx=>if x=ws then iW U ws+P.count ws+1 else iW U x+P.count x)/\w3.grownBy w5 (some B):=by
       refine(tX _ ws wr.drew (by exact ax) h3).mono ?_;rintro e' w3 ⟨rfl,an⟩;have aa:Below wr.heap.size wr w3:=⟨an.os,an.tape,an.output,an.size,an.block⟩;have aA:=aw.below aa;have af:=aA.look ah;rw[show iW U ws+P.count ws=c from hc.symm]at af;obtain⟨s,w4,ao,aO,aB,aP⟩:=aA.entry ah (by unfold bm; omega) (by show iW U ws+P.count ws<_; omega);have O:=aB.look ah;rw[show iW U ws+P.count ws=c from hc.symm]at ao O;obtain⟨w5,ap,ay,az⟩:=aB.store ah (by unfold bm; omega) aO (c+1) (by omega);rw[Int.natCast_add,Int.natCast_one]at ap;exact⟨rfl,aa,bl aa aI,af,s,w4,w5,ao,O,ap,by rw[<-hc]; exact ay,aP.trans az⟩
      have HQ:dc (q+1<=min (e+1) 3+1):=by show _<=_; omega
      have HB1:dc ((Y:Int)+1=((e+1-min (e+1) 3+(q+1):Nat):Int)):=by show _=_; omega
      obtain⟨ad,aQ⟩:∃ad,(if cv=Y then av else di (λx=>x.add Y) av)=ad:=⟨_,rfl⟩;rw[aQ]at ae;clear al hS ar aL mP ac aw ax hc;go_wp2_with fail
      go_region_law (first
       |(go_simp
         go_at_call 93
         refine ae.mono ?_
         rintro e' w3 ⟨rfl,aa,aV,af,s,w4,w5,ao,O,ap,ay,az⟩))
      all_goals
       clear ae;go_wp2_with fail;go_roundw
       case rel=>exact⟨q+1,HQ.out,by rw[<-HB1.out],by rw[HER.out,<-List.append_assoc,<-HPD.out]; exact OS aN HP.out.fB aa ws ay az⟩
       case measure=>simp[intOf]; omega
     .have HE:dc (lP t e++(l8 t (e+1)).take q=lP t (e+1)):=by
       show _=_;rw[bC (by rw[qH]; omega)];rfl
      clear al;go_wp2_with fail;go_roundw
      case rel=>exact⟨e+1,by omega,by go_num,by rw[<-HE.out]; exact ac⟩
      case measure=>simp[intOf]; omega
   .have ee:e=t.length:=by omega
    subst ee;go_wp2;go_ret;exact Or.inr ⟨HK.out,rfl,⟨_,_,_,Pu HP.out hS aH ht HK.out⟩,hS.frame⟩
end
section
open Go.RowKit Go.Maps
def EC:Obj:=.cells #[.int .u64 0,.int .u64 0] 147
def Ce(x y z:ByteArray):Obj:=.cells #[.string x,.string y,.string z] 143
theorem Rd.alloc{w:World}{v:Value}{xs:List Value}(h:Rd w v xs)(o:Obj):Rd (w.alloc o) v xs:=h.below ((cI ..).alloc (bL _) _)
structure VV(w W:World)(b o B n:Nat)(ts:List (List Wd))(r g h:Nat)(x y z x' y' z':ByteArray):Prop where
 base:Below w.heap.size w W
 uS:W.heap[r]?=some EC
 fst:W.heap[g]?=some (Ce x y z)
 snd:W.heap[h]?=some (Ce x' y' z')
 map:W.cell? ⟨b,o,none⟩=some (.map (some B))
 cnt:iD W B n (iW ts)
theorem Vz{w O:World}{b o B n:Nat}{ts:List (List Wd)}(hB:w.cell? ⟨b,o,none⟩=some (.map (some B)))(hC:iD w B n (iW ts))(U:Below (w.alloc EC).heap.size (w.alloc EC) O)(x y z Y y' z':ByteArray) :
  VV w ((O.alloc (Ce x y z)).alloc (Ce Y y' z')) b o B n ts w.heap.size O.heap.size (O.heap.size+1) x y z Y y' z':=by
 have hz:(w.alloc EC).heap.size=w.heap.size+1:=by simp
 have aa:=U.size;have h1:=((cI ..).alloc (bL _) _).trans (U.mono (by omega));have h2:Below _ w ((O.alloc (Ce x y z)).alloc (Ce Y y' z')):=(h1.alloc (by omega) _).alloc (by simp; omega) _;refine⟨h2,?_,?_,?_,bl h2 hB,hC.below h2⟩
 .rw[cJ _ _ _ (by simp; omega),cJ _ _ _ (by omega),U.block _ (by omega)];exact pU ..
 .rw[cJ _ _ _ (by simp)];exact pU ..
 .have e:O.heap.size+1=(O.alloc (Ce x y z)).heap.size:=by simp
  rw[e];exact pU ..
theorem Qe(b o B n:Nat)(U:List (List Wd))(vl:Value)(x:Wd)(w:World)(hG:w.cell? ⟨0,0,none⟩=some (.int .u64 4))(hB:w.cell? ⟨b,o,none⟩=some (.map (some B)))(hC:iD w B n (iW U))(hl:Rd w vl (gr []))(hx:x≠[]/\x.length<=24)(ao:jP U<=16777216) :
  bn prog 95 #[.pointer (some ⟨b,o,none⟩),vl,.string ⟨x.toArray⟩] w λe w'=>e=.returned (.agg #[.int .u64 ((q7 U x []).1:Int),.int .u64 ((q7 U x []).2:Int)])/\Below w.heap.size w w':=by
 have Y:=tX vl [] (w.alloc EC) (hl.alloc _) (by simp);have HL:dc (Rd _ _ _):=hl;obtain⟨a,c,rfl,hc,hm,_⟩:=hl;have HR:nv ([]:List Wd):=⟨by simp,by simp⟩;have ag:nv [x]:=⟨by simp,by simpa using hx⟩;have am:=qB U [x];have an:=qB U [];have ah:(gr []).length=0:=rfl;rw[ah]at Y hc HL⊢;clear ah;go_enter cx,ci;go_wp2_with fail;refine Y.mono ?_;rintro e W1 ⟨rfl,ai⟩;rw[show o8 []=.agg #[.string ⟨#[]⟩,.string ⟨#[]⟩,.string ⟨#[]⟩]from rfl];have hS:=Vz hB hC ai ⟨#[]⟩ ⟨#[]⟩ ⟨#[]⟩ ⟨x.toArray⟩ ⟨#[]⟩ ⟨#[]⟩;clear Y ai;go_wp2_with fail;unfold Ce at hS;generalize (W1.alloc (.cells #[.string ⟨#[]⟩,.string ⟨#[]⟩,.string ⟨#[]⟩] 143)).alloc (.cells #[.string ⟨x.toArray⟩,.string ⟨#[]⟩,.string ⟨#[]⟩] 143)=O at *;generalize W1.heap.size=g at *;have ap:=bl hS.base hG;have aq:=hS.map;have aa:=(hS.cnt.stay (w':=O.drew) rfl).look ag;have ab:=(hS.cnt.stay (w':=O.drew.drew) rfl).look ag;have aj:=(hS.cnt.stay (w':=O.drew.drew) rfl).look HR;rw[show o8 []=.agg #[.string ⟨#[]⟩,.string ⟨#[]⟩,.string ⟨#[]⟩]from rfl]at aj;rw[show o8 [x]=.agg #[.string ⟨x.toArray⟩,.string ⟨#[]⟩,.string ⟨#[]⟩]from rfl]at aa ab;have f0:O.cell? ⟨g,0,none⟩=some (.string ⟨#[]⟩):=gq hS.fst 0;have f1:O.cell? ⟨g,1,none⟩=some (.string ⟨#[]⟩):=gq hS.fst 1;have f2:O.cell? ⟨g,2,none⟩=some (.string ⟨#[]⟩):=gq hS.fst 2;have s0:O.cell? ⟨g+1,0,none⟩=some (.string ⟨x.toArray⟩):=gq hS.snd 0;have s1:O.cell? ⟨g+1,1,none⟩=some (.string ⟨#[]⟩):=gq hS.snd 1;have s2:O.cell? ⟨g+1,2,none⟩=some (.string ⟨#[]⟩):=gq hS.snd 2;have r0:O.cell? ⟨w.heap.size,0,none⟩=some (.int .u64 0):=gq hS.uS 0;have r1:O.cell? ⟨w.heap.size,1,none⟩=some (.int .u64 0):=gq hS.uS 1;have z0:O.frozen? ⟨w.heap.size,0,none⟩=false:=gP hS.uS 0;have z1:O.frozen? ⟨w.heap.size,1,none⟩=false:=gP hS.uS 1;have ar:=hS;have HS:=hS.base;clear hS;obtain⟨p,ac⟩:∃p,p=iW U [x]:=⟨_,rfl⟩;obtain⟨q,ad⟩:∃q,q=iW U []:=⟨_,rfl⟩;rw[<-ac]at aa ab am;rw[<-ad]at aj an;have ak:dc (p=iW U [x]):=ac;have al:dc (q=iW U []):=ad;clear ac ad;obtain⟨pi,ae⟩:∃pi:Int,pi=(p:Int):=⟨_,rfl⟩;rw[<-ae]at aa ab;have af:dc (pi=(p:Int)):=ae;have au:0<=pi:=by omega
 have av:pi<=16777216:=by omega
 have aw:IntKind.u64.wrap (pi*4)=pi*4:=by rw[cQ]; omega
 clear ae;by_cases hz:pi=0
 .subst hz;go_region;go_wp2_with fail;go_region;go_wp2;refine bp (v:=.agg #[.int .u64 0,.int .u64 (q:Int)]) (by simp[bt,bT,go_sem,r0,r1]) rfl ⟨?_,?_⟩
  .have h1:=af.out;have hp:iW U [x]=0:=by rw[<-ak.out]; omega
   unfold q7;rw[hp,al.out];rfl
  .exact(HS.drew.drew.setCell (bL _) _).setCell (bL _) _
 .have ax:(pi==0)=false:=by simpa using hz
  go_region;go_wp2_with fail;go_region;go_wp2;refine bp (v:=.agg #[.int .u64 (pi*4),.int .u64 (q:Int)]) (by simp[bt,bT,go_sem,r0,r1]) rfl ⟨?_,?_⟩
  .have h1:=af.out;unfold q7;rw[af.out,ak.out,al.out];rfl
  .exact(HS.drew.drew.setCell (bL _) _).setCell (bL _) _
end
section
open Go.RowKit Go.Maps
theorem OU(b o B n:Nat)(O:List (List Wd))(vl:Value)(u:Wd)(x:Wd)(w:World)(au:w.cell? ⟨0,0,none⟩=some (.int .u64 4))(hG:w.cell? ⟨0,1,none⟩=some (.int .u64 10))(hB:w.cell? ⟨b,o,none⟩=some (.map (some B)))(hC:iD w B n (iW O))(hl:Rd w vl (gr [u]))(hu:u≠[]/\u.length<=24)(hx:x≠[]/\x.length<=24)(av:jP O<=16777216) :
  bn prog 95 #[.pointer (some ⟨b,o,none⟩),vl,.string ⟨x.toArray⟩] w λe w'=>e=.returned (.agg #[.int .u64 ((q7 O x [u]).1:Int),.int .u64 ((q7 O x [u]).2:Int)])/\Below w.heap.size w w':=by
 have Y:=tX vl [u] (w.alloc EC) (hl.alloc _) (by simp);have HL:dc (Rd _ _ _):=hl;obtain⟨a,c,rfl,hc,hm,hr⟩:=hl;obtain⟨ba,oa,rfl,_⟩:=hr 0 _ rfl;clear hr;have HR:nv ([u]:List Wd):=⟨by simp,by simpa using hu⟩;have an:nv [u,x]:=⟨by simp,by simp[hu,hx]⟩;have aw:=qB O [u,x];have ax:=qB O [u];have ao:(gr [u]).length=1:=rfl;rw[ao]at Y hc HL⊢;clear ao;have a8:(1:Int)<=(c:Int):=by omega
 have ap:∀V,(V=.slice (some ⟨ba,oa,none⟩) 0 0\/V=.slice (some ⟨ba,oa+1,none⟩) 0 (c-1))->Rd w V (gr []):=by
  rintro V (rfl|rfl)
  .exact Rd.Km rfl (by unfold bm; omega)
  .exact Rd.Km rfl (by omega)
 go_enter cx,ci;go_wp2_with fail;refine Y.mono ?_;rintro e W1 ⟨rfl,aq⟩;rw[show o8 [u]=.agg #[.string ⟨u.toArray⟩,.string ⟨#[]⟩,.string ⟨#[]⟩]from rfl];have hS:=Vz hB hC aq ⟨u.toArray⟩ ⟨#[]⟩ ⟨#[]⟩ ⟨u.toArray⟩ ⟨x.toArray⟩ ⟨#[]⟩;clear Y aq;go_wp2_with fail;unfold Ce at hS;generalize (W1.alloc (.cells #[.string ⟨u.toArray⟩,.string ⟨#[]⟩,.string ⟨#[]⟩] 143)).alloc (.cells #[.string ⟨u.toArray⟩,.string ⟨x.toArray⟩,.string ⟨#[]⟩] 143)=U at *;generalize W1.heap.size=g at *;have a9:=bl hS.base hG;have ay:=hS.map;have af:=(hS.cnt.stay (w':=U.drew) rfl).look an;have ag:=(hS.cnt.stay (w':=U.drew.drew) rfl).look an;have ar:=(hS.cnt.stay (w':=U.drew.drew) rfl).look HR;rw[show o8 [u]=.agg #[.string ⟨u.toArray⟩,.string ⟨#[]⟩,.string ⟨#[]⟩]from rfl]at ar;rw[show o8 [u,x]=.agg #[.string ⟨u.toArray⟩,.string ⟨x.toArray⟩,.string ⟨#[]⟩]from rfl]at af ag;have f0:U.cell? ⟨g,0,none⟩=some (.string ⟨u.toArray⟩):=gq hS.fst 0;have f1:U.cell? ⟨g,1,none⟩=some (.string ⟨#[]⟩):=gq hS.fst 1;have f2:U.cell? ⟨g,2,none⟩=some (.string ⟨#[]⟩):=gq hS.fst 2;have s0:U.cell? ⟨g+1,0,none⟩=some (.string ⟨u.toArray⟩):=gq hS.snd 0;have s1:U.cell? ⟨g+1,1,none⟩=some (.string ⟨x.toArray⟩):=gq hS.snd 1;have s2:U.cell? ⟨g+1,2,none⟩=some (.string ⟨#[]⟩):=gq hS.snd 2;have r0:U.cell? ⟨w.heap.size,0,none⟩=some (.int .u64 0):=gq hS.uS 0;have r1:U.cell? ⟨w.heap.size,1,none⟩=some (.int .u64 0):=gq hS.uS 1;have z0:U.frozen? ⟨w.heap.size,0,none⟩=false:=gP hS.uS 0;have z1:U.frozen? ⟨w.heap.size,1,none⟩=false:=gP hS.uS 1;have ah:=hS;have HS:=hS.base;clear hS;obtain⟨p,ai⟩:∃p,p=iW O [u,x]:=⟨_,rfl⟩;obtain⟨q,aj⟩:∃q,q=iW O [u]:=⟨_,rfl⟩;rw[<-ai]at af ag aw;rw[<-aj]at ar ax;have ak:dc (p=iW O [u,x]):=ai;have az:dc (q=iW O [u]):=aj;clear ai aj;obtain⟨pi,al⟩:∃pi:Int,pi=(p:Int):=⟨_,rfl⟩;rw[<-al]at af ag;have am:dc (pi=(p:Int)):=al;have a':0<=pi:=by omega
 have aA:pi<=16777216:=by omega
 have aB:IntKind.u64.wrap (pi*10)=pi*10:=by rw[cQ]; omega
 clear al;by_cases hz:pi=0
 .have a0:dc (q7 O x [u]=q7 O x []):=by
   show q7 O x [u]=_;have h1:=am.out;have hp:iW O [u,x]=0:=by rw[<-ak.out]; omega
   simp[q7,hp]
  subst hz
  have aa:∀V,Rd w V (gr [])->bn prog 95 #[.pointer (some ⟨b,o,none⟩),V,.string ⟨x.toArray⟩] U.drew λe w4=>e=.returned (.agg #[.int .u64 ((q7 O x [u]).1:Int),.int .u64 ((q7 O x [u]).2:Int)])/\
    Below w.heap.size w w4/\w4.cell? ⟨w.heap.size,0,none⟩=some (.int .u64 0)/\w4.cell? ⟨w.heap.size,1,none⟩=some (.int .u64 0)/\w4.frozen? ⟨w.heap.size,0,none⟩=false/\w4.frozen? ⟨w.heap.size,1,none⟩=false:=by
   intro V hV;rw[a0.out];have ad:Below w.heap.size w U.drew:=HS.drew;refine(Qe b o B n O _ x U.drew (bl ad au) ay (ah.cnt.stay rfl) (hV.below ad) hx av).mono ?_;rintro e w4 ⟨rfl,ae⟩;have hr:w.heap.size<U.heap.size:=(cC.1 ah.uS).1;have hh:w4.heap[w.heap.size]?=some EC:=by rw[ae.block w.heap.size hr]; exact ah.uS
   exact⟨rfl,ad.trans (ae.mono ad.size),gq hh 0,gq hh 1,gP hh 0,gP hh 1⟩
  obtain⟨p1,ab⟩:∃p1,p1=(q7 O x [u]).1:=⟨_,rfl⟩;obtain⟨p2,ac⟩:∃p2,p2=(q7 O x [u]).2:=⟨_,rfl⟩;rw[<-ab,<-ac]at aa;have a3:dc (p1=(q7 O x [u]).1):=ab;have a4:dc (p2=(q7 O x [u]).2):=ac;clear ab ac;go_region;go_wp2_with fail
  all_goals
   refine(aa _ (ap _ (by simp[*]))).mono ?_;rintro e w4 ⟨rfl,ae,a5,a6,aC,aD⟩;clear aa ap;go_wp2;refine bp (v:=.agg #[.int .u64 (p1:Int),.int .u64 (p2:Int)]) (by simp[bt,bT,go_sem,a5,a6]) rfl ⟨?_,?_⟩
   .rw[a3.out,a4.out]
   .exact(ae.setCell (bL _) _).setCell (bL _) _
 .have aE:(pi==0)=false:=by simpa using hz
  go_region;go_wp2_with fail;go_region;go_wp2;refine bp (v:=.agg #[.int .u64 (pi*10),.int .u64 (q:Int)]) (by simp[bt,bT,go_sem,r0,r1]) rfl ⟨?_,?_⟩
  .have h1:=am.out;have hp:iW O [u,x]≠0:=by rw[<-ak.out]; omega
   have a7:q7 O x [u]=(iW O [u,x]*10,iW O [u]):=by simp[q7,hp]
   rw[a7,am.out,ak.out,az.out];rfl
  .exact(HS.drew.drew.setCell (bL _) _).setCell (bL _) _
end
section
open Go.RowKit Go.Maps
theorem To(b o B n:Nat)(O:List (List Wd))(vl:Value)(u:Wd)(v:Wd)(x:Wd)(w:World)(au:w.cell? ⟨0,0,none⟩=some (.int .u64 4))(av:w.cell? ⟨0,1,none⟩=some (.int .u64 10))(hG:w.cell? ⟨0,2,none⟩=some (.int .u64 25))(hB:w.cell? ⟨b,o,none⟩=some (.map (some B)))(hC:iD w B n (iW O))(hl:Rd w vl (gr [u,v]))(hu:u≠[]/\u.length<=24)(hv:v≠[]/\v.length<=24)(hx:x≠[]/\x.length<=24)(aw:jP O<=16777216) :
  bn prog 95 #[.pointer (some ⟨b,o,none⟩),vl,.string ⟨x.toArray⟩] w λe w'=>e=.returned (.agg #[.int .u64 ((q7 O x [u,v]).1:Int),.int .u64 ((q7 O x [u,v]).2:Int)])/\Below w.heap.size w w':=by
 have Y:=tX vl [u,v] (w.alloc EC) (hl.alloc _) (by simp);have HL:dc (Rd w vl (gr [u,v])):=hl;obtain⟨a,c,rfl,hc,hm,hr⟩:=hl;obtain⟨ba,oa,rfl,_⟩:=hr 0 _ rfl;clear hr;have HR:nv ([u,v]:List Wd):=⟨by simp,by simp[hu,hv]⟩;have an:nv [u,v,x]:=⟨by simp,by simp[hu,hv,hx]⟩;have ax:=qB O [u,v,x];have ay:=qB O [u,v];have ao:(gr [u,v]).length=2:=rfl;rw[ao]at Y hc HL⊢;clear ao;have a':(2:Int)<=(c:Int):=by omega
 have ap:∀V,V=.slice (some ⟨ba,oa+1,none⟩) 1 (c-1)->Rd w V (gr [v]):=by
  rintro V rfl;have:=HL.out.Gf 1 (by simp) (by omega) rfl;exact this
 have a9:c≠1:=by omega
 go_enter cx,ci;go_wp2_with fail;refine Y.mono ?_;rintro e W1 ⟨rfl,aq⟩;rw[show o8 [u,v]=.agg #[.string ⟨u.toArray⟩,.string ⟨v.toArray⟩,.string ⟨#[]⟩]from rfl];have hS:=Vz hB hC aq ⟨u.toArray⟩ ⟨v.toArray⟩ ⟨#[]⟩ ⟨u.toArray⟩ ⟨v.toArray⟩ ⟨x.toArray⟩;clear Y aq;go_wp2_with fail;unfold Ce at hS;generalize (W1.alloc (.cells #[.string ⟨u.toArray⟩,.string ⟨v.toArray⟩,.string ⟨#[]⟩] 143)).alloc (.cells #[.string ⟨u.toArray⟩,.string ⟨v.toArray⟩,.string ⟨x.toArray⟩] 143)=U at *;generalize W1.heap.size=g at *;have aA:=bl hS.base hG;have az:=hS.map;have af:=(hS.cnt.stay (w':=U.drew) rfl).look an;have ag:=(hS.cnt.stay (w':=U.drew.drew) rfl).look an;have ar:=(hS.cnt.stay (w':=U.drew.drew) rfl).look HR;rw[show o8 [u,v]=.agg #[.string ⟨u.toArray⟩,.string ⟨v.toArray⟩,.string ⟨#[]⟩]from rfl]at ar;rw[show o8 [u,v,x]=.agg #[.string ⟨u.toArray⟩,.string ⟨v.toArray⟩,.string ⟨x.toArray⟩]from rfl]at af ag;have f0:U.cell? ⟨g,0,none⟩=some (.string ⟨u.toArray⟩):=gq hS.fst 0;have f1:U.cell? ⟨g,1,none⟩=some (.string ⟨v.toArray⟩):=gq hS.fst 1;have f2:U.cell? ⟨g,2,none⟩=some (.string ⟨#[]⟩):=gq hS.fst 2;have s0:U.cell? ⟨g+1,0,none⟩=some (.string ⟨u.toArray⟩):=gq hS.snd 0;have s1:U.cell? ⟨g+1,1,none⟩=some (.string ⟨v.toArray⟩):=gq hS.snd 1;have s2:U.cell? ⟨g+1,2,none⟩=some (.string ⟨x.toArray⟩):=gq hS.snd 2;have r0:U.cell? ⟨w.heap.size,0,none⟩=some (.int .u64 0):=gq hS.uS 0;have r1:U.cell? ⟨w.heap.size,1,none⟩=some (.int .u64 0):=gq hS.uS 1;have z0:U.frozen? ⟨w.heap.size,0,none⟩=false:=gP hS.uS 0;have z1:U.frozen? ⟨w.heap.size,1,none⟩=false:=gP hS.uS 1;have ah:=hS;have HS:=hS.base;clear hS;obtain⟨p,ai⟩:∃p,p=iW O [u,v,x]:=⟨_,rfl⟩;obtain⟨q,aj⟩:∃q,q=iW O [u,v]:=⟨_,rfl⟩;rw[<-ai]at af ag ax;rw[<-aj]at ar ay;have ak:dc (p=iW O [u,v,x]):=ai;have a0:dc (q=iW O [u,v]):=aj;clear ai aj;obtain⟨pi,al⟩:∃pi:Int,pi=(p:Int):=⟨_,rfl⟩;rw[<-al]at af ag;have am:dc (pi=(p:Int)):=al;have aB:0<=pi:=by omega
 have aC:pi<=16777216:=by omega
 have aD:IntKind.u64.wrap (pi*25)=pi*25:=by rw[cQ]; omega
 clear al;by_cases hz:pi=0
 .have a3:dc (q7 O x [u,v]=q7 O x [v]):=by
   show q7 O x [u,v]=_;have h1:=am.out;have hp:iW O [u,v,x]=0:=by rw[<-ak.out]; omega
   simp[q7,hp]
  subst hz
  have aa:∀V,Rd w V (gr [v])->bn prog 95 #[.pointer (some ⟨b,o,none⟩),V,.string ⟨x.toArray⟩] U.drew λe w4=>e=.returned (.agg #[.int .u64 ((q7 O x [u,v]).1:Int),.int .u64 ((q7 O x [u,v]).2:Int)])/\
    Below w.heap.size w w4/\w4.cell? ⟨w.heap.size,0,none⟩=some (.int .u64 0)/\w4.cell? ⟨w.heap.size,1,none⟩=some (.int .u64 0)/\w4.frozen? ⟨w.heap.size,0,none⟩=false/\w4.frozen? ⟨w.heap.size,1,none⟩=false:=by
   intro V hV;rw[a3.out];have ab:Below w.heap.size w U.drew:=HS.drew;refine(OU b o B n O _ v x U.drew (bl ab au) (bl ab av) az (ah.cnt.stay rfl) (hV.below ab) hv hx aw).mono ?_;rintro e w4 ⟨rfl,ae⟩;have hr:w.heap.size<U.heap.size:=(cC.1 ah.uS).1;have hh:w4.heap[w.heap.size]?=some EC:=by rw[ae.block w.heap.size hr]; exact ah.uS
   exact⟨rfl,ab.trans (ae.mono ab.size),gq hh 0,gq hh 1,gP hh 0,gP hh 1⟩
  obtain⟨p1,ac⟩:∃p1,p1=(q7 O x [u,v]).1:=⟨_,rfl⟩;obtain⟨p2,ad⟩:∃p2,p2=(q7 O x [u,v]).2:=⟨_,rfl⟩;rw[<-ac,<-ad]at aa;have a4:dc (p1=(q7 O x [u,v]).1):=ac;have a5:dc (p2=(q7 O x [u,v]).2):=ad;clear ac ad;go_region;go_wp2_with fail
  all_goals
   refine(aa _ (ap _ (by simp[*]))).mono ?_;rintro e w4 ⟨rfl,ae,a6,a7,aE,aF⟩;clear aa ap;go_wp2;refine bp (v:=.agg #[.int .u64 (p1:Int),.int .u64 (p2:Int)]) (by simp[bt,bT,go_sem,a6,a7]) rfl ⟨?_,?_⟩
   .rw[a4.out,a5.out]
   .exact(ae.setCell (bL _) _).setCell (bL _) _
 .have aG:(pi==0)=false:=by simpa using hz
  go_region;go_wp2_with fail;go_region;go_wp2;refine bp (v:=.agg #[.int .u64 (pi*25),.int .u64 (q:Int)]) (by simp[bt,bT,go_sem,r0,r1]) rfl ⟨?_,?_⟩
  .have h1:=am.out;have hp:iW O [u,v,x]≠0:=by rw[<-ak.out]; omega
   have a8:q7 O x [u,v]=(iW O [u,v,x]*25,iW O [u,v]):=by simp[q7,hp]
   rw[a8,am.out,ak.out,a0.out];rfl
  .exact(HS.drew.drew.setCell (bL _) _).setCell (bL _) _
end
section
open Go.RowKit Go.Sort
theorem zS(x y:Nat)(w:World):bn prog 196 #[.int .u64 (x:Int),.int .u64 (y:Int)] w λe w'=>e=.returned (.int .i64 (B5 x y))/\w=w':=by
 unfold B5;by_cases O:x<y
 .rw[if_pos O];have U:(x:Int)<(y:Int):=by omega
  clear O;go_enter func196,ntmps196;go_wp2;go_ret;exact⟨rfl,rfl⟩
 .rw[if_neg O];by_cases Y:y<x
  .go_wp2;go_ret;exact⟨rfl,rfl⟩
  .go_wp2;go_ret;exact⟨rfl,rfl⟩
theorem EU(x y:Int)(g:Nat)(w:World)(h0:w.cell? ⟨g,0,none⟩=some (.int .i64 x))(h1:w.cell? ⟨g,1,none⟩=some (.int .i64 y)):bn prog 126 #[.slice (some ⟨g,0,none⟩) 2 2] w λe w'=>e=.returned (.int .i64 (if x≠0 then x else y))/\w=w':=by
 by_cases U:x=0
 .subst U;rw[if_neg (by simp)];by_cases O:y=0
  .subst O;go_enter func126,ntmps126;go_wp2;refine bu 3 ?_;rw[br];go_wp2;rw[br];go_wp2;rw[br];go_wp2;go_ret;exact⟨rfl,rfl⟩
  .have Y:(y==0)=false:=by simpa using O
   go_enter func126,ntmps126;go_wp2;refine bu 2 ?_;rw[br];go_wp2;rw[br];go_wp2;go_ret;exact⟨rfl,rfl⟩
 .go_wp2;refine bu 1 ?_;rw[br];go_wp2;go_ret;exact⟨rfl,rfl⟩
theorem Dd{w:World}{x y:Value}{t:bq}{g:Nat}(O:g=w.heap.size):(w.alloc (.cells #[x,y] t)).cell? ⟨g,0,none⟩=some x/\(w.alloc (.cells #[x,y] t)).cell? ⟨g,1,none⟩=some y:=by
 subst O;constructor
 .rw[cM _ _ _ _ rfl]; rfl
 .rw[cM _ _ _ _ rfl]; rfl
theorem QL(p q r t:Nat)(w:World)(hp:p<=419430400)(hq:q<=16777217)(hr:r<=419430400)(ht:t<=16777217) :
  bn prog 138 #[.agg #[.int .u64 (p:Int),.int .u64 (q:Int)],.agg #[.int .u64 (r:Int),.int .u64 (t:Int)]] w λe w'=>e=.returned (.int .i64 (B5 (p*t) (r*q)))/\∃k os,w'=grow (w.drewN k) os:=by
 have b1:p*t<=419430400*16777217:=bQ hp ht;have b2:r*q<=419430400*16777217:=bQ hr hq
 have U:∀W:World,bn prog 195 #[.int .u64 (p:Int),.int .u64 (t:Int)] W λe w'=>e=.returned (.tuple #[.int .u64 0,.int .u64 ((p*t:Nat):Int)])/\W=w':=λW=>by
  refine(Any.bits_Mul64 Lr p t (by omega) (by omega) W).mono ?_;rintro e w' ⟨rfl,rfl⟩;rw[bP (by omega),bO (by omega)];exact⟨rfl,rfl⟩
 have m2:∀W:World,bn prog 195 #[.int .u64 (r:Int),.int .u64 (q:Int)] W λe w'=>e=.returned (.tuple #[.int .u64 0,.int .u64 ((r*q:Nat):Int)])/\W=w':=λW=>by
  refine(Any.bits_Mul64 Lr r q (by omega) (by omega) W).mono ?_;rintro e w' ⟨rfl,rfl⟩;rw[bP (by omega),bO (by omega)];exact⟨rfl,rfl⟩
 generalize p*t=X at *;generalize r*q=Y at *;have c1:=λW=>zS 0 0 W;have c2:=λW=>zS X Y W;have e0:B5 0 0=0:=rfl;rw[e0]at c1;go_enter func138,ntmps138;go_wp2_with fail;refine(U _).mono ?_;rintro e w' ⟨rfl,rfl⟩;go_wp2_with fail;refine(m2 _).mono ?_;rintro e w' ⟨rfl,rfl⟩;go_wp2_with fail;refine(c1 _).mono ?_;rintro e w' ⟨rfl,rfl⟩;go_wp2_with fail;refine(c2 _).mono ?_;rintro e w' ⟨rfl,rfl⟩;obtain⟨z,O⟩:∃z,z=B5 X Y:=⟨_,rfl⟩;rw[<-O];have HZ:dc _:=O;clear O c1 c2 U m2;go_wp2_with fail;refine(EU 0 z _ _ (Dd (by simp)).1 (Dd (by simp)).2).mono ?_;rintro e w' ⟨rfl,rfl⟩;go_wp2;go_ret;exact⟨iP (by rw[<-HZ.out]),0,_,by rw[cW,cW,cW,cX,cX]; rfl⟩
theorem CW(w:World)(os:Array Obj)(a:Addr)(h:a.block<w.heap.size):(grow w os).cell? a=w.cell? a:=by
 have:(grow w os).heap[a.block]?=w.heap[a.block]?:=by
  unfold grow;simp[Array.getElem?_append,h]
 simp[World.cell?,this]
def nk(sc:Wd->Fr)(x:Wd):List Value:=[.string ⟨x.toArray⟩,.int .u64 ((sc x).1:Int),.int .u64 ((sc x).2:Int)]
theorem drew_drewN(w:World)(k:Nat):w.drew.drewN k=w.drewN (1+k):=by
 unfold World.drewN World.drew;rw[Nat.add_assoc]
end
section
open Go.RowKit Go.Maps Go.Sort
theorem Ke(b o B n:Nat)(O:List (List Wd))(vl:Value)(ah:List Wd)(x:Wd)(w:World)(hW:NZ w)(hB:w.cell? ⟨b,o,none⟩=some (.map (some B)))(hC:iD w B n (iW O))(hl:Rd w vl (gr ah))(ha:ah.length<=2)(U:∀y∈ah,y≠[]/\y.length<=24)(hx:x≠[]/\x.length<=24)(Y:jP O<=16777216) :
  bn prog 95 #[.pointer (some ⟨b,o,none⟩),vl,.string ⟨x.toArray⟩] w λe w'=>e=.returned (.agg #[.int .u64 ((q7 O x ah).1:Int),.int .u64 ((q7 O x ah).2:Int)])/\Below w.heap.size w w':=by
 match ah,ha with
 |[],_=>exact Qe b o B n O vl x w hW.1 hB hC hl hx Y
 |[u],_=>exact OU b o B n O vl u x w hW.1 hW.2.1 hB hC hl (U u (by simp)) hx Y
 |[u,v],_=>exact To b o B n O vl u v x w hW.1 hW.2.1 hW.2.2 hB hC hl (U u (by simp)) (U v (by simp)) hx Y
 |_::_::_::_,h=>simp at h
def mu(sc:Wd->Fr)(ws:List Wd):List Value:=ws.flatMap (nk sc)
theorem Cw(sc:Wd->Fr)(ws:List Wd)(x:Wd):mu sc (ws++[x])=mu sc ws++nk sc x:=by simp[mu]
theorem EV(sc:Wd->Fr):∀(ws:List Wd)(i c:Nat)(h:i<ws.length),c<3->(mu sc ws)[i*3+c]?=(nk sc ws[i])[c]?:=by
 intro ws
 induction ws with
 |nil=>intro i c h; simp at h
 |cons a l O=>
  intro i c h U;have e:mu sc (a::l)=nk sc a++mu sc l:=by simp[mu]
  rw[e]
  cases i with
  |zero=>rw[List.getElem?_append_left (by simp[nk]; omega)]; simp
  |succ i=>
   rw[List.getElem?_append_right (by simp[nk]; omega)];have Y:(nk sc a).length=3:=rfl;rw[Y,show(i+1)*3+c-3=i*3+c by omega,O i c (by simpa using h) U];simp
theorem Mr(sc:Wd->Fr)(x:Wd):∀v∈nk sc x,v.oneCell'=true:=by
 intro v O;simp[nk]at O;rcases O with rfl|rfl|rfl<;>rfl
theorem A6{w:World}{base e n m cap g:Nat}(sc:Wd->Fr){ws:List Wd}(h:w.ownsRow base e 3 (.slice (some ⟨g,0,none⟩) m cap) n (mu sc ws))(hn:n=ws.length):HoldsK (nk sc) 3 w g 0 ws.toArray:=by
 intro j hj;have U:=by simpa using hj
 have hd:j / 3<ws.length:=by omega
 have O:(mu sc ws)[j]?=some ((flatK (nk sc) 3 ws.toArray)[j]!):=by
  rw[get_flatK _ _ _ _ (by simpa using U)];have:=EV sc ws _ (j % 3) hd (by omega);rw[show j / 3*3+j % 3=j by omega]at this;rw[this];have e1:ws.toArray[j / 3]! = ws[j / 3]:=by rw[getElem!_pos _ _ (by simpa using hd)]; simp
  rw[e1];have hc:j % 3<(nk sc ws[j / 3]).length:=by simp[nk]; omega
  rw[bB hc,getElem!_pos (nk sc _) _ hc]
 rcases h.2 with⟨h0,_⟩|⟨g',aa,ab,he,_,hg,_,_,ac,Y⟩
 .simp at h0
 .obtain⟨⟨rfl,_⟩,_,rfl⟩:=he;refine⟨?_,?_⟩
  .rw[gq hg];rw[<-Y,List.getElem?_take,if_pos (by omega)]at O;simpa using O
  .simp[World.frozen?,hg]
theorem GD{w0 w:World}{k blk off m:Nat}{enc:Wd->List Value}{d:Array Wd}{os:Array Obj}(h:Below w0.heap.size w0 w)(hb:w0.heap.size<=blk):Below w0.heap.size w0 (sortWorldK enc k w blk off m d os):=by
 have U:=h.size;refine⟨h.os,h.tape,h.output,?_,λj O=>?_⟩
 .unfold sortWorldK cZ da grow cY;simp;omega
 .rw[<-h.block j O];unfold sortWorldK cZ da grow cY;simp;rw[Array.getElem?_append_left (by simp; omega),cD,if_neg (by omega)]
end
section
open Go.RowKit Go.Sort
theorem Q4(a b:Wd)(p q r t:Nat)(w:World)(hp:p<=419430400)(hq:q<=16777217)(hr:r<=419430400)(ht:t<=16777217) :
  bn prog 97 #[.agg #[.string ⟨a.toArray⟩,.int .u64 (p:Int),.int .u64 (q:Int)],.agg #[.string ⟨b.toArray⟩,.int .u64 (r:Int),.int .u64 (t:Int)]] w λe w'=>e=.returned (.int .i64 (if B5 (r*q) (p*t)≠0 then B5 (r*q) (p*t)else Lib.compareBytes a b))/\∃k os,w'=grow (w.drewN k) os:=by
 have h1:=λW=>QL r t p q W hr ht hp hq
 have h2:∀W:World,bn prog 139 #[.string ⟨a.toArray⟩,.string ⟨b.toArray⟩] W λe w'=>e=.returned (.int .i64 (Lib.compareBytes a b))/\W=w':=λW=>by
  refine(Any.strings_Compare S7 ⟨a.toArray⟩ ⟨b.toArray⟩ W).mono ?_;rintro e w' ⟨rfl,rfl⟩;exact⟨rfl,rfl⟩
 obtain⟨z,hz⟩:∃z,z=B5 (r*q) (p*t):=⟨_,rfl⟩;obtain⟨y,hy⟩:∃y,y=Lib.compareBytes a b:=⟨_,rfl⟩;rw[<-hz]at h1⊢;rw[<-hy]at h2⊢;obtain⟨uS,U⟩:∃uS,uS=if z≠0 then z else y:=⟨_,rfl⟩
 rw[<-U]
 have ab:∀(g:Nat)(W:World),W.cell? ⟨g,0,none⟩=some (.int .i64 z)->W.cell? ⟨g,1,none⟩=some (.int .i64 y)->bn prog 126 #[.slice (some ⟨g,0,none⟩) 2 2] W λe w'=>e=.returned (.int .i64 uS)/\W=w':=λg W k1 k2=>by
  rw[U];exact EU z y g W k1 k2
 clear hz hy U;obtain⟨W0,O⟩:∃W0,W0=(w.alloc (.cells #[.string ⟨a.toArray⟩,.int .u64 (p:Int),.int .u64 (q:Int)] 150)).alloc (.cells #[.string ⟨b.toArray⟩,.int .u64 (r:Int),.int .u64 (t:Int)] 150):=⟨_,rfl⟩
 have hA:∀j,W0.cell? ⟨w.heap.size,j,none⟩=(#[Value.string ⟨a.toArray⟩,.int .u64 (p:Int),.int .u64 (q:Int)]:Array Value)[j]?:=λj=>by
  rw[O,World.cell?_alloc_past _ _ _ (by simp),cM _ _ _ _ rfl]
 have Y:∀j,W0.cell? ⟨w.heap.size+1,j,none⟩=(#[Value.string ⟨b.toArray⟩,.int .u64 (r:Int),.int .u64 (t:Int)]:Array Value)[j]?:=λj=>by
  rw[O,cM _ _ _ _ (by simp)]
 have ac:W0.heap.size=w.heap.size+2:=by rw[O]; simp
 have aa:∃os,W0=grow w os:=⟨_,by rw[O,cW,cW,cX]⟩
 have ad:bn prog 138 #[.agg #[.int .u64 (r:Int),.int .u64 (t:Int)],.agg #[.int .u64 (p:Int),.int .u64 (q:Int)]] W0.drew λe w1=>e=.returned (.int .i64 z)/\(∃k os,w1=grow (w.drewN k) os)/\w1.cell? ⟨w.heap.size,0,none⟩=some (.string ⟨a.toArray⟩)/\w1.cell? ⟨w.heap.size+1,0,none⟩=some (.string ⟨b.toArray⟩):=by
  refine(h1 W0.drew).mono ?_;rintro e w1 ⟨rfl,k,os,rfl⟩;refine⟨rfl,?_,?_,?_⟩
  .obtain⟨ae,af⟩:=aa;refine⟨1+k,ae++os,?_⟩;rw[af,<-cX,<-drew_drewN];rfl
  .rw[CW _ _ _ (by show w.heap.size<W0.heap.size; omega)];exact hA 0
  .rw[CW _ _ _ (by show w.heap.size+1<W0.heap.size; omega)];exact Y 0
 have a0:W0.cell? ⟨w.heap.size,0,none⟩=some (.string ⟨a.toArray⟩):=hA 0;have a1:W0.cell? ⟨w.heap.size,1,none⟩=some (.int .u64 (p:Int)):=hA 1;have a2:W0.cell? ⟨w.heap.size,2,none⟩=some (.int .u64 (q:Int)):=hA 2;have b0:W0.cell? ⟨w.heap.size+1,0,none⟩=some (.string ⟨b.toArray⟩):=Y 0;have b1:W0.cell? ⟨w.heap.size+1,1,none⟩=some (.int .u64 (r:Int)):=Y 1;have b2:W0.cell? ⟨w.heap.size+1,2,none⟩=some (.int .u64 (t:Int)):=Y 2;clear h1 hA Y ac aa;go_enter func97,ntmps97;go_wp2_with fail;rw[<-O];clear O
 go_region_law (first
  |(go_simp
    go_at_call 138
    refine ad.mono ?_
    rintro e w1 ⟨rfl,ag,ah,ai⟩)
  |(go_simp
    go_at_call 139
    refine(h2 _).mono ?_
    rintro e w' ⟨rfl,rfl⟩)
  |(go_simp
    go_at_call 126
    refine(ab _ _ (Dd (by rfl)).1 (Dd (by rfl)).2).mono ?_
    rintro e w' ⟨rfl,rfl⟩))
 all_goals
  go_wp2;go_ret;obtain⟨k,os,rfl⟩:=ag;exact⟨rfl,k,_,by rw[cW,cX]⟩
end
section
open Go.RowKit Go.Maps Go.Sort
theorem PP:(prog.info? 150).map (λi=>(i.zero,i.size,i.bytes))=some (some (.agg #[.string ⟨#[]⟩,.int .u64 0,.int .u64 0]),3,32):=by kernel_rfl
theorem MF(O:List (List Wd))(l:List Wd)(U:jP O<=16777216)(blk off size:Nat)(w:World):CmpLays prog 97 #[] (nk (BV O l)) 3 (Vi (BV O l)) blk off size w:=by
 intro m os Y _ x y;have hx:=PH O l x;have hy:=PH O l y;exact Q4 x y _ _ _ _ _ (by omega) (by omega) (by omega) (by omega)
theorem Mt(Y:List (List Wd))(l:List Wd)(most:Nat)(kn:List Wd)(hk:kn.Perm (iN Y))(ac:jP Y<=16777216)(au:Option Addr)(cu:Nat)(w wr:World)
  (O:wr.ownsRow w.heap.size 150 3 (.slice au kn.length cu) kn.length (mu (BV Y l) kn)) (hb:Below w.heap.size w wr) :
  bn prog 96 #[.slice au kn.length cu,.func (.func 97) #[] #[]] wr λe w2=>e=.returned (.tuple #[])/\Below w.heap.size w w2/\
   ∃d:List Wd,lq Y l most=d.take (min most kn.length)/\d.length=kn.length/\∀i(h:i<d.length),∃g,au=some ⟨g,0,none⟩/\w2.cell? ⟨g,i*3,none⟩=some (.string ⟨d[i].toArray⟩)/\(∃a,w2.cell? ⟨g,i*3+1,none⟩=some (.int .u64 a))/\(∃a,w2.cell? ⟨g,i*3+2,none⟩=some (.int .u64 a)):=by
 by_cases h0:kn=[]
 .subst h0;have U:=AnyF.slices_SortFunc_none I6 au cu (.func (.func 97) #[] #[]) wr;refine U.mono ?_;rintro e w2 ⟨rfl,rfl⟩;refine⟨rfl,hb,[],?_,rfl,nofun⟩;have ad:=List.Perm.eq_nil hk.symm;unfold lq;rw[ad];simp[AA]
 .obtain⟨g,rfl⟩:∃g,au=some _:=by
   rcases O.2 with⟨he,hn⟩|⟨g,cap,af,he,_⟩
   .exact absurd (List.length_eq_zero_iff.1 (by simpa using hn)) h0
   .simp only[Value.slice.injEq]at he;exact⟨g,he.1⟩
  have ab:=O.lt g rfl
  have U:=AnyQ.slices_SortFunc I6 3 isAgg150 sizeOf150 _ (λ_=>rfl) (Mr _) _ (R4 Y l) 97 _ g 0 cu _ wr
   (enters_of func97 (by kernel_rfl) rfl) (MF Y l ac g 0 _ wr) (A6 _ O rfl) ab.2 (by have h2:=hk.length_eq; have h3:=IX Y _ (bL _); rw[List.take_length]at h3; simp; omega)
  refine U.mono ?_;rintro e w2 ⟨rfl,d',nq,os,hp,hs,rfl⟩;have ae:d'.size=kn.length:=by rw[hp.1]; simp
  have hH:HoldsK (nk (BV Y l)) 3 (sortWorldK (nk (BV Y l)) 3 wr g 0 nq d' os) g 0 d':=by
   refine holdsK_grow _ _ _ _ _ _ _ ?_ (holdsK_putRowK _ _ _ _ _ _ _ (holdsK_ahead _ _ _ _ _ _ _ (A6 _ O rfl)) hp.1);unfold cZ da cY;simp[Sort.ahead];exact ab.2
  refine⟨rfl,GD hb ab.1,d'.toList,?_,by simpa using ae,λi hi=>?_⟩
  .exact BL Y l kn most d' hk hp hs
  .have aa:=by simpa using hi
   have g0:=(HoldsK.cell hH aa (c:=0) (by decide)).1;have g1:=(HoldsK.cell hH aa (c:=1) (by decide)).1;have g2:=(HoldsK.cell hH aa (c:=2) (by decide)).1;have e2:d'[i]! = d'.toList[i]:=by rw[getElem!_pos d' i aa]; rfl
   rw[e2]at g0 g1 g2;rw[bR]at g0 g1 g2;exact⟨g,rfl,g0,⟨_,g1⟩,⟨_,g2⟩⟩
theorem Rk{w:World}{x y z:Value}{t:bq}{g:Nat}(U:g=w.heap.size):vv (w.alloc (.cells #[x,y,z] t)) 3 (.slice (some ⟨g,0,none⟩) 1 1) 1 [x,y,z]:=by
 subst U;refine⟨some _,1,rfl,bL _,by unfold bm; omega,rfl,λj u O=>⟨w.heap.size,0,rfl,?_⟩⟩
 match j,O with
 |0,O=>simpa using O
 |1,O=>simpa using O
 |2,O=>simpa using O
 |j+3,O=>simp at O
theorem QH(F:Nat->Prop)(b:Nat)(vB vS:Value)(Y:List (List Wd))(B n:Nat)(vK:Value)(kn l:List Wd)(vl:Value)(most:Nat)(w:World)(hW:NZ w)(hP:PW w F b vB vS Y B n vK kn)
  (hl:Rd w vl (gr l)) (aB:∀y∈l,y≠[]/\y.length<=24) (aT:l.length<=24) (h1:1<=most) (aU:most<=20) (aw:jP Y<=16777216) :
  bn prog 68 #[.pointer (some ⟨b,2,none⟩),vl,.int .i64 (most:Int)] w λe w'=>∃v,e=.returned v/\w'.ownsRow w.heap.size 9 1 v (lq Y l most).length (gr (lq Y l most))/\Below w.heap.size w w':=by
 obtain⟨i0,hi,ax,ay,az⟩:=bw PP;obtain⟨i9,aC,aD,aE,aF⟩:=bw yM;obtain⟨al,cl,rfl,mP,hml,_⟩:=id hl;rw[gL]at hl mP⊢;unfold bm at hml;obtain⟨aK,cK,rfl,aV⟩:=gU hP.row;have aP:=hP.rz
 have aG:dc (∀i u,(gr kn)[i]?=some u->∃b off,aK=some ⟨b,off,none⟩/\w.cell? ⟨b,off+i,none⟩=some u):=by
  obtain⟨aW,aX,a0,_,_,aH⟩:=Rd.lT hP.row;simp only[Value.slice.injEq]at a0;obtain⟨rfl,_,rfl⟩:=a0;exact aH
 have a3:w.cell? ⟨b,2,none⟩=some (.map (some B)):=by rw[gq hP.blk]; rfl
 have a4:w.cell? ⟨b,3,none⟩=some (.slice aK kn.length cK):=by rw[gq hP.blk]; rfl
 obtain⟨k,hk⟩:∃k,k=l.length-2:=⟨_,rfl⟩;have aY:max (0:Int) ((l.length:Int)-3+1)=(k:Int):=by omega
 have aZ:(k:Int)<=(l.length:Int):=by omega
 have am:Rd w (.slice (if cl=k then al else di (λx=>x.add k) al) (l.length-k) (cl-k)) (gr (pg l)):=by
  unfold pg;rw[<-hk];exact hl.Ai k (by omega)
 have aQ:(pg l).length=l.length-k:=by unfold pg; rw[<-hk]; simp
 generalize ba:(if cl=k then al else di (λx=>x.add k) al)=aa at am;obtain⟨W0,aI,hown0,an⟩:=run_make_own (P:=prog) w w.heap.size 145 150 i0 _ 3 bZ hi ax ay .i64 .i64 kn.length (by rw[az]; omega) (by unfold bm; omega) (bL _);have hb0:Below w.heap.size w W0:=(cI _ w).grown an (bL _) (λk hk=>by cases hk);have a5:=bl hb0 a4;have HP:dc (PW _ _ _ _ _ _ _ _ _ _):=hP;clear hP hl hk;go_enter func68,ntmps68;go_wp2_with fail;go_loopw [7,31] (λu i wr=>∃j:Nat,j<=kn.length/\i=.int .i64 j/\wr.ownsRow w.heap.size 150 3 u j (mu (BV Y l) (kn.take j))/\Below w.heap.size w wr) (λ_ i _=>kn.length-(intOf i).toNat)
 case atStart=>exact⟨0,bM _,rfl,hown0,hb0⟩
 case round=>
  obtain⟨j,hj,rfl,O,hb⟩:=hrel;have HS:=hb.size;obtain⟨au,cu,rfl,bc⟩:=lG O;by_cases ao:j<kn.length
  .obtain⟨bK,oK,rfl,ad⟩:=aG.out j _ (kh kn j ao);have aA:=bl hb ad;have ae:kn[j]∈iN Y:=HP.out.perm.mem_iff.1 (b9 ao)
   have hx:kn[j]≠[]/\kn[j].length<=24:=by
    obtain⟨t,ht,aJ⟩:=(nd Y _).1 ae;exact HP.out.ok t ht _ aJ
   have HE:dc (kn.take (j+1)=kn.take j++[kn[j]]):=b5 ao;have ag:=Ke b 2 B n Y _ (pg l) kn[j] wr (hW.below hb) (bl hb a3) (HP.out.cnt.below hb) (am.below hb) (NA l) (λy hy=>aB y (bH hy)) hx aw;rw[<-KB Y l kn[j] ae]at ag;clear ae ad;generalize kn[j]=x at *;obtain⟨p1,ap⟩:∃p1:Int,p1=((BV Y l x).1:Int):=⟨_,rfl⟩;obtain⟨p2,ar⟩:∃p2:Int,p2=((BV Y l x).2:Int):=⟨_,rfl⟩;rw[<-ap,<-ar]at ag
   have HC:dc (nk (BV Y l) x=[.string ⟨x.toArray⟩,.int .u64 p1,.int .u64 p2]):=by
    show nk (BV Y l) x=_;unfold nk;rw[ap,ar]
   clear ap ar;go_wp2_with fail;refine ag.mono ?_;rintro e w1 ⟨rfl,av⟩;clear ag;have aR:=av.size;have a6:Below w.heap.size w w1:=hb.trans (av.mono HS);have af:=ku O (λk hk=>av.block k (O.lt k hk).2);go_wp2_with (at_builtin; go_must (refine zc _ rfl _ _ 145 rfl w.heap.size 150 i0 _ 3 32 bZ hi ax ay az rfl (by decide) _ _ _ rfl (af.alloc _) _ 1 [.string ⟨x.toArray⟩,.int .u64 p1,.int .u64 p2] rfl ?cr ?c0 ?c1 ?c2 ?c3 ?_))
   case cr=>exact Rk rfl
   case c0=>intro u hu; simp at hu; rcases hu with rfl|rfl|rfl<;>rfl
   case c1=>omega
   case c2=>unfold bm; omega
   case c3=>first|omega|(simp; omega)
   intro v' w2 hown2 a7 _;rw[<-HC.out,<-Cw,<-HE.out]at hown2;have hb2:Below w.heap.size w w2:=(a6.alloc (by omega) _).grown a7 (by simp; omega) (λk hk=>(af.lt k hk).1);go_wp2_with fail;go_roundw
   case rel=>exact⟨j+1,by omega,by go_num,hown2,hb2⟩
   case measure=>simp[intOf]; omega
  .have ej:j=kn.length:=by omega
   subst ej;rw[bC (bL _)]at O;have ab:=Mt Y l most kn HP.out.perm aw au cu w wr O hb;clear a3 a4 a5 aI hown0 an hb0 O hb am;obtain⟨m,hm⟩:∃m,m=min most kn.length:=⟨_,rfl⟩;have bd:min (most:Int) (kn.length:Int)=(m:Int):=by omega
   have be:(m:Int)<=(cu:Int):=by omega
   have bf:m<=20:=by omega
   rw[<-hm]at ab;clear hm;go_wp2_with fail;refine ab.mono ?_;rintro e w2 ⟨rfl,hb2,d,a8,bg,a9⟩;clear ab;have aL:dc (lq Y l most=d.take m):=a8;have aM:dc (∀i(h:i<d.length),∃g,au=some ⟨g,0,none⟩/\w2.cell? ⟨g,i*3,none⟩=some (.string ⟨d[i].toArray⟩)/\(∃a,w2.cell? ⟨g,i*3+1,none⟩=some (.int .u64 a))/\(∃a,w2.cell? ⟨g,i*3+2,none⟩=some (.int .u64 a))):=a9;have bh:m<=d.length:=by omega
   clear a8 a9;have ah:=hb2.size;go_wp2_with fail;go_loopw [10,54] (λu i wx=>∃q:Nat,q<=m/\i=.int .i64 q/\wx.ownsRow w2.heap.size 9 1 u q (gr (d.take q))/\Below w2.heap.size w2 wx) (λ_ i _=>m-(intOf i).toNat)
   case atStart=>exact⟨0,bM _,rfl,cN _ _ _ _,cI _ _⟩
   case round=>
    obtain⟨q,hq,rfl,U,ac⟩:=hrel;have aN:=ac.size;have a':Below w.heap.size w wr:=hb2.trans (ac.mono ah);obtain⟨aq,cq,rfl,bi⟩:=gU U;by_cases aS:q<m
    .obtain⟨g,rfl,ai,⟨y1,aj⟩,⟨y2,ak⟩⟩:=aM.out q (by omega);have an:=bl ac ai;have bj:=bl ac aj;have a7:=bl ac ak;have HE:dc (d.take (q+1)=d.take q++[d[q]'(by omega)]):=b5 (by omega);clear ai aj ak;generalize d[q]'(by omega)=x at *;go_wp2_with (at_builtin; go_must (refine jc _ rfl _ _ 31 rfl w2.heap.size 9 i9 (.string ⟨#[]⟩) 16 bS aC aD aE aF rfl _ _ _ rfl ((U.alloc _).alloc _) ⟨wr.heap.size+1,0,none⟩ (.string ⟨x.toArray⟩) rfl ?c0 rfl ?c1 ?c2 ?c3 ?_))
     case c0=>exact Mh (by simp)
     case c1=>omega
     case c2=>unfold bm; omega
     case c3=>first|omega|(simp; omega)
     intro v' w4 hown4 aO _;rw[<-pB,<-HE.out]at hown4;have hb4:Below w2.heap.size w2 w4:=((ac.alloc aN _).alloc (by simp; omega) _).grown aO (by simp; omega) (λk hk=>(U.lt k hk).1);go_wp2_with fail;go_roundw
     case rel=>exact⟨q+1,by omega,by go_num,hown4,hb4⟩
     case measure=>simp[intOf]; omega
    .have eq:q=m:=by omega
     subst eq;go_wp2;go_ret;refine⟨_,rfl,?_,a'⟩;rw[aL.out];have:(d.take q).length=q:=by simp; omega
     rw[this];exact mA U ah
end
section
open Go.RowKit Go.Maps
theorem Qp(l:List UInt8):∀x∈kX l,x≠[]/\x.length<=l.length:=by
 intro x U;obtain⟨i,hi,rfl⟩:=bE.1 U;obtain⟨Y,h2⟩:=List.mem_filter.1 hi;have O:=List.mem_range.1 Y;unfold jy at h2;simp only[db]at h2;unfold xk;refine⟨?_,?_⟩
 .rw[List.drop_eq_getElem_cons O,List.takeWhile_cons]
  have:ik l[i]=true:=by
   have:=h2.1;rw[b6,bB O]at this;exact this
  rw[this];simp
 .have:=(List.takeWhile_sublist (p:=ik) (l:=l.drop i)).length_le;simp at this;omega
theorem ya(s:ByteArray)(O:il s.data.toList=true):(∀x∈kX (ir s.data.toList),x≠[]/\x.length<=24)/\(kX (ir s.data.toList)).length<=24:=by
 have U:=by simp only[il,db,decide_eq_true_eq]at O; exact O.1
 constructor
 .intro x Y;have:=Qp _ x Y;rw[jH]at this;exact⟨this.1,by omega⟩
 .have:=KH (ir s.data.toList) (ir s.data.toList).length;rw[jH]at this;unfold kX;rw[jH];omega
def PE(w:World)(F:Nat->Prop)(b:Nat)(O:List (List Wd)):Prop:=(∀k,F k->k<w.heap.size)/\∃vB vS B n vK kn,PW w F b vB vS O B n vK kn
theorem PW.stay{w w':World}{F:Nat->Prop}{b:Nat}{vB vS:Value}{O:List (List Wd)}{B n:Nat}{vK:Value}{kn:List Wd}(h:PW w F b vB vS O B n vK kn)(hb:∀k,F k->w'.heap[k]?=w.heap[k]?):PW w' F b vB vS O B n vK kn where
 blk:=by rw[hb b h.fb]; exact h.blk
 fb:=h.fb;fB:=h.fB;cnt:=h.cnt.stay (hb B h.fB);room:=h.room;row:=iz h.row (λk U=>hb k (h.nT k U));nT:=h.nT;perm:=h.perm;ok:=h.ok;rz:=h.rz
theorem Pv(w:World):bn prog 64 #[] w λe w'=>∃B:Nat,e=.returned (.agg #[.map (some B),.slice none 0 0])/\w.heap.size<=B/\iD w' B 0 (λ_=>0)/\Below w.heap.size w w':=by
 have O:=@run_makeMap prog;go_enter func64,ntmps64;go_wp2;refine bp (v:=.agg #[.map (some (w.heap.size+1)),.slice none 0 0]) (by simp[bt,results64,go_sem]) rfl ⟨_,rfl,by omega,?_,((cI ..).alloc (bL _) _).alloc (by simp) _⟩;have h:=iD.made (w.alloc (.cells #[.map (some (w.heap.size+1)),.slice none 0 0] 88));have e:(w.alloc (.cells #[.map (some (w.heap.size+1)),.slice none 0 0] 88)).heap.size=w.heap.size+1:=by simp
 rw[e]at h;exact h
end
section
open Go.RowKit Go.Maps
theorem vR(most:Int)(w:World):bn prog 47 #[.int .i64 most] w λe w'=>e=.returned (.bool (decide (1<=most/\most<=20)))/\w=w':=by
 by_cases O:1<=most
 .by_cases U:most<=20
  .rw[decide_eq_true ⟨O,U⟩];go_wp2;go_ret;exact⟨iy (by simp),rfl⟩
  .rw[decide_eq_false _];go_wp2;go_ret;exact⟨iy (by simp),rfl⟩
 .rw[decide_eq_false (λh=>O h.1)];go_wp2;go_ret;exact⟨iy (by simp),rfl⟩
theorem FL(w:World)(F:Nat->Prop)(b:Nat)(ts:List (List Wd))(s:ByteArray)(most:Int)(hW:NZ w)(hP:PE w F b ts)(hB:jP ts<=16777216)(hs:s.size<=bm) :
  bn prog 35 #[.pointer (some ⟨b,0,none⟩),.string s,.int .i64 most] w λe w'=>∃v,e=.returned (.tuple #[v,.int .i64 (xx ts s.data.toList most).2])/\
   w'.ownsRow w.heap.size 9 1 v (xx ts s.data.toList most).1.length (gr (xx ts s.data.toList most).1)/\Below w.heap.size w w':=by
 have hT:=vR most w;by_cases h:most<1\/20<most
 .have e:xx ts s.data.toList most=([],3):=by unfold xx; rw[if_pos h]
  rw[e];rw[decide_eq_false (by omega)]at hT;clear h e;go_enter cy,cj;go_wp2_with fail;refine hT.mono ?_;rintro e w' ⟨rfl,rfl⟩;go_wp2;go_ret2;exact⟨_,rfl,cN _ _ _ _,cI _ _⟩
 .rw[decide_eq_true (by omega)]at hT;have hY:=qC s w hs;by_cases hq:il s.data.toList=true
  .rw[hq]at hY;obtain⟨m,rfl⟩:∃m:Nat,most=(m:Int):=⟨most.toNat,by omega⟩;have e:xx ts s.data.toList (m:Int)=(lq ts (kX (ir s.data.toList)) m,0):=by unfold xx; rw[if_neg h,if_pos hq]; rfl
   rw[e];obtain⟨ae,af⟩:=ya s hq;have ag:=xR s w.drew hq;have aj:1<=m:=by omega
   have ak:m<=20:=by omega
   clear h e hq;generalize kX (ir s.data.toList)=l at *;obtain⟨hF,vB,vS,B,n,vK,kn,ah⟩:=hP
   have ai:bn prog 67 #[.string s] w.drew λe w1=>∃a c,e=.returned (.slice a l.length c)/\Below w.heap.size w w1/\
     bn prog 68 #[.pointer (some ⟨b,2,none⟩),.slice a l.length c,.int .i64 (m:Int)] w1 λe w2=>∃a' c',e=.returned (.slice a' (lq ts l m).length c')/\w2.ownsRow w.heap.size 9 1 (.slice a' (lq ts l m).length c') (lq ts l m).length (gr (lq ts l m))/\Below w.heap.size w w2:=by
    refine ag.mono ?_;rintro e w1 ⟨v,rfl,aa,O⟩;have ab:w1.ownsRow w.heap.size 9 1 v l.length (gr l):=aa;have Y:Below w.heap.size w w1:=⟨O.os,O.tape,O.output,O.size,O.block⟩;clear aa O;obtain⟨a,c,rfl,_⟩:=gU ab;refine⟨a,c,rfl,Y,?_⟩;refine(QH F b vB vS ts B n vK kn l _ m w1 (hW.below Y) (ah.stay (λk hk=>Y.block k (hF k hk))) (Rd.lT ab) ae af aj ak hB).mono ?_;rintro e w2 ⟨v2,rfl,U,ac⟩;obtain⟨a',c',rfl,_⟩:=gU U;exact⟨a',c',rfl,mA U Y.size,Y.trans (ac.mono Y.size)⟩
   clear ag ae af ah;go_enter cy,cj;go_wp2_with fail;refine hT.mono ?_;rintro e w' ⟨rfl,rfl⟩;go_wp2_with fail;refine hY.mono ?_;rintro e w' ⟨rfl,rfl⟩;clear hT hY;go_wp2_with fail
   go_region_law (first
    |(go_simp
      go_at_call 67
      refine ai.mono ?_
      rintro e w1 ⟨a,c,rfl,Y,ad⟩)
    |(go_simp
      go_at_call 68
      refine ad.mono ?_
      rintro e w2 ⟨a',c',rfl,U,ac⟩))
   all_goals
    go_wp2;go_ret2;exact⟨_,rfl,U,ac⟩
  .have al:il s.data.toList=false:=by simpa using hq
   rw[al]at hY;have e:xx ts s.data.toList most=([],2):=by unfold xx; rw[if_neg h,if_neg hq]
   rw[e];clear h e hq;go_enter cy,cj;go_wp2_with fail;refine hT.mono ?_;rintro e w' ⟨rfl,rfl⟩;go_wp2_with fail;refine hY.mono ?_;rintro e w' ⟨rfl,rfl⟩;go_wp2;go_ret2;exact⟨_,rfl,cN _ _ _ _,cI _ _⟩
end
section
open Go.RowKit Go.Maps
variable {kl:Lit} {r:Nat} {e t:bq} {key:Value} {w':World}
structure Gg(P:Program)(k:bq)(D:DataW Value)(l:List (Value×Value)):Prop where
 nodup:(l.map Prod.fst).Nodup
 ok:∀p∈l,∃kl,bs P k p.1=some kl
 size:dh D=l.length
 has:∀key kl,bs P k key=some kl->(de D kl=true↔∃p∈l,p.1=key)
 at_:∀p∈l,∀kl,bs P k p.1=some kl->∀z,D.atKey kl z=.held p.2
def lB(P:Program)(k:bq)(w:World)(B:Nat)(l:List (Value×Value)):Prop:=∃D:DataW Value,w.ownsMap P k nQ B l.length D/\Gg P k D l
def jB(P:Program)(k:bq)(w:World)(B r:Nat)(l rest:List (Value×Value)):Prop:=
 (rest.map Prod.fst).Nodup/\(∀p∈rest,p∈l)/\∃D left cnt,w.ranges P k nQ B r l.length D left cnt/\Gg P k D l/\∀key kl,bs P k key=some kl->(left kl=true↔∃p∈rest,p.1=key)
section
variable {P:Program} {k:bq} {w:World} {B:Nat} {l:List (Value×Value)}
theorem Gg.perm{D:DataW Value}{m:List (Value×Value)}(h:Gg P k D l)(O:l.Perm m):Gg P k D m where
 nodup:=(O.map Prod.fst).nodup_iff.1 h.nodup
 ok:=λp hm=>h.ok p (O.mem_iff.2 hm);size:=by rw[h.size,O.length_eq]
 has:=λkey kl U=>(h.has key kl U).trans ⟨λ⟨p,a,b⟩=>⟨p,O.mem_iff.1 a,b⟩,λ⟨p,a,b⟩=>⟨p,O.mem_iff.2 a,b⟩⟩;at_:=λp hm=>h.at_ p (O.mem_iff.2 hm)
theorem lB.perm{m:List (Value×Value)}(h:lB P k w B l)(O:l.Perm m):lB P k w B m:=by
 obtain⟨D,U,Y⟩:=h;exact⟨D,by rw[<-O.length_eq]; exact U,Y.perm O⟩
theorem lB.lt(h:lB P k w B l):B<w.heap.size:=by
 obtain⟨D,O,_⟩:=h;exact O.lt
theorem lB.stay(h:lB P k w B l)(hb:w'.heap[B]?=w.heap[B]?):lB P k w' B l:=by
 obtain⟨D,⟨es,clock,O,U⟩,Y⟩:=h;exact⟨D,⟨es,clock,hb.trans O,U⟩,Y⟩
theorem lB.below(h:lB P k w B l)(hb:Below w.heap.size w w'):lB P k w' B l:=h.stay (hb.block B h.lt)
theorem lB.made(w:World):lB P k (w.alloc (.map #[] 0)) w.heap.size []:=
 ⟨.map [],cO ..,⟨List.Pairwise.nil,nofun,rfl,λ_ _ _=>⟨λh=>(by simp[de]at h),nofun⟩,nofun⟩⟩
theorem lB.put(h:lB P k w B l)(K:Keyed P k)(ht:P.underlying t=some (.map k e))(hn:l.length<bm)(jX:bs P k key=some kl)(O:∀p∈l,p.1≠key)(v:Value) :
  ∃w',(c6 t (.map (some B)) key v).run P w=.ok () w'/\lB P k w' B (l++[(key,v)])/\w.grownBy w' (some B)/\w'.heap.size=w.heap.size:=by
 obtain⟨D,h1,h2⟩:=h;obtain⟨w',hr,ho,aa⟩:=h1.store K ht hn jX (d:=.held v) (ps:=[]) (val:=v) rfl;have hT:=h1.tidy K
 have ad:de D kl=false:=by
  cases hh:de D kl with
  |false=>rfl
  |true=>
   obtain⟨p,U,e⟩:=(h2.has key kl jX).1 hh;exact absurd e (O p U)
 have ab:dh (D.put kl (.held v))=(l++[(key,v)]).length:=by
  rw[size_put hT,ad,h2.size];simp
 refine⟨w',hr,⟨_,by rw[<-ab]; exact Ap ho,⟨?_,?_,ab,?_,?_⟩⟩,aa.grown,?_⟩
 .rw[List.map_append,bJ,List.map_nil,List.nodup_append];refine⟨h2.nodup,by simp,?_⟩;intro a ha b hb;simp only[b8]at hb;subst hb;obtain⟨p,U,rfl⟩:=bE.1 ha;exact O p U
 .intro p U;rcases bA.1 U with h|h
  .exact h2.ok p h
  .simp only[b8]at h; subst h; exact⟨kl,jX⟩
 .intro y ly hy;by_cases e:ly=kl
  .subst e;rw[has_put_same h1.isMap (K.key jX)];exact⟨λ_=>⟨(key,v),by simp,K.inj jX hy⟩,λ_=>rfl⟩
  .rw[has_put_other e,h2.has y ly hy];constructor
   .rintro⟨p,U,e⟩; exact⟨p,List.mem_append_left _ U,e⟩
   .rintro⟨p,U,e2⟩;rcases bA.1 U with h|h
    .exact⟨p,h,e2⟩
    .simp only[b8]at h;subst h;rw[<-e2,jX]at hy;exact absurd (by simpa using hy.symm) e
 .intro p U lp Y z;rcases bA.1 U with h|h
  .have ae:lp≠kl:=λe=>by subst e; exact O p h (K.inj Y jX)
   rw[df ae];exact h2.at_ p h lp Y z
  .simp only[b8]at h;subst h;rw[jX]at Y;simp only[cP]at Y;subst Y;rw[dg h1.isMap (K.key jX)]
 .obtain⟨es,clock,af,ac,_,rfl⟩:=aa;simp[ChangeMaps.setBlock]
theorem jB.owns{rest:List (Value×Value)}(h:jB P k w B r l rest):lB P k w B l:=by
 obtain⟨_,_,D,left,cnt,O,U,_⟩:=h;exact⟨D,O.owns,U⟩
theorem jB.lt{rest:List (Value×Value)}(h:jB P k w B r l rest):r<w.heap.size:=by
 obtain⟨_,_,D,left,cnt,O,U,_⟩:=h;exact O.lt
theorem jB.stay{rest:List (Value×Value)}(h:jB P k w B r l rest)(U:w'.heap[B]?=w.heap[B]?)(Y:w'.heap[r]?=w.heap[r]?):jB P k w' B r l rest:=by
 obtain⟨a,b,D,left,cnt,⟨es,clock,O,seen,c0,g1,g2,g3,g4,g5,g6⟩,h2,h3⟩:=h;exact⟨a,b,D,left,cnt,⟨es,clock,O,seen,c0,U.trans g1,g2,g3,g4,Y.trans g5,g6⟩,h2,h3⟩
theorem lB.range(h:lB P k w B l)(K:Keyed P k)(U:P.underlying t=some (.map k e)) :
  ∃w',(Instr.range t (.map (some B))).run P w=.ok (.pointer (some ⟨w.heap.size,0,none⟩)) w'/\jB P k w' B w.heap.size l l/\w.grownBy w' none/\w'.heap.size=w.heap.size+1:=by
 obtain⟨D,Y,O⟩:=h;obtain⟨w',hr,r1,r2,r3⟩:=Y.range K U;exact⟨w',hr,⟨O.nodup,λ_ h=>h,D,_,_,r1,O,O.has⟩,r2,r3⟩
theorem jB.next{rest:List (Value×Value)}(h:jB P k w B r l rest)(K:Keyed P k)(ty:bq) :
  (rest=[]/\(cB (.pointer (some ⟨r,0,none⟩)) false ty).run P w=.ok (.tuple #[.bool false]) w)\/
  ∃p O w',rest.Perm (p::O)/\(cB (.pointer (some ⟨r,0,none⟩)) false ty).run P w=.ok (.tuple #[.bool true,p.1,p.2]) w'/\jB P k w' B r l O/\w'.rangeLeft B r<w.rangeLeft B r/\
   w.grownBy w' (some r)/\w'.heap.size=w.heap.size/\(cA (.pointer (some ⟨r,0,none⟩))).run P w'=.ok (.tuple #[p.1,p.2]) w':=by
 obtain⟨hn,U,D,left,cnt,h1,h2,h3⟩:=h;rcases h1.next K ty with⟨_,hl,hr⟩|⟨key,v,kl,y,w',ac,jX,ah,hv,ai,hr,ad,aj,hg,hs,ak⟩
 .left;refine⟨?_,hr⟩
  cases rest with
  |nil=>rfl
  |cons p rest=>
   obtain⟨kl,al⟩:=h2.ok p (U p (by simp));have:=(h3 _ kl al).2 ⟨p,by simp,rfl⟩;rw[hl kl]at this;cases this
 .right;obtain⟨p,hp,am⟩:=(h3 key kl jX).1 ah;subst am
  have an:=by
   have e1:=h2.at_ p (U p hp) kl jX (.held v);rw[ai]at e1;simp only[nQ,cP]at hv;rw[<-hv]at e1;simpa using e1
  subst an;obtain⟨x,z,rfl⟩:=List.append_of_mem hp;have Y:(x++p::z).Perm _:=List.perm_middle;have ab:=(Y.map _).nodup_iff.1 hn;rw[bJ,List.nodup_cons]at ab;refine⟨p,x++z,w',Y,hr,⟨ab.2,λq hq=>U q (Y.mem_iff.2 (bI _ hq)),D,_,ac,ad,h2,λae af aa=>?_⟩,?_,hg,hs,ak⟩
  .rw[db,h3 ae af aa];constructor
   .rintro⟨⟨q,hq,e⟩,ag⟩;rcases List.mem_cons.1 (Y.mem_iff.1 hq)with rfl|hq
    .rw[e,aa]at jX;simp only[cP]at jX;subst jX;rw[WideAt.sameKey_self (K.key aa)]at ag;cases ag
    .exact⟨q,hq,e⟩
   .rintro⟨q,hq,e⟩;refine⟨⟨q,Y.mem_iff.2 (bI _ hq),e⟩,?_⟩
    have:af≠kl:=λe2=>by
     subst e2;have:=K.inj aa jX;exact ab.1 (bE.2 ⟨q,hq,e.trans this⟩)
    rw[sameKey_ne this];rfl
  .rw[ad.left_eq,h1.left_eq];exact aj
end
section
variable {P:Program} {k:bq} {B:Nat} {l:List (Value×Value)} (w:World) {ops:Array Oper} {rest:List Oper} {o:Oper} {a:Act} {Q:Exit->Act->World->Prop}
theorem Cy(hg:o.guard=none)(m:Operand)(t:bq)(U:o.op=Op.range t m)(e:bq)(K:Keyed P k)(ht:P.underlying t=some (.map k e))
  (hm:a.eval m=.map (some B)) (h:lB P k w B l)
  (hK:∀w',jB P k w' B w.heap.size l l->w.grownBy w' none->w'.heap.size=w.heap.size+1->bv P ops Q rest (a.put o.dst (.pointer (some ⟨w.heap.size,0,none⟩))) w') :
  bv P ops Q (o::rest) a w:=by
 refine bx hg λK' Y=>?_;obtain⟨w',O,r1,r2,r3⟩:=h.range K ht;unfold Oper.wp;simp[b3,U,hm,O,cH];exact Y _ _ (hK w' r1 r2 r3)
theorem Ed(hg:o.guard=none)(it:Operand)(aa:o.op=Op.next it false)(K:Keyed P k)(r:Nat)(left:List (Value×Value))
  (ab:a.eval it=.pointer (some ⟨r,0,none⟩)) (h:jB P k w B r l left)
  (Y:left=[]->bv P ops Q rest (a.put o.dst (.tuple #[.bool false])) w)
  (hMore:∀p O w',left.Perm (p::O)->jB P k w' B r l O->w'.rangeLeft B r<w.rangeLeft B r->w.grownBy w' (some r)->w'.heap.size=w.heap.size->(cA (.pointer (some ⟨r,0,none⟩))).run P w'=.ok (.tuple #[p.1,p.2]) w'->
    bv P ops Q rest (a.put o.dst (.tuple #[.bool true,p.1,p.2])) w') :
  bv P ops Q (o::rest) a w:=by
 refine bx hg λK' ac=>?_;unfold Oper.wp;rcases h.next K o.type with⟨h0,U⟩|⟨p,O,w',hp,U,ad,ae,af,ag,ah⟩
 .simp[b3,aa,ab,U,cH];exact ac _ _ (Y h0)
 .simp[b3,aa,ab,U,cH];exact ac _ _ (hMore p O w' hp ad ae af ag ah)
theorem I5(hg:o.guard=none)(m x v:Operand)(t:bq)(Y:o.op=Op.mapUpdate t m x v)(e:bq)(K:Keyed P k)(ht:P.underlying t=some (.map k e))
  (hm:a.eval m=.map (some B)) (h:lB P k w B l) (hn:l.length<bm) (jX:bs P k key=some kl) (O:∀p∈l,p.1≠key) (hx:a.eval x=key) (u:Value) (hv:a.eval v=u)
  (hK:∀w',lB P k w' B (l++[(key,u)])->w.grownBy w' (some B)->w'.heap.size=w.heap.size->bv P ops Q rest (a.put o.dst undef) w') :
  bv P ops Q (o::rest) a w:=by
 refine bx hg λK' aa=>?_;obtain⟨w',U,r1,r2,r3⟩:=h.put K ht hn jX O u;unfold Oper.wp;simp[b3,Y,hm,hx,hv,U,cH];exact aa _ _ (hK w' r1 r2 r3)
end
def QS(a b:Nat):Value:=.agg #[.int .i64 (a:Int),.int .i64 (b:Int)]
theorem Tp:(match prog.underlying 170 with|some (.array _ _)|some (.struct _)=>true|_=>false)=true:=by rw[bY]
theorem UA:170<prog.types.size:=of_decide_eq_true (by kernel_rfl)
theorem Ew:Keyed prog 170:=Keyed.of_law (b4 Tryz.tz (m:=2) (by omega) UA (by kernel_rfl) Tp)
theorem KX:prog.cellsOf 170=2:=by kernel_rfl
theorem Qt:prog.cellsOf 3=1:=by kernel_rfl
theorem N8:prog.keyType 170=true:=by kernel_rfl
theorem Ih(d:Nat)(n:Nat)(O:n<4611686018427387904):prog.keyLits (d+1) 3 [.int .i64 (n:Int)]=some [.int .i64 (n:Int)]:=by
 unfold dd;simp[bX,Lit.wf,cT,cU,cS,cR];omega
theorem Tu(a b:Nat)(O:a<4611686018427387904)(hb:b<4611686018427387904):∃l,bs prog 170 (QS a b)=some l:=by
 obtain⟨d,U⟩:=LI;unfold bs QS;rw[N8,U];have Y:(Value.agg #[.int .i64 a,.int .i64 b]).formed prog 170=true:=by simp[dk,bY,KX]
 rw[Y];unfold dd;simp[bY,KX,Qt,dl,Ih d a O,Ih d b hb]
end
end Go.Proofs.YtocbogeoffeolaaGreatDoor
