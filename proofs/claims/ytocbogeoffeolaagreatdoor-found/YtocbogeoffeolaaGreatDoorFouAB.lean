import Derived.Test.YtocbogeoffeolaaGreatDoorFouAA
import Derived.Shelf.Strings.FieldsFuncAny
import Derived.Shelf.Bits.Mul64
import Derived.Shelf.Small.Strs
import Derived.Shelf.SlSortCmp.WholeK
import Derived.Shelf.SlSortCmp.NoneTotal
import Derived.Shelf.SlGeneric
import Derived.Maps.OwnOps
import Derived.DeepKeys4
import Derived.Laws.IdiomCopy
import Derived.Laws.MakeOwn
set_option linter.all false
set_option maxHeartbeats 8000000
set_option maxRecDepth 1000000
open Go renaming cell_later->bk,maxLen->bl,Calls->bm,run_underlying->bn,TypeId->bo,bodyPost_ret->bp,rounds_succ->bq,keyOf->br,results->bs,wp_loop_rounds->bt,wpList->bu,info_parts->bv,wpList_plain->bw,goInt->bx,execOp->bz,deep_law_laid->b3
open List renaming take_succ_eq_append_getElem->b4,getD_eq_getElem?_getD->b5,getElem?_eq_some_iff->b6,getElem?_eq_getElem->b7,mem_singleton->b8,getElem_mem->b9,mem_append->bA,take_of_length_le->bB,length_append->bC,mem_map->bD,pairwise_iff_getElem->bE,getElem?_eq_none->bF,mem_of_mem_drop->bG,mem_cons_of_mem->bH,map_cons->bI
open Nat renaming le_refl->bJ,zero_le->bL,lt_trichotomy->bM,mod_eq_of_lt->bN,div_eq_of_lt->bO,mul_le_mul->bP,zero_add->bQ
open Go.MapKept renaming run_getObj_map->bR,run_setObj_map->bS,stamped_iff->bT
open Go.Instr renaming mapUpdate->bU,lookup->bV,mapEntry->bW,entryStore->bX,entry->bY,next->bZ
open Go.Proofs.Tryz renaming underlying31->ca,underlying141->cb,underlying86->cc,underlying9->cd,underlying3->ce,underlying170->cf,underlying145->cg,underlying143->ch,results95->ci,zeroValue9->cj,zeroValue3->ck,underlying184->cm,zeroValue184->cn,zeroValue141->cp,sizeOf9->ct,sizeOf3->cw,ntmps35->cx,underlying4->cy,underlying0->cz,zeroValue4->c4,zeroValue0->c5,isAgg9->c6,isAgg3->c7,func35->c8
open Array renaming getElem?_modify->c9,getElem?_eq_some_iff->cA,getElem?_setIfInBounds->cB,getElem?_eq_none->cC,ext_getElem?->cD
open Go.Result renaming andThen->cE
open Go.RowKit.Below renaming refl->cF,heap_alloc->cG,heap_setCell->cH
open Go.World renaming cell?_alloc_at->cI,ownsRow_nil->cJ,ownsMap_made->cL
open Option.some renaming injEq->cM
open Go.Sort renaming alloc_eq_grow->cN,grow_grow->cO,mapBlock->cP,putRowK->cQ,putRow->cR
open Go.IntKind renaming wrap_u64->cS,signed->cT,bits->cU,min->cV,max->cW,wrap_u8->cX
open Bool renaming and_eq_true->cY
open Go.Program renaming keyLits->cZ
open Go.RowKit renaming Hid->da
open Go.Maps renaming has->db,atKey_put_other->dc,atKey_put_same->dd,size->de
open Option renaming map->df
open Go.Value renaming ownBlock->dg,formed->di,cells->dj
open UInt8 renaming ofNat->dk
namespace Go.Proofs.YtocbogeoffeolaaGreatDoor
open Go.Proofs.Tryz
section
open Go.Shelf
def vy:Go.Shelf.Ren:=⟨fun|229=>135|n=>n,fun|9=>9|40=>194|31=>31|152=>244|3=>3|0=>0|4=>4|21=>21|154=>246|n=>n,fun|n=>n⟩
theorem Rl:Go.Proofs.Lays.n229 prog vy:={
 mixed:=by kernel_rfl
 f229:=func135.trans (congrArg some (by kernel_rfl)),t0:=cz,a0:=isAgg0,z0:=sizeOf0,v0:=c5,t3:=ce,a3:=c7,z3:=cw,v3:=ck,t4:=cy,a4:=isAgg4,z4:=sizeOf4,v4:=c4,t9:=cd,a9:=c6,z9:=ct,v9:=cj,t21:=underlying21,a21:=isAgg21,z21:=sizeOf21,v21:=zeroValue21,t31:=ca,a31:=isAgg31,z31:=sizeOf31,v31:=zeroValue31,t40:=underlying194,a40:=isAgg194,z40:=sizeOf194,v40:=zeroValue194,t152:=underlying244,a152:=isAgg244,z152:=sizeOf244,v152:=zeroValue244,t154:=underlying246,a154:=isAgg246,z154:=sizeOf246
 v154:=zeroValue246}
def E0:Go.Shelf.Ren:=⟨fun|264=>195|n=>n,fun|53=>141|46=>184|n=>n,fun|n=>n⟩
theorem Jw:Go.Proofs.Lays.n264 prog E0:={
 mixed:=by kernel_rfl
 f264:=func195.trans (congrArg some (by kernel_rfl)),t46:=cm,a46:=isAgg184,z46:=sizeOf184,v46:=cn,t53:=cb,a53:=isAgg141,z53:=sizeOf141
 v53:=cp}
def Fe:Go.Shelf.Ren:=⟨fun|106=>139|213=>197|265=>232|n=>n,fun|9=>9|3=>3|n=>n,fun|n=>n⟩
theorem QE:Go.Proofs.Lays.n106 prog Fe:={
 mixed:=by kernel_rfl
 f106:=func139.trans (congrArg some (by kernel_rfl)),f213:=func197.trans (congrArg some (by kernel_rfl)),f265:=func232.trans (congrArg some (by kernel_rfl)),t3:=ce,a3:=c7,z3:=cw,v3:=ck,t9:=cd,a9:=c6,z9:=ct
 v9:=cj}
def CE:Go.Shelf.Ren:=⟨fun|6=>96|15=>125|14=>137|28=>172|29=>173|20=>187|21=>188|22=>189|23=>190|24=>191|25=>192|26=>193|27=>194|46=>228|47=>219|48=>220|49=>229|50=>230|57=>265|n=>n,fun|22=>145|24=>150|25=>152|3=>3|39=>184|0=>0|53=>229|55=>141|4=>4|46=>222|45=>221|50=>226|5=>5|9=>9|66=>272|70=>276|76=>292|77=>212|n=>n,fun|n=>n⟩
theorem Fz:Go.Proofs.SlLaysF0.n6 prog CE:={
 mixed:=by kernel_rfl
 f6:=⟨f96.name,by decide,func96.trans (congrArg some (by kernel_rfl))⟩,f14:=⟨f137.name,by decide,func137.trans (congrArg some (by kernel_rfl))⟩,f15:=func125.trans (congrArg some (by kernel_rfl)),f20:=⟨f187.name,by decide,func187.trans (congrArg some (by kernel_rfl))⟩,f21:=⟨f188.name,by decide,func188.trans (congrArg some (by kernel_rfl))⟩,f22:=⟨f189.name,by decide,func189.trans (congrArg some (by kernel_rfl))⟩,f23:=⟨Tryz.f190.name,by decide,func190.trans (congrArg some (by kernel_rfl))⟩,f24:=⟨f191.name,by decide,func191.trans (congrArg some (by kernel_rfl))⟩,f25:=⟨f192.name,by decide,func192.trans (congrArg some (by kernel_rfl))⟩,f26:=⟨f193.name,by decide,func193.trans (congrArg some (by kernel_rfl))⟩,f27:=⟨f194.name,by decide,func194.trans (congrArg some (by kernel_rfl))⟩,f28:=func172.trans (congrArg some (by kernel_rfl)),f29:=func173.trans (congrArg some (by kernel_rfl)),f46:=⟨f228.name,by decide,func228.trans (congrArg some (by kernel_rfl))⟩,f47:=func219.trans (congrArg some (by kernel_rfl)),f48:=func220.trans (congrArg some (by kernel_rfl)),f49:=⟨Tryz.f229.name,by decide,func229.trans (congrArg some (by kernel_rfl))⟩,f50:=⟨f230.name,by decide,func230.trans (congrArg some (by kernel_rfl))⟩,f57:=⟨Tryz.f265.name,by decide,func265.trans (congrArg some (by kernel_rfl))⟩,t0:=cz,a0:=isAgg0,z0:=sizeOf0,v0:=c5,t3:=ce,a3:=c7,z3:=cw,v3:=ck,t4:=cy,a4:=isAgg4,z4:=sizeOf4,v4:=c4,t5:=underlying5,a5:=isAgg5,z5:=sizeOf5,v5:=zeroValue5,t9:=cd,a9:=c6,z9:=ct,v9:=cj,t22:=cg,a22:=isAgg145,z22:=sizeOf145,v22:=zeroValue145,t25:=underlying152,a25:=isAgg152,z25:=sizeOf152,v25:=zeroValue152,t39:=cm,a39:=isAgg184,z39:=sizeOf184,v39:=cn,t45:=underlying221,a45:=isAgg221,z45:=sizeOf221,v45:=zeroValue221,t46:=underlying222,a46:=isAgg222,z46:=sizeOf222,v46:=zeroValue222,t50:=underlying226,a50:=isAgg226,z50:=sizeOf226,v50:=zeroValue226,t53:=underlying229,a53:=isAgg229,z53:=sizeOf229,v53:=zeroValue229,t55:=cb,a55:=isAgg141,z55:=sizeOf141,v55:=cp,t66:=underlying272,a66:=isAgg272,z66:=sizeOf272,v66:=zeroValue272,t70:=underlying276,a70:=isAgg276,z70:=sizeOf276,v70:=zeroValue276,t76:=underlying292,a76:=isAgg292,z76:=sizeOf292,v76:=zeroValue292,t77:=underlying212,a77:=isAgg212,z77:=sizeOf212
 v77:=zeroValue212}
end
section
open Go.RowKit
theorem Ho(x:Nat)(h:x<128):((dk x).toNat:Int)=(x:Int):=by
 rw[UInt8.toNat_ofNat'];omega
theorem Ls(x:Nat)(U:x<=1114111)(W:World):FnGives prog 136 #[] #[encR x] (.bool (ow x)) W:=by
 show bm prog 136 #[.int .i32 (x:Int)] W _;by_cases h:x<128
 .have Y:(decide (128<=(x:Int)))=false:=by simp;omega
  have O:ow x = !eB (dk x):=by unfold ow;rw[decide_eq_false (by omega)];rfl
  have hc:IntKind.u8.wrap (x:Int)=((dk x).toNat:Int):=by rw[Ho x h,cX];omega
  rw[O];generalize dk x=c at *;go_enter func136,ntmps136;go_wp2_with fail;refine(mH c _).mono ?_;rintro e w' ⟨rfl,rfl⟩;go_wp2;go_ret;exact⟨rfl,0,rfl⟩
 have O:ow x=true:=by unfold ow;rw[decide_eq_true (by omega)];rfl
 go_wp2;go_ret;exact⟨rfl,0,rfl⟩
theorem Tf:(prog.info? (vy.t 154)).map (λi=>(i.zero,i.size,i.bytes))=some (some (.agg #[.int .i64 0,.int .i64 0]),2,16):=by kernel_rfl
theorem I5(f:ByteArray)(w:World)(Y:∀k(h:k<f.size),(f[k]'h).toNat<128)(hs:f.size<=4294967296) :
  bm prog 94 #[.string f] w λe w'=>∃v,e=.returned v/\w'.ownsRow w.heap.size 9 1 v (iN f.data.toList).length (dn (iN f.data.toList))/\Below w.heap.size w w':=by
 have O:=Any.strings_FieldsFunc_runes Rl _ _ (enters_of func136 (by kernel_rfl) rfl) ow f w hs (λW x hx _=>Ls x hx W) Tf tW;rw[DD f Y,FI,List.length_map]at O;go_enter func94,ntmps94;go_wp2_with (refine O.mono ?_;rintro e w' ⟨A,rfl,hA,U,hb⟩);go_ret;exact⟨_,rfl,U,hb⟩
theorem IB(s:ByteArray)(O:eu s.data.toList=true):∀k(h:k<(⟨(dO s.data.toList).toArray⟩:ByteArray).size),((⟨(dO s.data.toList).toArray⟩:ByteArray)[k]'h).toNat<128:=by
 intro k h;have hm:=Di _ k h;generalize (⟨(dO _).toArray⟩:ByteArray)[k]'h=x at hm⊢;obtain⟨c,U,rfl⟩:=bD.1 hm;simp only[eu,cY]at O;have W:=List.all_eq_true.1 O.2 c U;simp only[oA,decide_eq_true_eq]at W;unfold qP;split;rw[UInt8.toNat_add];have:(32:UInt8).toNat=32:=rfl;omega;omega
theorem wB(s:ByteArray)(w:World)(W:eu s.data.toList=true) :
  bm prog 67 #[.string s] w λe w'=>∃v,e=.returned v/\w'.ownsRow w.heap.size 9 1 v (iN (dO s.data.toList)).length (dn (iN (dO s.data.toList)))/\Below w.heap.size w w':=by
 have hs:=by
  have:=by simp only[eu,cY,decide_eq_true_eq]at W;exact W.1
  simpa using this
 have Y:=IB s W
 have aa:(⟨(dO s.data.toList).toArray⟩:ByteArray).size<=4294967296:=by
  show(dO _).length<=_;rw[fx];have:s.data.toList.length=s.size:=by simp
  omega
 go_enter func67,ntmps67;go_wp2_with fail;refine(oL s w (by omega)).mono ?_;rintro e w1 ⟨rfl,O⟩;go_wp2_with fail;refine(I5 _ w1 Y aa).mono ?_;rintro e w2 ⟨v,rfl,U,ab⟩;go_wp2;go_ret;refine⟨_,rfl,jH U O.size,O.trans (ab.mono O.size)⟩
open Go.Maps
variable {ws ws':List Wd} {f:List Wd->Nat} {B n:Nat} {w w':World}
def nP(ws:List Wd):Value:=.agg #[.string ⟨(ws.getD 0 []).toArray⟩,.string ⟨(ws.getD 1 []).toArray⟩,.string ⟨(ws.getD 2 []).toArray⟩]
def lC(ws:List Wd):Prop:=ws.length<=3/\∀x∈ws,x≠[]/\x.length<=24
theorem Tryz.qF:laidOutB prog=true:=by kernel_rfl
theorem QP:(match prog.underlying 143 with|some (.array _ _)|some (.struct _)=>true|_=>false)=true:=by rw[ch]
theorem Om:143<prog.types.size:=of_decide_eq_true (by kernel_rfl)
theorem pq:Keyed prog 143:=Keyed.of_law (b3 Tryz.qF (m:=2) (by omega) Om (by kernel_rfl) QP)
theorem Fg:prog.cellsOf 143=3:=by kernel_rfl
theorem Np:prog.cellsOf 9=1:=by kernel_rfl
theorem Hu:prog.keyType 143=true:=by kernel_rfl
theorem Jx(w:World):(zeroValue 141).run prog w=.ok (.int .u64 0) w:=by kernel_rfl
theorem JM:∃d,prog.types.size=d+1:=⟨prog.types.size-1,by have:=Om;omega⟩
theorem ze(d:Nat)(s:ByteArray)(O:s.size<=bl):prog.keyLits (d+1) 9 [.string s]=some [.string s.data.toList]:=by
 unfold cZ;simp[cd,O]
theorem O1(a b c:ByteArray)(O:a.size<=bl)(hb:b.size<=bl)(U:c.size<=bl):∃l,br prog 143 (.agg #[.string a,.string b,.string c])=some l:=by
 obtain⟨d,W⟩:=JM;unfold br;rw[Hu,W];have Y:(Value.agg #[.string a,.string b,.string c]).formed prog 143=true:=by simp[di,ch,Fg]
 rw[Y];unfold cZ;simp[ch,Fg,Np,dj,List.range,List.range.loop,ze d a O,ze d b hb,ze d c U]
theorem Pz(h:lC ws)(j:Nat):(ws.getD j []).length<=24:=by
 by_cases O:j<ws.length;rw[b5,b7 O];exact(h.2 _ (b9 O)).2;rw[b5,bF (by omega)];simp
theorem size_le(h:lC ws)(j:Nat):(⟨(ws.getD j []).toArray⟩:ByteArray).size<=bl:=by
 have:=Pz h j;show(ws.getD j []).length<=bl;unfold bl;omega
theorem Db(h:lC ws):∃l,br prog 143 (nP ws)=some l:=O1 _ _ _ (size_le h 0) (size_le h 1) (size_le h 2)
theorem Nr(h:lC ws)(h':lC ws')(e:nP ws=nP ws'):ws=ws':=by
 unfold nP at e;simp only[Value.agg.injEq,Array.mk.injEq,List.cons.injEq,Value.string.injEq,ByteArray.mk.injEq,and_true]at e;obtain⟨O,U,Y⟩:=e;obtain⟨h1,h2⟩:=h;obtain⟨aa,W⟩:=h';match ws,ws' with
 |[],[]=>rfl|[],y::_=>have:=(W y (by simp)).1;simp at O;exact absurd O this|x::_,[]=>have:=(h2 x (by simp)).1;exact absurd O this|[x],[y]=>simp at O;rw[O]|[_],_::y::_=>have:=(W y (by simp)).1;simp at U;exact absurd U this|_::x::_,[_]=>have:=(h2 x (by simp)).1;exact absurd U this|[x,x'],[y,y']=>simp at O U;rw[O,U]|[_,_],_::_::y::_=>have:=(W y (by simp)).1;simp at Y;exact absurd Y this|_::_::x::_,[_,_]=>have:=(h2 x (by simp)).1;exact absurd Y this|[x,x',x''],[y,y',y'']=>simp at O U Y;rw[O,U,Y]|_::_::_::_::_,_=>simp at h1|_,_::_::_::_::_=>simp at aa
theorem S5{l W:Lit}(h:lC ws)(Y:lC ws')(hl:br prog 143 (nP ws)=some l)(O:br prog 143 (nP ws')=some W)(U:ws'≠ws):W≠l:=by
 intro e;rw[e]at O;exact U (Nr Y h (pq.inj O hl))
def eD(w:World)(B n:Nat)(f:List Wd->Nat):Prop:=
 ∃D:DataW Unit,w.ownsMap prog 143 (plainElem prog 141) B n D/\∀ws l,lC ws->br prog 143 (nP ws)=some l->D.atKey l (.lit (.int .u64 0))=.lit (.int .u64 (f ws:Nat))
theorem eD.made(w:World):eD (w.alloc (.map #[] 0)) w.heap.size 0 (λ_=>0):=⟨.map [],cL ..,λ_ _ _ _=>rfl⟩
theorem eD.stay(h:eD w B n f)(hb:w'.heap[B]?=w.heap[B]?):eD w' B n f:=by
 obtain⟨D,⟨es,clock,O,U⟩,W⟩:=h;exact⟨D,⟨es,clock,hb.trans O,U⟩,W⟩
theorem eD.lt(h:eD w B n f):B<w.heap.size:=by
 obtain⟨D,O,_⟩:=h;exact O.lt
theorem eD.mono{m:Nat}{g:List Wd->Nat}(h:eD w B n f)(U:n<=m)(W:∀ws,lC ws->f ws=g ws):eD w B m g:=by
 obtain⟨D,Y,h2⟩:=h;exact⟨D,Y.mono U,λws l O hl=>by rw[h2 ws l O hl,W ws O]⟩
theorem eD.below(h:eD w B n f)(hb:Below w.heap.size w w'):eD w' B n f:=h.stay (hb.block B h.lt)
theorem eD.look(h:eD w B n f)(W:lC ws):(bV 86 (.map (some B)) (nP ws) false).run prog w=.ok (.int .u64 (f ws:Nat)) w:=by
 obtain⟨D,h1,h2⟩:=h;obtain⟨l,Y⟩:=Db W;obtain⟨c,U,O,_⟩:=h1.lookup_int pq cc cb (Jx w) Y;rw[h2 ws l W Y]at O;simp only[DataW.lit.injEq,Lit.int.injEq,true_and]at O;rw[U,<-O]
theorem eD.put(h:eD w B n f)(Y:lC ws)(hn:n<bl)(v:Nat)(hv:v<18446744073709551616) :
  ∃w',(bU 86 (.map (some B)) (nP ws) (.int .u64 (v:Nat))).run prog w=.ok () w'/\eD w' B (n+1) (λx=>if x=ws then v else f x)/\w.grownBy w' (some B):=by
 obtain⟨D,h1,h2⟩:=h;have hw:(Lit.int .u64 v).wf=true:=by simp[Lit.wf,cV,cW,cU,cT];omega
 obtain⟨l,W⟩:=Db Y;obtain⟨w',U,ho,hg⟩:=h1.update pq cc hn W (plainElem_int cb hw);refine⟨w',U,⟨_,ho,λx lx hx O=>?_⟩,hg⟩;show _=DataW.lit (Lit.int _ ((if x=ws then v else f x:Nat)));by_cases e:x=ws;subst e;rw[W]at O;simp only[cM]at O;subst O;rw[if_pos rfl,dd h1.isMap (pq.key W)];rw[if_neg e,dc (S5 Y hx W O e)];exact h2 x lx hx O
open Go.ChangeMaps Go.WideElems
variable {kl:Lit} {x y:MapEntry} {s:Nat} {key:Value}
def xy(w:World)(B:Nat)(s:Nat)(key:Value):Prop:=∃(es:Array MapEntry)(clock i:Nat)(e:MapEntry),w.heap[B]?=some (.map es clock)/\es[i]?=some e/\e.key=key/\e.born=s
section
variable {H:Type} {P:Program} {k:bo} {R:Value->Option (DataW H×List MemPlace)} {es:Array MapEntry} {clock:Nat} {w:World} {t e:bo} {b:Nat}
theorem vZ{es:Array MapEntry}{j:Nat}{O:MapEntry}(U:es[j]?=some O)(f g:MapEntry->MapEntry)(h:f O=g O):es.modify j f=es.modify j g:=by
 apply cD;intro i;rw[c9,c9];by_cases hi:j=i;subst hi;rw[U];simp[h];rw[if_neg hi,if_neg hi]
theorem CC(K:Keyed P k)(U:P.underlying t=some (.map k e)){z:Value}(hz:(zeroValue e).run P w=.ok z w)(hb:w.heap[b]?=some (.map es clock))(F:Fit P k R es clock)(gK:br P k key=some kl) :
  ∃v s w',(bV t (.map (some b)) key false).run P w=.ok v w/\(bW t (.map (some b)) key).run P w=.ok (.tuple #[v,bx (s:Nat)]) w'/\(bU t (.map (some b)) key v).run P w=.ok () w'/\xy w' b s key:=by
 rcases K.find w gK es.toList F.keys with⟨O,h2⟩|⟨j,W,O,h2,h3⟩
 refine⟨z,clock,setBlock w b (.map (es.push ⟨key,z,clock⟩) (clock+1)),?_,?_,?_,?_⟩;simp[bV,bn U,bR hb,K.check w _ gK,O,hz,cE];simp[bW,bn U,bR hb,K.check w false gK,O,hz,bS _ hb,cE,setBlock];simp[bU,bn U,bR hb,K.check w false gK,O,bS _ hb,cE,setBlock];exact⟨_,_,es.size,⟨key,z,clock⟩,heap_setBlock_same hb _,by simp,rfl,rfl⟩;have Y:=by simpa using h2
 refine⟨W.val,W.born,setBlock w b (.map (es.modify j λe=>{e with key:=key}) clock),?_,?_,?_,?_⟩;simp[bV,bn U,bR hb,K.check w _ gK,O,cE];simp[bW,bn U,bR hb,K.check w false gK,O,Y,h3,K.stays w gK,bS _ hb,cE,setBlock];rw[vZ Y _ (λe=>{e with key:=key,val:=W.val}) (by simp)];simp[bU,bn U,bR hb,K.check w false gK,O,Y,h3,K.stays w gK,bS _ hb,cE,setBlock];refine⟨_,_,j,{W with key:=key},heap_setBlock_same hb _,?_,rfl,rfl⟩;rw[c9,if_pos rfl,Y]
 first|rfl|skip
theorem born_inj{es:Array MapEntry}(Y:(es.toList.map (·.born)).Nodup){i j:Nat}(hi:es[i]?=some x)(hj:es[j]?=some y)(h:x.born=y.born):i=j:=by
 have U:es.toList[i]?=some x:=by simpa using hi
 have W:es.toList[j]?=some y:=by simpa using hj
 obtain⟨a1,a2⟩:=b6.1 U;obtain⟨b1,b2⟩:=b6.1 W;rw[List.Nodup,List.pairwise_map]at Y;have hp:=bE.1 Y;rcases bM i j with O|O|O
 exact absurd (by rw[a2,b2];exact h) (hp i j a1 b1 O);exact O;exact absurd (by rw[a2,b2];exact h.symm) (hp j i b1 a1 O)
theorem key_inj{es:Array MapEntry}(hn:es.toList.Pairwise λx y=>x.key≠y.key){i j:Nat}(hi:es[i]?=some x)(hj:es[j]?=some y)(h:x.key=y.key):i=j:=by
 have U:es.toList[i]?=some x:=by simpa using hi
 have W:es.toList[j]?=some y:=by simpa using hj
 obtain⟨a1,a2⟩:=b6.1 U;obtain⟨Y,b2⟩:=b6.1 W;have hp:=bE.1 hn;rcases bM i j with O|O|O
 exact absurd (by rw[a2,b2];exact h) (hp i j a1 Y O);exact O;exact absurd (by rw[a2,b2];exact h.symm) (hp j i Y a1 O)
theorem zo(K:Keyed P k)(ht:P.underlying t=some (.map k e))(hb:w.heap[b]?=some (.map es clock))(F:Fit P k R es clock){v:Value}(gK:br P k key=some kl)(hE:xy w b s key) :
  ∃w',(bX t (.map (some b)) (bx (s:Nat)) v).run P w=.ok () w'/\(bU t (.map (some b)) key v).run P w=.ok () w':=by
 obtain⟨ae,Y,i,e0,O,hi,hk,hs⟩:=hE;rw[hb]at O;obtain⟨rfl,rfl⟩:=O;have U:=(bT es clock).1 F.stamped
 have W:es.findIdx? (λe=>(e.born:Int)==s)=some i:=by
  obtain⟨aa,ab⟩:=cA.1 hi;rw[Array.findIdx?_eq_some_iff_getElem];refine⟨aa,by rw[ab];simp[hs],λj hj=>?_⟩;simp only[Bool.not_eq_true,beq_eq_false_iff_ne,ne_eq];intro hh;have ac:j<es.size:=by omega
  have:=born_inj U.2.1 (i:=j) (j:=i) (Array.getElem?_eq_getElem ac) hi (by omega);omega
 rcases K.find w gK _ F.keys with⟨h1,h2⟩|⟨j,e1,h1,h2,h3⟩
 exact absurd hk (h2 e0 (List.mem_of_getElem? (by simpa using hi)));have hj:=by simpa using h2
 have ad:=key_inj U.2.2 hi hj (by rw[hk,h3]);subst ad;refine⟨setBlock w b (.map (es.modify i λe=>{e with val:=v}) clock),?_,?_⟩;simp[bX,bR hb,asInt,asIntOf,bx,W,bS _ hb,cE,setBlock];rw[vZ hj _ (λe=>{e with key:=key,val:=v}) (by simp[h3])];simp[bU,bn ht,bR hb,K.check w false gK,h1,hj,h3,K.stays w gK,bS _ hb,cE,setBlock]
end
theorem eD.entry{w:World}(h:eD w B n f)(O:lC ws)(Y:n<bl)(hv:f ws<18446744073709551616) :
  ∃s w',(bW 86 (.map (some B)) (nP ws)).run prog w=.ok (.tuple #[.int .u64 (f ws:Nat),bx (s:Nat)]) w'/\xy w' B s (nP ws)/\eD w' B (n+1) f/\w.grownBy w' (some B):=by
 have hl:=h.look O;obtain⟨D,⟨es,clock,hb,F,hs,hD⟩,h2⟩:=id h;obtain⟨l,U⟩:=Db O;obtain⟨v,s,w',g1,g2,g3,g4⟩:=CC pq cc (Jx w) hb F U;rw[hl]at g1;simp only[Result.ok.injEq,and_true]at g1;subst g1;obtain⟨aa,W,p2,p3⟩:=h.put O Y _ hv;rw[g3]at W;simp only[Result.ok.injEq,true_and]at W;subst W;refine⟨s,w',g2,g4,p2.mono (bJ _) (λx _=>?_),p3⟩;by_cases e:x=ws;subst e;simp;rw[if_neg e]
theorem eD.store{w:World}(h:eD w B n f)(W:lC ws)(Y:n<bl)(hE:xy w B s (nP ws))(v:Nat)(hv:v<18446744073709551616) :
  ∃w',(bX 86 (.map (some B)) (bx (s:Nat)) (.int .u64 (v:Nat))).run prog w=.ok () w'/\eD w' B (n+1) (λx=>if x=ws then v else f x)/\w.grownBy w' (some B):=by
 obtain⟨D,⟨es,clock,hb,F,hs,hD⟩,h2⟩:=id h;obtain⟨l,O⟩:=Db W;obtain⟨w',g1,g2⟩:=zo (v:=.int _ v) pq cc hb F O hE;obtain⟨aa,U,p2,p3⟩:=h.put W Y v hv;rw[g2]at U;simp only[Result.ok.injEq,true_and]at U;subst U;exact⟨w',g1,p2,p3⟩
end
section
open Go.RowKit Go.Maps
theorem Gf:(prog.info? 9).map (·.size)=some 1:=by kernel_rfl
def mB:Obj:=.cells #[.string ⟨#[]⟩,.string ⟨#[]⟩,.string ⟨#[]⟩] 143
def As(ws:List Wd)(j:Nat):Value:=.string ⟨(ws.getD j []).toArray⟩
theorem A4{b:Nat}{t:bo}{fz:Nat×Nat}:∀(vs:List Value)(o:Nat)(w:World)(cs:Array Value),w.heap[b]?=some (.cells cs t fz)->
  ∃cs',(w.setCells b o vs).heap[b]?=some (.cells cs' t fz)/\cs'.size=cs.size/\(∀j,j<o\/o+vs.length<=j->cs'[j]?=cs[j]?)/\(∀j,o+j<cs.size->j<vs.length->cs'[o+j]?=vs[j]?):=by
 intro vs;induction vs with
 |nil=>intro o w cs h;exact⟨cs,h,rfl,λ_ _=>rfl,nofun⟩|cons v vs Y=>
  intro o w cs h;obtain⟨cs',h1,h2,W,h4⟩:=Y _ _ _ (heap_set h o v);refine⟨cs',h1,by simpa using h2,λj O=>?_,λj O U=>?_⟩;rw[W j (by simp at O;omega)];simp only[cB];rw[if_neg (by simp at O;omega)]
  cases j with
  |zero=>
   rw[W _ (by omega)];simp only[cB,Nat.add_zero,if_true,List.getElem?_cons_zero];rw[if_pos (by omega)]
  |succ j=>
   have:=h4 j (by simp;omega) (by simpa using U);rw[show o+(j+1)=o+1+j by omega,this];simp
theorem yB{b:Nat}:∀(vs:List Value)(o:Nat)(w:World)(k:Nat),k≠b->(w.setCells b o vs).heap[k]?=w.heap[k]?:=by
 intro vs;induction vs with
 |nil=>intro o w k _;rfl|cons v vs U=>
  intro o w k O;rw[World.setCells,U _ _ k O,cH _ _ _ _ O]
theorem yl{b B:Nat}{w0:World}(O:B<=b):∀(vs:List Value)(o:Nat)(w:World),Below B w0 w->Below B w0 (w.setCells b o vs):=by
 intro vs;induction vs with
 |nil=>intro o w h;exact h|cons v vs U=>
  intro o w h;exact U _ _ (h.setCell O _)
theorem nI(w:World)(o:Obj):(w.alloc o).heap[w.heap.size]?=some o:=by simp[World.alloc,-World.alloc_eq]
theorem Ht(w:World)(a:Option Addr)(c:Nat)(ws:List Wd)(hr:∀j u,(dn ws)[j]?=some u->∃b off,a=some ⟨b,off,none⟩/\w.cell? ⟨b,off+j,none⟩=some u)(h3:ws.length<=3) :
  ∃W2 v,(Builtin.copy_ #[31,31] 3 #[.slice (some ⟨w.heap.size+1,0,none⟩) 3 3,.slice a ws.length c]).run prog ((w.alloc mB).alloc mB)=.ok v W2/\
   W2.heap[w.heap.size+1]?=some (.cells #[As ws 0,As ws 1,As ws 2] 143 (0,0))/\W2.heap[w.heap.size]?=some (.cells #[.string ⟨#[]⟩,.string ⟨#[]⟩,.string ⟨#[]⟩] 143 (0,0))/\Below w.heap.size w W2:=by
 have hb:Below w.heap.size w ((w.alloc mB).alloc mB):=((cF _ _).alloc (bJ _) _).alloc (by simp) _
 have O:((w.alloc mB).alloc mB).heap[w.heap.size+1]?=some (.cells #[.string ⟨#[]⟩,.string ⟨#[]⟩,.string ⟨#[]⟩] 143 (0,0)):=by
  have e:w.heap.size+1=(w.alloc mB).heap.size:=by simp
  rw[e];exact nI _ _
 have W:((w.alloc mB).alloc mB).heap[w.heap.size]?=some (.cells #[.string ⟨#[]⟩,.string ⟨#[]⟩,.string ⟨#[]⟩] 143 (0,0)):=by
  rw[cG _ _ _ (by simp)];exact nI _ _
 by_cases h0:ws=[];subst h0;exact⟨_,_,run_copy_none (P:=prog) _ _ _ _ 9 _ _ 3 3 0 c ca Gf rfl,O,W,hb⟩;have Y:0<ws.length:=List.length_pos_iff.2 h0;obtain⟨b,o,rfl,_⟩:=hr 0 _ (gU ws 0 Y)
 have aa:=run_copy_cells (P:=prog) ((w.alloc mB).alloc mB) 31 31 3 9 (w.heap.size+1) 0 3 3 ⟨b,o,none⟩ ws.length c (dn ws) ca Gf (by rw[dD];simp[Nat.min_def];omega)
  (λj v U=>by
    obtain⟨b',o',e,hc⟩:=hr j v U;simp only[cM,Addr.mk.injEq]at e;obtain⟨rfl,rfl,_⟩:=e
    have e2:(⟨b,o,none⟩:Addr).add j=⟨b,o+j,none⟩:=by
     unfold Addr.add;split;rename_i h;rw[h];rfl;rfl
    rw[e2]
    exact bk hb hc)
  (λj U=>by
    rw[dD]at U;rw[dh O];have:j<3:=by omega
    match j,this with
    |0,_=>rfl|1,_=>rfl|2,_=>rfl)
  (λj _=>dI O _) kD
 obtain⟨cs',g1,g2,g3,g4⟩:=A4 (dn ws) 0 _ _ O;refine⟨_,_,aa,?_,?_,?_⟩;rw[g1];congr 1;congr 1;apply cD;intro j;by_cases U:j<ws.length;have:=g4 j (by simp;omega) (by rw[dD];exact U);rw[bQ]at this;rw[this,CW ws j U];have:j<3:=by omega
 match j,this with
 |0,_=>rfl|1,_=>rfl|2,_=>rfl
 rw[g3 j (Or.inr (by rw[dD];omega))];have hg:ws.getD j []=[]:=by rw[b5,bF (by omega)];rfl
 by_cases ab:j<3;match j,ab with
 |0,_=>unfold As;rw[hg];rfl|1,_=>unfold As;rw[hg];rfl|2,_=>unfold As;rw[hg];rfl
 rw[cC (by simp;omega),cC (by simp;omega)];rw[yB _ _ _ _ (by omega)];exact W;exact yl (by omega) _ _ _ hb
theorem uX(v:Value)(ws:List Wd)(w:World)(Y:Rd w v (dn ws))(h3:ws.length<=3) :
  bm prog 93 #[v] w λe w'=>e=.returned (nP ws)/\Below w.heap.size w w':=by
 obtain⟨a,c,rfl,hc,hm,hr⟩:=Y;rw[dD]at hc⊢;obtain⟨O,v2,hcp,W,U,hb⟩:=Ht w a c ws hr h3;unfold mB at hcp;have c0:O.cell? ⟨w.heap.size+1,0,none⟩=some (As ws 0):=dh W 0;have c1:O.cell? ⟨w.heap.size+1,1,none⟩=some (As ws 1):=dh W 1;have c2:O.cell? ⟨w.heap.size+1,2,none⟩=some (As ws 2):=dh W 2;have d0:O.cell? ⟨w.heap.size,0,none⟩=some (.string ⟨#[]⟩):=dh U 0;have d1:O.cell? ⟨w.heap.size,1,none⟩=some (.string ⟨#[]⟩):=dh U 1;have d2:O.cell? ⟨w.heap.size,2,none⟩=some (.string ⟨#[]⟩):=dh U 2;have f0:O.frozen? ⟨w.heap.size,0,none⟩=false:=dI U 0;have f1:=dI U 1;have f2:=dI U 2;unfold As at *;go_wp2;refine bp (v:=.agg _) (by simp[bs,results93,go_sem,d0,d1,d2]) rfl ⟨rfl,?_⟩;exact((hb.setCell (bJ _) _).setCell (bJ _) _).setCell (bJ _) _
theorem Lt(v:Value)(ws:List Wd)(x:Wd)(w:World)(hv:Rd w v (dn ws)) :
  bm prog 186 #[v,.string ⟨x.toArray⟩] w λe w'=>(∃z:Int,e=.returned (.int .i64 z)/\(0<=z↔x∈ws))/\w=w':=by
 obtain⟨a,c,rfl,hc,hm,W⟩:=hv;rw[dD]at hc⊢;unfold bl at hm;go_enter func186,ntmps186;go_wp2;go_loop [8] (λi=>∃k:Nat,k<=ws.length/\i=.int .i64 k/\x ∉ ws.take k) (λi=>ws.length-(intOf i).toNat)
 case atStart=>exact⟨0,bL _,rfl,by simp⟩
 case round=>
  obtain⟨k,hk,rfl,U⟩:=hrel;have HN:da _:=U;clear U;by_cases O:k<ws.length
  .obtain⟨b,o,rfl,h0⟩:=W k _ (gU ws k O);have HM:da (ws[k]∈ws):=b9 O;have HT:da (ws.take (k+1)=ws.take k++[ws[k]]):=b4 O;have HR:da _:=W;clear W;generalize ws[k]=y at *;by_cases Y:x=y
   .subst Y;go_wp2;go_ret;exact⟨⟨k,rfl,⟨λ_=>HM.out,λ_=>by omega⟩⟩,rfl⟩
   have hb:(x==y)=false:=by simpa using Y
   have HX:da _:=Y;go_wp2;go_round
   case rel=>exact⟨k+1,by omega,by go_num,by rw[HT.out,bA,b8];rintro(h|h);exact HN.out h;exact HX.out h⟩
   case measure=>simp[intOf];omega
  go_wp2;go_ret;refine⟨⟨-1,rfl,⟨λh=>absurd h (by omega),λh=>?_⟩⟩,rfl⟩;have:=HN.out;rw[bB (by omega)]at this;exact absurd h this
theorem Ds(v:Value)(ws:List Wd)(x:Wd)(w:World)(hv:Rd w v (dn ws)) :
  bm prog 134 #[v,.string ⟨x.toArray⟩] w λe w'=>e=.returned (.bool (decide (x∈ws)))/\w=w':=by
 have O:=Lt v ws x w hv;go_enter func134,ntmps134;go_wp2_with fail;refine O.mono ?_;rintro e w' ⟨⟨z,rfl,Y⟩,rfl⟩;by_cases U:x∈ws
 .have W:da _:=decide_eq_true U;go_wp2;go_ret;exact⟨dM (by rw[W.out]),rfl⟩
 have h0:=λh=>U (Y.1 h);have W:da _:=decide_eq_false U;clear O Y U;go_wp2;go_ret;exact⟨dM (by rw[W.out];exact decide_eq_false (by omega)),rfl⟩
theorem EA(b o B n:Nat)(f:List Wd->Nat)(kn:List Wd)(v:Value)(ws:List Wd)(w:World)(hB:w.cell? ⟨b,o,none⟩=some (.map (some B)))(hC:eD w B n f)(hv:Rd w v (dn ws))
  (ag:∀x∈ws,x≠[]/\x.length<=24) (hf:∀x∈ws,f [x]=0↔x ∉ kn) (hl:ws.length<=1000) :
  bm prog 92 #[.pointer (some ⟨b,o,none⟩),v] w λe w'=>∃u,e=.returned u/\w'.ownsRow w.heap.size 9 1 u (fZ kn ws ws.length).length (dn (fZ kn ws ws.length))/\Below w.heap.size w w':=by
 obtain⟨a,c,rfl,hc,hm,hr⟩:=hv;rw[dD]at hc⊢;unfold bl at hm;obtain⟨i0,hi,ah,ai,aj⟩:=bv tW;go_enter func92,ntmps92;go_wp2;go_loopw [5,10] (λu i wr=>∃k:Nat,k<=ws.length/\i=.int .i64 k/\wr.ownsRow w.heap.size 9 1 u (fZ kn ws k).length (dn (fZ kn ws k))/\Below w.heap.size w wr) (λ_ i _=>ws.length-(intOf i).toNat)
 case atStart=>exact⟨0,bL _,rfl,cJ _ _ _ _,cF _ _⟩
 case round=>
  obtain⟨k,hk,rfl,O,hb⟩:=hrel;have HS:=hb.size;have al:=(Af kn ws k hk).2.2;by_cases aa:k<ws.length
  .obtain⟨ba,oa,rfl,h0⟩:=hr k _ (gU ws k aa);have HE:da (fZ kn ws (k+1)=if ws[k]∈kn\/ws[k]∈fZ kn ws k then fZ kn ws k else fZ kn ws k++[ws[k]]):=xP kn ws k aa;have hx:=ag _ (b9 aa);have ab:=hf _ (b9 aa);generalize ws[k]=x at *;have am:=bk hb h0;have an:=bk hb hB;have U:=(hC.below hb).look (ws:=[x]) ⟨by simp,by simpa using hx⟩;rw[show nP [x]=.agg #[.string ⟨x.toArray⟩,.string ⟨#[]⟩,.string ⟨#[]⟩]from rfl]at U;have HR:da _:=hr;clear hr h0;obtain⟨au,cu,rfl,ao⟩:=dK O;by_cases W:f [x]=0
   .have HK:da (x ∉ kn):=ab.1 W;rw[W]at U;have af:(bV 86 (.map (some B)) (.agg #[.string ⟨x.toArray⟩,.string ⟨#[]⟩,.string ⟨#[]⟩]) false).run prog wr=.ok (.int .u64 0) wr:=U;clear U W ab;have ac:=Ds _ (fZ kn ws k) x wr (Rd.jb O);go_wp2_with fail;refine ac.mono ?_;rintro e w' ⟨rfl,rfl⟩;clear ac;by_cases Y:x∈fZ kn ws k
    .have HE2:da (fZ kn ws (k+1)=fZ kn ws k):=by show _=_;rw[HE.out,if_pos (Or.inr Y)]
     rw[decide_eq_true Y];clear Y;go_wp2;go_roundw
     case rel=>exact⟨k+1,by omega,by go_num,by rw[HE2.out];exact O,hb⟩
     case measure=>simp[intOf];omega
    have HE2:da (fZ kn ws (k+1)=fZ kn ws k++[x]):=by show _=_;rw[HE.out,if_neg (by rintro(h|h);exact HK.out h;exact Y h)]
    rw[decide_eq_false Y];clear Y
    go_wp2_with (first
     |(at_builtin;refine fp _ rfl _ _ 31 rfl w.heap.size 9 i0 (.string ⟨#[]⟩) 16 ca hi ah ai aj rfl _ _ _ rfl (O.alloc _) ⟨wr.heap.size,0,none⟩ _ rfl iz rfl ?c1 ?c2 ?c3 ?_))
    case c1=>omega
    case c2=>unfold bl;omega
    case c3=>first|omega|(simp;omega)
    intro v' w1 hown' ad _;rw[<-kZ,<-HE2.out]at hown';have hb':=(hb.alloc HS _).grown ad (by simp;omega) (λb hb=>(O.lt b hb).1);have ak:da ((fZ kn ws k).length+1=(fZ kn ws (k+1)).length):=by show _=_;rw[HE2.out];simp
    rw[ak.out]at hown';go_wp2;go_roundw
    case rel=>exact⟨k+1,by omega,by go_num,hown',hb'⟩
    case measure=>simp[intOf];omega
   have ae:x∈kn:=by
    by_cases h:x∈kn;exact h;exact absurd (ab.2 h) W
   have HE2:da (fZ kn ws (k+1)=fZ kn ws k):=by show _=_;rw[HE.out,if_pos (Or.inl ae)]
   generalize f [x]=m at *;have ap:((m:Int)==0)=false:=by simpa using W
   clear ae ab W;go_wp2;go_roundw
   case rel=>exact⟨k+1,by omega,by go_num,by rw[HE2.out];exact O,hb⟩
   case measure=>simp[intOf];omega
  have ek:k=ws.length:=by omega
  subst ek;go_wp2;go_ret;exact⟨_,rfl,O,hb⟩
variable {kn':List Wd} {f:List Wd->Nat} {b base n:Nat} {F:Nat->Prop} {v vB vK vK' vS:Value} {w wr:World}
def Vf(O:List (List Wd)):Prop:=∀t∈O,∀x∈t,x≠[]/\x.length<=24
structure PW(w:World)(F:Nat->Prop)(b:Nat)(vB vS:Value)(ts:List (List Wd))(B n:Nat)(vK:Value)(kn:List Wd):Prop where
 blk:w.heap[b]?=some (.cells #[vB,vS,.map (some B),vK] 90 (0,0))
 fb:F b
 fB:F B
 cnt:eD w B n (eY ts)
 room:n<=8*gu ts
 row:w.ownsRow 0 9 1 vK kn.length (dn kn)
 lq:∀k,vK.ownBlock=some k->F k
 perm:kn.Perm (eJ ts)
 ok:Vf ts
 ql:kn.length<=60
theorem PW.known{O:List (List Wd)}{B:Nat}{kn:List Wd}(h:PW w F b vB vS O B n vK kn)(x:Wd):eY O [x]=0↔x ∉ kn:=by
 rw[Lx,h.perm.mem_iff]
structure Mo(w wr:World)(F:Nat->Prop)(b:Nat)(vB vS:Value)(ts:List (List Wd))(B n:Nat)(vK:Value)(kn:List Wd)(base:Nat)(v:Value)(t:List Wd)(P:List (List Wd)):Prop where
 blk:wr.heap[b]?=some (.cells #[vB,vS,.map (some B),vK] 90 (0,0))
 cnt:eD wr B (n+2*P.length) (λws=>eY ts ws+P.count ws)
 row:wr.ownsRow 0 9 1 vK kn.length (dn kn)
 lq:∀k,vK.ownBlock=some k->Qz F w wr k
 frame:du F w wr
 arg:wr.ownsRow base 9 1 v t.length (dn t)
theorem sU{B:Nat}(h:eD w B n f){e m:Nat}{xs:List Value}(W:w.ownsRow base e 1 v m xs):v.ownBlock≠some B:=by
 obtain⟨D,⟨es,clock,Y,_⟩,_⟩:=h;rcases W.2 with⟨rfl,_⟩|⟨g,cap,aa,rfl,_,O,_⟩
 simp[dg];intro U;simp only[dg,cM]at U;rw[U,Y]at O;cases O
theorem yj{B:Nat}(h:eD w B n f){cs:Array Value}{t:bo}{fz:Nat×Nat}(hb:w.heap[b]?=some (.cells cs t fz)):b≠B:=by
 obtain⟨D,⟨es,clock,O,_⟩,_⟩:=h;intro e;rw[e,O]at hb;cases hb
theorem KI{w1 w2:World}{ts:List (List Wd)}{B:Nat}{kn:List Wd}{t:List Wd}(hF:∀k,F k->k<w.heap.size)(O:PW w F b vB vS ts B n vK kn)
  (hv:w.ownsRow base 9 1 v t.length (dn t)) (ad:∀k,v.ownBlock=some k->¬F k) (Y:Below w.heap.size w w1) (ho:w2.ownsRow 0 9 1 vK' kn'.length (dn kn')) (hg:w1.grownBy w2 vK.ownBlock) (ab:vK'.ownBlock=vK.ownBlock\/vK'.ownBlock=some w1.heap.size) :
  w2.heap[b]?=some (.cells #[vB,vS,.map (some B),vK] 90 (0,0))/\Mo w (w2.setCell ⟨b,3,none⟩ vK') F b vB vS ts B n vK' kn' base v t []:=by
 have ai:=Y.size;have aj:=hg.size;have hold:∀k,k<w.heap.size->some k≠vK.ownBlock->w2.heap[k]?=w.heap[k]?:=λk U ae=>by rw[hg.block k (by omega) ae,Y.block k U]
 have af:=hF b O.fb;have ag:=hF B O.fB;have aa:w2.heap[b]?=some (.cells #[vB,vS,.map (some B),vK] 90 (0,0)):=by rw[hold b af (λe=>pE O.blk O.row (by decide) e.symm)];exact O.blk
 have ak:(w2.setCell ⟨b,3,none⟩ vK').heap.size=w2.heap.size:=by simp[World.setCell]
 have W:∀k,k≠b->(w2.setCell ⟨b,3,none⟩ vK').heap[k]?=w2.heap[k]?:=λk U=>cH _ _ _ _ U;refine⟨aa,⟨by rw[heap_set aa];rfl,?_,?_,?_,?_,?_⟩⟩;refine(O.cnt.stay ?_).mono (by simp) (λws _=>by simp);rw[W B (λe=>yj O.cnt O.blk e.symm),hold B ag (λe=>sU O.cnt O.row e.symm)];refine eh ho (λk U=>W k (λe=>?_));subst e;exact pE aa ho (by decide) U;intro k U;rcases ab with h|h
 exact Or.inl (O.lq k (by rw[<-h];exact U));rw[h]at U;simp only[cM]at U;have:=(ho.lt k (by rw[h,U])).2;exact Or.inr ⟨by omega,by omega⟩;refine⟨hg.os.trans Y.os,hg.tape.trans Y.tape,hg.output.trans Y.output,by omega,λk U hn=>?_⟩;rw[W k (λe=>hn (by rw[e];exact O.fb))];exact hold k U (λe=>hn (O.lq k e.symm));refine eh hv (λk U=>?_);have ac:=ad k U;have ah:=(hv.lt k U).2;rw[W k (λe=>ac (by rw[e];exact O.fb)),hold k ah (λe=>ac (O.lq k e.symm))]
theorem N4{w3 w4:World}{ts:List (List Wd)}{B:Nat}{kn:List Wd}{t:List Wd}{P:List (List Wd)}(O:Mo w wr F b vB vS ts B n vK kn base v t P)(aa:F B)
  (U:Below wr.heap.size wr w3) (ws:List Wd) (ab:eD w4 B (n+2*P.length+2) (λx=>if x=ws then eY ts ws+P.count ws+1 else eY ts x+P.count x)) (W:w3.grownBy w4 (some B)) :
  Mo w w4 F b vB vS ts B n vK kn base v t (P++[ws]):=by
 have ae:=U.size;have af:=W.size;have hold:∀k,k<wr.heap.size->k≠B->w4.heap[k]?=wr.heap[k]?:=λk Y ac=>by rw[W.block k (by omega) (by simpa using ac),U.block k Y]
 have ad:=(cA.1 O.blk).1;refine⟨?_,?_,?_,?_,?_,?_⟩;rw[hold b ad (yj O.cnt O.blk)];exact O.blk;refine ab.mono (by simp;omega) (λx _=>?_);rw[List.count_append];by_cases e:x=ws;subst e;simp;omega;rw[if_neg e,List.count_singleton];have:(ws==x)=false:=by simpa using λh=>e h.symm
 rw[this];simp;exact eh O.row (λk Y=>hold k (O.row.lt k Y).2 (λe=>sU O.cnt O.row (by rw[Y,e])));intro k Y;rcases O.lq k Y with h|h
 exact Or.inl h;exact Or.inr ⟨h.1,by omega⟩;refine O.frame.trans (G:=λk=>k=B) ⟨W.os.trans U.os,W.tape.trans U.tape,W.output.trans U.output,by omega,λk Y hn=>hold k Y hn⟩ (λi _ hi=>by subst hi;exact aa);exact eh O.arg (λk Y=>hold k (O.arg.lt k Y).2 (λe=>sU O.cnt O.arg (by rw[Y,e])))
theorem Oh{O:List (List Wd)}{B:Nat}{kn:List Wd}{t:List Wd}(U:PW w F b vB vS O B n vK kn)(W:Mo w wr F b vB vS O B n vK' kn' base v t (jm t t.length))
  (Y:kn'.Perm (eJ (O++[t]))) (ht:∀x∈t,x≠[]/\x.length<=24) (aa:¬60<(eJ (O++[t])).length):PW wr (Qz F w wr) b vB vS (O++[t]) B (n+2*(jm t t.length).length) vK' kn' where
 blk:=W.blk
 fb:=Or.inl U.fb;fB:=Or.inl U.fB
 cnt:=W.cnt.mono (bJ _) (λws hr=>by
  show eY O ws+(jm t t.length).count ws=_
  rw[PZ t ws hr.1,Mv])
 room:=by
  have h1:=U.room;have h2:=yX t t.length;have:gu (O++[t])=gu O+(t.length+1):=by simp[gu]
  omega
 row:=W.row;lq:=W.lq;perm:=Y
 ok:=by
  intro x hx;rcases bA.1 hx with h|h
  exact U.ok x h;simp at h;subst h;exact ht
 ql:=by rw[Y.length_eq];omega
theorem Kc(F:Nat->Prop)(b:Nat)(vB vS:Value)(U:List (List Wd))(B n:Nat)(vK:Value)(kn:List Wd)(t:List Wd)(base:Nat)(v:Value)(w:World)(hF:∀k,F k->k<w.heap.size)(hP:PW w F b vB vS U B n vK kn)
  (hv:w.ownsRow base 9 1 v t.length (dn t)) (aB:∀k,v.ownBlock=some k->¬F k) (ht:∀x∈t,x≠[]/\x.length<=24) (hl:t.length<=24) (hB:gu U<=16777216) :
  bm prog 66 #[.pointer (some ⟨b,2,none⟩),v] w λe w'=>
   (60<(eJ (U++[t])).length/\e=.returned (.bool false)/\Below w.heap.size w w')\/
   (¬60<(eJ (U++[t])).length/\e=.returned (.bool true)/\(∃n' vK' kn',PW w' (Qz F w w') b vB vS (U++[t]) B n' vK' kn')/\du F w w'):=by
 obtain⟨av,cv,rfl,aV⟩:=dK hv;obtain⟨aK,cK,rfl,aW⟩:=dK hP.row;have az:=(yU kn U t hP.perm).length_eq;rw[bC]at az;have aX:=(Af kn t t.length (bJ _)).2.2;have aQ:=hP.ql;have aC:w.cell? ⟨b,2,none⟩=some (.map (some B)):=by rw[dh hP.blk];rfl
 have a0:w.cell? ⟨b,3,none⟩=some (.slice aK kn.length cK):=by rw[dh hP.blk];rfl
 obtain⟨i0,hi,aD,aE,aF⟩:=bv tW;go_enter func66,ntmps66;go_wp2_with fail;refine(EA b 2 B n (eY U) kn _ t w aC hP.cnt (Rd.jb hv) ht (λx _=>hP.known x) (by omega)).mono ?_;rintro e w1 ⟨u,rfl,hu,ah⟩;obtain⟨au,cu,rfl,aY⟩:=dK hu;have a3:=bk ah a0;by_cases ap:60<(eJ (U++[t])).length
 .have HK:da _:=ap;have a4:60<(kn.length:Int)+((fZ kn t t.length).length:Int):=by omega
  clear ap az;go_wp2;go_ret;exact Or.inl ⟨HK.out,rfl,ah⟩
 have HK:da _:=ap;have a4:(kn.length:Int)+((fZ kn t t.length).length:Int)<=60:=by omega
 have aZ:w1.frozen? ⟨b,3,none⟩=false:=by
  have:w1.heap[b]?=_:=(ah.block b (hF b hP.fb)).trans hP.blk;exact dI this 3
 have a5:=Ha hP.row ah;clear ap
 go_wp2_with (first
  |(at_builtin;refine fc _ rfl _ _ 31 rfl 0 9 i0 (.string ⟨#[]⟩) 16 ca hi aD aE aF rfl _ _ _ rfl a5 _ (dn (fZ kn t t.length)) rfl (Rd.jb hu) kD ?c1 ?c2 (bL _) ?_))
 case c1=>rw[dD];omega
 case c2=>rw[dD];unfold bl;omega
 intro vK' w2 aa a6 ai
 have af:w2.ownsRow 0 9 1 vK' (kn++fZ kn t t.length).length (dn (kn++fZ kn t t.length)):=by
  rw[dD]at aa;have e1:dn (kn++fZ kn t t.length)=dn kn++dn (fZ kn t t.length):=by simp[dn]
  rw[e1,bC];exact aa
 obtain⟨aj,hS0⟩:=KI hF hP hv aB ah af a6 ai;obtain⟨a7,a8,rfl,aR⟩:=dK af;have aS:w2.cell? ⟨b,3,none⟩=some (.slice aK kn.length cK):=by rw[dh aj];rfl
 have aT:w2.frozen? ⟨b,3,none⟩=false:=dI aj 3;have aG:=(yU kn U t hP.perm);have HP:da _:=hP;clear hP aj a5 aa a6 ai hu a0 a3 hv;generalize kn++fZ kn t t.length=kn' at *;go_wp2_with fail;go_loopw [6] (λi wr=>∃e:Nat,e<=t.length/\i=.int .i64 ((e:Int)+1)/\Mo w wr F b vB vS U B n (.slice a7 kn'.length a8) kn' base (.slice av t.length cv) t (jm t e)) (λi _=>t.length+1-(intOf i).toNat)
 case atStart=>exact⟨0,bL _,by simp,hS0⟩
 case round=>
  obtain⟨e,he,rfl,hS⟩:=hrel;by_cases ba:e<t.length
  .have hd:decide ((e:Int)+1<=(t.length:Int))=true:=by simp;omega
   go_wp2_with fail;go_loopw [7] (λi wx=>∃q:Nat,q<=min (e+1) 3+1/\i=.int .i64 (e+1-min (e+1) 3+q:Nat)/\Mo w wx F b vB vS U B n (.slice a7 kn'.length a8) kn' base (.slice av t.length cv) t (jm t e++(jd t (e+1)).take q)) (λi _=>e+2-(intOf i).toNat)
   case atStart=>exact⟨0,bL _,by congr 1;omega,by simpa using hS⟩
   case round=>
    obtain⟨q,hq,rfl,ab⟩:=hrel;obtain⟨W,ak⟩:∃W,W=e+1-min (e+1) 3+q:=⟨_,rfl⟩;have bc:da _:=ak;rw[<-ak];by_cases bd:W<=e+1
    .have aH:wr.cell? ⟨b,2,none⟩=some (.map (some B)):=by rw[dh ab.blk];rfl
     have a9:e+1<=t.length:=by omega
     have be:(0:Int)<=(e:Int)+1:=by omega
     have bf:(e:Int)+1<=(cv:Int):=by omega
     have aw:Rd wr (.slice (if cv=W then av else df (λx=>x.add W) av) (e+1-W) (cv-W)) (dn ((t.take (e+1)).drop W)):=
      ((Rd.jb ab.arg).Ou (e+1) a9).xT W (by simp;omega)
     obtain⟨ws,al⟩:∃ws,ws=(t.take (e+1)).drop W:=⟨_,rfl⟩;have h3:ws.length<=3:=by rw[al];simp;omega
     have ag:lC ws:=⟨h3,λx hx=>ht x (by rw[al]at hx;exact List.mem_of_mem_take (bG hx))⟩
     have HER:da ((jd t (e+1)).take (q+1)=(jd t (e+1)).take q++[ws]):=by
      show _=_;have aI:q<(jd t (e+1)).length:=by rw[nW];omega
      rw[b4 aI,FW,<-ak,al]
     rw[<-al]at aw;clear al;obtain⟨P,aq⟩:∃P,P=jm t e++(jd t (e+1)).take q:=⟨_,rfl⟩;rw[<-aq]at ab
     have bh:P.length<=4*24+4:=by
      rw[aq,bC];have:=yX t e;have:((jd t (e+1)).take q).length<=4:=by have:=nW t (e+1);simp;omega
      omega
     have aJ:=List.count_le_length (a:=ws) (l:=P);have HPD:da _:=aq;obtain⟨c,hc⟩:∃c,c=eY U ws+P.count ws:=⟨_,rfl⟩;have jP:=rK U ws;have bi:c<=16777400:=by omega
     have aL:=HP.out.room;have bj:IntKind.u64.wrap ((c:Int)+1)=(c:Int)+1:=by rw[cS];omega
     have aM:=ab;have ar:=ab.cnt
     have ac:bm prog 93 #[.slice (if cv=W then av else df (λx=>x.add W) av) (e+1-W) (cv-W)] wr.drew λe' w3=>e'=.returned (nP ws)/\Below wr.heap.size wr w3/\w3.cell? ⟨b,2,none⟩=some (.map (some B))/\
       (bV 86 (.map (some B)) (nP ws) false).run prog w3=.ok (.int .u64 (c:Int)) w3/\
       ∃(s:Nat)(w4 w5:World),(bW 86 (.map (some B)) (nP ws)).run prog w3=.ok (.tuple #[.int .u64 (c:Int),.int .i64 (s:Int)]) w4/\(bV 86 (.map (some B)) (nP ws) false).run prog w4=.ok (.int .u64 (c:Int)) w4/\
       (bX 86 (.map (some B)) (.int .i64 (s:Int)) (.int .u64 ((c:Int)+1))).run prog w4=.ok () w5/\
       eD w5 B (n+2*P.length+2) (λx=>if x=ws then eY U ws+P.count ws+1 else eY U x+P.count x)/\w3.grownBy w5 (some B):=by
      refine(uX _ ws wr.drew (by exact aw) h3).mono ?_;rintro e' w3 ⟨rfl,am⟩;have Y:Below wr.heap.size wr w3:=⟨am.os,am.tape,am.output,am.size,am.block⟩;have a':=ar.below Y;have ae:=a'.look ag;rw[show eY U ws+P.count ws=c from hc.symm]at ae;obtain⟨s,w4,an,aN,aA,aO⟩:=a'.entry ag (by unfold bl;omega) (by show eY U ws+P.count ws<_;omega);have O:=aA.look ag;rw[show eY U ws+P.count ws=c from hc.symm]at an O;obtain⟨w5,ao,ax,ay⟩:=aA.store ag (by unfold bl;omega) aN (c+1) (by omega);rw[Int.natCast_add,Int.natCast_one]at ao;exact⟨rfl,Y,bk Y aH,ae,s,w4,w5,an,O,ao,by rw[<-hc];exact ax,aO.trans ay⟩
     have HQ:da (q+1<=min (e+1) 3+1):=by show _<=_;omega
     have HB1:da ((W:Int)+1=((e+1-min (e+1) 3+(q+1):Nat):Int)):=by show _=_;omega
     obtain⟨ad,aP⟩:∃ad,(if cv=W then av else df (λx=>x.add W) av)=ad:=⟨_,rfl⟩;rw[aP]at ac;clear ak hS aq aJ jP ab ar aw hc;go_wp2_with fail
     go_region_law (first
      |(go_simp
        go_at_call 93;refine ac.mono ?_
        rintro e' w3 ⟨rfl,Y,aU,ae,s,w4,w5,an,O,ao,ax,ay⟩))
     all_goals
      clear ac;go_wp2_with fail;go_roundw
      case rel=>exact⟨q+1,HQ.out,by rw[<-HB1.out],by rw[HER.out,<-List.append_assoc,<-HPD.out];exact N4 aM HP.out.fB Y ws ax ay⟩
      case measure=>simp[intOf];omega
    have HE:da (jm t e++(jd t (e+1)).take q=jm t (e+1)):=by
     show _=_;rw[bB (by rw[nW];omega)];rfl
    clear ak;go_wp2_with fail;go_roundw
    case rel=>exact⟨e+1,by omega,by go_num,by rw[<-HE.out];exact ab⟩
    case measure=>simp[intOf];omega
  have ee:e=t.length:=by omega
  subst ee;go_wp2;go_ret;exact Or.inr ⟨HK.out,rfl,⟨_,_,_,Oh HP.out hS aG ht HK.out⟩,hS.frame⟩
def E4:Obj:=.cells #[.int .u64 0,.int .u64 0] 147
def E2(x y z:ByteArray):Obj:=.cells #[.string x,.string y,.string z] 143
theorem Rd.alloc{w:World}{v:Value}{xs:List Value}(h:Rd w v xs)(o:Obj):Rd (w.alloc o) v xs:=h.below ((cF ..).alloc (bJ _) _)
structure UT(w W:World)(b o B n:Nat)(ts:List (List Wd))(r g h:Nat)(x y z x' y' z':ByteArray):Prop where
 base:Below w.heap.size w W
 wT:W.heap[r]?=some E4
 fst:W.heap[g]?=some (E2 x y z)
 snd:W.heap[h]?=some (E2 x' y' z')
 map:W.cell? ⟨b,o,none⟩=some (.map (some B))
 cnt:eD W B n (eY ts)
theorem UN{w O:World}{b o B n:Nat}{ts:List (List Wd)}(hB:w.cell? ⟨b,o,none⟩=some (.map (some B)))(hC:eD w B n (eY ts))(U:Below (w.alloc E4).heap.size (w.alloc E4) O)(x y z W Y z':ByteArray) :
  UT w ((O.alloc (E2 x y z)).alloc (E2 W Y z')) b o B n ts w.heap.size O.heap.size (O.heap.size+1) x y z W Y z':=by
 have hz:(w.alloc E4).heap.size=w.heap.size+1:=by simp
 have aa:=U.size;have h1:=((cF ..).alloc (bJ _) _).trans (U.mono (by omega));have h2:Below _ w ((O.alloc (E2 x y z)).alloc (E2 W Y z')):=(h1.alloc (by omega) _).alloc (by simp;omega) _;refine⟨h2,?_,?_,?_,bk h2 hB,hC.below h2⟩;rw[cG _ _ _ (by simp;omega),cG _ _ _ (by omega),U.block _ (by omega)];exact nI ..;rw[cG _ _ _ (by simp)];exact nI ..;have e:O.heap.size+1=(O.alloc (E2 x y z)).heap.size:=by simp
 rw[e];exact nI ..
theorem Oj(b o B n:Nat)(U:List (List Wd))(vl:Value)(x:Wd)(w:World)(hG:w.cell? ⟨0,0,none⟩=some (.int .u64 4))(hB:w.cell? ⟨b,o,none⟩=some (.map (some B)))(hC:eD w B n (eY U))(hl:Rd w vl (dn []))(hx:x≠[]/\x.length<=24)(ao:gu U<=16777216) :
  bm prog 95 #[.pointer (some ⟨b,o,none⟩),vl,.string ⟨x.toArray⟩] w λe w'=>e=.returned (.agg #[.int .u64 ((qw U x []).1:Int),.int .u64 ((qw U x []).2:Int)])/\Below w.heap.size w w':=by
 have W:=uX vl [] (w.alloc E4) (hl.alloc _) (by simp);have HL:da (Rd _ _ _):=hl;obtain⟨a,c,rfl,hc,hm,_⟩:=hl;have HR:lC ([]:List Wd):=⟨by simp,by simp⟩;have ag:lC [x]:=⟨by simp,by simpa using hx⟩;have am:=rK U [x];have an:=rK U [];have ah:(dn []).length=0:=rfl;rw[ah]at W hc HL⊢;clear ah;go_enter func95,ntmps95;go_wp2_with fail;refine W.mono ?_;rintro e W1 ⟨rfl,ai⟩;rw[show nP []=.agg #[.string ⟨#[]⟩,.string ⟨#[]⟩,.string ⟨#[]⟩]from rfl];have hS:=UN hB hC ai ⟨#[]⟩ ⟨#[]⟩ ⟨#[]⟩ ⟨x.toArray⟩ ⟨#[]⟩ ⟨#[]⟩;clear W ai;go_wp2_with fail;unfold E2 at hS;generalize (W1.alloc (.cells #[.string ⟨#[]⟩,.string ⟨#[]⟩,.string ⟨#[]⟩] 143)).alloc (.cells #[.string ⟨x.toArray⟩,.string ⟨#[]⟩,.string ⟨#[]⟩] 143)=O at *;generalize W1.heap.size=g at *;have ap:=bk hS.base hG;have aq:=hS.map;have aa:=(hS.cnt.stay (w':=O.drew) rfl).look ag;have ab:=(hS.cnt.stay (w':=O.drew.drew) rfl).look ag;have aj:=(hS.cnt.stay (w':=O.drew.drew) rfl).look HR;rw[show nP []=.agg #[.string ⟨#[]⟩,.string ⟨#[]⟩,.string ⟨#[]⟩]from rfl]at aj;rw[show nP [x]=.agg #[.string ⟨x.toArray⟩,.string ⟨#[]⟩,.string ⟨#[]⟩]from rfl]at aa ab;have f0:O.cell? ⟨g,0,none⟩=some (.string ⟨#[]⟩):=dh hS.fst 0;have f1:O.cell? ⟨g,1,none⟩=some (.string ⟨#[]⟩):=dh hS.fst 1;have f2:O.cell? ⟨g,2,none⟩=some (.string ⟨#[]⟩):=dh hS.fst 2;have s0:O.cell? ⟨g+1,0,none⟩=some (.string ⟨x.toArray⟩):=dh hS.snd 0;have s1:O.cell? ⟨g+1,1,none⟩=some (.string ⟨#[]⟩):=dh hS.snd 1;have s2:O.cell? ⟨g+1,2,none⟩=some (.string ⟨#[]⟩):=dh hS.snd 2;have r0:O.cell? ⟨w.heap.size,0,none⟩=some (.int .u64 0):=dh hS.wT 0;have r1:O.cell? ⟨w.heap.size,1,none⟩=some (.int .u64 0):=dh hS.wT 1;have z0:O.frozen? ⟨w.heap.size,0,none⟩=false:=dI hS.wT 0;have z1:O.frozen? ⟨w.heap.size,1,none⟩=false:=dI hS.wT 1;have ar:=hS;have HS:=hS.base;clear hS;obtain⟨p,ac⟩:∃p,p=eY U [x]:=⟨_,rfl⟩;obtain⟨q,ad⟩:∃q,q=eY U []:=⟨_,rfl⟩;rw[<-ac]at aa ab am;rw[<-ad]at aj an;have ak:da (p=eY U [x]):=ac;have al:da (q=eY U []):=ad;clear ac ad;obtain⟨Y,ae⟩:∃Y:Int,Y=(p:Int):=⟨_,rfl⟩;rw[<-ae]at aa ab;have af:da (Y=(p:Int)):=ae;have au:0<=Y:=by omega
 have av:Y<=16777216:=by omega
 have aw:IntKind.u64.wrap (Y*4)=Y*4:=by rw[cS];omega
 clear ae;by_cases hz:Y=0
 .subst hz;go_region;go_wp2_with fail;go_region;go_wp2;refine bp (v:=.agg #[.int .u64 0,.int .u64 (q:Int)]) (by simp[bs,ci,go_sem,r0,r1]) rfl ⟨?_,?_⟩;have h1:=af.out;have hp:eY U [x]=0:=by rw[<-ak.out];omega
  unfold qw;rw[hp,al.out];rfl;exact(HS.drew.drew.setCell (bJ _) _).setCell (bJ _) _
 have ax:(Y==0)=false:=by simpa using hz
 go_region;go_wp2_with fail;go_region;go_wp2;refine bp (v:=.agg #[.int .u64 (Y*4),.int .u64 (q:Int)]) (by simp[bs,ci,go_sem,r0,r1]) rfl ⟨?_,?_⟩;have h1:=af.out;unfold qw;rw[af.out,ak.out,al.out];rfl;exact(HS.drew.drew.setCell (bJ _) _).setCell (bJ _) _
theorem Ai(b o B n:Nat)(O:List (List Wd))(vl:Value)(x:Wd)(w:World)(xs aa:List Wd)(k wg:Nat)(wi:Int)(s0 s1 s2 t1 t2:ByteArray)(hG:w.cell? ⟨0,k,none⟩=some (.int .u64 wi))(hB:w.cell? ⟨b,o,none⟩=some (.map (some B)))(hC:eD w B n (eY O))(hl:Rd w vl (dn xs))(aH:gu O<=16777216)
  (hk:(k=1/\wg=10/\wi=10/\aa=[]/\⟨x.toArray⟩=t1/\s2=t2)\/(k=2/\wg=25/\wi=25/\aa=xs.drop 1/\s1=t1/\⟨x.toArray⟩=t2)) (ax:nP (xs++[x])=.agg #[.string s0,.string t1,.string t2]) (ac:xs.length=k) (am:nP xs=.agg #[.string s0,.string s1,.string s2]) (HR:lC xs) (ay:lC (xs++[x]))
  (ai:eY O (xs++[x])=0->qw O x xs=qw O x aa) (aj:eY O (xs++[x])≠0->qw O x xs=(eY O (xs++[x])*wg,eY O xs))
  (ak:∀(V:Value)(W:World),Below w.heap.size w W->W.cell? ⟨b,o,none⟩=some (.map (some B))->eD W B n (eY O)->Rd W V (dn aa)->bm prog 95 #[.pointer (some ⟨b,o,none⟩),V,.string ⟨x.toArray⟩] W λe w'=>e=.returned (.agg #[.int .u64 ((qw O x aa).1:Int),.int .u64 ((qw O x aa).2:Int)])/\Below W.heap.size W w') :
  bm prog 95 #[.pointer (some ⟨b,o,none⟩),vl,.string ⟨x.toArray⟩] w λe w'=>e=.returned (.agg #[.int .u64 ((qw O x xs).1:Int),.int .u64 ((qw O x xs).2:Int)])/\Below w.heap.size w w':=by
 have ab:=uX vl xs (w.alloc E4) (hl.alloc _) HR.1;have HL:da (Rd _ _ _):=hl;obtain⟨a,c,rfl,hc,hm,hr⟩:=hl;obtain⟨ba,oa,rfl,_⟩:=hr 0 _ (b7 (by rw[dD];omega));rename_i a6;clear hr a6;have a7:=rK O (xs++[x]);have a8:=rK O xs;have az:(dn xs).length=k:=by rw[dD,ac]
 rw[az]at ab hc HL⊢;rw[am]at ab;clear az;have HQ:da _:=aj
 have al:∀pi:Int,0<=pi->pi<=16777216->IntKind.u64.wrap (pi*wi)=pi*wi:=by
  rintro pi h1 h2;rcases hk with⟨_,_,rfl,_⟩|⟨_,_,rfl,_⟩ <;>(rw[cS];omega)
 have a0:∀W1,Below (w.alloc E4).heap.size (w.alloc E4) W1->∃Y,da ((W1.alloc (.cells #[.string s0,.string s1,.string s2] 143)).alloc (.cells #[.string s0,.string t1,.string t2] 143)=Y)/\UT w Y b o B n O w.heap.size W1.heap.size (W1.heap.size+1) s0 s1 s2 s0 t1 t2/\Y.cell? ⟨W1.heap.size+1,1,none⟩=some (.string t1)/\Y.cell? ⟨W1.heap.size+1,2,none⟩=some (.string t2)/\
   da (eY O (xs++[x])=0->∀V,Rd w V (dn aa)->bm prog 95 #[.pointer (some ⟨b,o,none⟩),V,.string ⟨x.toArray⟩] Y.drew λe w4=>e=.returned (.agg #[.int .u64 ((qw O x xs).1:Int),.int .u64 ((qw O x xs).2:Int)])/\
    Below w.heap.size w w4/\w4.cell? ⟨w.heap.size,0,none⟩=some (.int .u64 0)/\w4.cell? ⟨w.heap.size,1,none⟩=some (.int .u64 0)/\w4.frozen? ⟨w.heap.size,0,none⟩=false/\w4.frozen? ⟨w.heap.size,1,none⟩=false):=by
  intro W1 h;have U:=UN hB hC h s0 s1 s2 s0 t1 t2;refine⟨_,rfl,U,dh U.snd 1,dh U.snd 2,λhz V hV=>?_⟩;rw[ai hz];have ag:=U.base.drew;refine(ak V _ ag U.map (U.cnt.stay rfl) (hV.below ag)).mono ?_;rintro e w4 ⟨rfl,ah⟩;have hh:=(ah.block w.heap.size (cA.1 U.wT).1).trans U.wT;exact⟨rfl,ag.trans (ah.mono ag.size),dh hh 0,dh hh 1,dI hh 0,dI hh 1⟩
 clear ai aj ak;rcases hk with⟨rfl,rfl,rfl,rfl,rfl,rfl⟩|⟨rfl,rfl,rfl,rfl,rfl,rfl⟩
 case' inl=>
  have a9:(1:Int)<=(c:Int):=by omega
  have an:∀V,(V=.slice (some ⟨ba,oa,none⟩) 0 0\/V=.slice (some ⟨ba,oa+1,none⟩) 0 (c-1))->Rd w V (dn []):=by
   rintro V (rfl|rfl);exact Rd.Hw rfl (by unfold bl;omega);exact Rd.Hw rfl (by omega)
 case' inr=>
  have a9:(2:Int)<=(c:Int):=by omega
  have an:∀V,V=.slice (some ⟨ba,oa+1,none⟩) 1 (c-1)->Rd w V (dn (xs.drop 1)):=by
   rintro V rfl;have:=HL.out.FF 1 (by omega) (by omega) ac.symm;exact this
  have aG:c≠1:=by omega
 all_goals
  clear ac;go_enter func95,ntmps95;go_wp2_with fail;refine ab.mono ?_;rintro e W1 ⟨rfl,a3⟩;obtain⟨Y,a4,U,q1,q2,HC⟩:=a0 W1 a3;clear ab a3 a0;go_wp2_with fail;rw[a4.out];clear a4;generalize W1.heap.size=g at *;have aI:=bk U.base hG;have aJ:=U.map;have ao:=(U.cnt.stay (w':=Y.drew) rfl).look ay;have ap:=(U.cnt.stay (w':=Y.drew.drew) rfl).look ay;have a5:=(U.cnt.stay (w':=Y.drew.drew) rfl).look HR;rw[am]at a5;rw[ax]at ao ap;have f0:Y.cell? ⟨g,0,none⟩=some (.string s0):=dh U.fst 0;have f1:Y.cell? ⟨g,1,none⟩=some (.string s1):=dh U.fst 1;have f2:Y.cell? ⟨g,2,none⟩=some (.string s2):=dh U.fst 2;have q0:Y.cell? ⟨g+1,0,none⟩=some (.string s0):=dh U.snd 0;have r0:Y.cell? ⟨w.heap.size,0,none⟩=some (.int .u64 0):=dh U.wT 0;have r1:Y.cell? ⟨w.heap.size,1,none⟩=some (.int .u64 0):=dh U.wT 1;have z0:Y.frozen? ⟨w.heap.size,0,none⟩=false:=dI U.wT 0;have z1:Y.frozen? ⟨w.heap.size,1,none⟩=false:=dI U.wT 1;have HS:=U.base;clear U am ax;obtain⟨p,aq⟩:∃p,p=eY O (xs++[x]):=⟨_,rfl⟩;obtain⟨q,ar⟩:∃q,q=eY O xs:=⟨_,rfl⟩;rw[<-aq]at ao ap a7;rw[<-ar]at a5 a8;have au:da (p=eY O (xs++[x])):=aq;have a':da (q=eY O xs):=ar;clear aq ar;obtain⟨pi,av⟩:∃pi:Int,pi=(p:Int):=⟨_,rfl⟩;rw[<-av]at ao ap;have aw:da (pi=(p:Int)):=av;have aA:0<=pi:=by omega
  have aB:pi<=16777216:=by omega
  have aK:=al pi aA aB;clear al;clear av;by_cases hz:pi=0
  .have ad:=HC.out (by rw[<-au.out];have:=aw.out;omega);subst hz;obtain⟨p1,ae⟩:∃p1,p1=(qw O x xs).1:=⟨_,rfl⟩;obtain⟨p2,af⟩:∃p2,p2=(qw O x xs).2:=⟨_,rfl⟩;rw[<-ae,<-af]at ad;have aC:da (p1=(qw O x xs).1):=ae;have aD:da (p2=(qw O x xs).2):=af;clear ae af;go_region;go_wp2_with fail
   all_goals
    refine(ad _ (an _ (by simp[*]))).mono ?_;rintro e w4 ⟨rfl,ah,aE,aF,aL,aM⟩;clear ad an;go_wp2;refine bp (v:=.agg #[.int .u64 (p1:Int),.int .u64 (p2:Int)]) (by simp[bs,ci,go_sem,aE,aF]) rfl ⟨?_,?_⟩;rw[aC.out,aD.out];exact(ah.setCell (bJ _) _).setCell (bJ _) _
  have aN:(pi==0)=false:=by simpa using hz
  go_region;go_wp2_with fail;go_region;go_wp2;refine bp (v:=.agg #[.int .u64 (pi*_),.int .u64 (q:Int)]) (by simp[bs,ci,go_sem,r0,r1];rfl) rfl ⟨?_,?_⟩;rw[HQ.out (by rw[<-au.out];have:=aw.out;omega),aw.out,au.out,a'.out];rfl;exact(HS.drew.drew.setCell (bJ _) _).setCell (bJ _) _
theorem Nh(b o B n:Nat)(O:List (List Wd))(Y:Value)(u:Wd)(x:Wd)(w:World)(aa:w.cell? ⟨0,0,none⟩=some (.int .u64 4))(hG:w.cell? ⟨0,1,none⟩=some (.int .u64 10))(hB:w.cell? ⟨b,o,none⟩=some (.map (some B)))(hC:eD w B n (eY O))(hl:Rd w Y (dn [u]))(hu:u≠[]/\u.length<=24)(hx:x≠[]/\x.length<=24)(U:gu O<=16777216) :
  bm prog 95 #[.pointer (some ⟨b,o,none⟩),Y,.string ⟨x.toArray⟩] w λe w'=>e=.returned (.agg #[.int .u64 ((qw O x [u]).1:Int),.int .u64 ((qw O x [u]).2:Int)])/\Below w.heap.size w w':=
 Ai b o B n O Y x w [u] [] 1 10 10 _ _ _ _ _ hG hB hC hl U (.inl ⟨rfl,rfl,rfl,rfl,rfl,rfl⟩) rfl rfl rfl ⟨by simp,by simpa using hu⟩ ⟨by simp,by simp[hu,hx]⟩ (λh=>by have h:eY O [u,x]=0:=h;simp[qw,h]) (λh=>by have h:eY O [u,x]≠0:=h;simp[qw,h])
  λV W h1 h2 h3 h4=>Oj b o B n O V x W (bk h1 aa) h2 h3 h4 hx U
theorem Tb(b o B n:Nat)(O:List (List Wd))(Y:Value)(u:Wd)(v:Wd)(x:Wd)(w:World)(aa:w.cell? ⟨0,0,none⟩=some (.int .u64 4))(ab:w.cell? ⟨0,1,none⟩=some (.int .u64 10))(hG:w.cell? ⟨0,2,none⟩=some (.int .u64 25))(hB:w.cell? ⟨b,o,none⟩=some (.map (some B)))(hC:eD w B n (eY O))(hl:Rd w Y (dn [u,v]))(hu:u≠[]/\u.length<=24)(hv:v≠[]/\v.length<=24)(hx:x≠[]/\x.length<=24)(U:gu O<=16777216) :
  bm prog 95 #[.pointer (some ⟨b,o,none⟩),Y,.string ⟨x.toArray⟩] w λe w'=>e=.returned (.agg #[.int .u64 ((qw O x [u,v]).1:Int),.int .u64 ((qw O x [u,v]).2:Int)])/\Below w.heap.size w w':=
 Ai b o B n O Y x w [u,v] [v] 2 25 25 _ _ _ _ _ hG hB hC hl U (.inr ⟨rfl,rfl,rfl,rfl,rfl,rfl⟩) rfl rfl rfl ⟨by simp,by simp[hu,hv]⟩ ⟨by simp,by simp[hu,hv,hx]⟩ (λh=>by have h:eY O [u,v,x]=0:=h;simp[qw,h]) (λh=>by have h:eY O [u,v,x]≠0:=h;simp[qw,h])
  λV W h1 h2 h3 h4=>Nh b o B n O V v x W (bk h1 aa) (bk h1 ab) h2 h3 h4 hv hx U
end
section
open Go.RowKit Go.Sort
theorem xL(x y:Nat)(w:World):bm prog 196 #[.int .u64 (x:Int),.int .u64 (y:Int)] w λe w'=>e=.returned (.int .i64 (zC x y))/\w=w':=by
 unfold zC;by_cases O:x<y
 .rw[if_pos O];have U:(x:Int)<(y:Int):=by omega
  clear O;go_enter func196,ntmps196;go_wp2;go_ret;exact⟨rfl,rfl⟩
 rw[if_neg O];by_cases W:y<x
 .go_wp2;go_ret;exact⟨rfl,rfl⟩
 go_wp2;go_ret;exact⟨rfl,rfl⟩
theorem C0(x y:Int)(g:Nat)(w:World)(Y:w.cell? ⟨g,0,none⟩=some (.int .i64 x))(h1:w.cell? ⟨g,1,none⟩=some (.int .i64 y)):bm prog 126 #[.slice (some ⟨g,0,none⟩) 2 2] w λe w'=>e=.returned (.int .i64 (if x≠0 then x else y))/\w=w':=by
 by_cases U:x=0
 .subst U;rw[if_neg (by simp)];by_cases O:y=0
  .subst O;go_enter func126,ntmps126;go_wp2;refine bt 3 ?_;rw[bq];go_wp2;rw[bq];go_wp2;rw[bq];go_wp2;go_ret;exact⟨rfl,rfl⟩
  have W:(y==0)=false:=by simpa using O
  go_enter func126,ntmps126;go_wp2;refine bt 2 ?_;rw[bq];go_wp2;rw[bq];go_wp2;go_ret;exact⟨rfl,rfl⟩
 go_wp2;refine bt 1 ?_;rw[bq];go_wp2;go_ret;exact⟨rfl,rfl⟩
theorem BG{w:World}{x y:Value}{t:bo}{g:Nat}(O:g=w.heap.size):(w.alloc (.cells #[x,y] t)).cell? ⟨g,0,none⟩=some x/\(w.alloc (.cells #[x,y] t)).cell? ⟨g,1,none⟩=some y:=by
 subst O;constructor;rw[cI _ _ _ _ rfl];rfl;rw[cI _ _ _ _ rfl];rfl
theorem Nv(p q r t:Nat)(w:World)(hp:p<=419430400)(hq:q<=16777217)(hr:r<=419430400)(ht:t<=16777217) :
  bm prog 138 #[.agg #[.int .u64 (p:Int),.int .u64 (q:Int)],.agg #[.int .u64 (r:Int),.int .u64 (t:Int)]] w λe w'=>e=.returned (.int .i64 (zC (p*t) (r*q)))/\∃k os,w'=grow (w.drewN k) os:=by
 have b1:p*t<=419430400*16777217:=bP hp ht;have b2:r*q<=419430400*16777217:=bP hr hq
 have U:∀W:World,bm prog 195 #[.int .u64 (p:Int),.int .u64 (t:Int)] W λe w'=>e=.returned (.tuple #[.int .u64 0,.int .u64 ((p*t:Nat):Int)])/\W=w':=λW=>by
  refine(Any.bits_Mul64 Jw p t (by omega) (by omega) W).mono ?_;rintro e w' ⟨rfl,rfl⟩;rw[bO (by omega),bN (by omega)];exact⟨rfl,rfl⟩
 have m2:∀W:World,bm prog 195 #[.int .u64 (r:Int),.int .u64 (q:Int)] W λe w'=>e=.returned (.tuple #[.int .u64 0,.int .u64 ((r*q:Nat):Int)])/\W=w':=λW=>by
  refine(Any.bits_Mul64 Jw r q (by omega) (by omega) W).mono ?_;rintro e w' ⟨rfl,rfl⟩;rw[bO (by omega),bN (by omega)];exact⟨rfl,rfl⟩
 generalize p*t=X at *;generalize r*q=Y at *;have c1:=λW=>xL 0 0 W;have c2:=λW=>xL X Y W;have e0:zC 0 0=0:=rfl;rw[e0]at c1;go_enter func138,ntmps138;go_wp2_with fail;refine(U _).mono ?_;rintro e w' ⟨rfl,rfl⟩;go_wp2_with fail;refine(m2 _).mono ?_;rintro e w' ⟨rfl,rfl⟩;go_wp2_with fail;refine(c1 _).mono ?_;rintro e w' ⟨rfl,rfl⟩;go_wp2_with fail;refine(c2 _).mono ?_;rintro e w' ⟨rfl,rfl⟩;obtain⟨z,O⟩:∃z,z=zC X Y:=⟨_,rfl⟩;rw[<-O];have HZ:da _:=O;clear O c1 c2 U m2;go_wp2_with fail;refine(C0 0 z _ _ (BG (by simp)).1 (BG (by simp)).2).mono ?_;rintro e w' ⟨rfl,rfl⟩;go_wp2;go_ret;exact⟨eR (by rw[<-HZ.out]),0,_,by rw[cN,cN,cN,cO,cO];rfl⟩
theorem BU(w:World)(os:Array Obj)(a:Addr)(h:a.block<w.heap.size):(grow w os).cell? a=w.cell? a:=by
 have:(grow w os).heap[a.block]?=w.heap[a.block]?:=by
  unfold grow;simp[Array.getElem?_append,h]
 simp[World.cell?,this]
def kA(sc:Wd->Fr)(x:Wd):List Value:=[.string ⟨x.toArray⟩,.int .u64 ((sc x).1:Int),.int .u64 ((sc x).2:Int)]
theorem drew_drewN(w:World)(k:Nat):w.drew.drewN k=w.drewN (1+k):=by
 unfold World.drewN World.drew;rw[Nat.add_assoc]
open Go.Maps
theorem Ix(b o B n:Nat)(O:List (List Wd))(vl:Value)(Y:List Wd)(x:Wd)(w:World)(hW:Nb w)(hB:w.cell? ⟨b,o,none⟩=some (.map (some B)))(hC:eD w B n (eY O))(hl:Rd w vl (dn Y))(ha:Y.length<=2)(U:∀y∈Y,y≠[]/\y.length<=24)(hx:x≠[]/\x.length<=24)(W:gu O<=16777216) :
  bm prog 95 #[.pointer (some ⟨b,o,none⟩),vl,.string ⟨x.toArray⟩] w λe w'=>e=.returned (.agg #[.int .u64 ((qw O x Y).1:Int),.int .u64 ((qw O x Y).2:Int)])/\Below w.heap.size w w':=by
 match Y,ha with
 |[],_=>exact Oj b o B n O vl x w hW.1 hB hC hl hx W|[u],_=>exact Nh b o B n O vl u x w hW.1 hW.2.1 hB hC hl (U u (by simp)) hx W|[u,v],_=>exact Tb b o B n O vl u v x w hW.1 hW.2.1 hW.2.2 hB hC hl (U u (by simp)) (U v (by simp)) hx W|_::_::_::_,h=>simp at h
def jz(sc:Wd->Fr)(ws:List Wd):List Value:=ws.flatMap (kA sc)
theorem A3(sc:Wd->Fr)(ws:List Wd)(x:Wd):jz sc (ws++[x])=jz sc ws++kA sc x:=by simp[jz]
theorem C5(sc:Wd->Fr):∀(ws:List Wd)(i c:Nat)(h:i<ws.length),c<3->(jz sc ws)[i*3+c]?=(kA sc ws[i])[c]?:=by
 intro ws;induction ws with
 |nil=>intro i c h;simp at h|cons a l O=>
  intro i c h U;have e:jz sc (a::l)=kA sc a++jz sc l:=by simp[jz]
  rw[e]
  cases i with
  |zero=>rw[List.getElem?_append_left (by simp[kA];omega)];simp|succ i=>
   rw[List.getElem?_append_right (by simp[kA];omega)];have W:(kA sc a).length=3:=rfl;rw[W,show(i+1)*3+c-3=i*3+c by omega,O i c (by simpa using h) U];simp
theorem LQ(sc:Wd->Fr)(x:Wd):∀v∈kA sc x,v.oneCell'=true:=by
 intro v O;simp[kA]at O;rcases O with rfl|rfl|rfl<;>rfl
theorem yN{w:World}{base e n m cap g:Nat}(sc:Wd->Fr){ws:List Wd}(h:w.ownsRow base e 3 (.slice (some ⟨g,0,none⟩) m cap) n (jz sc ws))(hn:n=ws.length):HoldsK (kA sc) 3 w g 0 ws.toArray:=by
 intro j hj;have U:=by simpa using hj
 have Y:j / 3<ws.length:=by omega
 have O:(jz sc ws)[j]?=some ((flatK (kA sc) 3 ws.toArray)[j]!):=by
  rw[get_flatK _ _ _ _ (by simpa using U)];have:=C5 sc ws _ (j % 3) Y (by omega);rw[show j / 3*3+j % 3=j by omega]at this;rw[this];have e1:ws.toArray[j / 3]! = ws[j / 3]:=by rw[getElem!_pos _ _ (by simpa using Y)];simp
  rw[e1];have hc:j % 3<(kA sc ws[j / 3]).length:=by simp[kA];omega
  rw[b7 hc,getElem!_pos (kA sc _) _ hc]
 rcases h.2 with⟨h0,_⟩|⟨g',aa,ab,he,_,hg,_,_,ac,W⟩
 simp at h0;obtain⟨⟨rfl,_⟩,_,rfl⟩:=he;refine⟨?_,?_⟩;rw[dh hg];rw[<-W,List.getElem?_take,if_pos (by omega)]at O;simpa using O;simp[World.frozen?,hg]
theorem FU{w0 w:World}{k blk off m:Nat}{enc:Wd->List Value}{d:Array Wd}{os:Array Obj}(h:Below w0.heap.size w0 w)(hb:w0.heap.size<=blk):Below w0.heap.size w0 (sortWorldK enc k w blk off m d os):=by
 have U:=h.size;refine⟨h.os,h.tape,h.output,?_,λj O=>?_⟩;unfold sortWorldK cQ cR grow cP;simp;omega;rw[<-h.block j O];unfold sortWorldK cQ cR grow cP;simp;rw[Array.getElem?_append_left (by simp;omega),c9,if_neg (by omega)]
end
section
open Go.RowKit Go.Sort
theorem NM(a b:Wd)(p q r t:Nat)(w:World)(hp:p<=419430400)(hq:q<=16777217)(hr:r<=419430400)(ht:t<=16777217) :
  bm prog 97 #[.agg #[.string ⟨a.toArray⟩,.int .u64 (p:Int),.int .u64 (q:Int)],.agg #[.string ⟨b.toArray⟩,.int .u64 (r:Int),.int .u64 (t:Int)]] w λe w'=>e=.returned (.int .i64 (if zC (r*q) (p*t)≠0 then zC (r*q) (p*t)else Lib.compareBytes a b))/\∃k os,w'=grow (w.drewN k) os:=by
 have h1:=λW=>Nv r t p q W hr ht hp hq
 have h2:∀W:World,bm prog 139 #[.string ⟨a.toArray⟩,.string ⟨b.toArray⟩] W λe w'=>e=.returned (.int .i64 (Lib.compareBytes a b))/\W=w':=λW=>by
  refine(Any.strings_Compare QE ⟨a.toArray⟩ ⟨b.toArray⟩ W).mono ?_;rintro e w' ⟨rfl,rfl⟩;exact⟨rfl,rfl⟩
 obtain⟨z,hz⟩:∃z,z=zC (r*q) (p*t):=⟨_,rfl⟩;obtain⟨y,hy⟩:∃y,y=Lib.compareBytes a b:=⟨_,rfl⟩;rw[<-hz]at h1⊢;rw[<-hy]at h2⊢;obtain⟨wT,Y⟩:∃wT,wT=if z≠0 then z else y:=⟨_,rfl⟩
 rw[<-Y]
 have ac:∀(g:Nat)(W:World),W.cell? ⟨g,0,none⟩=some (.int .i64 z)->W.cell? ⟨g,1,none⟩=some (.int .i64 y)->bm prog 126 #[.slice (some ⟨g,0,none⟩) 2 2] W λe w'=>e=.returned (.int .i64 wT)/\W=w':=λg W k1 k2=>by
  rw[Y];exact C0 z y g W k1 k2
 clear hz hy Y;obtain⟨O,U⟩:∃O,O=(w.alloc (.cells #[.string ⟨a.toArray⟩,.int .u64 (p:Int),.int .u64 (q:Int)] 150)).alloc (.cells #[.string ⟨b.toArray⟩,.int .u64 (r:Int),.int .u64 (t:Int)] 150):=⟨_,rfl⟩
 have hA:∀j,O.cell? ⟨w.heap.size,j,none⟩=(#[Value.string ⟨a.toArray⟩,.int .u64 (p:Int),.int .u64 (q:Int)]:Array Value)[j]?:=λj=>by
  rw[U,World.cell?_alloc_past _ _ _ (by simp),cI _ _ _ _ rfl]
 have aa:∀j,O.cell? ⟨w.heap.size+1,j,none⟩=(#[Value.string ⟨b.toArray⟩,.int .u64 (r:Int),.int .u64 (t:Int)]:Array Value)[j]?:=λj=>by
  rw[U,cI _ _ _ _ (by simp)]
 have ad:O.heap.size=w.heap.size+2:=by rw[U];simp
 have ab:∃os,O=grow w os:=⟨_,by rw[U,cN,cN,cO]⟩
 have ae:bm prog 138 #[.agg #[.int .u64 (r:Int),.int .u64 (t:Int)],.agg #[.int .u64 (p:Int),.int .u64 (q:Int)]] O.drew λe w1=>e=.returned (.int .i64 z)/\(∃k os,w1=grow (w.drewN k) os)/\w1.cell? ⟨w.heap.size,0,none⟩=some (.string ⟨a.toArray⟩)/\w1.cell? ⟨w.heap.size+1,0,none⟩=some (.string ⟨b.toArray⟩):=by
  refine(h1 O.drew).mono ?_;rintro e w1 ⟨rfl,k,os,rfl⟩;refine⟨rfl,?_,?_,?_⟩;obtain⟨af,ag⟩:=ab;refine⟨1+k,af++os,?_⟩;rw[ag,<-cO,<-drew_drewN];rfl;rw[BU _ _ _ (by show w.heap.size<O.heap.size;omega)];exact hA 0;rw[BU _ _ _ (by show w.heap.size+1<O.heap.size;omega)];exact aa 0
 have a0:O.cell? ⟨w.heap.size,0,none⟩=some (.string ⟨a.toArray⟩):=hA 0;have a1:O.cell? ⟨w.heap.size,1,none⟩=some (.int .u64 (p:Int)):=hA 1;have a2:O.cell? ⟨w.heap.size,2,none⟩=some (.int .u64 (q:Int)):=hA 2;have b0:O.cell? ⟨w.heap.size+1,0,none⟩=some (.string ⟨b.toArray⟩):=aa 0;have b1:O.cell? ⟨w.heap.size+1,1,none⟩=some (.int .u64 (r:Int)):=aa 1;have b2:O.cell? ⟨w.heap.size+1,2,none⟩=some (.int .u64 (t:Int)):=aa 2;clear h1 hA aa ad ab;go_enter func97,ntmps97;go_wp2_with fail;rw[<-U];clear U
 go_region_law (first
  |(go_simp
    go_at_call 138;refine ae.mono ?_
    rintro e w1 ⟨rfl,ah,ai,aj⟩)
  |(go_simp
    go_at_call 139;refine(h2 _).mono ?_
    rintro e w' ⟨rfl,rfl⟩)
  |(go_simp
    go_at_call 126;refine(ac _ _ (BG (by rfl)).1 (BG (by rfl)).2).mono ?_
    rintro e w' ⟨rfl,rfl⟩))
 all_goals
  go_wp2;go_ret;obtain⟨k,os,rfl⟩:=ah;exact⟨rfl,k,_,by rw[cN,cO]⟩
open Go.Maps
theorem OX:(prog.info? 150).map (λi=>(i.zero,i.size,i.bytes))=some (some (.agg #[.string ⟨#[]⟩,.int .u64 0,.int .u64 0]),3,32):=by kernel_rfl
theorem Mj(O:List (List Wd))(l:List Wd)(U:gu O<=16777216)(blk off size:Nat)(w:World):CmpLays prog 97 #[] (kA (Am O l)) 3 (TB (Am O l)) blk off size w:=by
 intro m os W _ x y;have Y:=Nx O l x;have hy:=Nx O l y;exact NM x y _ _ _ _ _ (by omega) (by omega) (by omega) (by omega)
theorem M1(W:List (List Wd))(l:List Wd)(most:Nat)(kn:List Wd)(hk:kn.Perm (eJ W))(ab:gu W<=16777216)(au:Option Addr)(cu:Nat)(w wr:World)
  (O:wr.ownsRow w.heap.size 150 3 (.slice au kn.length cu) kn.length (jz (Am W l) kn)) (hb:Below w.heap.size w wr) :
  bm prog 96 #[.slice au kn.length cu,.func (.func 97) #[] #[]] wr λe w2=>e=.returned (.tuple #[])/\Below w.heap.size w w2/\
   ∃d:List Wd,iJ W l most=d.take (min most kn.length)/\d.length=kn.length/\∀i(h:i<d.length),∃g,au=some ⟨g,0,none⟩/\w2.cell? ⟨g,i*3,none⟩=some (.string ⟨d[i].toArray⟩)/\(∃a,w2.cell? ⟨g,i*3+1,none⟩=some (.int .u64 a))/\(∃a,w2.cell? ⟨g,i*3+2,none⟩=some (.int .u64 a)):=by
 by_cases h0:kn=[];subst h0;have U:=AnyF.slices_SortFunc_none Fz au cu (.func (.func 97) #[] #[]) wr;refine U.mono ?_;rintro e w2 ⟨rfl,rfl⟩;refine⟨rfl,hb,[],?_,rfl,nofun⟩;have ac:=List.Perm.eq_nil hk.symm;unfold iJ;rw[ac];simp[zB]
 obtain⟨g,rfl⟩:∃g,au=some _:=by
  rcases O.2 with⟨he,hn⟩|⟨g,cap,ae,he,_⟩
  exact absurd (List.length_eq_zero_iff.1 (by simpa using hn)) h0;simp only[Value.slice.injEq]at he;exact⟨g,he.1⟩
 have aa:=O.lt g rfl
 have U:=AnyQ.slices_SortFunc Fz 3 isAgg150 sizeOf150 _ (λ_=>rfl) (LQ _) _ (QM W l) 97 _ g 0 cu _ wr
  (enters_of func97 (by kernel_rfl) rfl) (Mj W l ab g 0 _ wr) (yN _ O rfl) aa.2 (by have h2:=hk.length_eq;have h3:=I7 W _ (bJ _);rw[List.take_length]at h3;simp;omega)
 refine U.mono ?_;rintro e w2 ⟨rfl,d',nq,os,hp,hs,rfl⟩;have ad:d'.size=kn.length:=by rw[hp.1];simp
 have hH:HoldsK (kA (Am W l)) 3 (sortWorldK (kA (Am W l)) 3 wr g 0 nq d' os) g 0 d':=by
  refine holdsK_grow _ _ _ _ _ _ _ ?_ (holdsK_putRowK _ _ _ _ _ _ _ (holdsK_ahead _ _ _ _ _ _ _ (yN _ O rfl)) hp.1);unfold cQ cR cP;simp[Sort.ahead];exact aa.2
 refine⟨rfl,FU hb aa.1,d'.toList,?_,by simpa using ad,λi hi=>?_⟩;exact zM W l kn most d' hk hp hs;have Y:=by simpa using hi
 have g0:=(HoldsK.cell hH Y (c:=0) (by decide)).1;have g1:=(HoldsK.cell hH Y (c:=1) (by decide)).1;have g2:=(HoldsK.cell hH Y (c:=2) (by decide)).1;have e2:d'[i]! = d'.toList[i]:=by rw[getElem!_pos d' i Y];rfl
 rw[e2]at g0 g1 g2;rw[bQ]at g0 g1 g2;exact⟨g,rfl,g0,⟨_,g1⟩,⟨_,g2⟩⟩
theorem Qf{w:World}{x y z:Value}{t:bo}{g:Nat}(U:g=w.heap.size):tj (w.alloc (.cells #[x,y,z] t)) 3 (.slice (some ⟨g,0,none⟩) 1 1) 1 [x,y,z]:=by
 subst U;refine⟨some _,1,rfl,bJ _,by unfold bl;omega,rfl,λj u O=>⟨w.heap.size,0,rfl,?_⟩⟩;match j,O with
 |0,O=>simpa using O|1,O=>simpa using O|2,O=>simpa using O|j+3,O=>simp at O
theorem O5(F:Nat->Prop)(b:Nat)(vB vS:Value)(W:List (List Wd))(B n:Nat)(vK:Value)(kn l:List Wd)(vl:Value)(most:Nat)(w:World)(hW:Nb w)(hP:PW w F b vB vS W B n vK kn)
  (hl:Rd w vl (dn l)) (aA:∀y∈l,y≠[]/\y.length<=24) (aS:l.length<=24) (h1:1<=most) (aT:most<=20) (av:gu W<=16777216) :
  bm prog 68 #[.pointer (some ⟨b,2,none⟩),vl,.int .i64 (most:Int)] w λe w'=>∃v,e=.returned v/\w'.ownsRow w.heap.size 9 1 v (iJ W l most).length (dn (iJ W l most))/\Below w.heap.size w w':=by
 obtain⟨i0,hi,aw,ax,ay⟩:=bv OX;obtain⟨i9,aB,aC,aD,aE⟩:=bv tW;obtain⟨al,cl,rfl,jP,hml,_⟩:=id hl;rw[dD]at hl jP⊢;unfold bl at hml;obtain⟨aK,cK,rfl,aU⟩:=dK hP.row;have aO:=hP.ql
 have aF:da (∀i u,(dn kn)[i]?=some u->∃b off,aK=some ⟨b,off,none⟩/\w.cell? ⟨b,off+i,none⟩=some u):=by
  obtain⟨aV,aW,az,_,_,aG⟩:=Rd.jb hP.row;simp only[Value.slice.injEq]at az;obtain⟨rfl,_,rfl⟩:=az;exact aG
 have a0:w.cell? ⟨b,2,none⟩=some (.map (some B)):=by rw[dh hP.blk];rfl
 have a3:w.cell? ⟨b,3,none⟩=some (.slice aK kn.length cK):=by rw[dh hP.blk];rfl
 obtain⟨k,hk⟩:∃k,k=l.length-2:=⟨_,rfl⟩;have aX:max (0:Int) ((l.length:Int)-3+1)=(k:Int):=by omega
 have aY:(k:Int)<=(l.length:Int):=by omega
 have ak:Rd w (.slice (if cl=k then al else df (λx=>x.add k) al) (l.length-k) (cl-k)) (dn (mE l)):=by
  unfold mE;rw[<-hk];exact hl.xT k (by omega)
 have aP:(mE l).length=l.length-k:=by unfold mE;rw[<-hk];simp
 generalize aZ:(if cl=k then al else df (λx=>x.add k) al)=aa at ak;obtain⟨W0,aH,hown0,am⟩:=run_make_own (P:=prog) w w.heap.size 145 150 i0 _ 3 cg hi aw ax .i64 .i64 kn.length (by rw[ay];omega) (by unfold bl;omega) (bJ _);have hb0:Below w.heap.size w W0:=(cF _ w).grown am (bJ _) (λk hk=>by cases hk);have a4:=bk hb0 a3;have HP:da (PW _ _ _ _ _ _ _ _ _ _):=hP;clear hP hl hk;go_enter func68,ntmps68;go_wp2_with fail;go_loopw [7,31] (λu i wr=>∃j:Nat,j<=kn.length/\i=.int .i64 j/\wr.ownsRow w.heap.size 150 3 u j (jz (Am W l) (kn.take j))/\Below w.heap.size w wr) (λ_ i _=>kn.length-(intOf i).toNat)
 case atStart=>exact⟨0,bL _,rfl,hown0,hb0⟩
 case round=>
  obtain⟨j,hj,rfl,O,hb⟩:=hrel;have HS:=hb.size;obtain⟨au,cu,rfl,ba⟩:=jf O;by_cases an:j<kn.length
  .obtain⟨bK,oK,rfl,ac⟩:=aF.out j _ (gU kn j an);have a':=bk hb ac;have ad:kn[j]∈eJ W:=HP.out.perm.mem_iff.1 (b9 an)
   have hx:kn[j]≠[]/\kn[j].length<=24:=by
    obtain⟨t,ht,aI⟩:=(k7 W _).1 ad;exact HP.out.ok t ht _ aI
   have HE:da (kn.take (j+1)=kn.take j++[kn[j]]):=b4 an;have af:=Ix b 2 B n W _ (mE l) kn[j] wr (hW.below hb) (bk hb a0) (HP.out.cnt.below hb) (ak.below hb) (LH l) (λy hy=>aA y (bG hy)) hx av;rw[<-Ig W l kn[j] ad]at af;clear ad ac;generalize kn[j]=x at *;obtain⟨p1,ao⟩:∃p1:Int,p1=((Am W l x).1:Int):=⟨_,rfl⟩;obtain⟨p2,ap⟩:∃p2:Int,p2=((Am W l x).2:Int):=⟨_,rfl⟩;rw[<-ao,<-ap]at af
   have HC:da (kA (Am W l) x=[.string ⟨x.toArray⟩,.int .u64 p1,.int .u64 p2]):=by
    show kA (Am W l) x=_;unfold kA;rw[ao,ap]
   clear ao ap;go_wp2_with fail;refine af.mono ?_;rintro e w1 ⟨rfl,ar⟩;clear af;have aQ:=ar.size;have a5:Below w.heap.size w w1:=hb.trans (ar.mono HS);have ae:=ig O (λk hk=>ar.block k (O.lt k hk).2);go_wp2_with (at_builtin;go_must (refine xe _ rfl _ _ 145 rfl w.heap.size 150 i0 _ 3 32 cg hi aw ax ay rfl (by decide) _ _ _ rfl (ae.alloc _) _ 1 [.string ⟨x.toArray⟩,.int .u64 p1,.int .u64 p2] rfl ?cr ?c0 ?c1 ?c2 ?c3 ?_))
   case cr=>exact Qf rfl
   case c0=>intro u hu;simp at hu;rcases hu with rfl|rfl|rfl<;>rfl
   case c1=>omega
   case c2=>unfold bl;omega
   case c3=>first|omega|(simp;omega)
   intro v' w2 hown2 a6 _;rw[<-HC.out,<-A3,<-HE.out]at hown2;have hb2:Below w.heap.size w w2:=(a5.alloc (by omega) _).grown a6 (by simp;omega) (λk hk=>(ae.lt k hk).1);go_wp2_with fail;go_roundw
   case rel=>exact⟨j+1,by omega,by go_num,hown2,hb2⟩
   case measure=>simp[intOf];omega
  have ej:j=kn.length:=by omega
  subst ej;rw[bB (bJ _)]at O;have Y:=M1 W l most kn HP.out.perm av au cu w wr O hb;clear a0 a3 a4 aH hown0 am hb0 O hb ak;obtain⟨m,hm⟩:∃m,m=min most kn.length:=⟨_,rfl⟩;have bc:min (most:Int) (kn.length:Int)=(m:Int):=by omega
  have bd:(m:Int)<=(cu:Int):=by omega
  have be:m<=20:=by omega
  rw[<-hm]at Y;clear hm;go_wp2_with fail;refine Y.mono ?_;rintro e w2 ⟨rfl,hb2,d,a7,bf,a8⟩;clear Y;have aJ:da (iJ W l most=d.take m):=a7;have aL:da (∀i(h:i<d.length),∃g,au=some ⟨g,0,none⟩/\w2.cell? ⟨g,i*3,none⟩=some (.string ⟨d[i].toArray⟩)/\(∃a,w2.cell? ⟨g,i*3+1,none⟩=some (.int .u64 a))/\(∃a,w2.cell? ⟨g,i*3+2,none⟩=some (.int .u64 a))):=a8;have bg:m<=d.length:=by omega
  clear a7 a8;have ag:=hb2.size;go_wp2_with fail;go_loopw [10,54] (λu i wx=>∃q:Nat,q<=m/\i=.int .i64 q/\wx.ownsRow w2.heap.size 9 1 u q (dn (d.take q))/\Below w2.heap.size w2 wx) (λ_ i _=>m-(intOf i).toNat)
  case atStart=>exact⟨0,bL _,rfl,cJ _ _ _ _,cF _ _⟩
  case round=>
   obtain⟨q,hq,rfl,U,ab⟩:=hrel;have aM:=ab.size;have a9:Below w.heap.size w wr:=hb2.trans (ab.mono ag);obtain⟨aq,cq,rfl,bh⟩:=dK U;by_cases aR:q<m
   .obtain⟨g,rfl,ah,⟨y1,ai⟩,⟨y2,aj⟩⟩:=aL.out q (by omega);have am:=bk ab ah;have bi:=bk ab ai;have a6:=bk ab aj;have HE:da (d.take (q+1)=d.take q++[d[q]'(by omega)]):=b4 (by omega);clear ah ai aj;generalize d[q]'(by omega)=x at *;go_wp2_with (at_builtin;go_must (refine fp _ rfl _ _ 31 rfl w2.heap.size 9 i9 (.string ⟨#[]⟩) 16 ca aB aC aD aE rfl _ _ _ rfl ((U.alloc _).alloc _) ⟨wr.heap.size+1,0,none⟩ (.string ⟨x.toArray⟩) rfl ?c0 rfl ?c1 ?c2 ?c3 ?_))
    case c0=>exact M9 (by simp)
    case c1=>omega
    case c2=>unfold bl;omega
    case c3=>first|omega|(simp;omega)
    intro v' w4 hown4 aN _;rw[<-kZ,<-HE.out]at hown4;have hb4:Below w2.heap.size w2 w4:=((ab.alloc aM _).alloc (by simp;omega) _).grown aN (by simp;omega) (λk hk=>(U.lt k hk).1);go_wp2_with fail;go_roundw
    case rel=>exact⟨q+1,by omega,by go_num,hown4,hb4⟩
    case measure=>simp[intOf];omega
   have eq:q=m:=by omega
   subst eq;go_wp2;go_ret;refine⟨_,rfl,?_,a9⟩;rw[aJ.out];have:(d.take q).length=q:=by simp;omega
   rw[this];exact jH U ag
end
section
open Go.RowKit Go.Maps
theorem Po(l:List UInt8):∀x∈iN l,x≠[]/\x.length<=l.length:=by
 intro x U;obtain⟨i,hi,rfl⟩:=bD.1 U;obtain⟨W,h2⟩:=List.mem_filter.1 hi;have O:=List.mem_range.1 W;unfold eE at h2;simp only[cY]at h2;unfold va;refine⟨?_,?_⟩;rw[List.drop_eq_getElem_cons O,List.takeWhile_cons]
 have:eB l[i]=true:=by
  have:=h2.1;rw[b5,b7 O]at this;exact this
 rw[this];simp;have:=(List.takeWhile_sublist (p:=eB) (l:=l.drop i)).length_le;simp at this;omega
theorem vJ(s:ByteArray)(O:eu s.data.toList=true):(∀x∈iN (dO s.data.toList),x≠[]/\x.length<=24)/\(iN (dO s.data.toList)).length<=24:=by
 have U:=by simp only[eu,cY,decide_eq_true_eq]at O;exact O.1
 constructor;intro x W;have:=Po _ x W;rw[fx]at this;exact⟨this.1,by omega⟩;have:=II (dO s.data.toList) (dO s.data.toList).length;rw[fx]at this;unfold iN;rw[fx];omega
def PE(w:World)(F:Nat->Prop)(b:Nat)(O:List (List Wd)):Prop:=(∀k,F k->k<w.heap.size)/\∃vB vS B n vK kn,PW w F b vB vS O B n vK kn
theorem PW.stay{w w':World}{F:Nat->Prop}{b:Nat}{vB vS:Value}{O:List (List Wd)}{B n:Nat}{vK:Value}{kn:List Wd}(h:PW w F b vB vS O B n vK kn)(hb:∀k,F k->w'.heap[k]?=w.heap[k]?):PW w' F b vB vS O B n vK kn where
 blk:=by rw[hb b h.fb];exact h.blk
 fb:=h.fb;fB:=h.fB;cnt:=h.cnt.stay (hb B h.fB);room:=h.room;row:=eh h.row (λk U=>hb k (h.lq k U));lq:=h.lq;perm:=h.perm;ok:=h.ok;ql:=h.ql
theorem Ps(w:World):bm prog 64 #[] w λe w'=>∃B:Nat,e=.returned (.agg #[.map (some B),.slice none 0 0])/\w.heap.size<=B/\eD w' B 0 (λ_=>0)/\Below w.heap.size w w':=by
 have O:=@run_makeMap prog;go_enter func64,ntmps64;go_wp2;refine bp (v:=.agg #[.map (some (w.heap.size+1)),.slice none 0 0]) (by simp[bs,results64,go_sem]) rfl ⟨_,rfl,by omega,?_,((cF ..).alloc (bJ _) _).alloc (by simp) _⟩;have h:=eD.made (w.alloc (.cells #[.map (some (w.heap.size+1)),.slice none 0 0] 88));have e:(w.alloc (.cells #[.map (some (w.heap.size+1)),.slice none 0 0] 88)).heap.size=w.heap.size+1:=by simp
 rw[e]at h;exact h
theorem Gi(most:Int)(w:World):bm prog 47 #[.int .i64 most] w λe w'=>e=.returned (.bool (decide (1<=most/\most<=20)))/\w=w':=by
 by_cases O:1<=most
 .by_cases U:most<=20
  .rw[decide_eq_true ⟨O,U⟩];go_wp2;go_ret;exact⟨dM (by simp),rfl⟩
  rw[decide_eq_false _];go_wp2;go_ret;exact⟨dM (by simp),rfl⟩
 rw[decide_eq_false (λh=>O h.1)];go_wp2;go_ret;exact⟨dM (by simp),rfl⟩
theorem Ev(w:World)(F:Nat->Prop)(b:Nat)(Y:List (List Wd))(s:ByteArray)(most:Int)(hW:Nb w)(hP:PE w F b Y)(hB:gu Y<=16777216)(hs:s.size<=bl) :
  bm prog 35 #[.pointer (some ⟨b,0,none⟩),.string s,.int .i64 most] w λe w'=>∃v,e=.returned (.tuple #[v,.int .i64 (uT Y s.data.toList most).2])/\
   w'.ownsRow w.heap.size 9 1 v (uT Y s.data.toList most).1.length (dn (uT Y s.data.toList most).1)/\Below w.heap.size w w':=by
 have hT:=Gi most w;by_cases h:most<1\/20<most
 .have e:uT Y s.data.toList most=([],3):=by unfold uT;rw[if_pos h]
  rw[e];rw[decide_eq_false (by omega)]at hT;clear h e;go_enter c8,cx;go_wp2_with fail;refine hT.mono ?_;rintro e w' ⟨rfl,rfl⟩;go_wp2;go_ret2;exact⟨_,rfl,cJ _ _ _ _,cF _ _⟩
 rw[decide_eq_true (by omega)]at hT;have hY:=qS s w hs;by_cases hq:eu s.data.toList=true
 .rw[hq]at hY;obtain⟨m,rfl⟩:∃m:Nat,most=(m:Int):=⟨most.toNat,by omega⟩;have e:uT Y s.data.toList (m:Int)=(iJ Y (iN (dO s.data.toList)) m,0):=by unfold uT;rw[if_neg h,if_pos hq];rfl
  rw[e];obtain⟨ae,af⟩:=vJ s hq;have ag:=wB s w.drew hq;have aj:1<=m:=by omega
  have ak:m<=20:=by omega
  clear h e hq;generalize iN (dO s.data.toList)=l at *;obtain⟨hF,vB,vS,B,n,vK,kn,ah⟩:=hP
  have ai:bm prog 67 #[.string s] w.drew λe w1=>∃a c,e=.returned (.slice a l.length c)/\Below w.heap.size w w1/\
    bm prog 68 #[.pointer (some ⟨b,2,none⟩),.slice a l.length c,.int .i64 (m:Int)] w1 λe w2=>∃a' c',e=.returned (.slice a' (iJ Y l m).length c')/\w2.ownsRow w.heap.size 9 1 (.slice a' (iJ Y l m).length c') (iJ Y l m).length (dn (iJ Y l m))/\Below w.heap.size w w2:=by
   refine ag.mono ?_;rintro e w1 ⟨v,rfl,aa,O⟩;have ab:w1.ownsRow w.heap.size 9 1 v l.length (dn l):=aa;have W:Below w.heap.size w w1:=⟨O.os,O.tape,O.output,O.size,O.block⟩;clear aa O;obtain⟨a,c,rfl,_⟩:=dK ab;refine⟨a,c,rfl,W,?_⟩;refine(O5 F b vB vS Y B n vK kn l _ m w1 (hW.below W) (ah.stay (λk hk=>W.block k (hF k hk))) (Rd.jb ab) ae af aj ak hB).mono ?_;rintro e w2 ⟨v2,rfl,U,ac⟩;obtain⟨a',c',rfl,_⟩:=dK U;exact⟨a',c',rfl,jH U W.size,W.trans (ac.mono W.size)⟩
  clear ag ae af ah;go_enter c8,cx;go_wp2_with fail;refine hT.mono ?_;rintro e w' ⟨rfl,rfl⟩;go_wp2_with fail;refine hY.mono ?_;rintro e w' ⟨rfl,rfl⟩;clear hT hY;go_wp2_with fail
  go_region_law (first
   |(go_simp
     go_at_call 67;refine ai.mono ?_
     rintro e w1 ⟨a,c,rfl,W,ad⟩)
   |(go_simp
     go_at_call 68;refine ad.mono ?_
     rintro e w2 ⟨a',c',rfl,U,ac⟩))
  all_goals
   go_wp2;go_ret2;exact⟨_,rfl,U,ac⟩
 have al:eu s.data.toList=false:=by simpa using hq
 rw[al]at hY;have e:uT Y s.data.toList most=([],2):=by unfold uT;rw[if_neg h,if_neg hq]
 rw[e];clear h e hq;go_enter c8,cx;go_wp2_with fail;refine hT.mono ?_;rintro e w' ⟨rfl,rfl⟩;go_wp2_with fail;refine hY.mono ?_;rintro e w' ⟨rfl,rfl⟩;go_wp2;go_ret2;exact⟨_,rfl,cJ _ _ _ _,cF _ _⟩
variable {kl:Lit} {r:Nat} {e t:bo} {key:Value} {w':World}
structure G3(P:Program)(k:bo)(D:DataW Value)(l:List (Value×Value)):Prop where
 nodup:(l.map Prod.fst).Nodup
 ok:∀p∈l,∃kl,br P k p.1=some kl
 size:de D=l.length
 has:∀key kl,br P k key=some kl->(db D kl=true↔∃p∈l,p.1=key)
 at_:∀p∈l,∀kl,br P k p.1=some kl->∀z,D.atKey kl z=.held p.2
def iZ(P:Program)(k:bo)(w:World)(B:Nat)(l:List (Value×Value)):Prop:=∃D:DataW Value,w.ownsMap P k lh B l.length D/\G3 P k D l
def fV(P:Program)(k:bo)(w:World)(B r:Nat)(l rest:List (Value×Value)):Prop:=
 (rest.map Prod.fst).Nodup/\(∀p∈rest,p∈l)/\∃D left cnt,w.ranges P k lh B r l.length D left cnt/\G3 P k D l/\∀key kl,br P k key=some kl->(left kl=true↔∃p∈rest,p.1=key)
section
variable {P:Program} {k:bo} {w:World} {B:Nat} {l:List (Value×Value)}
theorem G3.perm{D:DataW Value}{m:List (Value×Value)}(h:G3 P k D l)(O:l.Perm m):G3 P k D m where
 nodup:=(O.map Prod.fst).nodup_iff.1 h.nodup
 ok:=λp hm=>h.ok p (O.mem_iff.2 hm);size:=by rw[h.size,O.length_eq]
 has:=λkey kl U=>(h.has key kl U).trans ⟨λ⟨p,a,b⟩=>⟨p,O.mem_iff.1 a,b⟩,λ⟨p,a,b⟩=>⟨p,O.mem_iff.2 a,b⟩⟩;at_:=λp hm=>h.at_ p (O.mem_iff.2 hm)
theorem iZ.perm{m:List (Value×Value)}(h:iZ P k w B l)(O:l.Perm m):iZ P k w B m:=by
 obtain⟨D,U,W⟩:=h;exact⟨D,by rw[<-O.length_eq];exact U,W.perm O⟩
theorem iZ.lt(h:iZ P k w B l):B<w.heap.size:=by
 obtain⟨D,O,_⟩:=h;exact O.lt
theorem iZ.stay(h:iZ P k w B l)(hb:w'.heap[B]?=w.heap[B]?):iZ P k w' B l:=by
 obtain⟨D,⟨es,clock,O,U⟩,W⟩:=h;exact⟨D,⟨es,clock,hb.trans O,U⟩,W⟩
theorem iZ.below(h:iZ P k w B l)(hb:Below w.heap.size w w'):iZ P k w' B l:=h.stay (hb.block B h.lt)
theorem iZ.made(w:World):iZ P k (w.alloc (.map #[] 0)) w.heap.size []:=
 ⟨.map [],cL ..,⟨List.Pairwise.nil,nofun,rfl,λ_ _ _=>⟨λh=>(by simp[db]at h),nofun⟩,nofun⟩⟩
theorem iZ.put(h:iZ P k w B l)(K:Keyed P k)(ht:P.underlying t=some (.map k e))(hn:l.length<bl)(gK:br P k key=some kl)(O:∀p∈l,p.1≠key)(v:Value) :
  ∃w',(bU t (.map (some B)) key v).run P w=.ok () w'/\iZ P k w' B (l++[(key,v)])/\w.grownBy w' (some B)/\w'.heap.size=w.heap.size:=by
 obtain⟨D,h1,Y⟩:=h;obtain⟨w',hr,ho,aa⟩:=h1.store K ht hn gK (d:=.held v) (ps:=[]) (val:=v) rfl;have hT:=h1.tidy K
 have ad:db D kl=false:=by
  cases hh:db D kl with
  |false=>rfl|true=>
   obtain⟨p,U,e⟩:=(Y.has key kl gK).1 hh;exact absurd e (O p U)
 have ab:de (D.put kl (.held v))=(l++[(key,v)]).length:=by
  rw[size_put hT,ad,Y.size];simp
 refine⟨w',hr,⟨_,by rw[<-ab];exact zg ho,⟨?_,?_,ab,?_,?_⟩⟩,aa.grown,?_⟩;rw[List.map_append,bI,List.map_nil,List.nodup_append];refine⟨Y.nodup,by simp,?_⟩;intro a ha b hb;simp only[b8]at hb;subst hb;obtain⟨p,U,rfl⟩:=bD.1 ha;exact O p U;intro p U;rcases bA.1 U with h|h
 exact Y.ok p h;simp only[b8]at h;subst h;exact⟨kl,gK⟩;intro y ly hy;by_cases e:ly=kl;subst e;rw[has_put_same h1.isMap (K.key gK)];exact⟨λ_=>⟨(key,v),by simp,K.inj gK hy⟩,λ_=>rfl⟩;rw[has_put_other e,Y.has y ly hy];constructor;rintro⟨p,U,e⟩;exact⟨p,List.mem_append_left _ U,e⟩;rintro⟨p,U,e2⟩;rcases bA.1 U with h|h
 exact⟨p,h,e2⟩;simp only[b8]at h;subst h;rw[<-e2,gK]at hy;exact absurd (by simpa using hy.symm) e;intro p U lp W z;rcases bA.1 U with h|h
 have ae:lp≠kl:=λe=>by subst e;exact O p h (K.inj W gK)
 rw[dc ae];exact Y.at_ p h lp W z;simp only[b8]at h;subst h;rw[gK]at W;simp only[cM]at W;subst W;rw[dd h1.isMap (K.key gK)];obtain⟨es,clock,af,ac,_,rfl⟩:=aa;simp[ChangeMaps.setBlock]
theorem fV.owns{rest:List (Value×Value)}(h:fV P k w B r l rest):iZ P k w B l:=by
 obtain⟨_,_,D,left,cnt,O,U,_⟩:=h;exact⟨D,O.owns,U⟩
theorem fV.lt{rest:List (Value×Value)}(h:fV P k w B r l rest):r<w.heap.size:=by
 obtain⟨_,_,D,left,cnt,O,U,_⟩:=h;exact O.lt
theorem fV.stay{rest:List (Value×Value)}(h:fV P k w B r l rest)(U:w'.heap[B]?=w.heap[B]?)(W:w'.heap[r]?=w.heap[r]?):fV P k w' B r l rest:=by
 obtain⟨a,b,D,left,cnt,⟨es,clock,O,seen,c0,g1,Y,g3,g4,g5,g6⟩,h2,h3⟩:=h;exact⟨a,b,D,left,cnt,⟨es,clock,O,seen,c0,U.trans g1,Y,g3,g4,W.trans g5,g6⟩,h2,h3⟩
theorem iZ.range(h:iZ P k w B l)(K:Keyed P k)(U:P.underlying t=some (.map k e)) :
  ∃w',(Instr.range t (.map (some B))).run P w=.ok (.pointer (some ⟨w.heap.size,0,none⟩)) w'/\fV P k w' B w.heap.size l l/\w.grownBy w' none/\w'.heap.size=w.heap.size+1:=by
 obtain⟨D,W,O⟩:=h;obtain⟨w',Y,r1,r2,r3⟩:=W.range K U;exact⟨w',Y,⟨O.nodup,λ_ h=>h,D,_,_,r1,O,O.has⟩,r2,r3⟩
theorem fV.next{rest:List (Value×Value)}(h:fV P k w B r l rest)(K:Keyed P k)(ty:bo) :
  (rest=[]/\(bZ (.pointer (some ⟨r,0,none⟩)) false ty).run P w=.ok (.tuple #[.bool false]) w)\/
  ∃p O w',rest.Perm (p::O)/\(bZ (.pointer (some ⟨r,0,none⟩)) false ty).run P w=.ok (.tuple #[.bool true,p.1,p.2]) w'/\fV P k w' B r l O/\w'.rangeLeft B r<w.rangeLeft B r/\
   w.grownBy w' (some r)/\w'.heap.size=w.heap.size/\(bY (.pointer (some ⟨r,0,none⟩))).run P w'=.ok (.tuple #[p.1,p.2]) w':=by
 obtain⟨hn,U,D,left,cnt,h1,h2,h3⟩:=h;rcases h1.next K ty with⟨_,hl,hr⟩|⟨key,v,kl,y,w',ab,gK,ag,hv,ah,hr,ac,ai,hg,hs,aj⟩
 left;refine⟨?_,hr⟩
 cases rest with
 |nil=>rfl|cons p rest=>
  obtain⟨kl,ak⟩:=h2.ok p (U p (by simp));have:=(h3 _ kl ak).2 ⟨p,by simp,rfl⟩;rw[hl kl]at this;cases this
 right;obtain⟨p,hp,al⟩:=(h3 key kl gK).1 ag;subst al
 have am:=by
  have e1:=h2.at_ p (U p hp) kl gK (.held v);rw[ah]at e1;simp only[lh,cM]at hv;rw[<-hv]at e1;simpa using e1
 subst am;obtain⟨x,z,rfl⟩:=List.append_of_mem hp;have W:(x++p::z).Perm _:=List.perm_middle;have aa:=(W.map _).nodup_iff.1 hn;rw[bI,List.nodup_cons]at aa;refine⟨p,x++z,w',W,hr,⟨aa.2,λq hq=>U q (W.mem_iff.2 (bH _ hq)),D,_,ab,ac,h2,λad ae Y=>?_⟩,?_,hg,hs,aj⟩;rw[cY,h3 ad ae Y];constructor;rintro⟨⟨q,hq,e⟩,af⟩;rcases List.mem_cons.1 (W.mem_iff.1 hq)with rfl|hq
 rw[e,Y]at gK;simp only[cM]at gK;subst gK;rw[WideAt.sameKey_self (K.key Y)]at af;cases af;exact⟨q,hq,e⟩;rintro⟨q,hq,e⟩;refine⟨⟨q,W.mem_iff.2 (bH _ hq),e⟩,?_⟩
 have:ae≠kl:=λe2=>by
  subst e2;have:=K.inj Y gK;exact aa.1 (bD.2 ⟨q,hq,e.trans this⟩)
 rw[sameKey_ne this];rfl;rw[ac.left_eq,h1.left_eq];exact ai
end
section
variable {P:Program} {k:bo} {B:Nat} {l:List (Value×Value)} (w:World) {ops:Array Oper} {rest:List Oper} {o:Oper} {a:Act} {Q:Exit->Act->World->Prop}
theorem A9(Y:o.guard=none)(m:Operand)(t:bo)(U:o.op=Op.range t m)(e:bo)(K:Keyed P k)(ht:P.underlying t=some (.map k e))
  (hm:a.eval m=.map (some B)) (h:iZ P k w B l)
  (hK:∀w',fV P k w' B w.heap.size l l->w.grownBy w' none->w'.heap.size=w.heap.size+1->bu P ops Q rest (a.put o.dst (.pointer (some ⟨w.heap.size,0,none⟩))) w') :
  bu P ops Q (o::rest) a w:=by
 refine bw Y λK' W=>?_;obtain⟨w',O,r1,r2,r3⟩:=h.range K ht;unfold Oper.wp;simp[bz,U,hm,O,cE];exact W _ _ (hK w' r1 r2 r3)
theorem Dd(hg:o.guard=none)(it:Operand)(Y:o.op=Op.next it false)(K:Keyed P k)(r:Nat)(left:List (Value×Value))
  (aa:a.eval it=.pointer (some ⟨r,0,none⟩)) (h:fV P k w B r l left)
  (W:left=[]->bu P ops Q rest (a.put o.dst (.tuple #[.bool false])) w)
  (hMore:∀p O w',left.Perm (p::O)->fV P k w' B r l O->w'.rangeLeft B r<w.rangeLeft B r->w.grownBy w' (some r)->w'.heap.size=w.heap.size->(bY (.pointer (some ⟨r,0,none⟩))).run P w'=.ok (.tuple #[p.1,p.2]) w'->
    bu P ops Q rest (a.put o.dst (.tuple #[.bool true,p.1,p.2])) w') :
  bu P ops Q (o::rest) a w:=by
 refine bw hg λK' ab=>?_;unfold Oper.wp;rcases h.next K o.type with⟨h0,U⟩|⟨p,O,w',hp,U,ac,ad,ae,af,ag⟩
 simp[bz,Y,aa,U,cE];exact ab _ _ (W h0);simp[bz,Y,aa,U,cE];exact ab _ _ (hMore p O w' hp ac ad ae af ag)
theorem FG(hg:o.guard=none)(m x v:Operand)(t:bo)(W:o.op=Op.mapUpdate t m x v)(e:bo)(K:Keyed P k)(ht:P.underlying t=some (.map k e))
  (hm:a.eval m=.map (some B)) (h:iZ P k w B l) (hn:l.length<bl) (gK:br P k key=some kl) (O:∀p∈l,p.1≠key) (hx:a.eval x=key) (u:Value) (hv:a.eval v=u)
  (hK:∀w',iZ P k w' B (l++[(key,u)])->w.grownBy w' (some B)->w'.heap.size=w.heap.size->bu P ops Q rest (a.put o.dst undef) w') :
  bu P ops Q (o::rest) a w:=by
 refine bw hg λK' Y=>?_;obtain⟨w',U,r1,r2,r3⟩:=h.put K ht hn gK O u;unfold Oper.wp;simp[bz,W,hm,hx,hv,U,cE];exact Y _ _ (hK w' r1 r2 r3)
end
def Qe(a b:Nat):Value:=.agg #[.int .i64 (a:Int),.int .i64 (b:Int)]
theorem Sy:(match prog.underlying 170 with|some (.array _ _)|some (.struct _)=>true|_=>false)=true:=by rw[cf]
theorem T7:170<prog.types.size:=of_decide_eq_true (by kernel_rfl)
theorem Dj:Keyed prog 170:=Keyed.of_law (b3 Tryz.qF (m:=2) (by omega) T7 (by kernel_rfl) Sy)
theorem Jz:prog.cellsOf 170=2:=by kernel_rfl
theorem NW:prog.cellsOf 3=1:=by kernel_rfl
theorem LV:prog.keyType 170=true:=by kernel_rfl
theorem Fq(d:Nat)(n:Nat)(O:n<4611686018427387904):prog.keyLits (d+1) 3 [.int .i64 (n:Int)]=some [.int .i64 (n:Int)]:=by
 unfold cZ;simp[ce,Lit.wf,cV,cW,cU,cT];omega
theorem SJ(a b:Nat)(O:a<4611686018427387904)(hb:b<4611686018427387904):∃l,br prog 170 (Qe a b)=some l:=by
 obtain⟨d,U⟩:=JM;unfold br Qe;rw[LV,U];have W:(Value.agg #[.int .i64 a,.int .i64 b]).formed prog 170=true:=by simp[di,cf,Jz]
 rw[W];unfold cZ;simp[cf,Jz,NW,dj,Fq d a O,Fq d b hb]
end
end Go.Proofs.YtocbogeoffeolaaGreatDoor
