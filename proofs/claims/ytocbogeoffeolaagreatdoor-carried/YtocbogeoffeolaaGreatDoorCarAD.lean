import Derived.Test.YtocbogeoffeolaaGreatDoorCarAC
import Derived.Shelf.Strconv.Clone
import Derived.Shelf.Sort.Plain
import Derived.Shelf.Slices.In.SortNone
import Derived.Lib.AppendStr
import Derived.Sort.OwnSorted
import Derived.Laws.CopyOwn
set_option linter.all false
set_option maxHeartbeats 8000000
set_option maxRecDepth 1000000
open List renaming length_append->cc,getElem_mem->ch,length_take->cp,getElem?_append_left->cx,length_map->dd,getElem?_eq_getElem->dg,take_succ_eq_append_getElem->di,getElem?_append_right->dj,getElem?_take->dk,length_drop->dm,getD_eq_getElem?_getD->dq,append_assoc->dr,mem_nil_iff->dt,mem_map->ee,append_nil->ef,getElem?_map->eg,mem_cons->ei,flatMap_cons->ej,mem_of_mem_drop->ek,flatMap_append->eq,map_cons->er,map_toArray->et,length_eq_zero_iff->ev,flatMap_nil->ex,take_of_length_le->ey,map_nil->ez,getElem_cons_zero->e0,getElem?_toArray->e6,take_succ_cons->e8,filter_sublist->fa,mem_filter->fd,length_nil->ff,pairwise_iff_getElem->fk,getElem_cons_succ->fm,drop_eq_nil_of_le->fs,take_append_drop->f',drop_succ_cons->ga,mem_cons_self->gc,getElem?_drop->gd,pairwise_map->ge,take_prefix->gg,length_cons->gl,nil_prefix->go,foldl_cons->gt,foldl_nil->gv,length->gz,take->g5
open Go renaming cell_later->g6,maxLen->g7,Calls->g8,TypeId->g9,wp_region_held->ha,info_parts->hf,wpAnyH_done->hw,wpOp_step->h7,setRow_heap->h8,wpAnyH_all->h9,resolve->hI,wpList->hJ,heap_alloc_new->hQ,execOp->hV,wpList_plain->hX,setRow_self->hY
open Nat renaming le_refl->hZ,lt_of_lt_of_le->ie,zero_le->ip,min_eq_left->iv,le_trans->iz,add_sub_cancel_left->i6,add_zero->i7,zero_mul->i8,zero_add->i'
open Go.Proofs.Tryz renaming underlying60->jt,underlying31->jv,underlying85->j1,underlying9->j2,zeroValue9->j3,underlying5->j4,underlying4->j',underlying3->ka,underlying0->kb,zeroValue5->kc,zeroValue4->kd,zeroValue3->ke,zeroValue0->kf,ntmps38->kj,ntmps29->kk,ntmps25->kl,ntmps128->ko,func38->kr,func29->ks,func25->kt,underlying292->kv,underlying276->k0,underlying272->k3,underlying239->k4,underlying229->k5,underlying226->k6,underlying222->k7,underlying221->k8,underlying212->kB,underlying190->kG,underlying184->kN,underlying141->kT,zeroValue292->kW,zeroValue276->la,zeroValue272->lc,zeroValue229->ld,zeroValue226->lf,zeroValue222->lk,zeroValue221->lo,zeroValue212->lp,zeroValue184->ls,zeroValue141->lv,sizeOf9->lw,sizeOf5->lx,sizeOf4->ly,sizeOf3->l0,sizeOf0->l4,ntmps39->mb,ntmps26->md,func128->mi,isAgg9->mj,isAgg5->mp,isAgg4->mr,isAgg3->ms,isAgg0->mv,func39->mx,func26->m0
open Go.RowKit renaming Hid->m1
open Go.Oper renaming wp->m2
open Go.RowKit.Below renaming refl->m3,heap_setCell->m4,heap_alloc->m5
open Array renaming getElem?_eq_some_iff->m6,getElem?_toList->m7,getElem?_modify->m8
open Go.Value.slice renaming injEq->m9
open Go.World renaming ownsRow_nil->m',cell?_alloc_at->nc,setCell->ne,cell?->ng
open Option.some renaming injEq->nl
open Go.IntKind renaming wrap_i64->no
open Go.Value renaming oneCell'->nr,ownBlock->nv
open Go.Builtin renaming zeroCells->n0,append_->n3,clear_->n4,copy_->n5
open Go.Op renaming bytesLess->n7
open Go.Sort renaming ahead->n8,alloc_eq_grow->oa,mapBlock->od,putRowK->oi,putRow->oj
open Go.Sem renaming run_pure->on,run_bind->oo
open Go.Result renaming andThen_ok->ot
open Go.Proofs renaming sortWorldK->ov
open Go.Sort.HoldsK renaming cell->o0
open Go.Addr.mk renaming injEq->o1
open List.Pairwise renaming sublist->o2,imp->o3
open List.Perm renaming refl->o4,eq_of_pairwise->o5
namespace Go.Proofs.YtocbogeoffeolaaGreatDoor
open Go.Proofs.Tryz
section
open Go.Shelf
def FF:Go.Shelf.Ren:=⟨fun|316=>90|n=>n,fun|9=>9|3=>3|4=>4|37=>60|0=>0|127=>187|5=>5|n=>n,fun|n=>n⟩
def Ry:Go.Proofs.LaysM.n316 prog FF:={
 mixed:=by kernel_rfl
 f316:=func90.trans (congrArg some (by kernel_rfl)),t0:=kb,a0:=mv,z0:=l4,v0:=kf,t3:=ka,a3:=ms,z3:=l0,v3:=ke,t4:=j',a4:=mr,z4:=ly,v4:=kd,t9:=j2,a9:=mj,z9:=lw,v9:=j3,t37:=jt,a37:=isAgg60,z37:=sizeOf60,v37:=zeroValue60,t127:=underlying187,a127:=isAgg187,z127:=sizeOf187,v127:=zeroValue187,t5:=j4,a5:=mp,z5:=lx,v5:=kc,i0:=by kernel_rfl
 i3:=by kernel_rfl
 i4:=by kernel_rfl
 i5:=by kernel_rfl
 i9:=by kernel_rfl
 i37:=by kernel_rfl
 i127:=by kernel_rfl}
def Gs:Go.Shelf.Ren:=⟨fun|190=>162|125=>125|258=>217|128=>172|129=>173|302=>243|303=>244|304=>245|305=>246|306=>247|307=>248|308=>249|309=>250|310=>251|333=>271|329=>219|330=>220|334=>272|335=>273|336=>175|344=>279|n=>n,fun|31=>31|9=>9|3=>3|46=>184|0=>0|51=>229|53=>141|4=>4|183=>222|182=>221|131=>226|5=>5|218=>272|222=>276|228=>292|229=>212|n=>n,fun|n=>n⟩
def yf:Go.Proofs.Lays.n190 prog Gs:={
 mixed:=by kernel_rfl
 f125:=func125.trans (congrArg some (by kernel_rfl)),f128:=func172.trans (congrArg some (by kernel_rfl)),f129:=func173.trans (congrArg some (by kernel_rfl)),f190:=func162.trans (congrArg some (by kernel_rfl)),f258:=func217.trans (congrArg some (by kernel_rfl)),f302:=func243.trans (congrArg some (by kernel_rfl)),f303:=func244.trans (congrArg some (by kernel_rfl)),f304:=func245.trans (congrArg some (by kernel_rfl)),f305:=func246.trans (congrArg some (by kernel_rfl)),f306:=func247.trans (congrArg some (by kernel_rfl)),f307:=func248.trans (congrArg some (by kernel_rfl)),f308:=func249.trans (congrArg some (by kernel_rfl)),f309:=func250.trans (congrArg some (by kernel_rfl)),f310:=func251.trans (congrArg some (by kernel_rfl)),f329:=func219.trans (congrArg some (by kernel_rfl)),f330:=func220.trans (congrArg some (by kernel_rfl)),f333:=func271.trans (congrArg some (by kernel_rfl)),f334:=func272.trans (congrArg some (by kernel_rfl)),f335:=func273.trans (congrArg some (by kernel_rfl)),f336:=func175.trans (congrArg some (by kernel_rfl)),f344:=func279.trans (congrArg some (by kernel_rfl)),t0:=kb,a0:=mv,z0:=l4,v0:=kf,t3:=ka,a3:=ms,z3:=l0,v3:=ke,t4:=j',a4:=mr,z4:=ly,v4:=kd,t5:=j4,a5:=mp,z5:=lx,v5:=kc,t9:=j2,a9:=mj,z9:=lw,v9:=j3,t31:=jv,a31:=isAgg31,z31:=sizeOf31,v31:=zeroValue31,t46:=kN,a46:=isAgg184,z46:=sizeOf184,v46:=ls,t51:=k5,a51:=isAgg229,z51:=sizeOf229,v51:=ld,t53:=kT,a53:=isAgg141,z53:=sizeOf141,v53:=lv,t131:=k6,a131:=isAgg226,z131:=sizeOf226,v131:=lf,t182:=k8,a182:=isAgg221,z182:=sizeOf221,v182:=lo,t183:=k7,a183:=isAgg222,z183:=sizeOf222,v183:=lk,t218:=k3,a218:=isAgg272,z218:=sizeOf272,v218:=lc,t222:=k0,a222:=isAgg276,z222:=sizeOf276,v222:=la,t228:=kv,a228:=isAgg292,z228:=sizeOf292,v228:=kW,t229:=kB,a229:=isAgg212,z229:=sizeOf212
 v229:=lp}
def DS:Go.Shelf.Ren:=⟨fun|6=>184|15=>125|14=>227|28=>172|29=>173|20=>257|21=>258|22=>259|23=>260|24=>261|25=>262|26=>263|27=>264|46=>276|47=>219|48=>220|49=>277|50=>278|57=>280|n=>n,fun|22=>190|24=>237|25=>242|3=>3|39=>184|0=>0|53=>229|55=>141|4=>4|46=>222|45=>221|50=>226|5=>5|9=>9|66=>272|70=>276|76=>292|77=>212|n=>n,fun|n=>n⟩
def EY:Go.Proofs.SlLaysF0.n6 prog DS:={
 mixed:=by kernel_rfl
 f6:=⟨f184.name,by decide,func184.trans (congrArg some (by kernel_rfl))⟩,f14:=⟨f227.name,by decide,func227.trans (congrArg some (by kernel_rfl))⟩,f15:=func125.trans (congrArg some (by kernel_rfl)),f20:=⟨f257.name,by decide,func257.trans (congrArg some (by kernel_rfl))⟩,f21:=⟨Tryz.f258.name,by decide,func258.trans (congrArg some (by kernel_rfl))⟩,f22:=⟨f259.name,by decide,func259.trans (congrArg some (by kernel_rfl))⟩,f23:=⟨f260.name,by decide,func260.trans (congrArg some (by kernel_rfl))⟩,f24:=⟨f261.name,by decide,func261.trans (congrArg some (by kernel_rfl))⟩,f25:=⟨f262.name,by decide,func262.trans (congrArg some (by kernel_rfl))⟩,f26:=⟨f263.name,by decide,func263.trans (congrArg some (by kernel_rfl))⟩,f27:=⟨Tryz.f264.name,by decide,func264.trans (congrArg some (by kernel_rfl))⟩,f28:=func172.trans (congrArg some (by kernel_rfl)),f29:=func173.trans (congrArg some (by kernel_rfl)),f46:=⟨f276.name,by decide,func276.trans (congrArg some (by kernel_rfl))⟩,f47:=func219.trans (congrArg some (by kernel_rfl)),f48:=func220.trans (congrArg some (by kernel_rfl)),f49:=⟨f277.name,by decide,func277.trans (congrArg some (by kernel_rfl))⟩,f50:=⟨f278.name,by decide,func278.trans (congrArg some (by kernel_rfl))⟩,f57:=⟨f280.name,by decide,func280.trans (congrArg some (by kernel_rfl))⟩,t0:=kb,a0:=mv,z0:=l4,v0:=kf,t3:=ka,a3:=ms,z3:=l0,v3:=ke,t4:=j',a4:=mr,z4:=ly,v4:=kd,t5:=j4,a5:=mp,z5:=lx,v5:=kc,t9:=j2,a9:=mj,z9:=lw,v9:=j3,t22:=kG,a22:=isAgg190,z22:=sizeOf190,v22:=zeroValue190,t25:=underlying242,a25:=isAgg242,z25:=sizeOf242,v25:=zeroValue242,t39:=kN,a39:=isAgg184,z39:=sizeOf184,v39:=ls,t45:=k8,a45:=isAgg221,z45:=sizeOf221,v45:=lo,t46:=k7,a46:=isAgg222,z46:=sizeOf222,v46:=lk,t50:=k6,a50:=isAgg226,z50:=sizeOf226,v50:=lf,t53:=k5,a53:=isAgg229,z53:=sizeOf229,v53:=ld,t55:=kT,a55:=isAgg141,z55:=sizeOf141,v55:=lv,t66:=k3,a66:=isAgg272,z66:=sizeOf272,v66:=lc,t70:=k0,a70:=isAgg276,z70:=sizeOf276,v70:=la,t76:=kv,a76:=isAgg292,z76:=sizeOf292,v76:=kW,t77:=kB,a77:=isAgg212,z77:=sizeOf212
 v77:=lp}
end
section
open Go.RowKit Go.Maps
variable {ss:List (List dp)} {buf:List dp} {Bb b:Nat} {F:Nat->Prop} {vK vM vS:Value} {w w':World}
def sI(s:ByteArray)(w:World)(B:s.size<=281474976710656) :
  g8 prog 61 #[.string s] w λe w'=>e=.returned (.string s)/\Below w.heap.size w w':=by
 have y:=Any.stringslite_Clone Ry s w B;go_enter func61,ntmps61;go_wp2_with fail;refine y.mono ?_;rintro e w1 ⟨rfl,hb⟩;have O:m1 _:=hb;go_wp2;go_ret;exact⟨rfl,O.out⟩
def sO(vM vK:Value)(w:World)(F:Nat->Prop)(b:Nat)(buf:List dp)(ss:List (List dp)):Prop:=(∀k,F k->k<w.heap.size)/\∃Bb vS,ED w F b buf ss Bb vS vM vK
def ED.stay(h:ED w F b buf ss Bb vS vM vK)(hb:∀k,F k->w'.heap[k]?=w.heap[k]?):ED w' F b buf ss Bb vS vM vK where
 blk:=by rw[hb b h.fb];exact h.blk
 fb:=h.fb;fB:=h.fB;say:=dM.stay h.say (hb Bb h.fB);row:=eH h.row (λk y=>hb k (h.lr k y));lr:=h.lr;inv:=h.inv
def sO.below(h:sO vM vK w F b buf ss)(hb:Below w.heap.size w w'):sO vM vK w' F b buf ss:=by
 obtain⟨hF,Bb,vS,B⟩:=h;exact⟨λk y=>ie (hF k y) hb.size,Bb,vS,B.stay (λk y=>hb.block k (hF k y))⟩
def ED.buffer{y:List dp}(h:ED w F b buf ss Bb vS vM vK)(hF:∀k,F k->k<w.heap.size)(B:dw (· = Bb) w w')(U:eE w' Bb y)(hi:Inv y ss):ED w' F b y ss Bb vS vM vK where
 blk:=by rw[B.block b (hF b h.fb) (λe=>dM.nP h.say h.blk e.symm)];exact h.blk
 fb:=h.fb;fB:=h.fB;say:=U;row:=eH h.row (λk O=>B.block k (hF k (h.lr k O)) (λe=>qQ h.row h.say (by rw[O,e])));lr:=h.lr;inv:=hi
def KS(w:World):(zeroValue 111).run prog w=.ok (.agg #[.bool false,.string ⟨#[]⟩,.string ⟨#[]⟩,.int .i64 0,.int .i64 0]) w:=by kernel_rfl
def FA{B:Nat}{es:List dp}(h:eE w B es)(x:Wd)(U:x.length<=g7):∃g a t n m,(Instr.lookup 85 (.map (some B)) (.string ⟨x.toArray⟩) true).run prog w=.ok (.tuple #[.agg #[.bool g,.string a,.string t,.int .i64 n,.int .i64 m],.bool (decide (x∈es.map dp.name))]) w:=by
 have hl:=(dM.look h j2 j1 (KS w) x U).2
 have W:((es.map j6).any λp=>p.1==x)=decide (x∈es.map dp.name):=by
  rw[Bool.eq_iff_iff,decide_eq_true_eq,List.any_eq_true,ee];constructor;rintro⟨p,Y,h⟩;obtain⟨e,y,rfl⟩:=ee.1 Y;exact⟨e,y,by simpa[j6]using h⟩;rintro⟨e,y,rfl⟩;exact⟨j6 e,ee.2 ⟨e,y,rfl⟩,by simp[j6]⟩
 rw[W]at hl;unfold mS at hl
 cases O:(es.map j6).find? _ with
 |none=>rw[O]at hl;exact⟨_,_,_,_,_,hl⟩|some p=>
  rw[O]at hl;obtain⟨e,_,rfl⟩:=ee.1 (List.mem_of_find?_eq_some O);exact⟨_,_,_,_,_,hl⟩
def zL{l:List dp}{x:Wd}:qY l x=none↔x ∉ l.map dp.name:=⟨vC,qD⟩
def R4(w:World)(F:Nat->Prop)(b:Nat)(buf:List dp)(ss:List (List dp))(name text:ByteArray)(du dE:Int)(hP:sO vM vK w F b buf ss)(hn:name.size<=g7)(ht:text.size<=g7) :
  g8 prog 38 #[.pointer (some ⟨b,0,none⟩),.string name,.string text,.int .i64 du,.int .i64 dE] w λe w'=>e=.returned (.int .i64 (j8 buf ss name.data.toList text.data.toList du dE).1)/\
   sO vM vK w' F b (j8 buf ss name.data.toList text.data.toList du dE).2 ss/\dw F w w':=by
 have HP:m1 (sO vM vK w F b buf ss):=hP;have Y:=rS name w hn;have ad:=qH text w ht;clear hP;by_cases y:gq name.data.toList=true
 .rw[y]at Y;by_cases O:eA text.data.toList=true/\text.data.toList≠[]
  .rw[decide_eq_true O]at ad;by_cases ac:du<0\/1000000<du\/dE<0\/255<dE
   .have HU:m1 (j8 buf ss name.data.toList text.data.toList du dE=(3,buf)):=by show j8 _ _ _ _ _ _=_;unfold j8;rw[if_pos y,if_pos O,if_pos ac]
    have a7:du<0\/(0<=du/\1000000<du)\/(0<=du/\du<=1000000/\dE<0)\/(0<=du/\du<=1000000/\0<=dE/\255<dE):=by omega
    clear ac O y;rcases a7 with c1|⟨c1,c2⟩|⟨c1,c2,c3⟩|⟨c1,c2,c3,c4⟩
    all_goals
     go_enter kr,kj;go_wp2_with fail;refine Y.mono ?_;rintro e w' ⟨rfl,rfl⟩;go_wp2_with fail;refine ad.mono ?_;rintro e w' ⟨rfl,rfl⟩;go_wp2;go_ret;refine⟨eI (by rw[HU.out];rfl),?_,dw.refl _ _⟩;rw[HU.out];exact HP.out
   have aE:0<=du:=by omega
   have aF:du<=1000000:=by omega
   have aG:0<=dE:=by omega
   have aH:dE<=255:=by omega
   obtain⟨hF,Bb,vS,hE⟩:=id HP.out;have HE:m1 (ED w F b buf ss Bb vS vM vK):=hE;have HF:m1 (∀k,F k->k<w.heap.size):=hF;have ag:=tQ F b buf ss Bb vS vM vK w hE
   have HU:m1 (j8 buf ss name.data.toList text.data.toList du dE=if 30<=(dP ss buf).length/\qY (dP ss buf) name.data.toList=none then(4,buf)else(0,dL buf [⟨name.data.toList,false,text.data.toList,du,dE⟩])):=by
    show j8 _ _ _ _ _ _=_;unfold j8;rw[if_pos y,if_pos O,if_neg ac]
   have HI:m1 (Inv (j8 buf ss name.data.toList text.data.toList du dE).2 ss):=KY hE.inv _ _ _ _;have aD:=(fZ y).2
   have a8:name.size<=281474976710656:=by have:name.data.toList.length=name.size:=by simp
                                          omega
   have a9:text.size<=281474976710656:=by
    have h1:=kg O.1;have:text.data.toList.length=text.size:=by simp
    omega
   have aq:name.data.toList.length<=g7:=by unfold g7;omega
   clear ac O y hF hE;go_enter kr,kj;go_wp2_with fail;refine Y.mono ?_;rintro e w' ⟨rfl,rfl⟩;go_wp2_with fail;refine ad.mono ?_;rintro e w' ⟨rfl,rfl⟩;clear Y ad;go_wp2_with fail;refine ag.mono ?_;rintro e w1 ⟨C,rfl,hC,hs,ae⟩;have ar:=ae.size;obtain⟨g,aa,tt,nn,mm,ah⟩:=FA hs name.data.toList aq;rw[<-bytes_eta name]at ah;have au:m1 (Below w.heap.size w w1):=ae;have aj:=λ(ty:g9) (o:Obj)=>dM.len (dM.kept hs (World.grownBy_alloc w1 o none) (by simp)) j1 ty;rw[dd]at aj;have af:=zL (l:=dP ss buf) (x:=name.data.toList);by_cases hk:name.data.toList∈(dP ss buf).map dp.name
   case' pos=>
    rw[decide_eq_true hk]at ah;have ab:m1 (j8 buf ss name.data.toList text.data.toList du dE=(0,dL buf [⟨name.data.toList,false,text.data.toList,du,dE⟩])):=by show j8 _ _ _ _ _ _=_;rw[HU.out,if_neg (λh=>af.1 h.2 hk)]
    clear af hk hs ae ag HU
   case' neg=>
    rw[decide_eq_false hk]at ah;by_cases av:30<=(dP ss buf).length
    .have ab:m1 (j8 buf ss name.data.toList text.data.toList du dE=(4,buf)):=by show j8 _ _ _ _ _ _=_;rw[HU.out,if_pos ⟨av,af.2 hk⟩]
     have aw:(30:Int)<=((dP ss buf).length:Int):=by omega
     clear af hk hs ae ag HU;go_wp2;go_ret;have B:=au.out.alloc ar (.cells #[.bool g,.string aa,.string tt,.int .i64 nn,.int .i64 mm] 111);refine⟨eI (by rw[ab.out];rfl),?_,dw.eQ B⟩;rw[ab.out];exact sO.below HP.out B
    have ab:m1 (j8 buf ss name.data.toList text.data.toList du dE=(0,dL buf [⟨name.data.toList,false,text.data.toList,du,dE⟩])):=by show j8 _ _ _ _ _ _=_;rw[HU.out,if_neg (λh=>av h.1)]
    have aw:decide ((30:Int)<=((dP ss buf).length:Int))=false:=decide_eq_false (by omega);clear af hk hs ae ag HU
   all_goals
    go_wp2_with fail;have B:=au.out.alloc ar (.cells #[.bool g,.string aa,.string tt,.int .i64 nn,.int .i64 mm] 111);clear aj ah;generalize w1.alloc (.cells #[.bool g,.string aa,.string tt,.int .i64 nn,.int .i64 mm] 111)=w2 at B⊢
    have U:w2.drew.cell? ⟨b,0,none⟩=some (.map (some Bb)):=by
     have:w2.cell? ⟨b,0,none⟩=some (.map (some Bb)):=g6 B (by rw[dn HE.out.blk];rfl);exact this
    have ax:m1 (Below w.heap.size w w2.drew):=⟨B.os,B.tape,B.output,B.size,B.block⟩;clear B;refine ha (S:=λw'=>w'.cell? ⟨b,0,none⟩=some (.map (some Bb))) (by kernel_rfl) ?_;refine fJ 0 ?_ U ?_<|fJ 1 ?_ U ?_<|fJ 2 ?_ U ?_<|fJ 3 ?_ U ?_<|fJ 4 ?_ U ?_<|fJ 6 ?_ U ?_<|fJ 8 ?_ U ?_<|fJ 9 ?_ U ?_ ?_
    any_goals(rintro w' a';go_simp;first|done|with_reducible rfl)
    refine j9 5 λK' W=>?_;unfold m2;go_simp;refine(sI name w2.drew a8).mono ?_;rintro e w3 ⟨rfl,al⟩;have ay:m1 (Below w.heap.size w w3):=ax.out.trans (al.mono ax.out.size);have az:w3.cell? ⟨b,0,none⟩=some (.map (some Bb)):=g6 al U;clear al;refine W _ _ ⟨az,?_⟩;clear W;refine j9 7 λK' W=>?_;unfold m2;go_simp;refine(sI text w3 a9).mono ?_;rintro e w4 ⟨rfl,am⟩;have ai:m1 (Below w.heap.size w w4):=ay.out.trans (am.mono ay.out.size);have a5:w4.cell? ⟨b,0,none⟩=some (.map (some Bb)):=g6 am az;clear am;refine W _ _ ⟨a5,?_⟩;clear W;refine fJ 10 ?_ a5 ?_ ?_;rotate_left
    .rintro w' a';go_simp;first|done|with_reducible rfl
    refine j9 11 λK' W=>?_;unfold m2;go_simp;have an:=Ro Bb buf ⟨name.data.toList,false,text.data.toList,du,dE⟩ w4 (dM.below HE.out.say ai.out) rfl (by have:=qM HE.out.inv;omega) aq;rw[show AN ⟨name.data.toList,false,text.data.toList,du,dE⟩=.agg #[.string name,.string text,.int .i64 du,.int .i64 dE] by unfold AN;simp only[<-bytes_eta]]at an;refine an.mono ?_;rintro e w5 ⟨rfl,q1,q2⟩;clear an;have a6:ED w4 F b buf ss Bb vS vM vK:=HE.out.stay (λk hk=>ai.out.block k (HF.out k hk));have ao:∀k,F k->k<w4.heap.size:=λk hk=>ie (HF.out k hk) ai.out.size
    have hi:Inv (dL buf [⟨name.data.toList,false,text.data.toList,du,dE⟩]) ss:=by
     have:=HI.out;rw[ab.out]at this;exact this
    have ap:=a6.buffer ao q2 q1 hi;have aA:m1 (ED w5 F b (dL buf [⟨name.data.toList,false,text.data.toList,du,dE⟩]) ss Bb vS vM vK):=ap;have aB:m1 (dw F w w5):=(dw.eQ ai.out).then (q2.mono (λk hk=>by subst hk;exact HE.out.fB));have aC:m1 (∀k,F k->k<w5.heap.size):=λk hk=>ie (ao k hk) q2.size;refine W _ _ ⟨by rw[dn ap.blk];rfl,hw (by kernel_rfl) ?_ _⟩;clear W q1 q2 a6 ao hi ap;go_wp2;go_ret;refine⟨eI (by rw[ab.out];rfl),?_,aB.out⟩;rw[ab.out];exact⟨aC.out,Bb,vS,aA.out⟩
  rw[decide_eq_false O]at ad;have HU:m1 (j8 buf ss name.data.toList text.data.toList du dE=(2,buf)):=by show j8 _ _ _ _ _ _=_;unfold j8;rw[if_pos y,if_neg O]
  clear O y;go_enter kr,kj;go_wp2_with fail;refine Y.mono ?_;rintro e w' ⟨rfl,rfl⟩;go_wp2_with fail;refine ad.mono ?_;rintro e w' ⟨rfl,rfl⟩;go_wp2;go_ret;refine⟨eI (by rw[HU.out];rfl),?_,dw.refl _ _⟩;rw[HU.out];exact HP.out
 have ak:gq name.data.toList=false:=by simpa using y
 rw[ak]at Y;have HU:m1 (j8 buf ss name.data.toList text.data.toList du dE=(1,buf)):=by show j8 _ _ _ _ _ _=_;unfold j8;rw[if_neg y]
 clear y ak;go_enter kr,kj;go_wp2_with fail;refine Y.mono ?_;rintro e w' ⟨rfl,rfl⟩;go_wp2;go_ret;refine⟨eI (by rw[HU.out];rfl),?_,dw.refl _ _⟩;rw[HU.out];exact HP.out
def R7(w:World)(F:Nat->Prop)(b:Nat)(buf:List dp)(ss:List (List dp))(name:ByteArray)(hP:sO vM vK w F b buf ss)(hn:name.size<=g7) :
  g8 prog 37 #[.pointer (some ⟨b,0,none⟩),.string name] w λe w'=>e=.returned (.int .i64 (lu buf ss name.data.toList).1)/\
   sO vM vK w' F b (lu buf ss name.data.toList).2 ss/\dw F w w':=by
 have HP:m1 _:=hP;have ac:=rS name w hn;clear hP;by_cases O:gq name.data.toList=true
 .rw[O]at ac;obtain⟨hF,Bb,vS,hE⟩:=id HP.out;have HE:m1 _:=hE;have HF:m1 _:=hF;have al:=tQ F b buf ss Bb vS vM vK w hE
  have HU:m1 (lu buf ss name.data.toList=if qY (dP ss buf) name.data.toList=none then(5,buf)else if 100<=jp buf then(4,buf)else(0,dL buf [⟨name.data.toList,true,[],0,0⟩])):=by
   show lu _ _ _=_;unfold lu;rw[if_pos O,jM];rfl
  have HI:m1 (Inv (lu buf ss name.data.toList).2 ss):=K8 hE.inv _;have a9:=(fZ O).2
  have ay:name.size<=281474976710656:=by
   have:name.data.toList.length=name.size:=by simp
   omega
  have aq:name.data.toList.length<=g7:=by unfold g7;omega
  clear O hF hE;go_enter func37,ntmps37;go_wp2_with fail;refine ac.mono ?_;rintro e w' ⟨rfl,rfl⟩;clear ac;go_wp2_with fail;refine al.mono ?_;rintro e w1 ⟨C,rfl,hC,hs,ah⟩;have ar:=ah.size;obtain⟨g,aa,tt,nn,mm,ai⟩:=FA hs name.data.toList aq;rw[<-bytes_eta name]at ai;have aj:=zL (l:=dP ss buf) (x:=name.data.toList);have U:m1 (Below w.heap.size w (w1.alloc (.cells #[.bool g,.string aa,.string tt,.int .i64 nn,.int .i64 mm] 111))):=ah.alloc ar _;by_cases W:name.data.toList∈(dP ss buf).map dp.name
  .rw[decide_eq_true W]at ai;have am:m1 (lu buf ss name.data.toList=if 100<=jp buf then(4,buf)else(0,dL buf [⟨name.data.toList,true,[],0,0⟩])):=by show lu _ _ _=_;rw[HU.out,if_neg (λh=>aj.1 h W)]
   clear aj W hs ah al HU;have ad:=U.out;obtain⟨w2,au⟩:∃w2,w1.alloc (.cells #[.bool g,.string aa,.string tt,.int .i64 nn,.int .i64 mm] 111)=w2:=⟨_,rfl⟩;rw[au]at ad;have az:w2.cell? ⟨b,0,none⟩=some (.map (some Bb)):=g6 ad (by rw[dn HE.out.blk];rfl);have av:=CS Bb buf w2 (dM.below HE.out.say ad) (by have:=qM HE.out.inv;omega);have aw:m1 _:=ad;clear U ad;go_wp2_with fail;refine av.mono ?_;rintro e w3 ⟨rfl,Y⟩;have y:m1 (Below w.heap.size w w3):=aw.out.trans (Y.mono aw.out.size);clear av Y au ai az;by_cases ae:100<=jp buf
   .have B:m1 (lu buf ss name.data.toList=(4,buf)):=by show lu _ _ _=_;rw[am.out,if_pos ae]
    have af:(100:Int)<=(jp buf:Int):=by omega
    go_wp2;go_ret;refine⟨eI (by rw[B.out];rfl),?_,dw.eQ y.out⟩;rw[B.out];exact sO.below HP.out y.out
   have B:m1 (lu buf ss name.data.toList=(0,dL buf [⟨name.data.toList,true,[],0,0⟩])):=by show lu _ _ _=_;rw[am.out,if_neg ae]
   have af:¬(100:Int)<=(jp buf:Int):=by omega
   clear am ae ar;go_wp2_with fail;clear af;generalize w3=w2 at *
   have ab:w2.drew.cell? ⟨b,0,none⟩=some (.map (some Bb)):=by
    have:w2.cell? ⟨b,0,none⟩=some (.map (some Bb)):=g6 y.out (by rw[dn HE.out.blk];rfl);exact this
   have U:m1 (Below w.heap.size w w2.drew):=⟨y.out.os,y.out.tape,y.out.output,y.out.size,y.out.block⟩;clear y;refine ha (S:=λw'=>w'.cell? ⟨b,0,none⟩=some (.map (some Bb))) (by kernel_rfl) ?_;refine fJ 0 ?_ ab ?_<|fJ 1 ?_ ab ?_<|fJ 2 ?_ ab ?_<|fJ 3 ?_ ab ?_<|fJ 4 ?_ ab ?_ ?_
   any_goals(rintro w' a';go_simp;first|done|with_reducible rfl)
   refine j9 5 λK' ag=>?_;unfold m2;go_simp;refine(sI name w2.drew ay).mono ?_;rintro e w3 ⟨rfl,Y⟩;have y:m1 (Below w.heap.size w w3):=U.out.trans (Y.mono U.out.size);have a5:w3.cell? ⟨b,0,none⟩=some (.map (some Bb)):=g6 Y ab;clear Y;refine ag _ _ ⟨a5,?_⟩;clear ag;refine j9 6 λK' ag=>?_;unfold m2;go_simp;have an:=E7 Bb buf name.data.toList w3 (dM.below HE.out.say y.out) (by have:=qM HE.out.inv;omega) aq;rw[<-bytes_eta name]at an;refine an.mono ?_;rintro e w5 ⟨rfl,q1,q2⟩;clear an;have ax:ED w3 F b buf ss Bb vS vM vK:=HE.out.stay (λk W=>y.out.block k (HF.out k W));have ao:∀k,F k->k<w3.heap.size:=λk W=>ie (HF.out k W) y.out.size
   have hi:Inv (dL buf [⟨name.data.toList,true,[],0,0⟩]) ss:=by
    have:=HI.out;rw[B.out]at this;exact this
   have ap:=ax.buffer ao q2 q1 hi;have a6:m1 _:=ap;have a7:m1 (dw F w w5):=(dw.eQ y.out).then (q2.mono (λk W=>by subst W;exact HE.out.fB));have a8:m1 (∀k,F k->k<w5.heap.size):=λk W=>ie (ao k W) q2.size;refine ag _ _ ⟨by rw[dn ap.blk];rfl,hw (by kernel_rfl) ?_ _⟩;clear ag q1 q2 ax ao hi ap;go_wp2;go_ret;refine⟨eI (by rw[B.out];rfl),?_,a7.out⟩;rw[B.out];exact⟨a8.out,Bb,vS,a6.out⟩
  rw[decide_eq_false W]at ai;have B:m1 (lu buf ss name.data.toList=(5,buf)):=by show lu _ _ _=_;rw[HU.out,if_pos (aj.2 W)]
  clear aj W hs ah al HU;go_wp2;go_ret;refine⟨eI (by rw[B.out];rfl),?_,dw.eQ U.out⟩;rw[B.out];exact sO.below HP.out U.out
 have ak:gq name.data.toList=false:=by simpa using O
 rw[ak]at ac;have HU:m1 (lu buf ss name.data.toList=(1,buf)):=by show lu _ _ _=_;unfold lu;rw[if_neg O]
 clear O ak;go_enter func37,ntmps37;go_wp2_with fail;refine ac.mono ?_;rintro e w' ⟨rfl,rfl⟩;go_wp2;go_ret;refine⟨eI (by rw[HU.out];rfl),?_,dw.refl _ _⟩;rw[HU.out];exact HP.out
def Cp(w:World)(F:Nat->Prop)(b:Nat)(buf:List dp)(ss:List (List dp))(B:sO vM vK w F b buf ss) :
  g8 prog 30 #[.pointer (some ⟨b,0,none⟩)] w λe w'=>e=.returned (.int .i64 ss.length)/\w=w':=by
 obtain⟨hF,Bb,vS,y⟩:=B;obtain⟨W,Y,rfl,O⟩:=dN y.row;have U:=dn y.blk 1;clear y;go_enter func30,ntmps30;go_wp2;go_ret;exact⟨rfl,rfl⟩
def iV(ss:List (List dp))(n:Int):Wd×Nat:=if n<0\/(ss.length:Int)<=n then([],6)else(dK (ss.getD n.toNat []),0)
def SH(w:World)(F:Nat->Prop)(b:Nat)(buf:List dp)(ss:List (List dp))(n:Int)(hP:sO vM vK w F b buf ss) :
  g8 prog 26 #[.pointer (some ⟨b,0,none⟩),.int .i64 n] w λe w'=>e=.returned (.tuple #[.string ⟨(iV ss n).1.toArray⟩,.int .i64 (iV ss n).2])/\w=w':=by
 obtain⟨hF,Bb,vS,y⟩:=hP;obtain⟨aS,cS,rfl,aa⟩:=dN y.row;have ab:=dn y.blk 1;have h6:=y.inv.qg
 have HR:m1 (∀j(W:j<ss.length),∃bb off,aS=some ⟨bb,off,none⟩/\w.cell? ⟨bb,off+j,none⟩=some (.string ⟨(dK ss[j]).toArray⟩)):=by
  intro j W;obtain⟨a',c',Y,_,_,hr⟩:=Rd.jk y.row;simp only[m9]at Y;obtain⟨rfl,_,rfl⟩:=Y;exact hr j _ (by simp[dl,W])
 clear y;by_cases h0:n<0
 .have B:m1 (iV ss n=([],6)):=by show iV _ _=_;unfold iV;rw[if_pos (Or.inl h0)]
  go_enter m0,md;go_wp2;go_ret2;rw[B.out];exact⟨rfl,rfl⟩
 have O:0<=n:=by omega
 by_cases h1:(ss.length:Int)<=n
 .have B:m1 (iV ss n=([],6)):=by show iV _ _=_;unfold iV;rw[if_pos (Or.inr h1)]
  go_enter m0,md;go_wp2;go_ret2;rw[B.out];exact⟨rfl,rfl⟩
 obtain⟨m,rfl⟩:∃m:Nat,n=(m:Int):=⟨n.toNat,by omega⟩;have hm:m<ss.length:=by omega
 have ac:(m:Int)<(ss.length:Int):=by omega
 have B:m1 (iV ss (m:Int)=(dK ss[m],0)):=by
  show iV _ _=_;unfold iV;rw[if_neg (by omega),Int.toNat_natCast,dq,dg hm];rfl
 obtain⟨bb,off,rfl,U⟩:=HR.out m hm;clear h0 O h1;go_enter m0,md;go_wp2;go_ret2;rw[B.out];exact⟨rfl,rfl⟩
variable {base:Nat} {v v' x:Value} {l:Wd}
def yv{P:Program}(w:World)(base:Nat)(t u ty e:g9)(i:TypeInfo)(ht:P.underlying t=some (.slice e))(hu:P.underlying u=some .string)(hi:P.info? e=some i)(hz:i.zero=some (.int .u8 0))
  (y:i.size=1) (aa:i.bytes=1) (v:Value) (n:Nat) (xs:List Value) (B:w.ownsRow base e 1 v n xs) (hn:0<n) (s:ByteArray) (hb:(n+s.size)*1<=140737488355328) (O:base<=w.heap.size) :
  ∃v' w',(n3 #[t,u] ty #[v,.string s]).run P w=.ok v' w'/\w'.ownsRow base e 1 v' (n+s.size) (xs++fo s.data.toList)/\w.grownBy w' v.ownBlock/\(v'.ownBlock=v.ownBlock\/v'.ownBlock=some w.heap.size):=by
 obtain⟨v',w',U,h2,h3,_⟩:=Lib.run_append_own_string (P:=P) w base t u ty e i ht hu hi hz y aa v n xs B s (by unfold g7;omega) (by omega) O;refine⟨v',w',U,h2,h3,?_⟩;rcases B.2 with⟨rfl,rfl⟩|⟨g,c,ab,rfl,ad,hg,ae,af,ag,ac⟩
 omega;by_cases W:n+s.size<=c;have Y:=Lib.run_append_room_string (P:=P) w t u ty e i ht hu hi y g n c ab hg s W (by omega);rw[Y]at U;simp only[Result.ok.injEq]at U;exact Or.inl (by rw[<-U.1];rfl);have holds:=B.cells (g:=g) rfl;have Y:=Lib.run_append_grow_string (P:=P) w t u ty e i _ ht hu hi hz _ n c xs (by rw[y];exact B.1) holds s (by omega) (by omega) (by rw[aa];exact growslice_fits (by omega) hb);rw[Y]at U;simp only[Result.ok.injEq]at U;exact Or.inr (by rw[<-U.1];rfl)
def uY{P:Program}(w:World){ops:Array Oper}{rest:List Oper}{o:Oper}{a:Act}{Q:Exit->Act->World->Prop}(U:o.guard=none)(sl x:Operand)(t u:g9)
  (Y:o.op=.call {callee:=.builtin .append,args:=#[sl,x],argTypes:=#[t,u]})
  (base:Nat) (e:g9) (i:TypeInfo) (ht:P.underlying t=some (.slice e)) (hu:P.underlying u=some .string) (hi:P.info? e=some i) (hz:i.zero=some (.int .u8 0))
  (y:i.size=1) (W:i.bytes=1) (v:Value) (n:Nat) (xs:List Value) (hs:a.eval sl=v) (O:w.ownsRow base e 1 v n xs) (hn:0<n) (s:ByteArray) (hx:a.eval x=.string s) (hb:(n+s.size)*1<=140737488355328) (B:base<=w.heap.size)
  (h:∀v' w',w'.ownsRow base e 1 v' (n+s.size) (xs++fo s.data.toList)->w.grownBy w' v.ownBlock->(v'.ownBlock=v.ownBlock\/v'.ownBlock=some w.heap.size)->hJ P ops Q rest (a.put o.dst v') w'):hJ P ops Q (o::rest) a w:=by
 refine hX U λ_ hK=>?_;obtain⟨v',w',hr,h2,h3,h4⟩:=yv (P:=P) w base t u o.type e i ht hu hi hz y W v n xs O hn s hb B;unfold m2 hV;simp only[Y,hI,invoke,builtin,oo,on,ot,et,er,ez,hs,hx,hr];exact hK _ _ (h v' w' h2 h3 h4)
def fU(w:World)(base:Nat)(v:Value)(l:Wd):Prop:=w.ownsRow base 5 1 v l.length (fo l)
def eN(w w':World)(v v':Value):Prop:=dw (λk=>v.ownBlock=some k) w w'/\∀k,v'.ownBlock=some k->v.ownBlock=some k\/w.heap.size<=k
def eN.trans{a b c:World}{u:Value}(h:eN a b u v)(k:eN b c v x):eN a c u x:=by
 refine⟨h.1.trans k.1 (λi hi B=>?_),λi hi=>?_⟩;rcases h.2 i B with y|y
 exact y;omega;rcases k.2 i hi with y|y
 exact h.2 i y;exact Or.inr (iz h.1.size y)
def eN.below(h:Below w.heap.size w w')(v:Value):eN w w' v v:=⟨dw.eQ h,λ_ h=>Or.inl h⟩
def eN.of{o:Obj}(y:(w.alloc o).grownBy w' v.ownBlock)(O:v'.ownBlock=v.ownBlock\/v'.ownBlock=some (w.heap.size+1)):eN w w' v v':=by
 have U:=y.size;simp at U;refine⟨⟨y.os,y.tape,y.output,by omega,λk B W=>?_⟩,λk B=>?_⟩;rw[y.block k (by simp;omega) (λe=>W e.symm),m5 _ _ _ B];rcases O with h|h
 exact Or.inl (by rw[<-h];exact B);rw[h]at B;simp at B;exact Or.inr (by omega)
def eN.We(y:w.grownBy w' v.ownBlock)(O:v'.ownBlock=v.ownBlock\/v'.ownBlock=some w.heap.size):eN w w' v v':=by
 refine⟨⟨y.os,y.tape,y.output,y.size,λk B U=>y.block k B (λe=>U e.symm)⟩,λk B=>?_⟩;rcases O with h|h
 exact Or.inl (by rw[<-h];exact B);rw[h]at B;simp at B;exact Or.inr (by omega)
def O'(base:Nat)(w:World)(v:Value)(l new:Wd)(e:Ending)(w':World):Prop:=∃v',e=.returned v'/\fU w' base v' (l++new)/\eN w w' v v'
def fU.below(h:fU w base v l)(hb:Below w.heap.size w w'):fU w' base v l:=eH h (λk y=>hb.block k (h.lt k y).2)
def iu(a b:Wd):fo (a++b)=fo a++fo b:=by simp[fo]
def jU(base:Nat)(v:Value)(l:Wd)(s:ByteArray)(w:World)(h:fU w base v l)(hl:l.length<=1099511627776)(hs:s.size<=1099511627776)(ad:base<=w.heap.size) :
  g8 prog 177 #[v,.string s] w (O' base w v l (dC s.data.toList)):=by
 obtain⟨i0,hi,U,W,Y⟩:=hf Hu;obtain⟨a,c,rfl,hc⟩:=dN h;have HO:m1 _:=h;clear h;go_enter func177,ntmps177
 go_wp2_with (first
  |(at_builtin;refine fM _ rfl _ _ 60 rfl base 5 i0 (.int .u8 0) 1 jt hi U W Y rfl _ _ _ rfl (HO.out.alloc _) _ [.int .u8 ((s.size:Int) % 256)] rfl (Rd.one iH) (by simp[nr]) ?c1 ?c2 ?c3 ?_))
 case c1=>simp;omega
 case c2=>unfold g7;simp;omega
 case c3=>simp;omega
 intro v1 w1 y aa ab
 have hO1:fU w1 base v1 (l++[u8 s.size]):=by
  unfold fU;rw[iu,iX,cc];exact y
 have ac:m1 (eN w w1 (.slice a l.length c) v1):=eN.of aa ab
 have B:w1.ownsRow base 5 1 v1 (l.length+1) (fo (l++[u8 s.size])):=by
  unfold fU at hO1;rw[cc]at hO1;exact hO1
 obtain⟨a1,c1,rfl,ak⟩:=dN B;have ae:m1 _:=B;have aj:=ac.out.1.size;clear y aa ab hO1 B
 go_wp2_with (first
  |(at_builtin;refine uY _ rfl _ _ 60 9 rfl base 5 i0 jt j2 hi U W Y _ _ _ rfl ae.out ?d1 s rfl ?d2 ?d3 ?_))
 case d1=>omega
 case d2=>omega
 case d3=>omega
 intro v2 w2 O af ag
 have ah:m1 (fU w2 base v2 (l++dC s.data.toList)):=by
  show fU _ _ _ _;unfold fU dC;have e:l++u8 s.data.toList.length::s.data.toList=(l++[u8 s.size])++s.data.toList:=by simp
  rw[e,iu,cc];have e3:(l++[u8 s.size]).length=l.length+1:=by simp
  rw[e3];exact O
 have ai:m1 _:=ac.out.trans (eN.We af ag);go_wp2;go_ret;exact⟨v2,rfl,ah.out,ai.out⟩
def Rd.three{y z:Value}{t:g9}:Rd (w.alloc (.cells #[x,y,z] t)) (.slice (some ⟨w.heap.size,0,none⟩) 3 3) [x,y,z]:=by
 refine⟨some _,3,rfl,hZ _,by unfold g7;omega,λj u B=>⟨w.heap.size,0,rfl,?_⟩⟩;match j,B with
 |0,B=>simpa using B|1,B=>simpa using B|2,B=>simpa using B|j+3,B=>simp at B
def pD(base:Nat)(v:Value)(l:Wd)(n:Int)(w:World)(h:fU w base v l)(hl:l.length<=1099511627776)(ad:0<=n)(hn:n<=1000000)(U:base<=w.heap.size) :
  g8 prog 178 #[v,.int .i64 n] w (O' base w v l (eR n)):=by
 obtain⟨i0,hi,W,Y,aa⟩:=hf Hu;obtain⟨a,c,rfl,hc⟩:=dN h;have HO:m1 _:=h;clear h;go_enter func178,ntmps178
 go_wp2_with (first
  |(at_builtin;refine fM _ rfl _ _ 60 rfl base 5 i0 (.int .u8 0) 1 jt hi W Y aa rfl _ _ _ rfl (HO.out.alloc _) _ [.int .u8 (n / 65536),.int .u8 (n / 256 % 256),.int .u8 (n % 256)] rfl Rd.three (by simp[nr]) ?c1 ?c2 ?c3 ?_))
 case c1=>simp;omega
 case c2=>unfold g7;simp;omega
 case c3=>simp;omega
 intro v1 w1 y B O
 have ab:m1 (fU w1 base v1 (l++eR n)):=by
  show fU _ _ _ _;unfold fU;rw[iu,cc]
  have e:fo (eR n)=[.int .u8 (n / 65536),.int .u8 (n / 256 % 256),.int .u8 (n % 256)]:=by
   obtain⟨m,rfl⟩:∃m:Nat,n=(m:Int):=⟨n.toNat,by omega⟩;rw[wq m (by omega)];simp only[fo,er,ez];rw[tN _ (by omega),tN _ (by omega),tN _ (by omega)];simp
  rw[e];exact y
 have ac:m1 (eN w w1 (.slice a l.length c) v1):=eN.of B O;clear y B O;go_wp2;go_ret;exact⟨v1,rfl,ab.out,ac.out⟩
def fU.form(h:fU w base v l):∃a c,v=.slice a l.length c:=by
 obtain⟨a,c,e,_⟩:=dN h;exact⟨a,c,e⟩
def xz(base:Nat)(v:Value)(l:Wd)(e:dp)(w:World)(h:fU w base v l)(hl:l.length<=549755813888)(ah:tC e)(a7:base<=w.heap.size) :
  g8 prog 181 #[v,AN e] w (O' base w v l (ku e)):=by
 obtain⟨i0,hi,a8,a9,a'⟩:=hf Hu;obtain⟨nm,gn,tx,wt,tg⟩:=e;have h1:=(fZ ah.2.1).2;have h2:=kg ah.2.2.1;obtain⟨_,_,_,_,h3,h4,h5,h6⟩:=ah;simp only at h1 h2 h3 h4 h5 h6;obtain⟨a,c,rfl⟩:=h.form;obtain⟨w0,ai⟩:∃w0,w.alloc (.cells #[.string ⟨nm.toArray⟩,.string ⟨tx.toArray⟩,.int .i64 wt,.int .i64 tg] 96)=w0:=⟨_,rfl⟩;have aa:Below w.heap.size w w0:=by rw[<-ai];exact(m3 _ _).alloc (hZ _) _
 have aV:=aa.size;have aj:w0.heap[w.heap.size]?=some (.cells #[.string ⟨nm.toArray⟩,.string ⟨tx.toArray⟩,.int .i64 wt,.int .i64 tg] 96 (0,0)):=by rw[<-ai];exact hQ w _
 have y:∀W:World,W.heap[w.heap.size]?=some (.cells #[.string ⟨nm.toArray⟩,.string ⟨tx.toArray⟩,.int .i64 wt,.int .i64 tg] 96 (0,0))->W.cell? ⟨w.heap.size,0,none⟩=some (.string ⟨nm.toArray⟩)/\W.cell? ⟨w.heap.size,1,none⟩=some (.string ⟨tx.toArray⟩)/\W.cell? ⟨w.heap.size,2,none⟩=some (.int .i64 wt)/\W.cell? ⟨w.heap.size,3,none⟩=some (.int .i64 tg):=by
  intro W hW;exact⟨by rw[dn hW];rfl,by rw[dn hW];rfl,by rw[dn hW];rfl,by rw[dn hW];rfl⟩
 have HC:m1 _:=y;obtain⟨d0,_,_,_⟩:=y w0 aj;have ak:=h.below aa;have aA:(⟨nm.toArray⟩:ByteArray).size<=1099511627776:=by show nm.toArray.size<=_;simp;omega
 have aB:(⟨tx.toArray⟩:ByteArray).size<=1099511627776:=by show tx.toArray.size<=_;simp;omega
 have au:=jU base _ l ⟨nm.toArray⟩ w0 ak (by omega) aA (by omega);have aC:m1 (eN w w0 (.slice a l.length c) (.slice a l.length c)):=eN.below aa _;have al:m1 _:=aj;have av:∀(W:World)(v:Value)(k:Wd),fU W base v k->W.heap[w.heap.size]?=some (.cells #[.string ⟨nm.toArray⟩,.string ⟨tx.toArray⟩,.int .i64 wt,.int .i64 tg] 96 (0,0))->v.ownBlock≠some w.heap.size:=λW v k ho hh=>oX hh ho (by decide);have am:m1 _:=av;have aD:m1 _:=ak;clear h aa aj y av ak;unfold AN;go_enter func181,ntmps181;go_wp2_with fail;refine au.mono ?_;rintro e1 w1 ⟨v1,rfl,B,ab⟩;obtain⟨L1,ac⟩:∃L1,L1=l++dC nm:=⟨_,rfl⟩;have aZ:L1.length<=l.length+30:=by rw[ac];simp[dC];omega
 have aE:m1 _:=ac;change fU w1 base v1 (l++dC nm)at B;rw[<-ac]at B;have an:w1.heap[w.heap.size]?=some (.cells #[.string ⟨nm.toArray⟩,.string ⟨tx.toArray⟩,.int .i64 wt,.int .i64 tg] 96 (0,0)):=by rw[ab.1.block _ (eS al.out) (am.out w0 _ _ aD.out al.out)];exact al.out
 have aF:m1 (eN w w1 (.slice a l.length c) v1):=aC.out.trans ab;obtain⟨a1,c1,rfl⟩:=B.form;have aw:m1 _:=B;have ao:m1 _:=an;obtain⟨aG,aH,aI,aJ⟩:=HC.out w1 an;have aW:=ab.1.size;clear au B ab an ac;clear ai d0;have ax:=jU base _ L1 ⟨tx.toArray⟩ w1 aw.out (by omega) aB (by omega);go_wp2_with fail;refine ax.mono ?_;rintro e2 w2 ⟨v2,rfl,O,ad⟩;obtain⟨L2,ae⟩:∃L2,L2=L1++dC tx:=⟨_,rfl⟩;have ba:L2.length<=L1.length+30:=by rw[ae];simp[dC];omega
 have aK:m1 _:=ae;change fU w2 base v2 (L1++dC tx)at O;rw[<-ae]at O;have ap:w2.heap[w.heap.size]?=some (.cells #[.string ⟨nm.toArray⟩,.string ⟨tx.toArray⟩,.int .i64 wt,.int .i64 tg] 96 (0,0)):=by rw[ad.1.block _ (eS ao.out) (am.out w1 _ _ aw.out ao.out)];exact ao.out
 have aL:m1 (eN w w2 (.slice a l.length c) v2):=aF.out.trans ad;obtain⟨a2,c2,rfl⟩:=O.form;have ay:m1 _:=O;have aq:m1 _:=ap;obtain⟨aM,aN,aO,aP⟩:=HC.out w2 ap;have aX:=ad.1.size;clear ax O ad ap ae;have az:=pD base _ L2 wt w2 ay.out (by omega) h3 h4 (by omega);clear aG aH aI aJ;go_wp2_with fail;refine az.mono ?_;rintro e3 w3 ⟨v3,rfl,U,af⟩;obtain⟨L3,ag⟩:∃L3,L3=L2++eR wt:=⟨_,rfl⟩;have bc:L3.length<=L2.length+30:=by rw[ag];simp[eR]
 have aQ:m1 _:=ag;change fU w3 base v3 (L2++eR wt)at U;rw[<-ag]at U;have ar:w3.heap[w.heap.size]?=some (.cells #[.string ⟨nm.toArray⟩,.string ⟨tx.toArray⟩,.int .i64 wt,.int .i64 tg] 96 (0,0)):=by rw[af.1.block _ (eS aq.out) (am.out w2 _ _ ay.out aq.out)];exact aq.out
 have aR:m1 (eN w w3 (.slice a l.length c) v3):=aL.out.trans af;obtain⟨a3,c3,rfl⟩:=U.form;have aS:m1 _:=U;have bd:m1 _:=ar;obtain⟨be,bf,bg,bh⟩:=HC.out w3 ar;have aY:=af.1.size;clear az U af ar ag;clear aM aN aO aP
 go_wp2_with (first
  |(at_builtin;refine fM _ rfl _ _ 60 rfl base 5 i0 (.int .u8 0) 1 jt hi a8 a9 a' rfl _ _ _ rfl (aS.out.alloc _) _ [.int .u8 tg] rfl (Rd.one iH) (by simp[nr]) ?c1 ?c2 ?c3 ?_))
 case c1=>simp;omega
 case c2=>unfold g7;simp;omega
 case c3=>simp;omega
 intro v4 w4 Y a5 a6
 have aT:m1 (fU w4 base v4 (l++ku ⟨nm,gn,tx,wt,tg⟩)):=by
  show fU _ _ _ _;have e:l++ku ⟨nm,gn,tx,wt,tg⟩=L3++[u8 tg]:=by rw[aQ.out,aK.out,aE.out];simp[ku]
  rw[e];unfold fU;rw[iu,iX,cc,show tg % 256=tg by omega];exact Y
 have aU:m1 (eN w w4 (.slice a l.length c) v4):=aR.out.trans (eN.of a5 a6);clear Y a5 a6;go_wp2;go_ret;exact⟨v4,rfl,aT.out,aU.out⟩
variable {L:List dp} {n o:Nat} {a:Wd}
structure tJ(w:World)(b o:Nat)(e:dp):Prop where
 path:w.cell? ⟨b,o,none⟩=some (.string ⟨(dG e).toArray⟩)
 name:w.cell? ⟨b,o+1,none⟩=some (.string ⟨e.name.toArray⟩)
 text:w.cell? ⟨b,o+2,none⟩=some (.string ⟨e.text.toArray⟩)
 du:w.cell? ⟨b,o+3,none⟩=some (.int .i64 e.du)
 dE:w.cell? ⟨b,o+4,none⟩=some (.int .i64 e.dE)
 blk:∃cs fz,w.heap[b]?=some (.cells cs 237 fz)
def o9(w:World)(v:Value)(L:List dp):Prop:=∃a cap,v=.slice a L.length cap/\L.length<=cap/\cap<=g7/\∀i(h:i<L.length),∃b off,a=some ⟨b,off,none⟩/\tJ w b (off+i*5) L[i]
def tJ.stay{e:dp}(h:tJ w b o e)(hb:w'.heap[b]?=w.heap[b]?):tJ w' b o e:=by
 have y:∀(o:Nat)(u:Value),w.cell? ⟨b,o,none⟩=some u->w'.cell? ⟨b,o,none⟩=some u:=λo u B=>by
  simp only[ng]at B⊢;rw[hb];exact B
 exact⟨y _ _ h.path,y _ _ h.name,y _ _ h.text,y _ _ h.du,y _ _ h.dE,by rw[hb];exact h.blk⟩
def tJ.lt{e:dp}(h:tJ w b o e):b<w.heap.size:=by
 obtain⟨cs,fz,y⟩:=h.blk;exact(m6.1 y).1
def o9.below(h:o9 w v L)(hb:Below w.heap.size w w'):o9 w' v L:=by
 obtain⟨a,cap,B,O,U,W⟩:=h;refine⟨a,cap,B,O,U,λi hi=>?_⟩;obtain⟨b,off,Y,y⟩:=W i hi;exact⟨b,off,Y,y.stay (hb.block b y.lt)⟩
def o9.wrote{u B:Value}{base:Nat}{l:Wd}(h:o9 w v L)(O:fU w base u l)(U:eN w w' u B):o9 w' v L:=by
 obtain⟨a,cap,W,Y,h3,h4⟩:=h;refine⟨a,cap,W,Y,h3,λi hi=>?_⟩;obtain⟨b,off,e1,y⟩:=h4 i hi;refine⟨b,off,e1,y.stay (U.1.block b y.lt (λe=>?_))⟩;obtain⟨cs,fz,hh⟩:=y.blk;exact oX hh O (by decide) e
def Dh(v:Value)(L:List dp)(w:World)(h:o9 w v L) :
  g8 prog 179 #[v] w λe w'=>e=.returned (.int .i64 (fP L))/\Below w.heap.size w w':=by
 obtain⟨a,cap,rfl,W,hm,O⟩:=h;have U:m1 _:=O;unfold g7 at hm;clear O;go_enter func179,ntmps179;go_wp2;go_loopw [3,8] (λg i wr=>∃k:Nat,k<=L.length/\i=.int .i64 k/\g=.int .i64 (fP (L.take k))/\Below w.heap.size w wr) (λ_ i _=>L.length-(intOf i).toNat)
 case atStart=>exact⟨0,ip _,rfl,rfl,m3 _ _⟩
 case round=>
  obtain⟨k,Y,rfl,rfl,hb⟩:=hrel;have HB:m1 _:=hb;have hz:=hb.size;clear hb;by_cases y:k<L.length
  .obtain⟨b,off,rfl,B⟩:=U.out k y;have q0:=g6 HB.out B.path;have q1:=g6 HB.out B.name;have q2:=g6 HB.out B.text;have q3:=g6 HB.out B.du;have q4:=g6 HB.out B.dE
   have HE:m1 (fP (L.take (k+1))=max (fP (L.take k)) L[k].du):=by
    show _=_;rw[di y,jK,li,show fP []=0 from rfl];have:=nZ (L.take k);omega
   go_wp2;go_roundw
   case rel=>exact⟨k+1,by omega,by go_num,by rw[HE.out],HB.out.alloc hz _⟩
   case measure=>simp[intOf];omega
  have HE:m1 (L.take k=L):=ey (by omega);go_wp2;go_ret;exact⟨eI (by rw[HE.out]),HB.out⟩
def S5(L:List dp)(d:Nat):jb L d<=L.length:=by
 exact(List.takeWhile_sublist _).length_le
def Gk{d k:Nat}(y:k<=L.length)(B:∀j(h:j<k),(dG (L[j]'(by omega))).length=d)(O:∀h:k<L.length,(dG L[k]).length≠d):jb L d=k:=by
 exact Bo _ _ k y (λj U=>by simpa using B j U) (λh=>by simpa using O h)
def xF(v:Value)(L:List dp)(d:Nat)(w:World)(h:o9 w v L) :
  g8 prog 180 #[v,.int .i64 d] w λe w'=>e=.returned (.int .i64 (jb L d))/\Below w.heap.size w w':=by
 obtain⟨a,cap,rfl,hc,hm,hr⟩:=h;have HR:m1 _:=hr;unfold g7 at hm;clear hr;go_enter func180,ntmps180;go_wp2;go_loopw [5] (λi wr=>∃k:Nat,k<=L.length/\i=.int .i64 k/\(∀j(h:j<k)(h':j<L.length),(dG L[j]).length=d)/\Below w.heap.size w wr) (λi _=>L.length-(intOf i).toNat)
 case atStart=>exact⟨0,ip _,rfl,λj h=>by omega,m3 _ _⟩
 case round=>
  obtain⟨k,hk,rfl,fG,hb⟩:=hrel;have O:m1 _:=hb;have U:m1 _:=fG;clear hb fG;by_cases B:k<L.length
  .obtain⟨b,off,rfl,hL⟩:=HR.out k B;have q0:=g6 O.out hL.path;have aa:(k:Int)<(L.length:Int):=by omega
   clear hL;by_cases y:(dG L[k]).length=d
   .have HD:m1 _:=y;have W:(((dG L[k]).length:Int)==(d:Int))=true:=beq_iff_eq.2 (by omega);clear y;go_wp2;go_roundw
    case rel=>exact⟨k+1,by omega,by go_num,λj h h'=>by
     by_cases e:j=k;subst e;exact HD.out
     exact U.out j (by omega) h',O.out⟩
    case measure=>simp[intOf];omega
   have Y:m1 (jb L d=k):=Gk hk (λj h=>U.out j h (by omega)) (λ_=>y);have W:(((dG L[k]).length:Int)==d)=false:=beq_eq_false_iff_ne.2 (by omega);go_wp2;go_ret;exact⟨eI (by rw[Y.out]),O.out⟩
  have Y:m1 _:=Gk hk (λj h=>U.out j h _) (λh=>absurd h B);go_wp2;go_ret;exact⟨eI (by rw[Y.out]),O.out⟩
def yn{y:Type}{L:List y}(h:L≠[]):0<L.length:=List.length_pos_iff.2 h
def yH{b:Wd}(h1:n<=a.length)(O:a.take n=b.take n)(U:n=a.length\/n=b.length\/a.getD n 0≠b.getD n 0):(tL a b).length=n:=by
 have W:=sF a b _ (gg ..) (by rw[O];exact gg ..);have Y:=W.length_le;rw[cp]at Y;have B:=se a b;have hb:=qv a b;rcases Nat.lt_or_ge n _ with y|aa
 have e1:=uZ B n y;have e2:=uZ hb n y;have:=B.length_le;have:=hb.length_le;rcases U with h|h|h
 omega;omega;exact absurd (e1.trans e2.symm) h;omega
def MC{b:Wd}(B:n<a.length)(O:n<b.length)(U:a.take n=b.take n)(y:a.getD n 0=b.getD n 0):a.take (n+1)=b.take (n+1):=by
 rw[di B,di O,U];rw[dq,dg B,dq,dg O]at y;simp only[Option.getD_some]at y;rw[y]
def P4(h:L≠[]):io L=tL (dG (L[0]'(yn h))) (dG (L[L.length-1]'(by have:=yn h;omega))):=by
 cases L with
 |nil=>exact absurd rfl h|cons e C=>
  unfold io;simp only[e0];rw[List.getLast_eq_getElem]
def IK(v:Value)(L:List dp)(w:World)(h:o9 w v L)(W:L≠[])(O:∀e∈L,(dG e).length<=24) :
  g8 prog 183 #[v] w λe w'=>e=.returned (.int .i64 (io L).length)/\Below w.heap.size w w':=by
 obtain⟨a,cap,rfl,hc,hm,hr⟩:=h;unfold g7 at hm;have y:=yn W;obtain⟨b,off,rfl,h0⟩:=hr 0 y;obtain⟨b',aj,e',h1⟩:=hr (L.length-1) (by omega);simp only[nl,o1,and_true]at e';obtain⟨rfl,rfl⟩:=e';have HC:m1 (io L=tL (dG (L[0]'y)) (dG (L[L.length-1]'(by omega)))):=P4 W;have hA:(dG (L[0]'y)).length<=24:=O _ (ch _);have hB:(dG (L[L.length-1]'(by omega))).length<=24:=O _ (ch _);have c0:=h0.path;have c1:=h1.path;rw[i8,i7]at c0;obtain⟨m,ab⟩:∃m,L.length=m+1:=⟨L.length-1,by omega⟩;have U:L.length-1=m:=by omega
 rw[show off+(L.length-1)*5=off+m*5 by rw[U]]at c1;clear h0 h1 hr O;generalize ac:dG (L[0]'y)=A at *;generalize ad:dG (L[L.length-1]'(by omega))=B at *;clear ac ad W U y;rw[ab]at hc⊢;have al:IntKind.i64.wrap (((m+1:Nat):Int)-1)=(m:Int):=by simp only[no];omega
 have ak:IntKind.i64.wrap ((m:Int)+1-1)=(m:Int):=by simp only[no];omega
 have i0:(0:Int)<(m:Int)+1:=by omega
 have i1:(m:Int)<(m:Int)+1:=by omega
 have i2:(0:Int)<=(m:Int):=by omega
 have am:(⟨A.toArray⟩:ByteArray).size=A.length:=by show A.toArray.size=_;simp
 have an:(⟨B.toArray⟩:ByteArray).size=B.length:=by show B.toArray.size=_;simp
 have ae:m1 (∀(n:Nat)(h:n<(⟨A.toArray⟩:ByteArray).size),(⟨A.toArray⟩:ByteArray)[n]=A.getD n 0):=λn h=>(l5 ⟨A.toArray⟩ n h).symm;have af:m1 (∀(n:Nat)(h:n<(⟨B.toArray⟩:ByteArray).size),(⟨B.toArray⟩:ByteArray)[n]=B.getD n 0):=λn h=>(l5 ⟨B.toArray⟩ n h).symm;generalize (⟨A.toArray⟩:ByteArray)=bA at *;generalize (⟨B.toArray⟩:ByteArray)=bB at *;go_enter func183,ntmps183;go_wp2_with fail;go_quiet (fail);go_wp2;go_loopw [5] (λi wr=>∃n:Nat,n<=A.length/\n<=B.length/\i=.int .i64 n/\A.take n=B.take n/\Below w.heap.size w wr) (λi _=>A.length-(intOf i).toNat)
 case atStart=>exact⟨0,ip _,ip _,rfl,by simp,iO (m3 _ _) _⟩
 case round=>
  obtain⟨n,Y,ao,rfl,aa,hb⟩:=hrel;have HB:m1 _:=hb;have HE:m1 _:=aa;clear hb aa;by_cases h1:n<A.length
  .have ag:(n:Int)<(A.length:Int):=by omega
   by_cases h2:n<B.length
   .have ah:(n:Int)<(B.length:Int):=by omega
    have gA:=ae.out n (by omega);have gB:=af.out n (by omega);by_cases h3:A.getD n 0=B.getD n 0
    .have HT:m1 (A.take (n+1)=B.take (n+1)):=MC h1 h2 HE.out h3;have ai:(((bA[n]'(by omega)).toNat:Int)==((bB[n]'(by omega)).toNat:Int))=true:=beq_iff_eq.2 (by rw[gA,gB,h3]);clear h3 gA gB;go_wp2_with fail;go_quiet (fail);go_wp2;go_roundw
     case rel=>exact⟨n+1,by omega,by omega,by go_num,HT.out,iO HB.out _⟩
     case measure=>simp[intOf];omega
    have HT:m1 ((io L).length=n):=by show _=_;rw[HC.out];exact yH Y HE.out (Or.inr (Or.inr h3))
    have ai:(((bA[n]'(by omega)).toNat:Int)==((bB[n]'(by omega)).toNat:Int))=false:=beq_eq_false_iff_ne.2 (by
     rw[gA,gB];intro hh
     exact h3 (UInt8.toNat_inj.1 (by omega)))
    clear h3 gA gB;go_wp2_with fail;go_quiet (fail);go_wp2;go_ret;exact⟨eI (by rw[HT.out]),iO HB.out _⟩
   have HT:m1 ((io L).length=n):=by show _=_;rw[HC.out];exact yH Y HE.out (Or.inr (Or.inl (by omega)))
   have ah:decide ((n:Int)<(B.length:Int))=false:=decide_eq_false (by omega);go_wp2_with fail;go_quiet (fail);go_wp2;go_ret;exact⟨eI (by rw[HT.out]),iO HB.out _⟩
  have HT:m1 ((io L).length=n):=by show _=_;rw[HC.out];exact yH Y HE.out (Or.inl (by omega))
  have ag:decide ((n:Int)<(A.length:Int))=false:=decide_eq_false (by omega);go_wp2_with fail;go_quiet (fail);go_wp2;go_ret;exact⟨eI (by rw[HT.out]),iO HB.out _⟩
variable {Cs:List (List dp)}
def MG(d:Nat)(e:dp)(l:List dp):∃g gs,runs d (e::l)=(e::g)::gs:=by
 unfold runs;split;exact⟨[],[],rfl⟩;exact⟨[],_,rfl⟩;split;exact⟨_,_,rfl⟩;exact⟨[],_,rfl⟩
def NY(d:Nat):∀(X:List dp)(j:Nat),j<X.length->(∀i,i<j->∀(U:i+1<X.length),fh d (X[i]'(by omega))=fh d X[i+1])->(∀h:j+1<X.length,fh d (X[j]'(by omega))≠fh d X[j+1])->
  runs d X=X.take (j+1)::runs d (X.drop (j+1)):=by
 intro X;induction X with
 |nil=>intro j h;simp at h|cons e l ih=>
  intro j hj W Y
  cases j with
  |zero=>
   cases l with
   |nil=>simp[runs]|cons x l'=>
    obtain⟨g,gs,hg⟩:=MG d x l';have y:=Y (by simp);simp only[e0,fm]at y;simp only[e8,List.take_zero,ga,List.drop_zero];rw[runs,hg];simp only;rw[if_neg y]
  |succ j=>
   have B:=by simpa using hj
   have h1:=ih j B (λi h U=>by have:=W (i+1) (by omega) (by simpa using U);simpa using this) (λh=>by have:=Y (by simpa using h);simpa using this)
   cases l with
   |nil=>simp at B|cons x l'=>
    have O:=W 0 (by omega) (by simp);simp only[e0,fm]at O;rw[e8,ga,runs,h1,e8];simp only;rw[if_pos O]
def zG{d:Nat}{st k:Nat}(B:st<=k)(Y:k<L.length)(O:∀i,st<=i->i<k->∀(y:i+1<L.length),fh d (L[i]'(by omega))=fh d L[i+1])(U:∀h:k+1<L.length,fh d (L[k]'(by omega))≠fh d L[k+1]) :
  runs d (L.drop st)=(L.drop st).take (k+1-st)::runs d (L.drop (k+1)):=by
 have h:=NY d (L.drop st) (k-st) (by simp;omega) (λi hi y=>by
  have:=O (st+i) (by omega) (by omega) (by omega)
  simpa[Nat.add_assoc]using this) (λy=>by
  rw[dm]at y;have:=U (by omega);have e:st+(k-st)=k:=by omega
  have W:st+(k-st+1)=k+1:=by omega
  simpa[e,W]using this)
 rw[h,List.drop_drop,show st+(k-st+1)=k+1 by omega,show k-st+1=k+1-st by omega]
def o9.sub{b off n cap:Nat}(h:o9 w (.slice (some ⟨b,off,none⟩) n cap) L)(s t:Nat)(O:s<=t)(ht:t<=L.length):o9 w (.slice (some ⟨b,off+s*5,none⟩) (t-s) (cap-s)) ((L.drop s).take (t-s)):=by
 obtain⟨a,c,e,h1,h2,U⟩:=h;obtain⟨rfl,_,rfl⟩:=e;have y:((L.drop s).take (t-s)).length=t-s:=by simp;omega
 refine⟨some _,cap-s,by rw[y],by omega,by omega,λi hi=>?_⟩;rw[y]at hi;obtain⟨b',B,W,Y⟩:=U ..;obtain⟨rfl,rfl⟩:=W;refine⟨b,off+s*5,rfl,?_⟩;have e2:((L.drop s).take _)[i]'(by rw[y];exact hi)=L[s+i]'(by omega):=by simp
 rw[e2,show off+s*5+i*5=off+(s+i)*5 by omega];exact Y
def lQ(w:World)(v:Value)(Cs:List (List dp)):Prop:=∃vs:List Value,w.ownsRow 0 190 1 v Cs.length vs/\Zip (o9 w) vs Cs
def lQ.below(h:lQ w v Cs)(hb:Below w.heap.size w w'):lQ w' v Cs:=by
 obtain⟨vs,y,B⟩:=h;exact⟨vs,eH y (λk O=>hb.block k (y.lt k O).2),B.mono (λu l U=>U.below hb)⟩
def lQ.wrote{u W:Value}{base:Nat}{l:Wd}(h:lQ w v Cs)(B:fU w base u l)(O:eN w w' u W):lQ w' v Cs:=by
 obtain⟨vs,y,Y⟩:=h;exact⟨vs,eH y (λk U=>O.1.block k (y.lt k U).2 (λe=>uD y B (by decide) k U e)),Y.mono (λu l hu=>hu.wrote B O)⟩
def T':(prog.info? 190).map (λi=>(i.zero,i.size,i.bytes))=some (some (.slice none 0 0),1,24):=by kernel_rfl
def LA(v:Value)(L:List dp)(d:Nat)(w:World)(h:o9 w v L)(hk:∀e∈L,d<(dG e).length)(au:∀e∈L,(dG e).length<=24)(hl:L.length<=1048576) :
  g8 prog 182 #[v,.int .i64 d] w λe w'=>∃v',e=.returned v'/\lQ w' v' (runs d L)/\Below w.heap.size w w':=by
 obtain⟨i0,hi,av,aw,ax⟩:=hf T';obtain⟨a,cap,rfl,hc,hm,hr⟩:=id h;have HL:m1 (o9 w (.slice a L.length cap) L):=h;have HR:m1 (∀i(h:i<L.length),∃b off,a=some ⟨b,off,none⟩/\tJ w b (off+i*5) L[i]):=hr;have HK:m1 (∀e∈L,d<(dG e).length):=hk;have ay:m1 (∀e∈L,(dG e).length<=24):=au;unfold g7 at hm;clear hr h hk au;go_enter func182,ntmps182;go_wp2;go_loopw [5,6,11] (λv s i wr=>∃(k st:Nat)(O:List (List dp))(vs:List Value),k<=L.length/\st<=k/\i=.int .i64 k/\s=.int .i64 st/\O.length<=k/\wr.ownsRow w.heap.size 190 1 v O.length vs/\Zip (o9 w) vs O/\runs d L=O++runs d (L.drop st)/\(∀i(h:st<=i)(h2:i<k)(h':i+1<L.length),fh d (L[i]'(by omega))=fh d L[i+1])/\(k=L.length->st=k)/\Below w.heap.size w wr) (λ_ _ i _=>L.length-(intOf i).toNat)
 case atStart=>exact⟨0,0,[],[],ip _,hZ _,rfl,rfl,hZ _,m' _ _ _ _,Zip.nil _,by simp,λi h h2=>by omega,λ_=>rfl,m3 _ _⟩
 case round=>
  obtain⟨k,st,O,vs,aM,az,rfl,rfl,aN,W,aj,Y,aa,ab,hb⟩:=hrel;have HB:m1 (Below w.heap.size w wr):=hb;have HO:m1 (wr.ownsRow w.heap.size 190 1 _ O.length vs):=W;have HZ:m1 (Zip (o9 w) vs O):=aj;have af:m1 (runs d L=O++runs d (L.drop st)):=Y;have HS:m1 (∀i(h:st<=i)(h2:i<k)(h':i+1<L.length),fh d (L[i]'(by omega))=fh d L[i+1]):=aa;obtain⟨aP,cP,rfl,aO⟩:=dN W;have hz:=hb.size;clear hb W aj Y aa;by_cases ac:k<L.length
  .obtain⟨b,off,rfl,hL⟩:=HR.out k ac;have q0:=g6 HB.out hL.path;have aD:(k:Int)<(L.length:Int):=by omega
   have a5:m1 (o9 w (.slice (some ⟨b,off+st*5,none⟩) (k+1-st) (cap-st)) ((L.drop st).take (k+1-st))):=HL.out.sub st (k+1) (by omega) (by omega);have aQ:=HK.out _ (ch ac);clear hL ab;by_cases ad:k+1=L.length
   .have a8:(((k:Int)+1)==(L.length:Int))=true:=beq_iff_eq.2 (by omega);have HC:m1 (runs d (L.drop st)=(L.drop st).take (k+1-st)::runs d (L.drop (k+1))):=zG az ac (λi h h2 h'=>HS.out i h h2 h') (λh=>by omega);have a6:st<cap:=by omega
    have ag:(k:Int)+1<=(cap:Int):=by omega
    clear ad;go_wp2_with fail;go_quiet (fail);have ae:m1 ((wr.drewN nq).ownsRow w.heap.size 190 1 (.slice aP O.length cP) O.length vs):=HO.out;have al:m1 (Below w.heap.size w (wr.drewN nq)):=iO HB.out nq;have am:w.heap.size<=(wr.drewN nq).heap.size:=hz;clear HO;generalize wr.drewN nq=wd at *
    go_wp2_with (first
     |(at_builtin;refine fD _ rfl _ _ 239 rfl w.heap.size 190 i0 (.slice none 0 0) 24 k4 hi av aw ax rfl _ _ _ rfl (ae.out.alloc _) ⟨wd.heap.size,0,none⟩ _ rfl iH rfl ?c1 ?c2 ?c3 ?_))
    case c1=>omega
    case c2=>unfold g7;omega
    case c3=>first|omega|(simp;omega)
    intro v' w1 y B _
    have an:m1 (w1.ownsRow w.heap.size 190 1 v' (O++[(L.drop st).take (k+1-st)]).length (vs++[.slice (some ⟨b,off+st*5,none⟩) (k+1-st) (cap-st)])):=by
     show w1.ownsRow _ _ _ _ _ _;rw[cc];exact y
    have ao:m1 (Below w.heap.size w w1):=(al.out.alloc am _).grown B (by simp;omega) (λb hb=>(ae.out.lt b hb).1);have ap:m1 (Zip (o9 w) (vs++[.slice (some ⟨b,off+st*5,none⟩) (k+1-st) (cap-st)]) (O++[(L.drop st).take (k+1-st)])):=HZ.out.append (Zip.one a5.out);clear y B;go_wp2;go_roundw
    case rel=>
     refine⟨k+1,k+1,_,_,by omega,hZ _,by go_num,by go_num,by simp;omega,an.out,ap.out,?_,λi h h2=>by omega,λ_=>rfl,ao.out⟩;rw[af.out,HC.out];simp
    case measure=>simp[intOf];omega
   have a8:(((k:Int)+1)==(L.length:Int))=false:=beq_eq_false_iff_ne.2 (by omega);have ag:k+1<L.length:=by omega
   have aE:(k:Int)+1<(L.length:Int):=by omega
   obtain⟨b',aF,e',a7⟩:=HR.out (k+1) ag;simp only[nl,o1,and_true]at e';obtain⟨rfl,rfl⟩:=e';have q1:=g6 HB.out a7.path;have aG:=HK.out _ (ch ag);have aH:=ay.out _ (ch ac);have aI:=ay.out _ (ch ag);have a9:(⟨(dG L[k]).toArray⟩:ByteArray).size=(dG L[k]).length:=by show(dG L[k]).toArray.size=_;simp
   have a':(⟨(dG L[k+1]).toArray⟩:ByteArray).size=(dG L[k+1]).length:=by show(dG L[k+1]).toArray.size=_;simp
   have gA:∀h:d<(⟨(dG L[k]).toArray⟩:ByteArray).size,(⟨(dG L[k]).toArray⟩:ByteArray)[d]=fh d L[k]:=λh=>(l5 ⟨(dG L[k]).toArray⟩ d h).symm;have gB:∀h:d<(⟨(dG L[k+1]).toArray⟩:ByteArray).size,(⟨(dG L[k+1]).toArray⟩:ByteArray)[d]=fh d L[k+1]:=λh=>(l5 ⟨(dG L[k+1]).toArray⟩ d h).symm;generalize (⟨(dG L[k]).toArray⟩:ByteArray)=bA at *;generalize (⟨(dG L[k+1]).toArray⟩:ByteArray)=bB at *;have aq:d<bA.size:=by omega
   have ar:d<bB.size:=by omega
   have aJ:(d:Int)<(bA.size:Int):=by omega
   have aK:(d:Int)<(bB.size:Int):=by omega
   have ah:=gA aq;have ai:=gB ar;have aR:IntKind.i64.wrap ((k:Int)+1)=((k+1:Nat):Int):=by simp only[no];omega
   have aL:((k+1:Nat):Int)<(L.length:Int):=by omega
   have a6:st<cap:=by omega
   have aS:(k:Int)+1<=(cap:Int):=by omega
   clear a7 a9 a' ad gA gB;by_cases U:fh d L[k]=fh d L[k+1]
   .have aA:(((bA[d]'aq).toNat:Int) != ((bB[d]'ar).toNat:Int))=false:=by rw[ah,ai,U];simp
    have aB:m1 (fh d L[k]=fh d L[k+1]):=U;clear U ah ai;go_wp2_with fail;go_quiet (fail);go_wp2;go_roundw
    case rel=>
     refine⟨k+1,st,O,vs,by omega,by omega,by go_num,rfl,by omega,HO.out,HZ.out,af.out,λi h h2 h'=>?_,λh=>by omega,iO HB.out _⟩;by_cases e:i=k;subst e;exact aB.out;exact HS.out i h (by omega) h'
    case measure=>simp[intOf];omega
   have aA:(((bA[d]'aq).toNat:Int) != ((bB[d]'ar).toNat:Int))=true:=by
    rw[ah,ai,bne_iff_ne];intro hh;exact U (UInt8.toNat_inj.1 (by omega))
   have HC:m1 (runs d (L.drop st)=(L.drop st).take (k+1-st)::runs d (L.drop (k+1))):=zG az ac (λi h h2 h'=>HS.out i h h2 h') (λ_=>U);clear U ah ai;go_wp2_with fail;go_quiet (fail);have ae:m1 ((wr.drewN nq).ownsRow w.heap.size 190 1 (.slice aP O.length cP) O.length vs):=HO.out;have al:m1 (Below w.heap.size w (wr.drewN nq)):=iO HB.out nq;have am:w.heap.size<=(wr.drewN nq).heap.size:=hz;clear HO;generalize wr.drewN nq=wd at *
   go_wp2_with (first
    |(at_builtin;refine fD _ rfl _ _ 239 rfl w.heap.size 190 i0 (.slice none 0 0) 24 k4 hi av aw ax rfl _ _ _ rfl (ae.out.alloc _) ⟨wd.heap.size,0,none⟩ _ rfl iH rfl ?c1 ?c2 ?c3 ?_))
   case c1=>omega
   case c2=>unfold g7;omega
   case c3=>first|omega|(simp;omega)
   intro v' w1 y B _
   have an:m1 (w1.ownsRow w.heap.size 190 1 v' (O++[(L.drop st).take (k+1-st)]).length (vs++[.slice (some ⟨b,off+st*5,none⟩) (k+1-st) (cap-st)])):=by
    show w1.ownsRow _ _ _ _ _ _;rw[cc];exact y
   have ao:m1 (Below w.heap.size w w1):=(al.out.alloc am _).grown B (by simp;omega) (λb hb=>(ae.out.lt b hb).1);have ap:m1 (Zip (o9 w) (vs++[.slice (some ⟨b,off+st*5,none⟩) (k+1-st) (cap-st)]) (O++[(L.drop st).take (k+1-st)])):=HZ.out.append (Zip.one a5.out);clear y B;go_wp2;go_roundw
   case rel=>
    refine⟨k+1,k+1,_,_,by omega,hZ _,by go_num,by go_num,by simp;omega,an.out,ap.out,?_,λi h h2=>by omega,λ_=>rfl,ao.out⟩;rw[af.out,HC.out];simp
   case measure=>simp[intOf];omega
  have ak:k=L.length:=by omega
  have aC:=ab ak
  have HE:m1 (runs d L=O):=by
   show _=_;rw[af.out,aC,ak,List.drop_length];simp[runs]
  clear ab;go_wp2;go_ret;refine⟨_,rfl,?_,HB.out⟩;rw[HE.out];exact⟨vs,jW HO.out (ip _),HZ.out.mono (λu l hu=>hu.below HB.out)⟩
variable {a:Option Addr} {p:Wd}
def VX(f:Nat):Prop:=∀(base:Nat)(v:Value)(l:Wd)(label:ByteArray)(p:Wd)(y:Value)(L:List dp)(w:World),fU w base v l->o9 w y L->base<=w.heap.size->(∀e∈L,tC e/\p <+: dG e)->gK L->L.length<=255->p.length<=24->25<=f+p.length->
  l.length+(dC label.data.toList++gS f p.length L).length<=549755813888->label.size<=1099511627776->
  g8 prog 132 #[v,.string label,.int .i64 p.length,y] w (O' base w v l (dC label.data.toList++gS f p.length L))
def o9.tail{cap:Nat}(h:o9 w (.slice a n cap) L)(k:Nat)(O:k<=L.length):o9 w (.slice (a.map λx=>x.add (k*5)) (L.length-k) (cap-k)) (L.drop k):=by
 obtain⟨U,W,e,Y,h2,y⟩:=h;simp only[m9]at e;refine⟨_,cap-k,by rw[dm],by rw[dm];omega,by omega,λi hi=>?_⟩;obtain⟨b,off,e,B⟩:=y ..;refine⟨b,off+k*5,by simp only[Option.map_some,Addr.add];split<;>simp_all,?_⟩;rw[List.getElem_drop,show off+k*5+i*5=off+(k+i)*5 by omega];exact B
def o9.U1{c k:Nat}(h:o9 w (.slice a n c) L)(y:c=k)(O:k<=L.length):o9 w (.slice a (L.length-k) 0) (L.drop k):=by
 obtain⟨U,W,e,Y,h2,h3⟩:=h;simp only[m9]at e;have B:L.drop k=[]:=fs (by omega);rw[B];exact⟨a,0,by simp;omega,hZ _,ip _,nofun⟩
def Wc{hn:Nat}{C:List dp}(hL:gK L)(hp:∀e∈L,p <+: dG e)(hS:∀e∈L.drop hn,dG e≠p)(hC:C∈runs p.length (L.drop hn)) :
  C≠[]/\gK C/\(∀e∈C,e∈L/\io C <+: dG e)/\p <+: io C/\p.length<(io C).length/\C.length<=L.length:=by
 obtain⟨hs,r1,r2,r3,r4,r5,r6⟩:=Ay p _ (o2 (List.drop_sublist hn L) hL) (λe U=>⟨hp e (ek U),hS e U⟩);rw[r1]at hC;obtain⟨x,W,rfl⟩:=ee.1 hC;have y:=(r3 x W).1;have Y:=Oi _ y (r5 x W)
 have B:p++[x.1] <+: io x.2:=by
  rw[<-Y];refine(o8 y).2 _ (λs hs=>?_);obtain⟨e,U,rfl⟩:=ee.1 hs;exact(r3 x W).2 e U
 have O:x.2.Sublist (L.drop hn):=by
  rw[<-r4];exact List.sublist_flatten_of_mem (ee.2 ⟨x,W,rfl⟩)
 refine⟨y,r5 x W,λe U=>⟨ek (O.subset U),?_⟩,(List.prefix_append ..).trans B,?_,?_⟩;rw[<-Y];exact(o8 y).1 _ (ee.2 ⟨e,U,rfl⟩);have:=B.length_le;simp at this;omega;have h1:=O.length_le;rw[dm]at h1;omega
def Qg{s:Wd}(h:p <+: s)(y:s≠p):p.length<s.length:=by
 have B:=h.length_le;by_cases e:p.length=s.length;exact absurd (h.eq_of_length e).symm y;omega
def P3(d:Nat):∀L:List dp,(runs d L).length<=L.length:=by
 intro L;induction L with
 |nil=>simp[runs]|cons e l y=>
  unfold runs;split;simp
  next h=>rw[h]at y;simp at y⊢;omega
  next h=>
  rw[h]at y;split;simp at y⊢;omega;simp at y⊢;omega
def Hl(f d:Nat)(L:List dp):gS (f+1) d L=eR (fP L)++(u8 (jb L d)::((L.take (jb L d)).flatMap ku++(u8 (runs d (L.drop (jb L d))).length::(runs d (L.drop (jb L d))).flatMap λC=>dC ((io C).drop d)++gS f (io C).length C))):=rfl
def Tl:∀f,VX f:=by
 intro f;induction f with
 |zero=>intro base v l label p vL L w _ _ _ _ _ _ cf cg;omega|succ f ih=>
  intro base v l label p vL L w hO hL aW aX b4 c' cf cg aN b5;obtain⟨i0,hi,b6,b8,b9⟩:=hf Hu;obtain⟨a,c,rfl⟩:=hO.form;obtain⟨aL,cL,rfl,cM,hmL,ci⟩:=id hL;have cj:m1 (VX f):=ih;have ae:m1 (∀e∈L,tC e/\p <+: dG e):=aX;have b':m1 (gK L):=b4;have bA:m1 (o9 w (.slice aL L.length cL) L):=hL;have bB:m1 (fU w base (.slice a l.length c) l):=hO;obtain⟨N,hN⟩:∃N,N=l++(dC label.data.toList++gS (f+1) p.length L):=⟨_,rfl⟩;have HN:m1 (N=l++(dC label.data.toList++gS (f+1) p.length L)):=hN;have cN:N.length<=549755813888:=by rw[hN,cc];exact aN
  have ck:0<=fP L:=nZ L;have cl:fP L<=1000000:=KQ (λe he=>(aX e he).1.2.2.2.2.2.1);have aY:=S5 L p.length;have bD:=jU base _ l label w hO (by have:=congrArg gz hN;simp at this;omega) b5 aW;unfold g7 at hmL;clear ih aX b4 hL hO aN hN ci;go_enter func132,ntmps132;go_wp2_with fail;refine bD.mono ?_;rintro e1 w1 ⟨v1,rfl,ax,ay⟩;obtain⟨L1,aZ⟩:∃L1,L1=l++dC label.data.toList:=⟨_,rfl⟩;have bE:m1 (L1=l++dC label.data.toList):=aZ;rw[<-aZ]at ax;have ah:m1 (o9 w1 (.slice aL L.length cL) L):=bA.out.wrote bB.out ay;have bF:m1 (eN w w1 (.slice a l.length c) v1):=ay;obtain⟨a1,c1,rfl⟩:=ax.form;have bG:m1 (fU w1 base (.slice a1 L1.length c1) L1):=ax;have cA:=ay.1.size;have hG:=Dh _ L w1 ah.out;clear bD ax ay aZ bA bB;go_wp2_with fail;refine hG.mono ?_;rintro e2 w2 ⟨rfl,ai⟩;have ba:m1 (fU w2 base (.slice a1 L1.length c1) L1):=bG.out.below ai;have aO:m1 (o9 w2 (.slice aL L.length cL) L):=ah.out.below ai;have bH:m1 (eN w w2 (.slice a l.length c) (.slice a1 L1.length c1)):=bF.out.trans (eN.below ai _);have cB:=ai.size;have cO:L1.length<=N.length:=by rw[HN.out,bE.out];simp
  have bI:=pD base _ L1 (fP L) w2 ba.out (by omega) ck cl (by omega);clear hG ai bG ah bF;go_wp2_with fail;refine bI.mono ?_;rintro e3 w3 ⟨v3,rfl,az,a'⟩;obtain⟨L3,bc⟩:∃L3,L3=L1++eR (fP L):=⟨_,rfl⟩;have cm:m1 (L3=L1++eR (fP L)):=bc;rw[<-bc]at az;have aj:m1 (o9 w3 (.slice aL L.length cL) L):=aO.out.wrote ba.out a';have bJ:m1 (eN w w3 (.slice a l.length c) v3):=bH.out.trans a';obtain⟨a3,c3,rfl⟩:=az.form;have bK:m1 (fU w3 base (.slice a3 L3.length c3) L3):=az;have cD:=a'.1.size;have hC:=xF _ L p.length w3 aj.out;clear bI az a' bc ba aO bH;go_wp2_with fail;refine hC.mono ?_;rintro e4 w4 ⟨rfl,ak⟩;have bd:m1 (fU w4 base (.slice a3 L3.length c3) L3):=bK.out.below ak;have aP:m1 (o9 w4 (.slice aL L.length cL) L):=aj.out.below ak;have bL:m1 (eN w w4 (.slice a l.length c) (.slice a3 L3.length c3)):=bJ.out.trans (eN.below ak _);have cE:=ak.size;obtain⟨U,aA⟩:∃U,jb L p.length=U:=⟨_,rfl⟩;have HH:m1 (jb L p.length=U):=aA;rw[aA]at aY⊢;obtain⟨Cs,be⟩:∃Cs,Cs=runs p.length (L.drop U):=⟨_,rfl⟩;have bf:m1 (Cs=runs p.length (L.drop U)):=be
  have bM:m1 (N=L3++[u8 U]++((L.take U).flatMap ku++(u8 Cs.length::Cs.flatMap λC=>dC ((io C).drop p.length)++gS f (io C).length C))):=by
   show _=_;rw[HN.out,cm.out,bE.out,Hl,be,aA];simp
  clear be;have cP:L3.length+1<=N.length:=by rw[bM.out];simp
  clear hC ak bK aj bJ aA
  go_wp2_with (first
   |(at_builtin;refine fM _ rfl _ _ 60 rfl base 5 i0 (.int .u8 0) 1 jt hi b6 b8 b9 rfl _ _ _ rfl (bd.out.alloc _) _ [.int .u8 (U:Int)] rfl (Rd.one iH) (by simp[nr]) ?c1 ?c2 ?c3 ?_))
  case c1=>simp;omega
  case c2=>unfold g7;simp;omega
  case c3=>simp;omega
  intro v5 w5 al bg bh;obtain⟨L5,aB⟩:∃L5,L5=L3++[u8 U]:=⟨_,rfl⟩;have cQ:m1 (L5=L3++[u8 U]):=aB
  have bi:m1 (N=L5++((L.take U).flatMap ku++(u8 Cs.length::Cs.flatMap λC=>dC ((io C).drop p.length)++gS f (io C).length C))):=by
   show _=_;rw[bM.out,<-aB]
  have HO5:m1 (fU w5 base v5 L5):=by
   show fU _ _ _ _;unfold fU;rw[aB,iu,iX,cc,show(U:Int) % 256=U by omega];exact al
  have HW5:m1 (eN w w5 (.slice a l.length c) v5):=bL.out.trans (eN.of bg bh);have HLv5:m1 (o9 w5 (.slice aL L.length cL) L):=aP.out.wrote bd.out (eN.of bg bh);obtain⟨a5,c5,rfl⟩:=HO5.out.form;have cF:=HW5.out.1.size;clear al bg bh aB bd aP bL;go_wp2_with fail;go_loopw [0,35] (λu i wr=>∃k:Nat,k<=U/\i=.int .i64 k/\fU wr base u (L5++(L.take k).flatMap ku)/\eN w wr (.slice a l.length c) u/\o9 wr (.slice aL L.length cL) L) (λ_ i _=>U-(intOf i).toNat)
  case atStart=>exact⟨0,ip _,rfl,by simpa using HO5.out,HW5.out,HLv5.out⟩
  case round=>
   obtain⟨k,hk,rfl,aD,bj,aQ⟩:=hrel;obtain⟨W,bk⟩:∃W,W=L5++(L.take k).flatMap ku:=⟨_,rfl⟩;have aE:m1 (W=L5++(L.take k).flatMap ku):=bk;rw[<-bk]at aD;obtain⟨a6,c6,rfl⟩:=aD.form;have bl:m1 (fU wr base (.slice a6 W.length c6) W):=aD;have bm:m1 (eN w wr (.slice a l.length c) (.slice a6 W.length c6)):=bj;have ab:m1 (o9 wr (.slice aL L.length cL) L):=aQ;have cG:=bj.1.size;clear aD bj aQ bk HO5 HW5 HLv5;by_cases aF:k<U
   .obtain⟨_,_,e',_,_,hr⟩:=ab.out;simp only[m9,true_and]at e';obtain⟨rfl,rfl⟩:=e';obtain⟨b,off,rfl,Y⟩:=hr k (by omega);have q0:=Y.path;have q1:=Y.name;have q2:=Y.text;have q3:=Y.du;have q4:=Y.dE;clear Y hr;obtain⟨wa,bn⟩:∃wa,wr.alloc (.cells #[.string ⟨(dG L[k]).toArray⟩,.string ⟨L[k].name.toArray⟩,.string ⟨L[k].text.toArray⟩,.int .i64 L[k].du,.int .i64 L[k].dE] 237)=wa:=⟨_,rfl⟩;have am:Below wr.heap.size wr wa:=by rw[<-bn];exact(m3 _ _).alloc (hZ _) _
    have cn:m1 (wr.alloc (.cells #[.string ⟨(dG L[k]).toArray⟩,.string ⟨L[k].name.toArray⟩,.string ⟨L[k].text.toArray⟩,.int .i64 L[k].du,.int .i64 L[k].dE] 237)=wa):=bn;have bN:m1 (fU wa base (.slice a6 W.length c6) W):=bl.out.below am;have cq:m1 (eN w wa (.slice a l.length c) (.slice a6 W.length c6)):=bm.out.trans (eN.below am _);have bO:m1 (o9 wa (.slice (some ⟨b,off,none⟩) L.length cL) L):=ab.out.below am;have cR:=am.size;have HT:m1 (L.take (k+1)=L.take k++[L[k]]):=di (by omega)
    have cr:W.length<=N.length:=by
     have e:L.take U=L.take k++(L.take U).drop k:=by
      conv=>lhs;rw[<-f' k (L.take U)]
      rw[List.take_take,iv hk]
     rw[bi.out,aE.out,e];simp
    have hA:=xz base _ W L[k] wa bN.out (by omega) (ae.out _ (ch _)).1 (by omega);unfold AN at hA;clear am bn;go_wp2_with fail;rw[cn.out];refine hA.mono ?_;rintro e7 w7 ⟨v7,rfl,bP,bo⟩;have an:m1 (fU w7 base v7 (W++ku L[k])):=bP;have aG:m1 (eN w w7 (.slice a l.length c) v7):=cq.out.trans bo;have bQ:m1 (o9 w7 (.slice (some ⟨b,off,none⟩) L.length cL) L):=bO.out.wrote bN.out bo;clear hA bP bo q0 q1 q2 q3 q4;go_wp2;go_roundw
    case rel=>
     refine⟨k+1,by omega,by go_num,?_,aG.out,bQ.out⟩;have e:L5++(L.take (k+1)).flatMap ku=W++ku L[k]:=by rw[HT.out,aE.out,eq,dr];simp only[ej,ex,ef]
     rw[e];exact an.out
    case measure=>simp[intOf];omega
   have ct:k=U:=by omega
   subst ct
   have HS:m1 (∀e∈L.drop k,dG e≠p):=by
    have:=(yA b'.out (λe he=>(ae.out e he).2)).2;rw[HH.out]at this;exact this
   have ao:m1 (∀e∈L,(dG e).length<=24):=λe he=>(oy (ae.out e he).1).1;have bR:m1 (∀(aT:Option Addr)(cT:Nat),o9 wr (.slice aT (L.length-k) cT) (L.drop k)->g8 prog 182 #[.slice aT (L.length-k) cT,.int .i64 p.length] wr λe w'=>∃v',e=.returned v'/\lQ w' v' (runs p.length (L.drop k))/\Below wr.heap.size wr w'):=λaT cT h=>LA _ (L.drop k) p.length wr h (λe he=>Qg (ae.out e (ek he)).2 (HS.out e he)) (λe he=>ao.out e (ek he)) (by rw[dm];omega);go_wp2_with fail
   all_goals(
    refine(bR.out _ _ (by first|exact ab.out.tail k aY|exact ab.out.U1 (by omega) aY)).mono ?_;rintro e7 w7 ⟨v7,rfl,aH,aI⟩;rw[<-bf.out]at aH;obtain⟨vs,ap,ac⟩:=id aH;obtain⟨a7,c7,rfl,cS⟩:=dN ap;have bS:m1 (lQ w7 (.slice a7 Cs.length c7) Cs):=aH;have an:m1 (fU w7 base (.slice a6 W.length c6) W):=bl.out.below aI;have aG:m1 (eN w w7 (.slice a l.length c) (.slice a6 W.length c6)):=bm.out.trans (eN.below aI _);have cH:=aI.size
    have cU:Cs.length<=255:=by
     rw[bf.out];have:=P3 p.length (L.drop k);rw[dm]at this;omega
    have cr:W.length+1<=N.length:=by
     rw[bi.out,aE.out];simp;omega
    clear bR aH ap ac aI bl bm ab
    go_wp2_with (first
     |(at_builtin;refine fM _ rfl _ _ 60 rfl base 5 i0 (.int .u8 0) 1 jt hi b6 b8 b9 rfl _ _ _ rfl (an.out.alloc _) _ [.int .u8 (Cs.length:Int)] rfl (Rd.one iH) (by simp[nr]) ?c1 ?c2 ?c3 ?_))
    case c1=>simp;omega
    case c2=>unfold g7;simp;omega
    case c3=>simp;omega
    intro v8 w8 aq bp bq;obtain⟨L8,aJ⟩:∃L8,L8=W++[u8 Cs.length]:=⟨_,rfl⟩;have cV:m1 (L8=W++[u8 Cs.length]):=aJ
    have bT:m1 (N=L8++Cs.flatMap λC=>dC ((io C).drop p.length)++gS f (io C).length C):=by
     show _=_;rw[bi.out,aJ,aE.out];simp
    have HO8:m1 (fU w8 base v8 L8):=by
     show fU _ _ _ _;unfold fU;rw[aJ,iu,iX,cc,show(Cs.length:Int) % 256=Cs.length by omega];exact aq
    have HW8:m1 (eN w w8 (.slice a l.length c) v8):=aG.out.trans (eN.of bp bq);have HP8:m1 (lQ w8 (.slice a7 Cs.length c7) Cs):=bS.out.wrote an.out (eN.of bp bq);obtain⟨a8,c8,rfl⟩:=HO8.out.form;have cI:=HW8.out.1.size;clear aq bp bq aJ an bS aG;go_wp2_with fail;go_loopw [0,57] (λu i wx=>∃k:Nat,k<=Cs.length/\i=.int .i64 k/\fU wx base u (L8++(Cs.take k).flatMap λC=>dC ((io C).drop p.length)++gS f (io C).length C)/\eN w wx (.slice a l.length c) u/\lQ wx (.slice a7 Cs.length c7) Cs) (λ_ i _=>Cs.length-(intOf i).toNat)
    case atStart=>exact⟨0,ip _,rfl,by simpa using HO8.out,HW8.out,HP8.out⟩
    case round=>
     obtain⟨j,hj,rfl,aK,br,bU⟩:=hrel;obtain⟨L9,bs⟩:∃L9,L9=L8++(Cs.take j).flatMap λC=>dC ((io C).drop p.length)++gS f (io C).length C:=⟨_,rfl⟩;have bt:m1 (L9=L8++(Cs.take j).flatMap λC=>dC ((io C).drop p.length)++gS f (io C).length C):=bs;rw[<-bs]at aK;obtain⟨a9,c9,rfl⟩:=aK.form;have bu:m1 (fU wr base (.slice a9 L9.length c9) L9):=aK;have bv:m1 (eN w wr (.slice a l.length c) (.slice a9 L9.length c9)):=br;have bw:m1 (lQ wr (.slice a7 Cs.length c7) Cs):=bU;have cJ:=br.1.size;clear aK br bU bs HO8 HW8 HP8;by_cases aF:j<Cs.length
     .obtain⟨vs,ap,ac⟩:=id bw.out;have bx:j<vs.length:=by rw[ac.1];exact aF
      obtain⟨b7,o7,rfl,ar⟩:=jy ap j vs[j] (dg bx)
      have bz:m1 (o9 wr vs[j] Cs[j]):=by
       obtain⟨u,bV,cu⟩:=ac.2 j aF;rw[dg bx]at bV;cases bV;exact cu
      have HT:m1 (Cs.take (j+1)=Cs.take j++[Cs[j]]):=di aF;obtain⟨b0,aR,B,aS,cK,cW⟩:=Wc (C:=Cs[j]) b'.out (λe he=>(ae.out e he).2) HS.out (by rw[<-bf.out];exact ch _)
      have cX:L9.length+(dC ((io Cs[j]).drop p.length)++gS f (io Cs[j]).length Cs[j]).length<=N.length:=by
       have e:Cs=Cs.take (j+1)++Cs.drop (j+1):=(f' _ _).symm;rw[HT.out]at e;rw[bT.out,bt.out];conv=>rhs;rw[e]
       simp only[eq,ej,ex,cc,ef];omega
      obtain⟨aC,cC,eC,cY,cZ,bW⟩:=id bz.out;have au:m1 (o9 wr (.slice aC Cs[j].length cC) Cs[j]):=by have h:=bz.out;rw[eC]at h;exact h
      rw[eC]at ar;have y:=yn b0;obtain⟨bC,oC,rfl,Y⟩:=bW 0 y;have q0:=Y.path;rw[i8,i7]at q0;clear Y bW bz ac ap eC bx;have aM:(io Cs[j]).length<=24:=iz (B _ (ch y)).2.length_le (oy (ae.out _ (B _ (ch y)).1).1).1;have af:m1 (∀e∈Cs[j],e∈L/\io Cs[j] <+: dG e):=B;have da:(io Cs[j]).length<=(dG Cs[j][0]).length:=(B _ (ch y)).2.length_le;have cv:(dG Cs[j][0]).length<=24:=ao.out _ (B _ (ch y)).1;have cw:m1 (gK Cs[j]):=aR;have db:m1 (p <+: io Cs[j]):=aS;have bX:=IK _ Cs[j] wr au.out b0 (λe he=>ao.out e (B e he).1);have dc:(⟨(dG Cs[j][0]).toArray⟩:ByteArray).size=(dG Cs[j][0]).length:=by show(dG Cs[j][0]).toArray.size=_;simp
      clear B aR aS b0;go_wp2_with fail;refine bX.mono ?_;rintro de av ⟨rfl,O⟩;have cy:=g6 O q0;have aU:m1 (fU av base (.slice a9 L9.length c9) L9):=bu.out.below O;have b1:m1 (o9 av (.slice (some ⟨bC,oC,none⟩) Cs[j].length cC) Cs[j]):=au.out.below O;have bY:m1 (lQ av (.slice (some ⟨b7,o7,none⟩) Cs.length c7) Cs):=bw.out.below O;have bZ:m1 (eN w av (.slice a l.length c) (.slice a9 L9.length c9)):=bv.out.trans (eN.below O _);have cz:=O.size;clear bX O bu au bw bv q0 ar;obtain⟨ad,ag⟩:∃ad,(⟨(dG Cs[j][0]).toArray⟩:ByteArray).extract p.length (io Cs[j]).length=ad:=⟨_,rfl⟩
      have aa:ad.data.toList=(io Cs[j]).drop p.length:=by
       have h:=(af.out _ (ch y)).2;rw[<-ag,show(io Cs[j]).length=p.length+((io Cs[j]).length-p.length) by omega,Lj];show(((dG Cs[j][0]).drop p.length).take _)=_;rw[<-List.drop_take,<-List.prefix_iff_eq_take.1 h]
      have ca:m1 ((⟨(dG Cs[j][0]).toArray⟩:ByteArray).extract p.length (io Cs[j]).length=ad):=ag
      have b2:ad.size<=1099511627776:=by
       have:ad.size=ad.data.toList.length:=by simp
       rw[this,aa];simp;omega
      have hR:=cj.out base _ L9 ad (io Cs[j]) _ Cs[j] av aU.out b1.out (by omega) (λe he=>⟨(ae.out e (af.out e he).1).1,(af.out e he).2⟩) cw.out (by omega) aM (by omega) (by rw[aa];omega) b2;rw[aa]at hR;clear ag aa;go_wp2_with fail;rw[ca.out];refine hR.mono ?_;rintro df b3 ⟨v11,rfl,aV,aw⟩;have cb:m1 (fU b3 base v11 (L9++(dC ((io Cs[j]).drop p.length)++gS f (io Cs[j]).length Cs[j]))):=aV;have cd:m1 (eN w b3 (.slice a l.length c) v11):=bZ.out.trans aw;have ce:m1 (lQ b3 (.slice (some ⟨b7,o7,none⟩) Cs.length c7) Cs):=bY.out.wrote aU.out aw;clear hR aV aw cy;go_wp2;go_roundw
      case rel=>
       refine⟨j+1,by omega,by go_num,?_,cd.out,ce.out⟩
       have e:(L8++(Cs.take (j+1)).flatMap λC=>dC ((io C).drop p.length)++gS f (io C).length C)=L9++(dC ((io Cs[j]).drop p.length)++gS f (io Cs[j]).length Cs[j]):=by
        rw[HT.out,bt.out,eq,dr];simp only[ej,ex,ef]
       rw[e];exact cb.out
      case measure=>simp[intOf];omega
     have HE:m1 (L9=l++(dC label.data.toList++gS (f+1) p.length L)):=by
      show _=_;rw[<-HN.out,bT.out,bt.out,ey (by omega)]
     go_wp2;go_ret;refine⟨_,rfl,?_,bv.out⟩;rw[<-HE.out]
     exact bu.out)
def eT(es:List dp):List Wd:=(es.filter λe=>e.gone).map dp.name
def Kl(l:List dp)(e:dp):eT (l++[e])=eT l++(if e.gone then [e.name]else []):=by
 unfold eT;cases h:e.gone<;>simp[h]
def Qj(l:List dp):(eT l).length<=l.length:=by unfold eT;rw[dd];exact List.length_filter_le ..
def qJ{l m:List dp}(h:l.Perm m):(eT l).Perm (eT m):=(h.filter _).map _
def E3{B es:List dp}(O:(es.map dp.name).Nodup)(h:B.Perm es):(eT B).mergeSort (λx y=>decide (x<=y))=eT (eW es):=by
 have Y:((eT B).mergeSort (λx y=>decide (x<=y))).Perm _:=(List.mergeSort_perm ..).trans (qJ (h.trans (fL es).symm));refine o5 (le:=λa b=>a<=b) (λa b _ _ U W=>List.le_antisymm U W) ?_ ?_ Y
 have:=List.pairwise_mergeSort (le:=λx y=>decide (x<=y)) (by
  intro a b c U W;simp only[decide_eq_true_eq]at *
  exact List.le_trans U W) (by
  intro a b;simp only[Bool.or_eq_true,decide_eq_true_eq]
  exact List.le_total a b) (eT B)
 exact this.imp (λh=>by simpa using h);unfold eT;rw[ge];refine o3 ?_ (o2 fa (ni es O));intro a b hab;unfold Cc at hab;rw[bytesLess_eq,decide_eq_true_eq]at hab;exact List.le_of_lt hab
def LM(base:Nat)(a:Option Addr)(c:Nat)(G:List Wd)(w:World)(U:w.ownsRow base 9 1 (.slice a G.length c) G.length (dl G))(hl:G.length<=1099511627776) :
  g8 prog 162 #[.slice a G.length c] w λe w'=>e=.returned (.tuple #[])/\w'.ownsRow base 9 1 (.slice a G.length c) G.length (dl (G.mergeSort λx y=>decide (x<=y)))/\Below base w w':=by
 rcases U.2 with⟨Y,hn⟩|⟨g,cap,aa,Y,W,hb,h1,h2,h3,h4⟩
 have hG:=ev.1 (by simpa using hn);subst hG;have B:=Any.slices_Sort_string_none yf a c w;refine B.mono ?_;rintro e w' ⟨rfl,rfl⟩;exact⟨rfl,by simpa using U,m3 ..⟩;obtain⟨rfl,_,rfl⟩:=Y;have B:=Any.slices_Sort_string yf g 0 c G w (holds_of_block hb (by simpa[dl]using h4)) (m6.1 hb).1 (by omega);refine B.mono ?_;rintro e w' ⟨rfl,n,os,rfl⟩;refine⟨rfl,?_,?_⟩;exact ownsRow_sorted (by simp) W hb h1 h2 h3;have O:=grownBy_sorted (w:=w) (g:=g) (n:=n) (os:=os) (G.mergeSort λx y=>decide (x<=y)).toArray;exact⟨O.os,O.tape,O.output,O.size,λk hk=>O.block k (ie hk (by have:=(m6.1 hb).1;omega)) (by intro e;cases e;omega)⟩
def wW{w:World}{v:Value}{t:g9}{g:Nat}(y:g=w.heap.size):(w.alloc (.cells #[v] t)).cell? ⟨g,0,none⟩=some v:=by subst y;exact iH
def MH:∀S:List Wd,(∀x∈S,x.length<=255)->(S.flatMap dC).length<=S.length*256:=by
 intro S;induction S with
 |nil=>simp|cons x S B=>
  intro h;have U:=B (λy O=>h y (List.mem_cons_of_mem _ O));have W:=h x (gc ..);rw[ej,cc,gl];have:(dC x).length=x.length+1:=by simp[dC]
  omega
def eN.low{w0 w w':World}{v:Value}{base:Nat}{l:Wd}(h:eN w w' v v')(hb:Below w0.heap.size w0 w)(y:fU w base v l)(O:w0.heap.size<=base):Below w0.heap.size w0 w':=by
 refine hb.trans ⟨h.1.os,h.1.tape,h.1.output,h.1.size,λk B=>h.1.block k (ie B hb.size) (λe=>?_)⟩;have:=(y.lt k e).1;omega
def qS(es:List dp):Wd:=u8 (eT (eW es)).length::(eT (eW es)).flatMap dC
def Ab(B:Nat)(es:List dp)(w:World)(hs:eE w B es)(hl:es.length<1099511627776)(hg:jp es<=255)(a5:∀e∈es,e.gone=true->e.name.length<=255) :
  g8 prog 131 #[.slice none 0 0,.map (some B)] w λen w'=>∃v,en=.returned v/\fU w' w.heap.size v (qS es)/\Below w.heap.size w w':=by
 obtain⟨i0,hi,aM,aN,aO⟩:=hf Hu;obtain⟨i9,aP,aQ,aR,aS⟩:=hf uK;have a6:=hs.nodup;have HS:m1 (eE w B es):=hs;have aT:m1 ((es.map dp.name).Nodup):=a6;have aU:m1 (∀e∈es,e.gone=true->e.name.length<=255):=a5;have bi:=dM.lt hs;clear hs a6 a5;go_enter func131,ntmps131;go_wp2_with (first|(at_range;refine kH _ rfl _ rfl rfl HS.out ?_;intro w1 hrg0 hg0 bj));go_frame;go_loopw [5] (λg wr=>∃(y Y:List dp),(y++Y).Perm es/\my wr B w.heap.size es Y/\wr.ownsRow (w.heap.size+1) 9 1 g (eT y).length (dl (eT y))/\Below w.heap.size w wr/\w.heap.size+1<=wr.heap.size) (λ_ wr=>wr.rangeLeft B w.heap.size)
 case atStart=>exact⟨[],es,o4 _,hrg0,m' _ _ _ _,(m3 _ _).grown hg0 (hZ _) (λk hk=>by cases hk),by omega⟩
 case round=>
  obtain⟨y,Y,eL,hr,ac,hb,hz⟩:=hrel;have HP:m1 ((y++Y).Perm es):=eL;have HR:m1 (my wr B w.heap.size es Y):=hr;obtain⟨ag,cg,rfl,aV⟩:=dN ac;have HO:m1 (wr.ownsRow (w.heap.size+1) 9 1 (.slice ag (eT y).length cg) (eT y).length (dl (eT y))):=ac;have HB:m1 (Below w.heap.size w wr):=hb
  have aW:(eT y).length<=es.length:=by
   have h1:=Qj y;have h2:=eL.length_eq;rw[cc]at h2;omega
  clear eL hr hb ac;go_wp2_with (first|(at_next;refine lM _ rfl _ rfl w.heap.size Y rfl HR.out ?_ ?_))
  .intro h0
   have hE:y.Perm es:=by
    have:=HP.out;rw[h0,ef]at this;exact this
   obtain⟨S,hS⟩:∃S,S=eT (eW es):=⟨_,rfl⟩;have ao:=LM (w.heap.size+1) ag cg (eT y) wr HO.out (by omega);rw[E3 aT.out hE,<-hS]at ao;have ap:m1 (S.length=(eT y).length):=by show _=_;rw[hS];exact(qJ (hE.trans (fL es).symm)).length_eq.symm
   have bk:S.length<=255:=by
    rw[hS];have h1:=(qJ (fL es)).length_eq;have h2:(eT es).length=jp es:=by simp[eT,jp]
    omega
   have a7:m1 (∀x∈S,x.length<=255):=by
    intro x hx;rw[hS]at hx;have hx2:=(qJ (fL es)).mem_iff.1 hx;unfold eT at hx2;obtain⟨e,he,rfl⟩:=ee.1 hx2;rw[fd]at he;exact aU.out e he.1 (by simpa using he.2)
   have aX:m1 (S=eT (eW es)):=hS;clear h0 hE hS;go_wp2_with fail;refine ao.mono ?_;rintro e2 w2 ⟨rfl,aq,ar⟩;have a8:=ar.size;have ae:m1 (Below w.heap.size w w2):=HB.out.trans (ar.mono (by omega));have aY:(eT y).length<=255:=by have:=ap.out;omega
   rw[<-ap.out]at aq⊢;have ad:m1 (w2.ownsRow (w.heap.size+1) 9 1 (.slice ag S.length cg) S.length (dl S)):=aq;have a9:m1 (w2.ownsRow w.heap.size 5 1 (.slice none 0 0) 0 []):=m' _ _ _ _;clear ao aq ar HO HR aY aW;clear aV ap
   go_wp2_with (first
    |(at_builtin;refine fM _ rfl _ _ 60 rfl w.heap.size 5 i0 (.int .u8 0) 1 jt hi aM aN aO rfl _ _ _ rfl (a9.out.alloc _) _ [.int .u8 (S.length:Int)] rfl (Rd.one iH) (by simp[nr]) ?c1 ?c2 ?c3 ?_))
   case c1=>simp
   case c2=>unfold g7;simp
   case c3=>simp;omega
   intro v3 w3 O U a'
   have HO3:m1 (fU w3 w.heap.size v3 [u8 S.length]):=by
    show fU _ _ _ _;unfold fU;rw[iX,show(S.length:Int) % 256=S.length by omega];simpa using O
   have ab:eN w2 w3 (.slice none 0 0) v3:=eN.of U a';have af:Below w2.heap.size w2 w3:=⟨ab.1.os,ab.1.tape,ab.1.output,ab.1.size,λk hk=>ab.1.block k hk (by simp[nv])⟩;have HB3:m1 (Below w.heap.size w w3):=ae.out.trans (af.mono (by omega));have HG3:m1 (w3.ownsRow (w.heap.size+1) 9 1 (.slice ag S.length cg) S.length (dl S)):=eH ad.out (λk hk=>af.block k (ad.out.lt k hk).2);obtain⟨a3,c3,rfl⟩:=HO3.out.form;have bl:=af.size;clear O U a' ab af a9 ad ae
   have aZ:m1 (∀k,k<=S.length->(u8 S.length::(S.take k).flatMap dC).length<=65536):=by
    intro k hk;have h1:=MH (S.take k) (λx hx=>a7.out x (List.mem_of_mem_take hx));rw[cp,iv hk]at h1;rw[gl];omega
   go_wp2_with fail;go_loopw [0,33] (λu i wx=>∃k:Nat,k<=S.length/\i=.int .i64 k/\fU wx w.heap.size u (u8 S.length::(S.take k).flatMap dC)/\wx.ownsRow (w.heap.size+1) 9 1 (.slice ag S.length cg) S.length (dl S)/\Below w.heap.size w wx) (λ_ i _=>S.length-(intOf i).toNat)
   case atStart=>exact⟨0,ip _,rfl,by simpa using HO3.out,HG3.out,HB3.out⟩
   case round=>
    obtain⟨k,hk,rfl,ah,aA,au⟩:=hrel;obtain⟨L4,ai⟩:∃L4,L4=u8 S.length::(S.take k).flatMap dC:=⟨_,rfl⟩;have aB:m1 (L4=u8 S.length::(S.take k).flatMap dC):=ai;have bm:L4.length<=65536:=by rw[ai];exact aZ.out k hk
    rw[<-ai]at ah;obtain⟨a4,c4,rfl⟩:=ah.form;have aj:m1 (fU wr w.heap.size (.slice a4 L4.length c4) L4):=ah;have ak:m1 (wr.ownsRow (w.heap.size+1) 9 1 (.slice ag S.length cg) S.length (dl S)):=aA;have aC:m1 (Below w.heap.size w wr):=au;have ba:=au.size;clear ah aA au ai HO3 HG3 HB3;by_cases av:k<S.length
    .obtain⟨bg,og,rfl,aw⟩:=jy ak.out k _ (gV S k av);have hx:=a7.out _ (ch av);have HT:m1 (S.take (k+1)=S.take k++[S[k]]):=di av;have hA:=jU w.heap.size _ L4 ⟨S[k].toArray⟩ wr aj.out (by omega) (by show S[k].toArray.size<=_;simp;omega) ba;go_wp2_with fail;refine hA.mono ?_;rintro e5 w5 ⟨v5,rfl,aD,ax⟩;have bc:m1 (fU w5 w.heap.size v5 (L4++dC S[k])):=aD;have bd:m1 (Below w.heap.size w w5):=ax.low aC.out aj.out (hZ _);have be:m1 (w5.ownsRow (w.heap.size+1) 9 1 (.slice (some ⟨bg,og,none⟩) S.length cg) S.length (dl S)):=eH ak.out (λj hj=>ax.1.block j (ak.out.lt j hj).2 (λe=>uD ak.out aj.out (by decide) j hj e));clear hA aD ax aw;go_wp2;go_roundw
     case rel=>
      refine⟨_,_,_,_,_,_,_,_,_,_,⟨k+1,by omega,by go_num,?_,be.out,bd.out⟩,rfl⟩
      have e:(u8 S.length::(S.take (k+1)).flatMap dC)=L4++dC S[k]:=by
       rw[HT.out,aB.out,eq,List.cons_append];simp only[ej,ex,ef]
      rw[e];exact bc.out
     case measure=>simp[intOf];omega
    have HE:m1 (L4=qS es):=by
     show _=_;unfold qS;rw[aB.out,ey (by omega),aX.out]
    go_wp2;go_ret;refine⟨_,rfl,?_,aC.out⟩;rw[<-HE.out];exact aj.out
  intro e W w2 aE al an ay bf bn;have aF:=eF.lt al;have aG:=dM.lt (eF.owns al);have aH:m1 (Below w.heap.size w w2):=mz HB.out ay (hZ _);have aI:m1 (my w2 B w.heap.size es W):=al;have aJ:m1 (w2.rangeLeft B w.heap.size<wr.rangeLeft B w.heap.size):=an;have aK:m1 (Y.Perm (e::W)):=aE;have aa:m1 (w2.ownsRow (w.heap.size+1) 9 1 (.slice ag (eT y).length cg) (eT y).length (dl (eT y))):=eH HO.out (λk hk=>ay.block k (HO.out.lt k hk).2 (by have:=(HO.out.lt k hk).1;intro e;cases e;omega));have am:=Kl y e;have a8:w.heap.size+1<=w2.heap.size:=by omega
  clear aE al an ay bf;obtain⟨nm,gn,tx,wt,tg⟩:=e
  cases gn with
  |false=>
   have az:m1 (eT (y++[⟨nm,false,tx,wt,tg⟩])=eT y):=by show _=_;rw[am];simp
   clear am;go_wp2;go_roundw
   case rel=>
    exact⟨y++[⟨nm,false,tx,wt,tg⟩],W,ju HP.out aK.out,aI.out.alloc _,by rw[az.out];exact aa.out.alloc _,aH.out.alloc (by omega) _,by simp;omega⟩
   case measure=>
    rw[jf aG aF];exact aJ.out
  |true=>
   have az:m1 (eT (y++[⟨nm,true,tx,wt,tg⟩])=eT y++[nm]):=by show _=_;rw[am];simp
   clear am
   go_wp2_with (first
     |(at_builtin;refine fD _ rfl _ _ 31 rfl (w.heap.size+1) 9 i9 (.string ⟨#[]⟩) 16 jv aP aQ aR aS rfl _ _ _ rfl ((aa.out.alloc _).alloc _) ⟨w2.heap.size+1,0,none⟩ _ rfl (wW (by simp)) rfl ?c1 ?c2 ?c3 ?_))
   case c1=>omega
   case c2=>unfold g7;omega
   case c3=>first|omega|(simp;omega)
   intro v3 w3 O U _;have aL:Below w.heap.size w w3:=((aH.out.alloc (by omega) _).alloc (by simp;omega) _).grown U (by simp;omega) (λb hb=>by have:=(aa.out.lt b hb).1;omega);have ae:m1 (Below w.heap.size w w3):=aL;have bo:w2.heap.size<=w3.heap.size:=by have:=U.size;simp at this;omega
   have bh:m1 (my w3 B w.heap.size es W):=eF.kept ((aI.out.alloc _).alloc _) U (λe=>by have:=(aa.out.lt B e.symm).1;omega) (λe=>by have:=(aa.out.lt _ e.symm).1;omega)
   have ad:m1 (w3.ownsRow (w.heap.size+1) 9 1 v3 (eT (y++[⟨nm,true,tx,wt,tg⟩])).length (dl (eT (y++[⟨nm,true,tx,wt,tg⟩])))):=by
    show w3.ownsRow _ _ _ _ _ _;rw[az.out,nf];rw[cc];exact O
   have HL2:m1 (w3.rangeLeft B w.heap.size<wr.rangeLeft B w.heap.size):=by
    show _<_;rw[eF.jT (U.block B (by simp;omega) (λe=>by have:=(aa.out.lt B e.symm).1;omega)) (U.block w.heap.size (by simp;omega) (λe=>by have:=(aa.out.lt _ e.symm).1;omega)),jf (by simp;omega) (by simp;omega),jf aG aF];exact aJ.out
   clear O U aL;go_wp2;go_roundw
   case rel=>
    exact⟨y++[⟨nm,true,tx,wt,tg⟩],W,ju HP.out aK.out,bh.out,ad.out,ae.out,by omega⟩
   case measure=>exact HL2.out
open Go.Sort
def sR(x y:Wd):Int:=if n7 x y=true then -1 else if n7 y x=true then 1 else 0
def Cm(x:ByteArray)(w:World):g8 prog 175 #[.string x] w λe w'=>e=.returned (.bool false)/\w=w':=by
 go_wp2;go_ret;exact⟨rfl,rfl⟩
def qi(x y:Wd)(w:World):g8 prog 128 #[.string ⟨x.toArray⟩,.string ⟨y.toArray⟩] w λe w'=>e=.returned (.int .i64 (sR x y))/\w=w':=by
 have W:=Cm ⟨x.toArray⟩ w;have Y:=Cm ⟨y.toArray⟩ w;unfold sR;by_cases U:n7 x y=true
 .rw[if_pos U];go_enter mi,ko;go_wp2_with fail;refine W.mono ?_;rintro e w' ⟨rfl,rfl⟩;go_wp2_with fail;refine Y.mono ?_;rintro e w' ⟨rfl,rfl⟩;go_wp2;go_ret;exact⟨rfl,rfl⟩
 rw[if_neg U];have B:n7 x y=false:=by simpa using U
 clear U;by_cases O:n7 y x=true
 .rw[if_pos O];have aa:(x==y)=false:=beq_eq_false_iff_ne.2 (λe=>by subst e;rw[B]at O;cases O);clear O;go_enter mi,ko;go_wp2_with fail;refine W.mono ?_;rintro e w' ⟨rfl,rfl⟩;go_wp2_with fail;refine Y.mono ?_;rintro e w' ⟨rfl,rfl⟩;go_wp2;go_ret;exact⟨rfl,rfl⟩
 obtain rfl:x=y:=by
  rcases iD x y with h|h|h
  rw[B]at h;cases h;exact h;exact absurd h O
 go_enter mi,ko;go_wp2_with fail;refine W.mono ?_;rintro e w' ⟨rfl,rfl⟩;go_wp2_with fail;refine Y.mono ?_;rintro e w' ⟨rfl,rfl⟩;go_wp2;go_ret;exact⟨rfl,rfl⟩
def kV(e:dp):List Value:=[.string ⟨(dG e).toArray⟩,.string ⟨e.name.toArray⟩,.string ⟨e.text.toArray⟩,.int .i64 e.du,.int .i64 e.dE]
def SO(x y:dp):Int:=if sR (dG x) (dG y)≠0 then sR (dG x) (dG y)else sR x.name y.name
def OS(x y:dp)(w:World):g8 prog 185 #[.agg #[.string ⟨(dG x).toArray⟩,.string ⟨x.name.toArray⟩,.string ⟨x.text.toArray⟩,.int .i64 x.du,.int .i64 x.dE],.agg #[.string ⟨(dG y).toArray⟩,.string ⟨y.name.toArray⟩,.string ⟨y.text.toArray⟩,.int .i64 y.du,.int .i64 y.dE]] w λe w'=>e=.returned (.int .i64 (SO x y))/\∃k os,w'=grow (w.drewN k) os:=by
 have h1:=λW=>qi (dG x) (dG y) W;have h2:=λW=>qi x.name y.name W;unfold SO;obtain⟨z,hz⟩:∃z,z=sR (dG x) (dG y):=⟨_,rfl⟩;obtain⟨t,ht⟩:∃t,t=sR x.name y.name:=⟨_,rfl⟩;rw[<-hz]at h1⊢;rw[<-ht]at h2⊢;obtain⟨zw,aa⟩:∃zw,zw=if z≠0 then z else t:=⟨_,rfl⟩
 rw[<-aa]
 have ad:∀(g:Nat)(W:World),W.cell? ⟨g,0,none⟩=some (.int .i64 z)->W.cell? ⟨g,1,none⟩=some (.int .i64 t)->g8 prog 126 #[.slice (some ⟨g,0,none⟩) 2 2] W λe w'=>e=.returned (.int .i64 zw)/\W=w':=λg W k1 k2=>by
  rw[aa];exact E2 z t g W k1 k2
 clear hz ht aa;generalize dG x=kx at *;generalize dG y=ky at *;obtain⟨nx,_,tx,wx,gx⟩:=x;obtain⟨ny,_,ty,wy,gy⟩:=y;simp only at h2⊢;obtain⟨Y,ab⟩:∃Y,Y=(w.alloc (.cells #[.string ⟨kx.toArray⟩,.string ⟨nx.toArray⟩,.string ⟨tx.toArray⟩,.int .i64 wx,.int .i64 gx] 237)).alloc (.cells #[.string ⟨ky.toArray⟩,.string ⟨ny.toArray⟩,.string ⟨ty.toArray⟩,.int .i64 wy,.int .i64 gy] 237):=⟨_,rfl⟩
 have hA:∀j,Y.cell? ⟨w.heap.size,j,none⟩=(#[Value.string ⟨kx.toArray⟩,.string ⟨nx.toArray⟩,.string ⟨tx.toArray⟩,.int .i64 wx,.int .i64 gx]:Array Value)[j]?:=λj=>by
  rw[ab,World.cell?_alloc_past _ _ _ (by simp),nc _ _ _ _ rfl]
 have ac:∀j,Y.cell? ⟨w.heap.size+1,j,none⟩=(#[Value.string ⟨ky.toArray⟩,.string ⟨ny.toArray⟩,.string ⟨ty.toArray⟩,.int .i64 wy,.int .i64 gy]:Array Value)[j]?:=λj=>by
  rw[ab,nc _ _ _ _ (by simp)]
 have ae:∃os,Y=grow w os:=⟨_,by rw[ab,oa,oa,grow_grow]⟩;have a0:Y.cell? ⟨w.heap.size,0,none⟩=some (.string ⟨kx.toArray⟩):=hA 0;have a1:Y.cell? ⟨w.heap.size,1,none⟩=some (.string ⟨nx.toArray⟩):=hA 1;have b0:Y.cell? ⟨w.heap.size+1,0,none⟩=some (.string ⟨ky.toArray⟩):=ac 0;have b1:Y.cell? ⟨w.heap.size+1,1,none⟩=some (.string ⟨ny.toArray⟩):=ac 1;clear hA ac;go_enter func185,ntmps185;go_wp2_with fail;rw[<-ab];clear ab;have O:(λw':World=>w'.cell? ⟨w.heap.size,0,none⟩=some (.string ⟨kx.toArray⟩)/\w'.cell? ⟨w.heap.size,1,none⟩=some (.string ⟨nx.toArray⟩)/\w'.cell? ⟨w.heap.size+1,0,none⟩=some (.string ⟨ky.toArray⟩)/\w'.cell? ⟨w.heap.size+1,1,none⟩=some (.string ⟨ny.toArray⟩)) Y.drew:=⟨a0,a1,b0,b1⟩;clear a0 a1 b0 b1;refine ha (S:=λw'=>w'.cell? ⟨w.heap.size,0,none⟩=some (.string ⟨kx.toArray⟩)/\w'.cell? ⟨w.heap.size,1,none⟩=some (.string ⟨nx.toArray⟩)/\w'.cell? ⟨w.heap.size+1,0,none⟩=some (.string ⟨ky.toArray⟩)/\w'.cell? ⟨w.heap.size+1,1,none⟩=some (.string ⟨ny.toArray⟩)) (by kernel_rfl) ?_;refine fJ 0 ?_ O ?_<|fJ 1 ?_ O ?_<|fJ 2 ?_ O ?_<|fJ 3 ?_ O ?_<|fJ 5 ?_ O ?_<|fJ 6 ?_ O ?_<|fJ 7 ?_ O ?_<|fJ 8 ?_ O ?_<|fJ 9 ?_ O ?_<|fJ 10 ?_ O ?_ ?_
 any_goals(rintro w' ⟨s0,s1,s2,s3⟩;go_simp;first|done|with_reducible rfl)
 refine j9 4 λK' U=>?_;unfold m2;go_simp;refine(h1 _).mono ?_;rintro e w' ⟨rfl,rfl⟩;refine U _ _ ⟨O,?_⟩;clear U;refine j9 11 λK' U=>?_;unfold m2;go_simp;refine(h2 _).mono ?_;rintro e w' ⟨rfl,rfl⟩;refine U _ _ ⟨O,?_⟩;clear U;refine j9 12 λK' U=>?_;unfold m2;go_simp
 have B:Below Y.heap.size Y (Y.alloc (.cells #[.int .i64 z,.int .i64 t] 3)).drew:=by
  have h:Below Y.heap.size Y (Y.alloc (.cells #[.int .i64 z,.int .i64 t] 3)):=(m3 _ _).alloc (hZ _) _;exact⟨h.os,h.tape,h.output,h.size,h.block⟩
 refine U _ _ ⟨⟨g6 B O.1,g6 B O.2.1,g6 B O.2.2.1,g6 B O.2.2.2⟩,?_⟩;clear U;refine j9 13 λK' U=>?_;unfold m2;go_simp;refine(ad Y.heap.size (Y.alloc (.cells #[.int .i64 z,.int .i64 t] 3)).drew (B9 (w:=Y) (by rfl)).1 (B9 (w:=Y) (by rfl)).2).mono ?_;rintro e w' ⟨rfl,rfl⟩;refine U _ _ ⟨⟨g6 B O.1,g6 B O.2.1,g6 B O.2.2.1,g6 B O.2.2.2⟩,?_⟩;clear U;have af:(λw':World=>w'.cell? ⟨w.heap.size,0,none⟩=some (.string ⟨kx.toArray⟩)/\w'.cell? ⟨w.heap.size,1,none⟩=some (.string ⟨nx.toArray⟩)/\w'.cell? ⟨w.heap.size+1,0,none⟩=some (.string ⟨ky.toArray⟩)/\w'.cell? ⟨w.heap.size+1,1,none⟩=some (.string ⟨ny.toArray⟩)) (Y.alloc (.cells #[.int .i64 z,.int .i64 t] 3)).drew:=⟨g6 B O.1,g6 B O.2.1,g6 B O.2.2.1,g6 B O.2.2.2⟩;refine fJ 14 ?_ af ?_ ?_;rotate_left
 .rintro w' ⟨s0,s1,s2,s3⟩;go_simp;first|done|with_reducible rfl
 refine hw (by kernel_rfl) ?_ _;go_wp2;go_ret;obtain⟨os,rfl⟩:=ae;exact⟨rfl,1,_,by rw[oa,grow_grow];rfl⟩
variable {a b:dp} {g:Nat}
def yk(x y:Wd):sR x y<0↔n7 x y=true:=by
 unfold sR;by_cases B:n7 x y=true;simp[B];by_cases O:n7 y x=true;simp[B,O];simp[B,O]
def su(x y:Wd):sR x y=0↔x=y:=by
 unfold sR;constructor;intro h;rcases iD x y with B|B|B
 rw[if_pos B]at h;cases h;exact B;rw[if_neg (by rw[qq B];simp),if_pos B]at h;cases h;rintro rfl;simp[ir]
def vY(x y:dp):ltOf SO x y=true↔EE x y:=by
 unfold ltOf SO EE;rw[decide_eq_true_eq];by_cases h:dG x=dG y;rw[if_neg (by rw[Classical.not_not];exact(su ..).2 h),yk,h,ir];simp;rw[if_pos (λe=>h ((su ..).1 e)),yk];simp[h]
def CV{c:dp}(B:EE a b)(y:EE b c):EE a c:=by
 rcases B with B|⟨B,O⟩
 rcases y with y|⟨y,_⟩
 exact Or.inl (k9 _ _ _ B y);exact Or.inl (by rw[<-y];exact B);rcases y with y|⟨y,U⟩
 exact Or.inl (by rw[B];exact y);exact Or.inr ⟨B.trans y,k9 _ _ _ O U⟩
def Cd(a b:dp):EE a b\/(dG a=dG b/\a.name=b.name)\/EE b a:=by
 rcases iD .. with h|h|h
 exact Or.inl (Or.inl h);rcases iD .. with y|y|y
 exact Or.inl (Or.inr ⟨h,y⟩);exact Or.inr (Or.inl ⟨h,y⟩);exact Or.inr (Or.inr (Or.inr ⟨h.symm,y⟩));exact Or.inr (Or.inr (Or.inl h))
def Jk(a:dp):¬EE a a:=by
 unfold EE;simp[ir]
def Qq{c:dp}(h:dG a=dG b/\a.name=b.name)(y:EE a c):EE b c:=by
 unfold EE at *;rw[<-h.1,<-h.2];exact y
def QR:SWO (ltOf SO) where
 irrefl x:=by
  have:=Jk x;rw[<-vY]at this;simpa using this
 trans x y z h1 h2:=by rw[vY]at *;exact CV h1 h2
 ntrans x y z h1 h2:=by
  cases B:ltOf SO x z with
  |false=>rfl|true=>
   rw[vY]at B;have n1:¬EE x y:=by rw[<-vY,h1];simp
   have n2:¬EE y z:=by rw[<-vY,h2];simp
   rcases Cd x y with h|h|h
   exact absurd h n1;exact absurd (Qq h B) n2;exact absurd (CV h B) n2
def gY(es:List dp):List Value:=es.flatMap kV
def Bf(es:List dp)(x:dp):gY (es++[x])=gY es++kV x:=by simp[gY]
def D':∀(ws:List dp)(i c:Nat)(h:i<ws.length),c<5->(gY ws)[i*5+c]?=(kV ws[i])[c]?:=by
 intro ws;induction ws with
 |nil=>intro i c h;simp at h|cons a l y=>
  intro i c h B;have e:gY (a::l)=kV a++gY l:=by simp[gY]
  rw[e]
  cases i with
  |zero=>rw[cx (by simp[kV];omega)];simp|succ i=>
   rw[dj (by simp[kV];omega)];have O:(kV a).length=5:=rfl;rw[O,show(i+1)*5+c-5=i*5+c by omega,y i c (by simpa using h) B];simp
def BF(x:dp):∀v∈kV x,v.oneCell'=true:=by
 intro v y;simp[kV]at y;rcases y with rfl|rfl|rfl|rfl|rfl<;>rfl
instance:Inhabited dp:=⟨⟨[],false,[],0,0⟩⟩
def An{e n m cap:Nat}{ws:List dp}(h:w.ownsRow base e 5 (.slice (some ⟨g,0,none⟩) m cap) n (gY ws))(hn:n=ws.length):HoldsK kV 5 w g 0 ws.toArray:=by
 intro j hj;have B:=by simpa using hj
 have U:j / 5<ws.length:=by omega
 have y:(gY ws)[j]?=some ((flatK kV 5 ws.toArray)[j]!):=by
  rw[get_flatK _ _ _ _ (by simpa using B)];have:=D' ws _ (j % 5) U (by omega);rw[show j / 5*5+j % 5=j by omega]at this;rw[this];have e1:ws.toArray[j / 5]! = ws[j / 5]:=by rw[getElem!_pos _ _ (by simpa using U)];simp
  rw[e1];have W:j % 5<(kV ws[j / 5]).length:=by simp[kV];omega
  rw[dg W,getElem!_pos (kV _) _ W]
 rcases h.2 with⟨h0,_⟩|⟨g',Y,aa,he,_,hg,_,_,ab,O⟩
 simp at h0;obtain⟨⟨rfl,_⟩,_,rfl⟩:=he;refine⟨?_,?_⟩;rw[dn hg];rw[<-O,dk,if_pos (by omega)]at y;simpa using y;simp[World.frozen?,hg]
def wA{k blk off m:Nat}{enc:dp->List Value}{d:Array dp}{os:Array Obj}(hb:base<=blk)(y:blk<w.heap.size):Below base w (ov enc k w blk off m d os):=by
 refine⟨rfl,rfl,rfl,?_,λj B=>?_⟩;unfold ov oi oj grow od;simp[n8];unfold ov oi oj grow od;simp[n8];rw[Array.getElem?_append_left (by simp;omega),m8,if_neg (by omega)]
def Ga{k m:Nat}{enc:dp->List Value}{d:Array dp}{os:Array Obj}{y:Array Value}{e:g9}{fr:Nat×Nat}(hb:w.heap[g]?=some (.cells y e fr)):∃cs,(ov enc k w g 0 m d os).heap[g]?=some (.cells cs e fr):=by
 have B:=(m6.1 hb).1;unfold ov oi;rw[heap_grow_old _ _ (by simpa using B)];simp[oj,od,n8,m8,hb,onCells]
def Np(blk off size:Nat)(w:World):CmpLays prog 185 #[] kV 5 SO blk off size w:=by
 intro m os B _ x y;exact OS x y _
def Mf(base:Nat)(au:Option Addr)(W:Nat)(es:List dp)(w:World)(O:w.ownsRow base 237 5 (.slice au es.length W) es.length (gY es))(ad:(es.map dp.name).Nodup)(hl:es.length<=1048576) :
  g8 prog 184 #[.slice au es.length W,.func (.func 185) #[] #[]] w λe w2=>e=.returned (.tuple #[])/\Below base w w2/\
   ∃L:List dp,L.Perm es/\gK L/\o9 w2 (.slice au es.length W) L:=by
 rcases O.2 with⟨he,hn⟩|⟨g,cap,ah,he,Y,hb,h1,h2,h3,h4⟩
 have hG:es=[]:=ev.1 (by simpa using hn);subst hG;have y:=AnyF.slices_SortFunc_none EY au W (.func (.func 185) #[] #[]) w;change g8 prog 184 _ _ _ at y;simp only[m9]at he;refine y.mono ?_;rintro e w2 ⟨rfl,rfl⟩;exact⟨rfl,m3 _ _,[],o4 _,List.Pairwise.nil,au,W,rfl,ip _,by rw[he.2.2];exact ip _,λi h=>by simp at h⟩;simp only[m9]at he;obtain⟨rfl,_,rfl⟩:=he;have aa:g<w.heap.size:=(m6.1 hb).1
 have y:=AnyQ.slices_SortFunc EY 5 isAgg237 sizeOf237 kV (λ_=>rfl) BF SO QR 185 #[] g 0 W es.toArray w
  (enters_of func185 (by kernel_rfl) rfl) (Np g 0 _ w) (An O rfl) aa (by simp;omega)
 change g8 prog 184 _ _ _ at y;refine y.mono ?_;rintro e w2 ⟨rfl,d',nq,os,hp,hs,rfl⟩;have ab:d'.size=es.length:=by rw[hp.1];simp
 have hH:HoldsK kV 5 (ov kV 5 w g 0 nq d' os) g 0 d':=by
  unfold ov;refine holdsK_grow _ _ _ _ _ _ _ ?_ (holdsK_putRowK _ _ _ _ _ _ _ (holdsK_ahead _ _ _ _ _ _ _ (An O rfl)) hp.1);unfold oi oj od;simp[n8];exact aa
 obtain⟨cs,ae⟩:=Ga (enc:=kV) (k:=5) (m:=nq) (d:=d') (os:=os) hb
 have eL:=by
  have e1:d'.extract 0 es.toArray.size=d':=by rw[<-hp.1];simp
  have e2:es.toArray.extract 0 es.toArray.size=es.toArray:=by simp
  have p3:=hp.2.2;rw[e1,e2]at p3;exact p3
 have af:gK d'.toList:=by
  have U:=(eL.map _).nodup_iff.2 ad;unfold gK;rw[fk];intro i j hi hj ac;have ag:d'.toList.length=es.toArray.size:=by simpa using ab
  have h:=hs i j (ip _) ac (by omega);have gi:d'[i]! = d'.toList[i]:=by rw[getElem!_pos d' i _];rfl
  have gj:d'[j]! = d'.toList[j]:=by rw[getElem!_pos d' j _];rfl
  rw[gi,gj]at h;rcases Cd _ _ with h'|h'|h'
  exact h';rw[List.Nodup,ge,fk]at U;exact absurd h'.2 (U i j hi hj ac);rw[<-vY,h]at h';cases h'
 refine⟨rfl,wA Y aa,d'.toList,eL,af,some _,W,by rw[show d'.toList.length=es.length by simpa using ab],by rw[show d'.toList.length=es.length by simpa using ab];exact h1,h2,λi hi=>?_⟩;have B:=by simpa using hi
 have g0:=(o0 hH B (c:=0) (by decide)).1;have g1:=(o0 hH B (c:=1) (by decide)).1;have g2:=(o0 hH B (c:=2) (by decide)).1;have g3:=(o0 hH B (c:=3) (by decide)).1;have g4:=(o0 hH B (c:=4) (by decide)).1;have e2:d'[i]! = d'.toList[i]:=by rw[getElem!_pos d' i B];rfl
 rw[e2]at g0 g1 g2 g3 g4;refine⟨g,0,rfl,g0,?_,?_,?_,?_,cs,(0,0),ae⟩;exact g1;exact g2;exact g3;exact g4
variable {u:Value}
def Br{P:Program}(w:World){o:Oper}{a:Act}{K:Act->World->Prop}{Q:Exit->Act->World->Prop}(s x:Operand)(t:g9)
  (ho:o.op=.call {callee:=.builtin .append,args:=#[s,x],argTypes:=#[t,t]})
  (base:Nat) (e:g9) (i:TypeInfo) (z:Value) (size bytes:Nat) (ht:P.underlying t=some (.slice e)) (hi:P.info? e=some i) (hz:i.zero=some z)
  (O:i.size=size) (Y:i.bytes=bytes) (aa:z.cells.size=size) (ab:0<size)
  (v:Value) (n:Nat) (xs:List Value) (hs:a.eval s=v) (W:w.ownsRow base e size v n xs)
  (y:Value) (m:Nat) (news:List Value) (hx:a.eval x=y) (hy:uc w size y m news) (h1:∀u∈news,u.oneCell'=true)
  (B:(n+m)*bytes<=140737488355328) (ac:n+m<=g7) (U:base<=w.heap.size)
  (h:∀v' w',w'.ownsRow base e size v' (n+m) (xs++news)->w.grownBy w' v.ownBlock->(v'.ownBlock=v.ownBlock\/(v'.ownBlock=some w.heap.size/\Below w.heap.size w w'))->K (a.put o.dst v') w'):m2 P o a w K Q:=by
 obtain⟨v',w',hr,h2,h3,h4⟩:=qA (P:=P) w base t o.type e i z size bytes ht hi hz O Y aa ab v n xs W y m news hy h1 B ac U;unfold m2 hV;simp only[ho,hI,invoke,builtin,oo,on,ot,et,er,ez,hs,hx,hr];exact h v' w' h2 h3 h4
def Pc:(prog.info? 237).map (λi=>(i.zero,i.size,i.bytes))=some (some (.agg #[.string ⟨#[]⟩,.string ⟨#[]⟩,.string ⟨#[]⟩,.int .i64 0,.int .i64 0]),5,64):=by kernel_rfl
def OU{x y z v:Value}{t:g9}{g:Nat}(O:g=w.heap.size):uc (w.alloc (.cells #[x,y,z,u,v] t)) 5 (.slice (some ⟨g,0,none⟩) 1 1) 1 [x,y,z,u,v]:=by
 subst O;refine⟨some _,1,rfl,hZ _,by unfold g7;omega,rfl,λj u B=>⟨w.heap.size,0,rfl,?_⟩⟩;match j,B with
 |0,B=>simpa using B|1,B=>simpa using B|2,B=>simpa using B|3,B=>simpa using B|4,B=>simpa using B|j+5,B=>simp at B
def cell_grown{row:Option Nat}{k o:Nat}(B:w.grownBy w' row)(h:w.cell? ⟨k,o,none⟩=some u)(y:some k≠row):w'.cell? ⟨k,o,none⟩=some u:=by
 have hb:=B.block k (RJ h) y;simp only[ng]at h⊢;rw[hb];exact h
def my.T1{B r:Nat}{es y:List dp}(h:my w B r es y)(hb:Below w.heap.size w w'):my w' B r es y:=eF.kept (row:=none) h ⟨hb.os,hb.tape,hb.output,hb.size,λk O _=>hb.block k O⟩ (by simp) (by simp)
def Jn(B:Nat)(es:List dp)(w:World)(hs:eE w B es)(hl:es.length<=1048576)(ay:∀e∈es,e.text.length<=1099511627776) :
  g8 prog 133 #[.map (some B)] w λen w'=>∃v L,en=.returned v/\L.Perm (dv es)/\gK L/\o9 w' v L/\Below w.heap.size w w':=by
 obtain⟨i0,hi,aJ,aK,aL⟩:=hf Pc;have az:=hs.nodup;have HS:m1 (eE w B es):=hs;have aM:m1 ((es.map dp.name).Nodup):=az;have aN:m1 (∀e∈es,e.text.length<=1099511627776):=ay;have aZ:=dM.lt hs;clear hs az ay;go_enter func133,ntmps133;go_wp2_with (first|(at_range;refine kH _ rfl _ rfl rfl HS.out ?_;intro w1 hrg0 hg0 ba));go_frame;go_loopw [3] (λg wr=>∃(y ac:List dp),(y++ac).Perm es/\my wr B w.heap.size es ac/\wr.ownsRow (w.heap.size+1) 237 5 g (dv y).length (gY (dv y))/\Below w.heap.size w wr/\w.heap.size+1<=wr.heap.size) (λ_ wr=>wr.rangeLeft B w.heap.size)
 case atStart=>exact⟨[],es,o4 _,hrg0,m' _ _ _ _,(m3 _ _).grown hg0 (hZ _) (λk hk=>by cases hk),by omega⟩
 case round=>
  obtain⟨y,ac,eL,hr,ah,hb,hz⟩:=hrel;have HP:m1 ((y++ac).Perm es):=eL;have HR:m1 (my wr B w.heap.size es ac):=hr;obtain⟨ag,cg,rfl,bc⟩:=jo ah;have HO:m1 (wr.ownsRow (w.heap.size+1) 237 5 (.slice ag (dv y).length cg) (dv y).length (gY (dv y))):=ah;have HB:m1 (Below w.heap.size w wr):=hb
  have bd:(dv y).length<=es.length:=by
   have h1:=pP y;have h2:=eL.length_eq;rw[cc]at h2;omega
  clear eL hr hb ah;go_wp2_with (first|(at_next;refine lM _ rfl _ rfl w.heap.size ac rfl HR.out ?_ ?_))
  .intro h0
   have hE:y.Perm es:=by
    have:=HP.out;rw[h0,ef]at this;exact this
   have a5:=Mf (w.heap.size+1) ag cg (dv y) wr HO.out (by
    have h1:(y.map dp.name).Nodup:=(hE.map _).nodup_iff.2 aM.out
    exact h1.sublist (fa.map _)) (by omega)
   have HE:m1 ((dv y).Perm (dv es)):=wz hE;clear h0 hE;go_wp2_with fail;refine a5.mono ?_;rintro e2 w2 ⟨rfl,a6,L,a7,a8,a9⟩;have aO:m1 (Below w.heap.size w w2):=HB.out.trans (a6.mono (by omega));have HL:m1 (L.Perm (dv es)):=a7.trans HE.out;have aP:m1 (gK L):=a8;have aQ:m1 (o9 w2 (.slice ag (dv y).length cg) L):=a9;clear a5 a6 a7 a8 a9;go_wp2;go_ret;exact⟨_,L,rfl,HL.out,aP.out,aQ.out,aO.out⟩
  intro e W w2 aq aj ao ar aR be;have a':=eF.lt aj;have aA:=dM.lt (eF.owns aj);have aB:m1 (Below w.heap.size w w2):=mz HB.out ar (hZ _);have aC:m1 (my w2 B w.heap.size es W):=aj;have aD:m1 (w2.rangeLeft B w.heap.size<wr.rangeLeft B w.heap.size):=ao;have aE:m1 (ac.Perm (e::W)):=aq;have aa:m1 (w2.ownsRow (w.heap.size+1) 237 5 (.slice ag (dv y).length cg) (dv y).length (gY (dv y))):=ii HO.out (λk hk=>ar.block k (HO.out.lt k hk).2 (by have:=(HO.out.lt k hk).1;intro e;cases e;omega));have ak:=wD y e;have aS:e.text.length<=1099511627776:=aN.out e (HP.out.mem_iff.1 (List.mem_append_right _ (aq.mem_iff.2 (gc ..))));have aY:w.heap.size+1<=w2.heap.size:=by omega
  clear aq aj ao ar aR;obtain⟨nm,gn,tx,wt,tg⟩:=e
  cases gn with
  |true=>
   have au:m1 (dv (y++[⟨nm,true,tx,wt,tg⟩])=dv y):=by show _=_;rw[ak];simp
   clear ak;go_wp2;go_roundw
   case rel=>
    exact⟨y++[⟨nm,true,tx,wt,tg⟩],W,ju HP.out aE.out,aC.out.alloc _,by rw[au.out];exact aa.out.alloc _,aB.out.alloc (by omega) _,by simp;omega⟩
   case measure=>
    rw[jf aA a'];exact aD.out
  |false=>
   have au:m1 (dv (y++[⟨nm,false,tx,wt,tg⟩])=dv y++[⟨nm,false,tx,wt,tg⟩]):=by show _=_;rw[ak];simp
   clear ak;go_wp2_with fail;rw[show xI ⟨nm,false,tx,wt,tg⟩=nm from rfl];obtain⟨wa,al⟩:∃wa,wa=w2.alloc (.cells #[.bool false,.string ⟨nm.toArray⟩,.string ⟨tx.toArray⟩,.int .i64 wt,.int .i64 tg] 111):=⟨_,rfl⟩;rw[<-al];obtain⟨k,hk⟩:∃k,k=w2.heap.size:=⟨_,rfl⟩;rw[<-hk];have av:Below w2.heap.size w2 wa:=by rw[al];exact(m3 _ _).alloc (hZ _) _
   have ai:wa.heap[k]?=some (.cells #[.bool false,.string ⟨nm.toArray⟩,.string ⟨tx.toArray⟩,.int .i64 wt,.int .i64 tg] 111 (0,0)):=by rw[al,hk];exact hQ w2 _
   have hS:(λw':World=>w'.cell? ⟨k,1,none⟩=some (.string ⟨nm.toArray⟩)/\w'.cell? ⟨k,2,none⟩=some (.string ⟨tx.toArray⟩)/\w'.cell? ⟨k,3,none⟩=some (.int .i64 wt)/\w'.cell? ⟨k,4,none⟩=some (.int .i64 tg)) wa.drew:=⟨by show wa.cell? _=_;rw[dn ai];rfl,by show wa.cell? _=_;rw[dn ai];rfl,by show wa.cell? _=_;rw[dn ai];rfl,by show wa.cell? _=_;rw[dn ai];rfl⟩;have aw:=pW ⟨tx.toArray⟩ wa.drew (by show tx.toArray.size<=_;simpa using aS);change g8 _ _ _ _ (λe w'=>e=.returned (.string ⟨(dX tx).toArray⟩)/\Below wa.heap.size wa.drew w')at aw;have aT:m1 (k=w2.heap.size):=hk;clear al ai hk;refine ha (S:=λw'=>w'.cell? ⟨k,1,none⟩=some (.string ⟨nm.toArray⟩)/\w'.cell? ⟨k,2,none⟩=some (.string ⟨tx.toArray⟩)/\w'.cell? ⟨k,3,none⟩=some (.int .i64 wt)/\w'.cell? ⟨k,4,none⟩=some (.int .i64 tg)) (by kernel_rfl) ?_;refine fJ 0 ?_ hS ?_<|fJ 1 ?_ hS ?_<|fJ 2 ?_ hS ?_<|fJ 3 ?_ hS ?_<|fJ 5 ?_ hS ?_<|fJ 6 ?_ hS ?_ ?_
   any_goals(rintro w' ⟨s0,s1,s2,s3⟩;go_simp;first|done|with_reducible rfl)
   refine j9 4 λK' ab=>?_;unfold m2;go_simp;refine aw.mono ?_;rintro e w3 ⟨rfl,O⟩;have ad:(λw':World=>w'.cell? ⟨k,1,none⟩=some (.string ⟨nm.toArray⟩)/\w'.cell? ⟨k,2,none⟩=some (.string ⟨tx.toArray⟩)/\w'.cell? ⟨k,3,none⟩=some (.int .i64 wt)/\w'.cell? ⟨k,4,none⟩=some (.int .i64 tg)) w3:=⟨g6 O hS.1,g6 O hS.2.1,g6 O hS.2.2.1,g6 O hS.2.2.2⟩;refine ab _ _ ⟨ad,?_⟩;clear ab;refine fJ 7 ?_ ad ?_ ?_;rotate_left
   .rintro w' ⟨s0,s1,s2,s3⟩;go_simp;first|done|with_reducible rfl
   refine j9 8 λK' ab=>?_;unfold m2;go_simp;obtain⟨w4,am⟩:∃w4,w4=w3.alloc (.cells #[.string ⟨(dX tx).toArray⟩,.string ⟨nm.toArray⟩,.string ⟨tx.toArray⟩,.int .i64 wt,.int .i64 tg] 237):=⟨_,rfl⟩;rw[<-am];have ae:Below w3.heap.size w3 w4:=by rw[am];exact(m3 _ _).alloc (hZ _) _
   have aF:uc w4 5 (.slice (some ⟨w3.heap.size,0,none⟩) 1 1) 1 (kV ⟨nm,false,tx,wt,tg⟩):=by rw[am];exact OU rfl
   have af:(λw':World=>w'.cell? ⟨k,1,none⟩=some (.string ⟨nm.toArray⟩)/\w'.cell? ⟨k,2,none⟩=some (.string ⟨tx.toArray⟩)/\w'.cell? ⟨k,3,none⟩=some (.int .i64 wt)/\w'.cell? ⟨k,4,none⟩=some (.int .i64 tg)) w4:=⟨g6 ae ad.1,g6 ae ad.2.1,g6 ae ad.2.2.1,g6 ae ad.2.2.2⟩;refine ab _ _ ⟨af,?_⟩;clear ab;have bf:wa.heap.size<=w3.heap.size:=O.size;have bg:=ae.size;have aU:=av.size
   have Y:Below w2.heap.size w2 w4:=by
    have h1:Below wa.heap.size wa w3:=⟨O.os,O.tape,O.output,O.size,O.block⟩;exact(av.trans (h1.mono aU)).trans (ae.mono (by omega))
   have aG:w4.ownsRow (w.heap.size+1) 237 5 (.slice ag (dv y).length cg) (dv y).length (gY (dv y)):=ii aa.out (λj hj=>Y.block j (aa.out.lt j hj).2);have ap:Below w.heap.size w w4:=aB.out.trans (Y.mono (by omega));clear am ae O;refine j9 9 λK' ab=>?_;refine Br _ _ _ 190 rfl (w.heap.size+1) 237 i0 _ 5 64 kG hi aJ aK aL rfl (by decide) _ _ _ rfl aG _ 1 _ rfl aF (BF _) (by omega) (by unfold g7;omega) (by omega) ?_;intro v5 w5 aH U _;have an:some k≠(Value.slice ag (dv y).length cg).ownBlock:=λe=>by have:=(aa.out.lt k e.symm).2;have:=aT.out;omega
   have ax:(λw':World=>w'.cell? ⟨k,1,none⟩=some (.string ⟨nm.toArray⟩)/\w'.cell? ⟨k,2,none⟩=some (.string ⟨tx.toArray⟩)/\w'.cell? ⟨k,3,none⟩=some (.int .i64 wt)/\w'.cell? ⟨k,4,none⟩=some (.int .i64 tg)) w5:=⟨cell_grown U af.1 an,cell_grown U af.2.1 an,cell_grown U af.2.2.1 an,cell_grown U af.2.2.2 an⟩;refine ab _ _ ⟨ax,?_⟩;clear ab;refine fJ 10 ?_ ax ?_ ?_;rotate_left
   .rintro w' ⟨s0,s1,s2,s3⟩;go_simp;first|done|with_reducible rfl
   refine hw (by kernel_rfl) ?_ _;have bh:=U.size;have aV:m1 (Below w.heap.size w w5):=ap.grown U (by omega) (λb hb=>by have:=(aa.out.lt b hb).1;omega);have aI:my w4 B w.heap.size es W:=aC.out.T1 Y;have aW:m1 (my w5 B w.heap.size es W):=eF.kept aI U (λe=>by have:=(aa.out.lt B e.symm).1;omega) (λe=>by have:=(aa.out.lt _ e.symm).1;omega)
   have aX:m1 (w5.ownsRow (w.heap.size+1) 237 5 v5 (dv (y++[⟨nm,false,tx,wt,tg⟩])).length (gY (dv (y++[⟨nm,false,tx,wt,tg⟩])))):=by
    show w5.ownsRow _ _ _ _ _ _;rw[au.out,Bf,cc];exact aH
   have HL5:m1 (w5.rangeLeft B w.heap.size<wr.rangeLeft B w.heap.size):=by
    show _<_;rw[eF.jT (U.block B (by omega) (λe=>by have:=(aa.out.lt B e.symm).1;omega)) (U.block w.heap.size (by omega) (λe=>by have:=(aa.out.lt _ e.symm).1;omega)),eF.jT (Y.block B aA) (Y.block _ a')];exact aD.out
   clear aH U ap aG aI aF hS ad af ax aw av Y;go_wp2;go_roundw
   case rel=>
    exact⟨_,_,_,_,_,_,_,_,_,_,_,_,_,_,_,_,_,_,_,⟨y++[⟨nm,false,tx,wt,tg⟩],W,ju HP.out aE.out,aW.out,aX.out,aV.out,by omega⟩,rfl⟩
   case measure=>exact HL5.out
end
section
open Go.RowKit Go.Maps
def JL{es L:List dp}(B:(es.map dp.name).Nodup)(O:L.Perm (dv es))(W:gK L):dK es=qS es++(dC []++gS 26 0 L):=by
 have U:=Ru 26 [] L W (λe _=>go)
 have y:=by
  have:((dv es).map _).Nodup:=B.sublist (fa.map _);exact(O.map _).nodup_iff.2 this
 have Y:eW L=(eW es).filter λe=>!e.gone:=by
  rw[lE,GA y O];rfl
 rw[ff]at U;rw[U,Y];unfold dK qS eT;rw[List.flatMap_map];simp
def OV(B:Nat)(es:List dp)(w:World)(hs:eE w B es)(y:kz es) :
  g8 prog 91 #[.map (some B)] w λen w'=>en=.returned (.string ⟨(dK es).toArray⟩)/\Below w.heap.size w w':=by
 have ao:=pB y
 have ap:es.length<=130:=by
  have h1:=y.gone;have h2:=y.there;have h3:=jM es;have h4:(dv es).length<=30:=h2;omega
 have af:=y.nodup;have HS:m1 (eE w B es):=hs;have aa:m1 (kz es):=y
 have hG:=Ab B es w hs (by omega) (by have:=y.gone;unfold jp;omega) (λe he hg=>by
  rcases y.each e he with h|h
  rw[h.1]at hg;cases hg
  have:=(fZ h.2).2;omega)
 clear hs y;go_enter func91,ntmps91;go_wp2_with fail;refine hG.mono ?_;rintro e1 w1 ⟨v1,rfl,U,O⟩;obtain⟨a1,c1,rfl⟩:=U.form;have ag:m1 (fU w1 w.heap.size (.slice a1 (qS es).length c1) (qS es)):=U;have ah:m1 (Below w.heap.size w w1):=O;have ai:=O.size
 have hL:=Jn B es w1 (dM.below HS.out O) (by omega) (λe he=>by
  rcases aa.out.each e he with h|h
  have:=kg h.2.2.1;omega
  rw[h.1];simp)
 clear hG U O;go_wp2_with fail;refine hL.mono ?_;rintro e2 w2 ⟨v2,L,rfl,W,ab,aj,Y⟩;have ak:m1 (Below w.heap.size w w2):=ah.out.trans (Y.mono ai);have ac:m1 (fU w2 w.heap.size (.slice a1 (qS es).length c1) (qS es)):=ag.out.below Y;have aq:=Y.size;have ad:m1 (dK es=qS es++(dC []++gS 26 0 L)):=JL af W ab
 have hN:=Tl 26 w.heap.size _ (qS es) ⟨#[]⟩ [] _ L w2 ac.out aj (by omega) (λe he=>⟨by
   have hm:=W.mem_iff.1 he;unfold dv at hm;rw[fd]at hm;rcases aa.out.each e hm.1 with h|h
   exact h
   .have:=hm.2;rw[h.1]at this
    simp at this,go⟩) ab (by
   have h1:=W.length_eq;have h2:=pP es
   omega) (by simp) (by simp) (by
   have h1:=congrArg gz ad.out;rw[cc]at h1;change (qS es).length+(dC []++gS 26 0 L).length<=_
   omega) (ip _)
 change g8 _ _ _ _ (O' _ w2 _ _ (dC []++gS 26 0 L))at hN;go_wp2_with fail;refine hN.mono ?_;rintro e3 w3 ⟨v3,rfl,ae,al⟩;have am:m1 _:=al.low ak.out ac.out (hZ _);rw[<-ad.out]at ae;have an:=zK ae jt j4 j2;go_wp2;go_ret;exact⟨rfl,am.out⟩
def qe{P:Program}(w:World){o:Oper}{a:Act}{K:Act->World->Prop}{Q:Exit->Act->World->Prop}(s x:Operand)(t:g9)
  (ho:o.op=.call {callee:=.builtin .append,args:=#[s,x],argTypes:=#[t,t]})
  (base:Nat) (e:g9) (i:TypeInfo) (z:Value) (bytes:Nat) (ht:P.underlying t=some (.slice e)) (hi:P.info? e=some i) (hz:i.zero=some z)
  (O:i.size=1) (Y:i.bytes=bytes) (aa:z.cells.size=1)
  (v:Value) (n:Nat) (xs:List Value) (hs:a.eval s=v) (W:w.ownsRow base e 1 v n xs)
  (y:Value) (news:List Value) (hx:a.eval x=y) (hy:Rd w y news) (h1:∀u∈news,u.oneCell'=true)
  (B:(n+news.length)*bytes<=140737488355328) (ab:n+news.length<=g7) (U:base<=w.heap.size)
  (h:∀v' w',w'.ownsRow base e 1 v' (n+news.length) (xs++news)->w.grownBy w' v.ownBlock->(v'.ownBlock=v.ownBlock\/v'.ownBlock=some w.heap.size)->K (a.put o.dst v') w'):m2 P o a w K Q:=by
 obtain⟨v',w',hr,h2,h3,h4⟩:=qV (P:=P) w base t o.type e i z bytes ht hi hz O Y aa v n xs W y news hy h1 B ab U;unfold m2 hV;simp only[ho,hI,invoke,builtin,oo,on,ot,et,er,ez,hs,hx,hr];exact h v' w' h2 h3 h4
def iP(es:List dp):List Wd:=if 0<es.length then [dK es]else []
def Ds(B:Nat)(es:List dp)(w:World)(Y:eE w B es)(O:0<es.length->kz es) :
  g8 prog 63 #[.map (some B)] w λen w'=>∃v,en=.returned v/\Rd w' v (dl (iP es))/\Below w.heap.size w w':=by
 have y:=λ(ty:g9)=>dM.len Y j1 ty;rw[dd]at y;by_cases U:0<es.length
 .have W:m1 (iP es=[dK es]):=by show iP es=_;unfold iP;rw[if_pos U]
  have hp:=OV B es w Y (O U);go_enter func63,ntmps63;go_wp2_with fail;refine hp.mono ?_;rintro e w1 ⟨rfl,hb⟩;have HB:m1 _:=hb;have hz:=hb.size;go_wp2;go_ret;refine⟨_,rfl,?_,HB.out.alloc hz _⟩;rw[W.out];exact Rd.one iH
 have W:m1 (iP es=[]):=by show iP es=_;unfold iP;rw[if_neg U]
 go_wp2;go_ret;refine⟨_,rfl,?_,m3 ..⟩;rw[W.out];exact Rd.JI rfl (by omega)
def Qh(w:World)(X:Option (List dp))(e:Ending)(w':World):Prop:=match X with
 |some l=>∃B,e=.returned (.tuple #[.map (some B),.bool true])/\w.heap.size<=B/\eE w' B l|none=>e=.returned (.tuple #[.map none,.bool false])
def FY(S:ByteArray)(w:World)(hS:S.size<=g7) :
  g8 prog 57 #[.string S] w λe w'=>Below w.heap.size w w'/\Qh w (kM S.data.toList) e w':=by
 unfold g7 at hS;have W:S.data.toList.length=S.size:=by simp
 by_cases h4:4000<S.size
 .have O:m1 (kM S.data.toList=none):=by show kM _=_;rw[s9,if_pos (by omega)]
  have Y:(4000:Int)<(S.size:Int):=by omega
  clear h4 W;go_enter func57,ntmps57;go_wp2;go_ret2;refine⟨m3 _ _,?_⟩;rw[O.out];exact rfl
 have hU:kM S.data.toList=(pH S.data.toList).map λx=>x.1++x.2:=by rw[s9,if_neg (by omega)]
 have Y:=by omega
 have hu:=zH S w (by omega);have O:m1 _:=hU;go_enter func57,ntmps57;go_wp2_with fail;refine hu.mono ?_;rintro e w1 ⟨hb,ho⟩;have HB:m1 _:=hb
 cases U:pH _ with
 |none=>
  rw[U]at ho;unfold UZ at ho;have y:m1 (kM S.data.toList=none):=by rw[O.out,U];rfl
  go_wp2;go_ret2;refine⟨HB.out,?_⟩;rw[y.out];exact rfl
 |some x=>
  rw[U]at ho;obtain⟨B,rfl,hB,hm⟩:=ho;have y:m1 (kM S.data.toList=some (x.1++x.2)):=by rw[O.out,U];rfl
  have HM:m1 _:=hm;go_wp2;go_ret2;refine⟨HB.out,?_⟩;rw[y.out];exact⟨B,rfl,hB,HM.out⟩
variable {ss':List (List dp)} {Bb b:Nat} {F:Nat->Prop} {v' vK vM:Value} {w:World}
def ED.iB{w2 w3:World}{buf:List dp}{ss:List (List dp)}{vS:Value}(W:ED w F b buf ss Bb vS vM vK)(hF:∀k,F k->k<w.heap.size)(hb:Below w.heap.size w w2)
  (hg:dw (λk=>vS.ownBlock=some k) w2 w3) (y:w3.ownsRow 0 9 1 v' ss'.length (dl (ss'.map dK))) (hv:∀k,v'.ownBlock=some k->vS.ownBlock=some k\/w2.heap.size<=k) :
  (w3.setCell ⟨b,1,none⟩ v').heap[b]?=some (.cells #[.map (some Bb),v',vM,vK] 90 (0,0))/\eE (w3.setCell ⟨b,1,none⟩ v') Bb buf/\(w3.setCell ⟨b,1,none⟩ v').ownsRow 0 9 1 v' ss'.length (dl (ss'.map dK))/\
   dw F w (w3.setCell ⟨b,1,none⟩ v')/\(∀k,v'.ownBlock=some k->(F k\/w.heap.size<=k)/\k<w3.heap.size):=by
 have aa:w2.heap[b]?=some (.cells #[.map (some Bb),vS,vM,vK] 90 (0,0)):=by rw[hb.block b (hF b W.fb)];exact W.blk
 have ad:=eS aa;have ae:=ie (hF Bb W.fB) hb.size;have B:=eH W.row (λk Y=>hb.block k (hF k (W.lr k Y)));have O:=dM.stay W.say (hb.block Bb (hF Bb W.fB));have ab:w3.heap[b]?=some (.cells #[.map (some Bb),vS,vM,vK] 90 (0,0)):=by rw[hg.block b ad (oX aa B (by decide))];exact aa
 have U:=dM.stay O (hg.block Bb ae (λe=>qQ B O e.symm));have ac:∀k,k≠b->(w3.setCell ⟨b,1,none⟩ v').heap[k]?=w3.heap[k]?:=λk Y=>m4 _ _ _ _ (λe=>Y e);refine⟨by rw[heap_set ab];rfl,dM.stay U (ac Bb (λe=>dM.nP U ab e)),eH y (λk Y=>ac k (λe=>oX ab y (by decide) (by rw[Y,e]))),?_,λk Y=>⟨?_,(y.lt k Y).2⟩⟩;exact((dw.eQ hb).trans hg (λi _ hi=>W.lr i hi)).then (jV W.fb);rcases hv k Y with h|h
 exact Or.inl (W.lr k h);exact Or.inr (iz hb.size h)
def qh(ss:List (List dp))(l:List dp):List (List dp):=if 0<l.length then ss++[l]else ss
def JP(ss:List (List dp))(l:List dp):(qh ss l).length=ss.length+(dl (iP l)).length:=by
 unfold qh iP;split<;>simp[dl]
def Hp(ss:List (List dp))(l:List dp):dl ((qh ss l).map dK)=dl (ss.map dK)++dl (iP l):=by
 unfold qh iP;split<;>simp[dl]
def vU(es:List dp):(iP es).length<=1:=by unfold iP;split<;>simp
def dw.CP{w':World}{o:Option Nat}(h:w.grownBy w' o):dw (λk=>o=some k) w w':=⟨h.os,h.tape,h.output,h.size,λk y B=>h.block k y (λe=>B e.symm)⟩
def ID{w4:World}(fb:F b)(W:w4.heap[b]?=some (.cells #[.map (some Bb),v',vM,vK] 90 (0,0)))
  (p3:w4.ownsRow 0 9 1 v' ss'.length (dl (ss'.map dK))) (p4:dw F w w4) (Y:∀k,v'.ownBlock=some k->(F k\/w.heap.size<=k)/\k<w4.heap.size) (hi:Inv [] ss') :
  ∃F':Nat->Prop,sO vM vK ((w4.alloc (.map #[] 0)).setCell ⟨b,0,none⟩ (.map (some w4.heap.size))) F' b [] ss'/\(∀k,F' k->F k\/w.heap.size<=k)/\dw F w ((w4.alloc (.map #[] 0)).setCell ⟨b,0,none⟩ (.map (some w4.heap.size))):=by
 have B:Below _ w4 (w4.alloc (.map #[] 0)):=(m3 ..).alloc (hZ _) _;have aa:eE _ _ []:=dM.made w4;have ab:(w4.alloc (.map #[] 0)).heap.size=w4.heap.size+1:=by simp
 generalize (w4.alloc _)=O at *;have ac:=eS W;have ad:O.heap[b]?=some (.cells #[.map (some Bb),v',vM,vK] 90 (0,0)):=by rw[B.block b ac];exact W
 have U:∀k,k≠b->(O.setCell ⟨b,0,none⟩ (.map (some w4.heap.size))).heap[k]?=O.heap[k]?:=λk y=>m4 _ _ _ _ (λe=>y e);have ae:(O.setCell ⟨b,0,none⟩ (.map (some w4.heap.size))).heap.size=O.heap.size:=by simp[ne]
 refine⟨λk=>(F k\/w.heap.size<=k)/\k<w4.heap.size+1,⟨λk y=>by rw[ae,ab];exact y.2,w4.heap.size,v',?_⟩,λk y=>y.1,?_⟩
 exact {
  blk:=by rw[heap_set ad];rfl
  fb:=⟨Or.inl fb,by omega⟩,fB:=⟨Or.inr p4.size,by omega⟩,say:=dM.stay aa (U _ (by omega)),row:=eH p3 (λk y=>by rw[U k (λe=>oX W p3 (by decide) (by rw[y,e])),B.block k (Y k y).2]),lr:=λk y=>⟨(Y k y).1,by have:=(Y k y).2;omega⟩
  inv:=hi}
 exact(p4.then (dw.eQ B)).then (jV fb)
def TT(w:World)(F:Nat->Prop)(b:Nat)(buf:List dp)(ss:List (List dp))(hP:sO vM vK w F b buf ss) :
  g8 prog 29 #[.pointer (some ⟨b,0,none⟩)] w λe w'=>e=.returned (.int .i64 (dW buf ss).1)/\
   ∃F':Nat->Prop,sO vM vK w' F' b (dW buf ss).2.1 (dW buf ss).2.2/\(∀k,F' k->F k\/w.heap.size<=k)/\dw F w w':=by
 have HP:m1 _:=hP;obtain⟨i9,a6,a7,a8,a9⟩:=hf uK;have aF:=@run_makeMap prog;obtain⟨hF,Bb,vS,hE⟩:=hP;obtain⟨aS,cS,rfl,aG⟩:=dN hE.row;have HE:m1 _:=hE;have HF:m1 _:=hF;have a':=dn hE.blk;have aH:=dO hE.blk 1;have O:=λ(ty:g9)=>dM.len hE.say j1 ty;rw[dd]at O;have h6:=hE.inv.qg;have HI:m1 (Inv (dW buf ss).2.1 (dW buf ss).2.2):=BJ hE.inv;have aI:=qM hE.inv;have aA:=hF b hE.fb;clear hF hE;by_cases h0:buf.length=0
 .have HU:m1 (dW buf ss=(5,buf,ss)):=by show dW _ _=_;unfold dW;rw[if_pos h0]
  rw[h0]at O;clear h0;go_enter ks,kk;go_wp2;go_ret;refine⟨eI (by rw[HU.out];rfl),F,?_,λk hk=>Or.inl hk,dw.refl _ _⟩;rw[HU.out];exact HP.out
 have aB:((buf.length:Int)==0)=false:=beq_eq_false_iff_ne.2 (by omega);by_cases U:6<=ss.length
 .have HU:m1 (dW buf ss=(4,buf,ss)):=by show dW _ _=_;unfold dW;rw[if_neg h0,if_pos U]
  have ar:(6:Int)<=(ss.length:Int):=by omega
  clear h0 U;go_enter ks,kk;go_wp2;go_ret;refine⟨eI (by rw[HU.out];rfl),F,?_,λk hk=>Or.inl hk,dw.refl _ _⟩;rw[HU.out];exact HP.out
 have HU:m1 (dW buf ss=(0,[],if 0<(fi buf ss).length then ss++[fi buf ss]else ss)):=by show dW _ _=_;unfold dW;rw[if_neg h0,if_neg U]
 have ar:¬(6:Int)<=(ss.length:Int):=by omega
 have af:m1 (0<(fi buf ss).length->kz (fi buf ss)):=by
  intro hp;have hi:=HI.out;rw[HU.out]at hi;simp only[if_pos hp]at hi;exact hi.iB _ (by simp)
 clear h0;have ag:m1 (dW buf ss=(0,[],qh ss (fi buf ss))):=HU.out;have au:m1 (Inv [] (qh ss (fi buf ss))):=by have:=HI.out;rw[ag.out]at this;exact this
 by_cases ah:ss.length=0
 case' pos=>
  have ab:m1 (fi buf ss=dv buf):=by show fi _ _=_;unfold fi;rw[if_pos ah]
  have ac:((ss.length:Int)==0)=true:=beq_iff_eq.2 (by omega);have av:=oF Bb buf w HE.out.say (by omega) (λe he=>vG HE.out.inv buf (by simp) e he);clear U ah;go_enter ks,kk;go_wp2_with fail;refine av.mono ?_;rintro e w1 ⟨C,rfl,hC,aw,B⟩;have ai:m1 (Below w.heap.size w w1.drew):=⟨B.os,B.tape,B.output,B.size,B.block⟩;have aJ:w1.cell? ⟨b,1,none⟩=some (.slice aS ss.length cS):=g6 B (a' 1);have aj:=Ds C (fi buf ss) w1.drew (by rw[ab.out];exact aw) af.out;clear av aw B
 case' neg=>
  have ab:m1 (fi buf ss=buf):=by show fi _ _=_;unfold fi;rw[if_neg ah]
  have ac:((ss.length:Int)==0)=false:=beq_eq_false_iff_ne.2 (by omega);have aj:=Ds Bb (fi buf ss) w.drew (by rw[ab.out];exact HE.out.say) af.out;have ai:m1 (Below w.heap.size w w.drew):=⟨rfl,rfl,rfl,hZ _,λ_ _=>rfl⟩;clear U;go_enter ks,kk
 all_goals
  go_wp2_with fail;clear O aB ar ac ab HU af;generalize fi buf ss=X at *;refine ha (S:=λw'=>True) (by kernel_rfl) ?_;refine fJ 0 ?_ trivial ?_<|fJ 1 ?_ trivial ?_<|fJ 2 ?_ trivial ?_<|fJ 3 ?_ trivial ?_<|fJ 5 ?_ trivial ?_ ?_
  any_goals(rintro w' _;go_simp;first|done|with_reducible rfl)
  refine h9 (rs:=[4,6]) (by kernel_rfl) (by simp) ?_;intro i hi;simp only[ei,dt,or_false]at hi;rcases hi with rfl|rfl
  case' inl=>
   refine h7 (by rfl) λK' y=>?_;rw[if_pos (by rfl)];unfold m2;go_simp;refine y _ _ ⟨trivial,?_⟩;clear y;refine j9 6 λK' y=>?_
  case' inr=>
   refine h7 (by rfl) λK' y=>?_;rw[if_pos (by rfl)]
  all_goals
   unfold m2;go_simp;refine aj.mono ?_;rintro e w2 ⟨v2,rfl,ax,ay⟩;have W:Below w.heap.size w w2:=ai.out.trans (ay.mono ai.out.size);have aK:=W.size;have Y:w2.heap[b]?=some (.cells #[.map (some Bb),.slice aS ss.length cS,vM,vK] 90 (0,0)):=by rw[W.block b aA];exact HE.out.blk
   have ak:w2.ownsRow 0 9 1 (.slice aS ss.length cS) ss.length (dl (ss.map dK)):=eH HE.out.row (λk hk=>W.block k (HF.out k (HE.out.lr k hk)));have aL:=dn Y 1;refine y _ _ ⟨trivial,?_⟩;clear y aj ay
  case' inr=>
   refine j9 4 λK' y=>?_;unfold m2;go_simp;refine y _ _ ⟨trivial,?_⟩;clear y
  all_goals
   refine j9 7 λK' y=>?_;refine qe _ _ _ 31 rfl 0 9 i9 (.string ⟨#[]⟩) 16 jv a6 a7 a8 a9 rfl _ _ _ rfl ak _ _ rfl ax jJ ?c1 ?c2 (ip _) ?_
   case c1=>rw[dD];have:=vU X;omega
   case c2=>rw[dD];have:=vU X;unfold g7;omega
   intro v3 w3 al am az;obtain⟨a3,c3,rfl,aM⟩:=dN al;have an:w3.heap[b]?=some (.cells #[.map (some Bb),.slice aS ss.length cS,vM,vK] 90 (0,0)):=by rw[am.block b (eS Y) (λe=>oX Y ak (by decide) e.symm)];exact Y
   refine y _ _ ⟨trivial,?_⟩;clear y
   have aa:w3.ownsRow 0 9 1 (.slice a3 (ss.length+(dl (iP X)).length) c3) (qh ss X).length (dl ((qh ss X).map dK)):=by
    rw[Hp,JP];exact al
   have ad:=HE.out.iB HF.out W (dw.CP am) aa (λk hk=>by
    rcases az with h|h
    exact Or.inl (h.symm.trans hk)
    have aC:=h.symm.trans hk;cases aC;exact Or.inr (hZ _))
   refine fJ 8 ?_ trivial ?_<|fJ 9 ?_ trivial ?_ ?_
   any_goals(rintro w' _;go_simp;first|done|with_reducible rfl)
   have aD:=dn an 1;have aE:=dO an 1;clear al am az aa an ak ax Y W;refine j9 10 λK' y=>?_;unfold m2;go_simp;refine y _ _ ⟨trivial,hw (by kernel_rfl) ?_ _⟩;clear y aD aE;obtain⟨w4,ao⟩:∃w4,w4=w3.setCell ⟨b,1,none⟩ (.slice a3 (ss.length+(dl (iP X)).length) c3):=⟨_,rfl⟩;have a5:w4.heap.size=w3.heap.size:=by rw[ao];simp[ne]
   rw[<-ao]at ad⊢;obtain⟨p1,p2,p3,p4,p5⟩:=ad;rw[<-a5]at p5;have ae:=ID HE.out.fb p1 p3 p4 p5 au.out;have ap:(w4.alloc (.map #[] 0)).heap[b]?=some (.cells #[.map (some Bb),.slice a3 (ss.length+(dl (iP X)).length) c3,vM,vK] 90 (0,0)):=by rw[m5 _ _ _ (eS p1)];exact p1
   have aN:=dn ap 0;have aO:=dO ap 0;have aq:m1 (∃F':Nat->Prop,sO vM vK ((w4.alloc (.map #[] 0)).setCell ⟨b,0,none⟩ (.map (some w4.heap.size))) F' b [] (qh ss X)/\(∀k,F' k->F k\/w.heap.size<=k)/\dw F w ((w4.alloc (.map #[] 0)).setCell ⟨b,0,none⟩ (.map (some w4.heap.size)))):=ae;clear ao a5 p1 p2 p3 p4 p5 ae ap;go_wp2;go_ret;refine⟨eI (by rw[ag.out];rfl),?_⟩;rw[ag.out];exact aq.out
variable {ss:List (List dp)} {buf:List dp}
def Tf{C D:Nat}{B lb:List dp}{t:g9}{g:Nat}(O:g=w.heap.size)(U:eE w C B)(W:eE w D lb):K0 (w.alloc (.cells #[.map (some C),.map (some D)] t)) (.slice (some ⟨g,0,none⟩) 2 2) [C,D] [B,lb] where
 rd:=by
  subst O;refine⟨some ⟨w.heap.size,0,none⟩,2,rfl,hZ _,by unfold g7;omega,λj u y=>⟨w.heap.size,0,rfl,?_⟩⟩;rw[nc _ _ _ _ rfl];match j,y with
  |0,y=>simpa[yO]using y|1,y=>simpa[yO]using y|j+2,y=>simp at y
 len:=rfl
 each:=λi h Y=>by
  have hb:Below w.heap.size w (w.alloc (.cells #[.map (some C),.map (some D)] t)):=(m3 _ _).alloc (hZ _) _;match i,h,Y with
  |0,_,_=>exact dM.below U hb|1,_,_=>exact dM.below W hb|i+2,h,_=>exact absurd h (by simp)
def BC{w4:World}{F:Nat->Prop}{b:Nat}{vS:Value}(B:ED w F b buf ss Bb vS vM vK)(hF:∀k,F k->k<w.heap.size)
  (h:w4.heap[b]?=some (.cells #[.map (some Bb),v',vM,vK] 90 (0,0))/\eE w4 Bb buf/\w4.ownsRow 0 9 1 v' ss'.length (dl (ss'.map dK))/\dw F w w4/\(∀k,v'.ownBlock=some k->(F k\/w.heap.size<=k)/\k<w4.heap.size)) (hi:Inv buf ss') :
  ∃F':Nat->Prop,sO vM vK w4 F' b buf ss'/\(∀k,F' k->F k\/w.heap.size<=k)/\dw F w w4:=by
 obtain⟨O,p2,p3,p4,U⟩:=h;refine⟨λk=>(F k\/w.heap.size<=k)/\k<w4.heap.size,⟨λk y=>y.2,Bb,v',?_⟩,λk y=>y.1,p4⟩
 exact {
  blk:=O,fb:=⟨Or.inl B.fb,eS O⟩,fB:=⟨Or.inl B.fB,ie (hF Bb B.fB) p4.size⟩,say:=p2,row:=p3,lr:=λk y=>U k y
  inv:=hi}
def wY(h:Inv buf ss):∀e∈dP ss buf,e.name.length<=g7:=by
 intro e he;rw[fl]at he;unfold dv at he;exact oB (vG h) e (fd.1 he).1
def JG(ss:List (List dp))(l:List dp):dv (eu [dP ss [],l])=dP (ss++[l]) []:=by
 have e:eu [dP ss [],l]=dL (dP ss []) l:=by unfold eu;simp only[gt,gv];rw[lV]
 rw[e,fl,fl,nV,ew,jZ,ew,ew,jZ]
def UY(w:World)(F:Nat->Prop)(b:Nat)(buf:List dp)(ss:List (List dp))(y:ByteArray)(hP:sO vM vK w F b buf ss)(hs:y.size<=g7) :
  g8 prog 25 #[.pointer (some ⟨b,0,none⟩),.string y] w λe w'=>e=.returned (.int .i64 (gC buf ss y.data.toList).1)/\
   ∃F':Nat->Prop,sO vM vK w' F' b buf (gC buf ss y.data.toList).2/\(∀k,F' k->F k\/w.heap.size<=k)/\dw F w w':=by
 have HP:m1 _:=hP;obtain⟨i9,aT,aU,aV,aW⟩:=hf uK;obtain⟨hF,Bb,vS,hE⟩:=hP;obtain⟨aS,cS,rfl,bi⟩:=dN hE.row;have HE:m1 _:=hE;have HF:m1 _:=hF;have ah:=dn hE.blk;have h6:=hE.inv.qg;have HI:m1 (Inv buf (gC buf ss y.data.toList).2):=Qc hE.inv _;have bj:=qM hE.inv;have az:=hF b hE.fb;have Y:=FY y w hs;clear hF hE
 cases hu:kM y.data.toList with
 |none=>
  have HU:m1 (gC buf ss y.data.toList=(7,ss)):=by show gC _ _ _=_;unfold gC;rw[hu]
  rw[hu]at Y;clear hu;go_enter kt,kl;go_wp2_with fail;refine Y.mono ?_;rintro e w1 ⟨O,ho1⟩;unfold Qh at ho1;subst ho1;have aa:m1 _:=O;clear O Y;go_wp2;go_ret;refine⟨eI (by rw[HU.out];rfl),F,?_,λk hk=>Or.inl hk,dw.eQ aa.out⟩;rw[HU.out];exact sO.below HP.out aa.out
 |some l=>
  have aD:m1 (dK l=y.data.toList):=(sw hu).2;have ak:m1 (kz l):=(sw hu).1;have HU:m1 (gC buf ss y.data.toList=if 0<buf.length then(3,ss)else if 6<ss.length+1\/30<(dP (ss++[l]) []).length then(4,ss)else(0,ss++[l])):=by show gC _ _ _=_;unfold gC;rw[hu]
  have aX:y.size<=281474976710656:=by
   have h1:=pB ak.out;rw[aD.out]at h1;have:y.data.toList.length=y.size:=by simp
   omega
  rw[hu]at Y;clear hu;by_cases ai:0<buf.length
  .have U:m1 (gC buf ss y.data.toList=(3,ss)):=by show gC _ _ _=_;rw[HU.out,if_pos ai]
   have ac:(0:Int)<(buf.length:Int):=by omega
   clear ai;go_enter kt,kl;go_wp2_with fail;refine Y.mono ?_;rintro e w1 ⟨O,ho1⟩;unfold Qh at ho1;obtain⟨D,rfl,hD,aj⟩:=ho1;have aa:m1 _:=O;have au:=g6 O (ah 0);have ad:=λ(ty:g9)=>dM.len (dM.below HE.out.say O) j1 ty;rw[dd]at ad;clear O Y aj;go_wp2;go_ret;refine⟨eI (by rw[U.out];rfl),F,?_,λk hk=>Or.inl hk,dw.eQ aa.out⟩;rw[U.out];exact sO.below HP.out aa.out
  have a5:buf=[]:=ev.1 (by omega);by_cases aY:6<=ss.length
  .have U:m1 (gC buf ss y.data.toList=(4,ss)):=by show gC _ _ _=_;rw[HU.out,if_neg ai,if_pos (Or.inl (by omega))]
   have aE:(6:Int)<=(ss.length:Int):=by omega
   have ac:buf.length=0:=by omega
   clear ai aY a5;go_enter kt,kl;go_wp2_with fail;refine Y.mono ?_;rintro e w1 ⟨O,ho1⟩;unfold Qh at ho1;obtain⟨D,rfl,hD,aj⟩:=ho1;have aa:m1 _:=O;have au:=g6 O (ah 0);have aF:=g6 O (ah 1);have ad:=λ(ty:g9)=>dM.len (dM.below HE.out.say O) j1 ty;rw[dd,ac]at ad;clear O Y aj ac;go_wp2;go_ret;refine⟨eI (by rw[U.out];rfl),F,?_,λk hk=>Or.inl hk,dw.eQ aa.out⟩;rw[U.out];exact sO.below HP.out aa.out
  have aZ:m1 (dv (eu [dP ss buf,l])=dP (ss++[l]) []):=by show _=_;rw[a5];exact JG ss l
  have aE:¬(6:Int)<=(ss.length:Int):=by omega
  have ac:buf.length=0:=by omega
  have a6:m1 (gC buf ss y.data.toList=if 30<(dv (eu [dP ss buf,l])).length then(4,ss)else(0,ss++[l])):=by
   show gC _ _ _=_;rw[HU.out,if_neg ai,aZ.out];by_cases h:30<(dP (ss++[l]) []).length;rw[if_pos (Or.inr h),if_pos h];rw[if_neg (by rintro(h'|h');omega;exact h h'),if_neg h]
  clear ai a5;go_enter kt,kl;go_wp2_with fail;refine Y.mono ?_;rintro e w1 ⟨O,ho1⟩;unfold Qh at ho1;obtain⟨D,rfl,hD,aj⟩:=ho1;have ba:=O.size;have aa:m1 _:=O;have au:=g6 O (ah 0);have aF:=g6 O (ah 1);have ad:=λ(ty:g9)=>dM.len (dM.below HE.out.say O) j1 ty;rw[dd,ac]at ad;have bc:m1 _:=aj;have aG:=tQ F b buf ss Bb _ vM vK w1 (HE.out.stay (λk hk=>O.block k (HF.out k hk)));have bk:(dP ss buf).length<=30:=HE.out.inv.all;clear O Y aj;go_wp2_with fail;refine aG.mono ?_;rintro e w2 ⟨C,rfl,hC,aH,ab⟩;have bl:=ab.size;have bd:m1 (Below w.heap.size w w2):=aa.out.trans (ab.mono ba)
  have aI:=ua _ [C,D] [dP ss buf,l] _ (Tf (t:=85) rfl aH (dM.below bc.out ab)) (by
    have:=lm ak.out;simp[ic]
    omega) (by
    intro x hx e he;simp only[ei,dt,or_false]at hx;rcases hx with rfl|rfl
    exact wY HE.out.inv e he
    exact mI ak.out e he)
  clear aG ab aH ad ac;go_wp2_with fail;refine aI.mono ?_;rintro e w3 ⟨M,rfl,hM,aJ,a7⟩;have bm:w2.heap.size<=w3.heap.size:=by have:=a7.size;simp at this;omega
  have be:m1 (Below w.heap.size w w3):=(bd.out.alloc (by omega) _).trans (a7.mono (by simp;omega))
  have aK:=oF M _ w3 aJ (by
    have h1:=sQ [dP ss buf,l] 2 (by simp);have:=lm ak.out;simp only[g5]at h1;have h2:ic [dP ss buf,l]<=1000:=by simp[ic];omega
    omega) (oB (by
    intro x hx e he;simp only[ei,dt,or_false]at hx;rcases hx with rfl|rfl
    exact wY HE.out.inv e he
    exact mI ak.out e he))
  clear aI a7 aJ;go_wp2_with fail;refine aK.mono ?_;rintro e w4 ⟨N,rfl,hN,aL,a8⟩;have bn:=a8.size;have ae:m1 (Below w.heap.size w w4):=be.out.trans (a8.mono (by omega));have al:=λ(ty:g9)=>dM.len aL j1 ty;rw[dd]at al;clear aK a8 aL;by_cases ao:30<(dv (eu [dP ss buf,l])).length
  .have U:m1 (gC buf ss y.data.toList=(4,ss)):=by show gC _ _ _=_;rw[a6.out,if_pos ao]
   have av:(30:Int)<((dv (eu [dP ss buf,l])).length:Int):=by omega
   clear ao;go_wp2;go_ret;refine⟨eI (by rw[U.out];rfl),F,?_,λk hk=>Or.inl hk,dw.eQ ae.out⟩;rw[U.out];exact sO.below HP.out ae.out
  have U:m1 (gC buf ss y.data.toList=(0,ss++[l])):=by show gC _ _ _=_;rw[a6.out,if_neg ao]
  have av:¬(30:Int)<((dv (eu [dP ss buf,l])).length:Int):=by omega
  have aM:m1 (Inv buf (ss++[l])):=by have:=HI.out;rw[U.out]at this;exact this
  have ap:m1 (Below w.heap.size w w4.drew):=⟨ae.out.os,ae.out.tape,ae.out.output,ae.out.size,ae.out.block⟩;have jP:=sI y w4.drew aX;have bo:w4.cell? ⟨b,1,none⟩=some (.slice aS ss.length cS):=g6 ae.out (ah 1);clear ao a6 HU;go_wp2_with fail;clear av al aE;refine ha (S:=λw'=>True) (by kernel_rfl) ?_;refine fJ 0 ?_ trivial ?_<|fJ 1 ?_ trivial ?_<|fJ 2 ?_ trivial ?_<|fJ 3 ?_ trivial ?_<|fJ 5 ?_ trivial ?_ ?_
  any_goals(rintro w' _;go_simp;first|done|with_reducible rfl)
  refine h9 (rs:=[4,6]) (by kernel_rfl) (by simp) ?_;intro i hi;simp only[ei,dt,or_false]at hi;rcases hi with rfl|rfl
  case' inl=>
   refine h7 (by rfl) λK' B=>?_;rw[if_pos (by rfl)];unfold m2;go_simp;refine B _ _ ⟨trivial,?_⟩;clear B;refine j9 6 λK' B=>?_;unfold m2;go_simp;refine jP.mono ?_;rintro e x2 ⟨rfl,ab⟩;have W:Below w.heap.size w x2:=ap.out.trans (ab.mono ap.out.size);have aw:=W.size;have aq:x2.heap[b]?=some (.cells #[.map (some Bb),.slice aS ss.length cS,vM,vK] 90 (0,0)):=by rw[W.block b az];exact HE.out.blk
   have aN:=dn aq 1;refine B _ _ ⟨trivial,?_⟩;clear B jP ab;refine j9 7 λK' B=>?_;unfold m2;go_simp
  case' inr=>
   refine h7 (by rfl) λK' B=>?_;rw[if_pos (by rfl)];unfold m2;go_simp;refine jP.mono ?_;rintro e x2 ⟨rfl,ab⟩;have W:Below w.heap.size w x2:=ap.out.trans (ab.mono ap.out.size);have aw:=W.size;have aq:x2.heap[b]?=some (.cells #[.map (some Bb),.slice aS ss.length cS,vM,vK] 90 (0,0)):=by rw[W.block b az];exact HE.out.blk
   have aN:=dn aq 1;refine B _ _ ⟨trivial,?_⟩;clear B jP ab;refine h9 (rs:=[4,7]) (by kernel_rfl) (by simp) ?_;intro i hi;simp only[ei,dt,or_false]at hi;rcases hi with rfl|rfl
   case' inl=>
    refine h7 (by rfl) λK' B=>?_;rw[if_pos (by rfl)];unfold m2;go_simp;refine B _ _ ⟨trivial,?_⟩;clear B;refine j9 7 λK' B=>?_;unfold m2;go_simp
   case' inr=>
    refine h7 (by rfl) λK' B=>?_;rw[if_pos (by rfl)];unfold m2;go_simp
  all_goals
   obtain⟨x3,ar⟩:∃x3,x3=x2.alloc (.cells #[.string y] 9):=⟨_,rfl⟩;rw[<-ar];have ax:Below x2.heap.size x2 x3:=by rw[ar];exact(m3 _ _).alloc (hZ _) _
   have aO:Rd x3 (.slice (some ⟨x2.heap.size,0,none⟩) 1 1) (dl [y.data.toList]):=by rw[ar,show dl [y.data.toList]=[.string y]from rfl];exact Rd.one iH
   have af:Below w.heap.size w x3:=W.trans (ax.mono aw);have am:x3.heap[b]?=some (.cells #[.map (some Bb),.slice aS ss.length cS,vM,vK] 90 (0,0)):=by rw[af.block b az];exact HE.out.blk
   have a9:x3.ownsRow 0 9 1 (.slice aS ss.length cS) ss.length (dl (ss.map dK)):=eH HE.out.row (λk hk=>af.block k (HF.out k (HE.out.lr k hk)));have aP:=dn am 1;refine B _ _ ⟨trivial,?_⟩;clear B ar ax
  refine j9 4 λK' B=>?_;unfold m2;go_simp;refine B _ _ ⟨trivial,?_⟩;clear B
  all_goals
   refine j9 8 λK' B=>?_;refine qe _ _ _ 31 rfl 0 9 i9 (.string ⟨#[]⟩) 16 jv aT aU aV aW rfl _ _ _ rfl a9 _ _ rfl aO jJ (by rw[dD];simp;omega) (by rw[dD];unfold g7;simp;omega) (ip _) ?_;intro v4 x4 a' aA aQ;obtain⟨a4,c4,rfl,bp⟩:=dN a';have aB:x4.heap[b]?=some (.cells #[.map (some Bb),.slice aS ss.length cS,vM,vK] 90 (0,0)):=by rw[aA.block b (eS am) (λe=>oX am a9 (by decide) e.symm)];exact am
   refine B _ _ ⟨trivial,?_⟩;clear B
   have an:x4.ownsRow 0 9 1 (.slice a4 (ss.length+(dl [y.data.toList]).length) c4) (ss++[l]).length (dl ((ss++[l]).map dK)):=by
    rw[List.map_append,cc,show dl (ss.map dK++[l].map dK)=dl (ss.map dK)++dl [y.data.toList] by simp[dl,aD.out]];exact a'
   have ag:=HE.out.iB HF.out af (dw.CP aA) an (λk hk=>by
    rcases aQ with h|h
    exact Or.inl (h.symm.trans hk)
    have bf:=h.symm.trans hk;cases bf;exact Or.inr (hZ _))
   refine fJ 9 ?_ trivial ?_<|fJ 10 ?_ trivial ?_ ?_
   any_goals(rintro w' _;go_simp;first|done|with_reducible rfl)
   have bg:=dn aB 1;have bh:=dO aB 1;clear a' aA aQ an aB a9 aO am aP af W aq aN;refine j9 11 λK' B=>?_;unfold m2;go_simp;refine B _ _ ⟨trivial,hw (by kernel_rfl) ?_ _⟩;clear B bg bh;obtain⟨x5,aC⟩:∃x5,x5=x4.setCell ⟨b,1,none⟩ (.slice a4 (ss.length+(dl [y.data.toList]).length) c4):=⟨_,rfl⟩;have ay:x5.heap.size=x4.heap.size:=by rw[aC];simp[ne]
   rw[<-aC]at ag⊢;rw[<-ay]at ag;have aR:m1 (∃F':Nat->Prop,sO vM vK x5 F' b buf (ss++[l])/\(∀k,F' k->F k\/w.heap.size<=k)/\dw F w x5):=BC HE.out HF.out ag aM.out;clear aC ay ag;go_wp2;go_ret;refine⟨eI (by rw[U.out];rfl),?_⟩;rw[U.out];exact aR.out
def th{P:Program}(w:World)(t ty elem:g9)(g off k c:Nat)(z:Value)(y:Array Value)(T:g9)(hu:P.underlying t=some (.slice elem))(hz:(zeroValue elem).run P w=.ok z w)(B:z.cells=#[z])(h1:z.oneCell'=true)
  (hg:w.heap[g]?=some (.cells y T (0,0))) (hk:0<k) (aa:off+k<=y.size) :
  ∃O:List Value,O.length=y.size/\(∀j,j<off->O[j]?=y[j]?)/\(n4 #[t] ty #[.slice (some ⟨g,off,none⟩) k c]).run P w=.ok (.tuple #[]) (w.setRow g O.toArray):=by
 obtain⟨k',rfl⟩:∃k',k=k'+1:=⟨k-1,by omega⟩;have U:(n0 #[z] (k'+1)).toList.length=k'+1:=by simp[size_zeroCells]
 have W:∀v∈(n0 #[z] (k'+1)).toList,v.oneCell'=true:=by
  intro v hv;simp[n0,Nat.mod_one]at hv;rw[<-hv.2];exact h1
 have Y:=run_storeCells_at P g off T _ 0 y w hg (by omega) W;refine⟨y.toList.take (off+0)++(n0 #[z] (k'+1)).toList++y.toList.drop (off+0+(n0 #[z] (k'+1)).toList.length),?_,?_,?_⟩;rw[cc,cc,U];simp;omega;intro j hj;rw[dr,cx (by simp;omega),dk,if_pos (by omega)];simp;unfold n4;simp[run_underlying hu,hz,B,Y]
def pN{w:World}{g:Nat}{cs:Array Value}:dw (· = g) w (w.setRow g cs):=⟨rfl,rfl,rfl,by simp[World.setRow],λk _ y=>setRow_other w g k cs (λe=>y (by omega))⟩
def tB{w':World}{e m:Nat}{g cap:Nat}{O:List Value}{B:Array Value}(hm:m<=cap)(y:cap<=g7)(Y:O.length=m)(U:w'.heap[g]?=some (.cells B e (0,0)))(hl:B.size=cap)(W:∀j,j<m->B[j]?=O[j]?):w'.ownsRow 0 e 1 (.slice (some ⟨g,0,none⟩) m cap) m O:=by
 refine⟨by omega,Or.inr ⟨g,cap,B,rfl,ip _,U,hm,y,by omega,?_⟩⟩;apply List.ext_getElem?;intro j;rw[dk];split;rw[m7];exact W j (by omega);rw[List.getElem?_eq_none (by omega)]
def xE{P:Program}(w:World)(t ty e:g9)(i:TypeInfo)(ht:P.underlying t=some (.slice e))(hi:P.info? e=some i)(y:i.size=1)(g n c:Nat)(B:Array Value)(hg:w.heap[g]?=some (.cells B e (0,0)))(Y:B.size=c)
  (x:Value) (news:List Value) (hx:Rd w x news) (h1:∀u∈news,u.oneCell'=true) (O:n+news.length<=c) :
  ∃l':List Value,l'.length=c/\(∀j,j<n->l'[j]?=B[j]?)/\(∀j,j<news.length->l'[n+j]?=news[j]?)/\(n3 #[t,t] ty #[.slice (some ⟨g,0,none⟩) n c,x]).run P w=.ok (.slice (some ⟨g,0,none⟩) (n+news.length) c) (w.setRow g l'.toArray):=by
 obtain⟨a,cap,rfl,hc,hm,aa⟩:=hx
 cases a with
 |none=>
  have hn:news=[]:=by
   cases news with
   |nil=>rfl|cons u us=>obtain⟨b,off,he,_⟩:=aa 0 u rfl;simp at he
  subst hn;refine⟨B.toList,by simpa using Y,λj _=>by simp,nofun,?_⟩;have:=kL (P:=P) w t ty e i ht hi (some ⟨g,0,none⟩) n c cap (by omega);simp only[ff,i7];rw[this,hY w g B e _ hg]
 |some ad=>
  have U:∀j u,news[j]?=some u->w.cell? (ad.add j)=some u:=by
   intro j u hj;obtain⟨b,off,he,W⟩:=aa j u hj;simp only[nl]at he;subst he;rw[Addr.add_lit];exact W
  have hl:news.length=news.length*i.size:=by rw[y];omega
  have ab:=run_append_room (P:=P) w t ty e i ht hi g n c B hg ad _ cap news hl U h1 O (by rw[y];omega);rw[y,Nat.mul_one]at ab;have jP:B.toList.length=c:=by simpa using Y
  refine⟨_,?_,?_,?_,ab⟩;simp only[cc,cp,dm,jP];omega;intro j hj;rw[dr,cx (by rw[cp];omega),dk,if_pos hj];simp;intro j hj;rw[dr,dj (by rw[cp];omega),cp,iv (by omega),i6,cx hj]
def tY{P:Program}(w:World){ops:Array Oper}{rest:List Oper}{o:Oper}{a:Act}{Q:Exit->Act->World->Prop}(Y:o.guard=none)(s x:Operand)(t:g9)
  (ho:o.op=.call {callee:=.builtin .append,args:=#[s,x],argTypes:=#[t,t]}) (e:g9) (i:TypeInfo) (ht:P.underlying t=some (.slice e)) (hi:P.info? e=some i) (O:i.size=1) (g n c:Nat) (B:Array Value) (hg:w.heap[g]?=some (.cells B e (0,0))) (aa:B.size=c)
  (hs:a.eval s=.slice (some ⟨g,0,none⟩) n c) (y:Value) (news:List Value) (hx:a.eval x=y) (hy:Rd w y news) (h1:∀u∈news,u.oneCell'=true) (U:n+news.length<=c)
  (h:∀W:List Value,W.length=c->(∀j,j<n->W[j]?=B[j]?)->(∀j,j<news.length->W[n+j]?=news[j]?)->hJ P ops Q rest (a.put o.dst (.slice (some ⟨g,0,none⟩) (n+news.length) c)) (w.setRow g W.toArray)):hJ P ops Q (o::rest) a w:=by
 refine hX Y λ_ hK=>?_;obtain⟨W,h2,h3,h4,hr⟩:=xE (P:=P) w t o.type e i ht hi O g n c B hg aa y news hy h1 U;unfold m2 hV;simp only[ho,hI,invoke,builtin,oo,on,ot,et,er,ez,hs,hx,hr];exact hK _ _ (h W h2 h3 h4)
def Hq(w:World)(g n cap:Nat)(xs:List Wd)(v:Value)(ps:List Wd)(U:w.ownsRow 0 9 1 (.slice (some ⟨g,0,none⟩) xs.length cap) xs.length (dl xs))(hv:Rd w v (dl ps))(aG:ps.length<=1)(hn:n+2=xs.length)(aq:xs.length<=6) :
  g8 prog 74 #[.slice (some ⟨g,0,none⟩) xs.length cap,.int .i64 n,.int .i64 ((n:Int)+2),v] w λe w'=>∃v',e=.returned v'/\w'.ownsRow 0 9 1 v' (xs.take n++ps).length (dl (xs.take n++ps))/\dw (· = g) w w'/\∀k,v'.ownBlock=some k->k=g\/w.heap.size<=k:=by
 obtain⟨i9,ar,_,au,_⟩:=hf uK;obtain⟨av,cv,rfl,aw,hmv,ax⟩:=id hv;rw[dD]at aw⊢;rcases U.2 with⟨he,_⟩|⟨g',aD,ab,he,_,hg,ay,hcm,az,ad⟩
 .cases he
 simp only[m9,nl,o1,and_true,true_and]at he;obtain⟨rfl,rfl⟩:=he
 have ae:∀j,j<n->ab[j]?=(dl (xs.take n))[j]?:=by
  intro j hj;have h1:=congrArg (λl:List Value=>l[j]?) ad;simp only[dk]at h1;rw[if_pos (by omega),m7]at h1;rw[h1];unfold dl;rw[eg,eg,dk,if_pos hj]
 obtain⟨L,hL⟩:∃L,L=xs.length:=⟨_,rfl⟩;rw[<-hL]at aq hn ay⊢;have HV:m1 (Rd w (.slice av ps.length cv) (dl ps)):=by have:=hv;rw[dD]at this;exact this
 have HG:m1 _:=hg;have W:ab.size=cap:=by omega
 have HC:m1 _:=W;have hj:IntKind.i64.wrap ((n:Int)+2)=(n:Int)+2:=by simp only[no];omega
 have aH:((n:Int)==(n:Int)+2)=false:=beq_eq_false_iff_ne.2 (by omega);have aI:(((n:Int)+2)==(L:Int))=true:=beq_iff_eq.2 (by omega);have aE:(n:Int)+2<=(cap:Int):=by omega
 have aJ:¬cap=n:=by omega
 have y:m1 _:=hn;have af:m1 _:=hL;have a5:m1 _:=ae;unfold g7 at hcm hmv;clear hv U ax hg az ad ae hL W hn;go_enter func74,ntmps74;have ag:n+(dl ps).length<=cap:=by rw[dD];omega
 go_wp2_with (first
  |(at_builtin;refine tY _ rfl _ _ 31 rfl 9 i9 jv ar au g n cap ab HG.out HC.out rfl _ _ rfl HV.out jJ ag ?_))
 intro l1 ah ai ac;rw[dD]at ac⊢;obtain⟨w1,B⟩:∃w1,w1=w.setRow g l1.toArray:=⟨_,rfl⟩;rw[<-B];have aj:m1 (w1.heap[g]?=some (.cells l1.toArray 9 (0,0))):=by show _=_;rw[B];exact h8 w g _ _ _ _ HG.out
 have a6:m1 (dw (· = g) w w1):=by show dw _ _ _;rw[B];exact pN
 have a7:m1 _:=ai;have a8:m1 _:=ac;have ak:m1 _:=ah;have aK:((n+ps.length:Nat):Int)<(L:Int):=by have:=y.out;omega
 have aF:¬cap=n+ps.length:=by have:=y.out;omega
 clear ah ai ac B ag;have al:0<L-(n+ps.length):=by have:=y.out;omega
 have Y:n+ps.length+(L-(n+ps.length))<=l1.toArray.size:=by have:=y.out;have:=ak.out;simp;omega
 obtain⟨l2,am,an,a9⟩:=th (P:=prog) w1 31 0 9 g (n+ps.length) (L-(n+ps.length)) (cap-(n+ps.length)) (.string ⟨#[]⟩) l1.toArray 9 jv (j3 w1) rfl rfl aj.out al Y;obtain⟨w2,O⟩:∃w2,w2=w1.setRow g l2.toArray:=⟨_,rfl⟩;rw[<-O]at a9;have a':m1 (w2.heap[g]?=some (.cells l2.toArray 9 (0,0))):=by show _=_;rw[O];exact h8 w1 g _ _ _ _ aj.out
 have aA:m1 (dw (· = g) w w2):=by show dw _ _ _;rw[O];exact a6.out.then pN
 have aB:m1 (∀j,j<n+ps.length->l2[j]?=l1[j]?):=λj hj=>by have:=an j hj;simpa using this
 have aC:m1 (l2.length=cap):=by show _=_;rw[am];simpa using ak.out
 clear am an O al Y;go_wp2;go_ret;refine⟨_,rfl,?_,aA.out,λk hk=>Or.inl (by simp[nv]at hk;exact hk.symm)⟩
 have aa:(xs.take n++ps).length=n+ps.length:=by
  have:=af.out;have:=y.out;rw[cc,cp];omega
 rw[aa];refine tB (by have:=y.out;omega) (by unfold g7;omega) (by rw[dD,aa]) a'.out (by simpa using aC.out) (λj hj=>?_);have e1:(dl (xs.take n++ps))[j]?=(dl (xs.take n)++dl ps)[j]?:=by rw[show dl (xs.take n++ps)=dl (xs.take n)++dl ps by simp[dl]]
 have ao:(dl (xs.take n)).length=n:=by
  have:=af.out;have:=y.out;rw[dD,cp];omega
 rw[e1,e6,aB.out j hj];by_cases ap:j<n;rw[a7.out j ap,cx (by omega),a5.out j ap];rw[dj (by omega),ao,<-a8.out _ (by omega),show n+(j-n)=j by omega]
def tq{P:Program}(w:World)(t ty e:g9)(ht:P.underlying t=some (.slice e))(hi:(P.info? e).map (·.size)=some 1)(g off Y dc c:Nat)(y:Array Value)(hg:w.heap[g]?=some (.cells y e (0,0)))(aa:y.size=c)
  (x:Value) (news:List Value) (hx:Rd w x news) (h1:∀u∈news,u.oneCell'=true) (hd:news.length<=Y) (ab:off+news.length<=c) :
  ∃l':List Value,l'.length=c/\(∀j,j<off\/off+news.length<=j->l'[j]?=y[j]?)/\(∀j,j<news.length->l'[off+j]?=news[j]?)/\(n5 #[t,t] ty #[.slice (some ⟨g,off,none⟩) Y dc,x]).run P w=.ok (.int .i64 (news.length:Int)) (w.setRow g l'.toArray):=by
 obtain⟨a,cap,rfl,hc,hm,W⟩:=hx;have jP:y.toList.length=c:=by simpa using aa
 cases a with
 |none=>
  have hn:news=[]:=by
   cases news with
   |nil=>rfl|cons u us=>obtain⟨b,off,he,_⟩:=W 0 u rfl;simp at he
  subst hn;refine⟨y.toList,jP,λj _=>by simp,nofun,?_⟩;have:=run_copy_none (P:=P) w t t ty e (some ⟨g,off,none⟩) none Y dc 0 cap ht hi (by simp);simp only[ff];rw[this,hY w g y e _ hg];rfl
 |some ad=>
  have O:∀j u,news[j]?=some u->w.cell? (ad.add j)=some u:=by
   intro j u B;obtain⟨b,off,he,U⟩:=W j u B;simp only[nl]at he;subst he;rw[Addr.add_lit];exact U
  have ac:=run_copy_row _ w t t ty e g off Y dc ad _ cap y e news ht hi hg (iv hd).symm O (by omega) h1;refine⟨_,?_,?_,?_,ac⟩;simp only[cc,cp,dm,jP];omega;intro j B;rcases B with B|B
  rw[dr,cx (by rw[cp];omega),dk,if_pos B];simp;rw[dj (by simp only[cc,cp,jP];omega),gd];simp only[cc,cp,jP];rw[iv (by omega),show off+news.length+(j-(off+news.length))=j by omega];simp;intro j B;rw[dr,dj (by rw[cp];omega),cp,iv (by omega),i6,cx B]
def VM:(prog.info? 9).map (·.size)=some 1:=by kernel_rfl
def Ho(w:World)(g n q cap:Nat)(xs:List Wd)(v:Value)(ps:List Wd)(aa:w.ownsRow 0 9 1 (.slice (some ⟨g,0,none⟩) xs.length cap) xs.length (dl xs))(hv:Rd w v (dl ps))(bc:ps.length<=1)(hn:xs.length=n+2+q)(hq:0<q)(a8:xs.length<=6) :
  g8 prog 74 #[.slice (some ⟨g,0,none⟩) xs.length cap,.int .i64 n,.int .i64 ((n:Int)+2),v] w λe w'=>∃v',e=.returned v'/\w'.ownsRow 0 9 1 v' (xs.take n++(ps++xs.drop (n+2))).length (dl (xs.take n++(ps++xs.drop (n+2))))/\dw (· = g) w w'/\∀k,v'.ownBlock=some k->k=g\/w.heap.size<=k:=by
 obtain⟨av,cv,rfl,a9,hmv,a'⟩:=id hv;rw[dD]at a9⊢;rcases aa.2 with⟨he,_⟩|⟨g',aV,y,he,_,hg,aA,hcm,aB,ak⟩
 .cases he
 simp only[m9,nl,o1,and_true,true_and]at he;obtain⟨rfl,rfl⟩:=he
 have al:∀j,j<xs.length->y[j]?=(dl xs)[j]?:=by
  intro j B;have h1:=congrArg (λl:List Value=>l[j]?) ak;simp only[dk]at h1;rw[if_pos (by omega),m7]at h1;exact h1
 have ad:m1 _:=hn;have HV:m1 (Rd w (.slice av ps.length cv) (dl ps)):=by have:=hv;rw[dD]at this;exact this
 have HG:m1 _:=hg;have ab:y.size=cap:=by omega
 have HC:m1 _:=ab;have am:m1 _:=al;rw[hn]at a8 aA⊢;have bd:((n:Int)==(n:Int)+2)=false:=beq_eq_false_iff_ne.2 (by omega);have be:(((n:Int)+2)==((n+2+q:Nat):Int))=false:=beq_eq_false_iff_ne.2 (by omega);have aW:(((n:Int)+2)==(n:Int)+2+(q:Int))=false:=beq_eq_false_iff_ne.2 (by omega);have aX:(n:Int)+2<=(cap:Int):=by omega
 have bf:¬cap=n:=by omega
 have aY:¬cap=n+2:=by omega
 unfold g7 at hcm hmv;clear hv aa a' hg aB ak al ab hn;go_enter func74,ntmps74;go_wp2_with fail;go_quiet (fail);have an:m1 ((w.drewN nq).heap[g]?=some (.cells y 9 (0,0))):=HG.out;have aC:m1 (Rd (w.drewN nq) (.slice av ps.length cv) (dl ps)):=HV.out;have aD:m1 (dw (· = g) w (w.drewN nq)):=⟨rfl,rfl,rfl,hZ _,λ_ _ _=>rfl⟩;generalize w.drewN nq=wd at *;obtain⟨l1,ao,ae,af,ag⟩:=tq (P:=prog) wd 31 3 9 jv VM g n (n+ps.length+q-n) (cap-n) cap y an.out HC.out (.slice av ps.length cv) (dl ps) aC.out jJ (by rw[dD];omega) (by rw[dD];omega);rw[dD]at ae af ag;obtain⟨w1,O⟩:∃w1,w1=wd.setRow g l1.toArray:=⟨_,rfl⟩;rw[<-O]at ag;have ah:m1 (w1.heap[g]?=some (.cells l1.toArray 9 (0,0))):=by show _=_;rw[O];exact h8 wd g _ _ _ _ an.out
 have aE:m1 (dw (· = g) w w1):=by show dw _ _ _;rw[O];exact aD.out.then pN
 have ap:m1 _:=ae;have aF:m1 _:=af;have aG:m1 _:=ao;have aZ:¬cap=n+ps.length:=by omega
 have bg:(n:Int)+(ps.length:Int)<=(n:Int)+2:=by omega
 clear ao ae af O;go_wp2_with fail;clear ag;have aH:IntKind.i64.wrap ((n:Int)+(ps.length:Int))=(n:Int)+(ps.length:Int):=by simp only[no];omega
 have hA:(0:Int)<=(n:Int)+(ps.length:Int):=by omega
 have hB:(n:Int)+(ps.length:Int)<=(n:Int)+(ps.length:Int)+(q:Int):=by omega
 have hT:((n:Int)+(ps.length:Int)).toNat=n+ps.length:=by omega
 have aI:(0:Int)<=(n:Int)+2:=by omega
 have aJ:(n:Int)+2<=(n:Int)+2+(q:Int):=by omega
 have aK:((n:Int)+2).toNat=n+2:=by omega
 refine ha (S:=λw'=>True) (by kernel_rfl) ?_;refine fJ 0 ?_ trivial ?_<|fJ 1 ?_ trivial ?_<|fJ 2 ?_ trivial ?_<|fJ 3 ?_ trivial ?_<|fJ 4 ?_ trivial ?_<|fJ 5 ?_ trivial ?_<|fJ 6 ?_ trivial ?_<|fJ 7 ?_ trivial ?_<|fJ 8 ?_ trivial ?_ ?_
 any_goals(rintro w' _;go_simp;first|done|with_reducible rfl)
 refine j9 9 λK' aq=>?_;unfold m2;go_simp;have U:(dl (xs.drop (n+2))).length=q:=by rw[dD,dm,ad.out];omega
 have ar:Rd w1.drew (.slice (some ⟨g,n+2,none⟩) q (cap-(n+2))) (dl (xs.drop (n+2))):=by
  refine⟨some ⟨g,n+2,none⟩,cap-(n+2),by rw[U],by rw[U];omega,by unfold g7;omega,λj u B=>⟨g,n+2,rfl,?_⟩⟩
  have bh:j<q:=by
   have:=(List.getElem?_eq_some_iff.1 B).1;omega
  show w1.cell? _=_;rw[dn ah.out];show l1.toArray[n+2+j]?=_;rw[e6,ap.out _ (Or.inr (by omega)),am.out _ (by rw[ad.out];omega),<-B];unfold dl;rw[eg,eg,gd]
 obtain⟨l2,au,ai,aj,aw⟩:=tq (P:=prog) w1.drew 31 3 9 jv VM g (n+ps.length) q (cap-(n+ps.length)) cap l1.toArray ah.out (by simpa using aG.out) _ _ ar jJ (by omega) (by omega);rw[aw];rw[U]at ai aj;obtain⟨w2,W⟩:∃w2,w2=w1.drew.setRow g l2.toArray:=⟨_,rfl⟩;rw[<-W];have ax:m1 (w2.heap[g]?=some (.cells l2.toArray 9 (0,0))):=by show _=_;rw[W];exact h8 w1.drew g _ _ _ _ ah.out
 have aL:m1 (dw (· = g) w w2):=by
  show dw _ _ _;rw[W];have h1:dw (· = g) w1 w1.drew:=⟨rfl,rfl,rfl,hZ _,λ_ _ _=>rfl⟩;exact(aE.out.then h1).then pN
 have ay:m1 (∀j,j<n+ps.length\/n+ps.length+q<=j->l2[j]?=l1[j]?):=λj B=>by have:=ai j B;simpa using this
 have aM:m1 _:=aj;have az:m1 _:=au;clear au ai aj aw W ar U;refine aq _ _ ⟨trivial,hw (by kernel_rfl) ?_ _⟩;clear aq aH hA hB hT aI aJ aK;have ba:¬cap=n+ps.length+q:=by omega
 obtain⟨l3,a5,a6,aN⟩:=th (P:=prog) w2 31 0 9 g (n+ps.length+q) (n+2+q-(n+ps.length+q)) (cap-(n+ps.length+q)) (.string ⟨#[]⟩) l2.toArray 9 jv (j3 w2) rfl rfl ax.out (by omega) (by have:=az.out;simp;omega);obtain⟨w3,Y⟩:∃w3,w3=w2.setRow g l3.toArray:=⟨_,rfl⟩;rw[<-Y]at aN;have aO:m1 (w3.heap[g]?=some (.cells l3.toArray 9 (0,0))):=by show _=_;rw[Y];exact h8 w2 g _ _ _ _ ax.out
 have aP:m1 (dw (· = g) w w3):=by show dw _ _ _;rw[Y];exact aL.out.then pN
 have aQ:m1 (∀j,j<n+ps.length+q->l3[j]?=l2[j]?):=λj B=>by have:=a6 j B;simpa using this
 have aR:m1 (l3.length=cap):=by show _=_;rw[a5];simpa using az.out
 clear a5 a6 Y;go_wp2;go_ret;refine⟨_,rfl,?_,aP.out,λk hk=>Or.inl (by simp[nv]at hk;exact hk.symm)⟩;have bi:=ad.out
 have ac:(xs.take n++(ps++xs.drop (n+2))).length=n+ps.length+q:=by
  rw[cc,cc,cp,dm];omega
 have aS:(dl (xs.take n)).length=n:=by rw[dD,cp];omega
 have aT:(dl ps).length=ps.length:=dD ps;rw[ac];refine tB (by omega) (by unfold g7;omega) (by rw[dD,ac]) aO.out (by simpa using aR.out) (λj B=>?_);rw[show dl (xs.take n++(ps++xs.drop (n+2)))=dl (xs.take n)++(dl ps++dl (xs.drop (n+2))) by simp[dl],e6,aQ.out j B];by_cases a7:j<n;rw[ay.out j (Or.inl (by omega)),ap.out j (Or.inl a7),am.out j (by omega),cx (by omega)];unfold dl;rw[eg,eg,dk,if_pos a7];rw[dj (by omega),aS];by_cases aU:j<n+ps.length;rw[ay.out j (Or.inl aU),cx (by omega),<-aF.out (j-n) (by omega),show n+(j-n)=j by omega];rw[dj (by omega),aT,<-aM.out (j-n-ps.length) (by omega),show n+ps.length+(j-n-ps.length)=j by omega]
def H9(w:World)(g n cap:Nat)(xs:List Wd)(v:Value)(ps:List Wd)(y:w.ownsRow 0 9 1 (.slice (some ⟨g,0,none⟩) xs.length cap) xs.length (dl xs))(U:Rd w v (dl ps))(B:ps.length<=1)(W:n+2<=xs.length)(O:xs.length<=6) :
  g8 prog 74 #[.slice (some ⟨g,0,none⟩) xs.length cap,.int .i64 n,.int .i64 ((n:Int)+2),v] w λe w'=>∃v',e=.returned v'/\w'.ownsRow 0 9 1 v' (xs.take n++(ps++xs.drop (n+2))).length (dl (xs.take n++(ps++xs.drop (n+2))))/\dw (· = g) w w'/\∀k,v'.ownBlock=some k->k=g\/w.heap.size<=k:=by
 by_cases h:n+2=xs.length;have e:xs.drop (n+2)=[]:=fs (by omega);rw[e,ef];exact Hq w g n cap xs v ps y U B h O;exact Ho w g n (xs.length-(n+2)) cap xs v ps y U B (by omega) (by omega) O
def oM(ss:List (List dp))(m:Nat)(l:List dp):List (List dp):=ss.take m++((if 0<l.length then [l]else [])++ss.drop (m+2))
def vg(ss:List (List dp))(m:Nat)(l:List dp):(oM ss m l).map dK=(ss.map dK).take m++(iP l++(ss.map dK).drop (m+2)):=by
 unfold oM iP;split<;>simp
def Ug(b g m B:Nat)(x y:Wd)(n:Nat)(w':World):Prop:=w'.cell? ⟨b,1,none⟩=some (.slice (some ⟨g,0,none⟩) n B)/\w'.cell? ⟨g,m,none⟩=some (.string ⟨x.toArray⟩)/\w'.cell? ⟨g,m+1,none⟩=some (.string ⟨y.toArray⟩)
def Uc(w:World)(F:Nat->Prop)(b:Nat)(buf:List dp)(ss:List (List dp))(n:Int)(hP:sO vM vK w F b buf ss) :
  g8 prog 39 #[.pointer (some ⟨b,0,none⟩),.int .i64 n] w λe w'=>e=.returned (.int .i64 (eZ ss n).1)/\
   ∃F':Nat->Prop,sO vM vK w' F' b buf (eZ ss n).2/\(∀k,F' k->F k\/w.heap.size<=k)/\dw F w w':=by
 have HP:m1 _:=hP;obtain⟨hF,Bb,vS,hE⟩:=hP;obtain⟨aS,cS,rfl,bo⟩:=dN hE.row;have HF:m1 _:=hF;have aK:=dn hE.blk 1;have h6:=hE.inv.qg;have bc:=hF b hE.fb;have U:m1 _:=hE;clear hF hE;by_cases h0:n<0
 .have HU:m1 (eZ ss n=(6,ss)):=by show eZ _ _=_;unfold eZ;rw[if_pos (Or.inl h0)]
  go_enter mx,mb;go_wp2;go_ret;refine⟨eI (by rw[HU.out];rfl),F,?_,λk hk=>Or.inl hk,dw.refl _ _⟩;rw[HU.out];exact HP.out
 have bp:IntKind.i64.wrap ((ss.length:Int)-1)=(ss.length:Int)-1:=by simp only[no];omega
 by_cases h1:(ss.length:Int)-1<=n
 .have HU:m1 (eZ ss n=(6,ss)):=by show eZ _ _=_;unfold eZ;rw[if_pos (Or.inr h1)]
  go_enter mx,mb;go_wp2;go_ret;refine⟨eI (by rw[HU.out];rfl),F,?_,λk hk=>Or.inl hk,dw.refl _ _⟩;rw[HU.out];exact HP.out
 obtain⟨m,rfl⟩:∃m:Nat,n=(m:Int):=⟨n.toNat,by omega⟩;have hm:m+1<ss.length:=by omega
 have am:m<ss.length:=by omega
 obtain⟨g,rfl⟩:∃g,aS=some ⟨g,0,none⟩:=by
  rcases U.out.row.2 with⟨he,_⟩|⟨g,cap,bq,he,_⟩
  simp only[m9]at he;omega;simp only[m9]at he;exact⟨g,he.1⟩
 have an:m1 (jc ss m=if m=0 then dv (dL ss[m] ss[m+1])else dL ss[m] ss[m+1]):=by
  show jc _ _=_;unfold jc;rw[dq,dq,dg am,dg hm];rfl
 have HU:m1 (eZ ss (m:Int)=if 100<jp (jc ss m)then(4,ss)else(0,ss.take m++((if 0<(jc ss m).length then [jc ss m]else [])++ss.drop (m+2)))):=by
  show eZ _ _=_;unfold eZ;rw[if_neg (by omega),Int.toNat_natCast,jM];rfl
 have bd:w.cell? ⟨g,m,none⟩=some (.string ⟨(dK ss[m]).toArray⟩):=by
  obtain⟨b',off,e,hc⟩:=jy U.out.row m (.string ⟨(dK ss[m]).toArray⟩) (by simp[dl,am]);cases e;rw[i']at hc;exact hc
 have be:w.cell? ⟨g,m+1,none⟩=some (.string ⟨(dK ss[m+1]).toArray⟩):=by
  obtain⟨b',off,e,hc⟩:=jy U.out.row (m+1) (.string ⟨(dK ss[m+1]).toArray⟩) (by simp[dl,hm]);cases e;rw[i']at hc;exact hc
 have a6:m1 (∀l∈[ss[m],ss[m+1]],∀e∈l,e.name.length<=g7):=by
  intro l hl e he;simp only[ei,dt,or_false]at hl;rcases hl with rfl|rfl
  exact mI (U.out.inv.iB _ (ch am)) e he;exact mI (U.out.inv.iB _ (ch hm)) e he
 have ao:m1 (eu [ss[m],ss[m+1]]=dL ss[m] ss[m+1]):=by
  show _=_;unfold eu;simp only[gt,gv];rw[lV]
 have a7:m1 (∀e∈dL ss[m] ss[m+1],e.name.length<=g7):=by
  rw[<-ao.out];exact oB a6.out
 have af:m1 ((dL ss[m] ss[m+1]).length<=1000):=by
  have h1:=lm (U.out.inv.iB _ (ch am));have h2:=lm (U.out.inv.iB _ (ch hm));have h3:=sQ [ss[m],ss[m+1]] 2 (by simp);simp only[g5]at h3;rw[ao.out]at h3;have h4:ic [ss[m],ss[m+1]]<=1000:=by simp[ic];omega
  show _<=_;omega
 have br:(0:Int)<=(m:Int):=by omega
 have bs:(m:Int)<(ss.length:Int):=by omega
 have bt:(m:Int)+1<(ss.length:Int):=by omega
 have bu:IntKind.i64.wrap ((m:Int)+1)=(m:Int)+1:=by simp only[no];omega
 have bv:IntKind.i64.wrap ((m:Int)+2)=(m:Int)+2:=by simp only[no];omega
 have bw:((m:Int)+1).toNat=m+1:=by omega
 have bx:(0:Int)<=(m:Int)+1:=by omega
 clear h0;go_enter mx,mb;go_wp2_with fail;have B:(Ug b g m cS (dK ss[m]) (dK ss[m+1]) ss.length) w.drew:=⟨aK,bd,be⟩;refine ha (S:=Ug b g m cS (dK ss[m]) (dK ss[m+1]) ss.length) (by kernel_rfl) ?_;refine fJ 0 ?_ B ?_<|fJ 1 ?_ B ?_<|fJ 2 ?_ B ?_<|fJ 3 ?_ B ?_<|fJ 4 ?_ B ?_<|fJ 5 ?_ B ?_<|fJ 6 ?_ B ?_<|fJ 8 ?_ B ?_<|fJ 9 ?_ B ?_<|fJ 10 ?_ B ?_<|fJ 11 ?_ B ?_<|fJ 12 ?_ B ?_<|fJ 13 ?_ B ?_<|fJ 14 ?_ B ?_<|fJ 15 ?_ B ?_ ?_
 any_goals(rintro w' ⟨s0,s1,s2⟩;go_simp;first|done|with_reducible rfl)
 refine j9 7 λK' y=>?_;unfold m2;go_simp;refine(pq ss[m] w.drew (U.out.inv.iB _ (ch _))).mono ?_;rintro e w1 ⟨C,rfl,hC,aL,O⟩;have a8:Below w.heap.size w w1:=⟨O.os,O.tape,O.output,O.size,O.block⟩;have aM:=a8.size;have ag:(Ug b g m cS (dK ss[m]) (dK ss[m+1]) ss.length) w1:=⟨g6 O B.1,g6 O B.2.1,g6 O B.2.2⟩;refine y _ _ ⟨ag,?_⟩;clear y O;refine j9 16 λK' y=>?_;unfold m2;go_simp;refine(pq ss[m+1] w1 (U.out.inv.iB _ (ch _))).mono ?_;rintro e w2 ⟨D,rfl,hD,aN,Y⟩;have bf:=Y.size;have aO:Below w.heap.size w w2:=a8.trans (Y.mono aM);have ah:(Ug b g m cS (dK ss[m]) (dK ss[m+1]) ss.length) w2:=⟨g6 Y ag.1,g6 Y ag.2.1,g6 Y ag.2.2⟩;have ay:eE w2 C ss[m]:=dM.below aL Y;refine y _ _ ⟨ah,?_⟩;clear y Y aL;refine j9 17 λK' y=>?_;unfold m2;go_simp;have a9:=Tf (t:=85) rfl ay aN;obtain⟨w3,a'⟩:∃w3,w3=w2.alloc (.cells #[.map (some C),.map (some D)] 85):=⟨_,rfl⟩;rw[<-a']at a9⊢;have ac:Below w2.heap.size w2 w3:=by rw[a'];exact(m3 _ _).alloc (hZ _) _
 have ap:=ac.size;have aP:Below w.heap.size w w3:=aO.trans (ac.mono (by omega));have ai:(Ug b g m cS (dK ss[m]) (dK ss[m+1]) ss.length) w3:=⟨g6 ac ah.1,g6 ac ah.2.1,g6 ac ah.2.2⟩;refine y _ _ ⟨ai,?_⟩;clear y ac a';refine j9 18 λK' y=>?_;unfold m2;go_simp
 refine(ua _ [C,D] [ss[m],ss[m+1]] w3 a9 (by
   have h1:=lm (U.out.inv.iB _ (ch (show m<ss.length by omega)));have h2:=lm (U.out.inv.iB _ (ch (show m+1<ss.length by omega)));simp[ic]
   omega) a6.out).mono ?_
 rintro e w4 ⟨M,rfl,hM,aA,ad⟩;have bg:=ad.size;have aB:Below w.heap.size w w4:=aP.trans (ad.mono (by omega));have aC:(Ug b g m cS (dK ss[m]) (dK ss[m+1]) ss.length) w4:=⟨g6 ad ai.1,g6 ad ai.2.1,g6 ad ai.2.2⟩;refine y _ _ ⟨aC,?_⟩;clear y ad;refine fJ 19 ?_ aC ?_ ?_;rotate_left
 .rintro w' ⟨s0,s1,s2⟩;go_simp;first|done|with_reducible rfl
 refine hw (by kernel_rfl) ?_ _;rw[ao.out]at aA;have bh:w.heap.size<=w4.heap.size:=aB.size;have aq:m1 _:=aA;have ar:m1 _:=aB;clear B ag ah ai aC a9 aA ay aN a8 aO aP aB hC hD aM bf ap bg ao a6;generalize dL ss[m] ss[m+1]=X at *;by_cases au:m=0
 case' pos=>
  have az:((m:Int)==0)=true:=beq_iff_eq.2 (by omega);have aD:m1 (jc ss m=dv X):=by show jc _ _=_;rw[an.out,if_pos au]
  have aQ:=oF M _ w4 aq.out (by have:=af.out;omega) a7.out;clear au an;go_wp2_with fail;refine aQ.mono ?_;rintro e w4 ⟨M,rfl,hN,aR,aT⟩;have aq:m1 _:=aR;have af:m1 ((dv X).length<=1000):=iz (pP _) af.out;have ar:m1 (Below w.heap.size w w4):=ar.out.trans (aT.mono bh);clear aQ aR aT az a7;generalize dv X=X at *
 case' neg=>
  have aD:m1 (jc ss m=X):=by show jc _ _=_;rw[an.out,if_neg au]
  have az:((m:Int)==0)=false:=beq_eq_false_iff_ne.2 (by omega);clear au an a7
 all_goals
  have aU:=CS M X w4 aq.out (by have:=af.out;omega);go_wp2_with fail;refine aU.mono ?_;rintro e w6 ⟨rfl,av⟩;have bz:=av.size;have W:m1 (Below w.heap.size w w6):=ar.out.trans (av.mono ar.out.size);have bi:m1 (eE w6 M X):=dM.below aq.out av;have bj:jp X<=1000:=iz (GF _) af.out;clear aU av;by_cases aa:100<jp X
  .have ae:m1 (eZ ss (m:Int)=(4,ss)):=by show eZ _ _=_;rw[HU.out,aD.out,if_pos aa]
   have aj:(100:Int)<(jp X:Int):=by omega
   clear aa;go_wp2;go_ret;refine⟨eI (by rw[ae.out];rfl),F,?_,λk hk=>Or.inl hk,dw.eQ W.out⟩;rw[ae.out];exact sO.below HP.out W.out
  have ae:m1 (eZ ss (m:Int)=(0,oM ss m X)):=by show eZ _ _=_;rw[HU.out,aD.out,if_neg aa];rfl
  have aj:¬(100:Int)<(jp X:Int):=by omega
  have a5:m1 (Inv buf (oM ss m X)):=by have:=Da U.out.inv (m:Int);rw[ae.out]at this;exact this
  have aV:m1 (Below w.heap.size w w6.drew):=⟨W.out.os,W.out.tape,W.out.output,W.out.size,W.out.block⟩;have b0:w6.cell? ⟨b,1,none⟩=some (.slice (some ⟨g,0,none⟩) ss.length cS):=g6 W.out aK
  have aW:=Ds M X w6.drew bi.out (λhp=>a5.out.iB _ (by
   unfold oM;rw[if_pos hp]
   simp))
  clear aa;go_wp2_with fail;clear aj bj;refine ha (S:=λw'=>True) (by kernel_rfl) ?_;refine fJ 0 ?_ trivial ?_<|fJ 1 ?_ trivial ?_<|fJ 2 ?_ trivial ?_<|fJ 3 ?_ trivial ?_<|fJ 5 ?_ trivial ?_<|fJ 6 ?_ trivial ?_<|fJ 7 ?_ trivial ?_<|fJ 8 ?_ trivial ?_ ?_
  any_goals(rintro w' _;go_simp;first|done|with_reducible rfl)
  refine h9 (rs:=[4,9]) (by kernel_rfl) (by simp) ?_;intro i hi;simp only[ei,dt,or_false]at hi;rcases hi with rfl|rfl
  case' inl=>
   refine h7 (by rfl) λK' y=>?_;rw[if_pos (by rfl)];unfold m2;go_simp;refine y _ _ ⟨trivial,?_⟩;clear y;refine j9 9 λK' y=>?_
  case' inr=>
   refine h7 (by rfl) λK' y=>?_;rw[if_pos (by rfl)]
  all_goals
   unfold m2;go_simp;refine aW.mono ?_;rintro e x1 ⟨v1,rfl,aX,aY⟩;have aw:Below w.heap.size w x1:=aV.out.trans (aY.mono aV.out.size);have ak:x1.heap[b]?=some (.cells #[.map (some Bb),.slice (some ⟨g,0,none⟩) ss.length cS,vM,vK] 90 (0,0)):=by rw[aw.block b bc];exact U.out.blk
   have bk:=dn ak 1;refine y _ _ ⟨trivial,?_⟩;clear y aW aY
  case' inr=>
   refine j9 4 λK' y=>?_;unfold m2;go_simp;refine y _ _ ⟨trivial,?_⟩;clear y
  all_goals
   have aE:x1.ownsRow 0 9 1 (.slice (some ⟨g,0,none⟩) (ss.map dK).length cS) (ss.map dK).length (dl (ss.map dK)):=by
    rw[dd];exact eH U.out.row (λk hk=>aw.block k (HF.out k (U.out.lr k hk)))
   have aF:=H9 x1 g m cS (ss.map dK) v1 (iP X) aE aX (vU _) (by rw[dd];omega) (by rw[dd];omega);rw[dd]at aF;refine j9 10 λK' y=>?_;unfold m2;go_simp;refine aF.mono ?_;rintro e x2 ⟨v2,rfl,ax,aG,aZ⟩;obtain⟨ln,aH⟩:∃ln,ln=((ss.map dK).take m++(iP X++(ss.map dK).drop (m+2))).length:=⟨_,rfl⟩;rw[<-aH]at ax;have bl:m1 _:=aH;clear aH;obtain⟨a2,c2,rfl,b1⟩:=dN ax;have aI:x2.heap[b]?=some (.cells #[.map (some Bb),.slice (some ⟨g,0,none⟩) ss.length cS,vM,vK] 90 (0,0)):=by rw[aG.block b (eS ak) (λe=>oX ak aE (by decide) (by rw[e];rfl))];exact ak
   refine y _ _ ⟨trivial,?_⟩;clear y aF
   have al:x2.ownsRow 0 9 1 (.slice a2 ln c2) (oM ss m X).length (dl ((oM ss m X).map dK)):=by
    rw[vg,<-dd (f:=dK),vg,<-bl.out];exact ax
   have ab:=U.out.iB HF.out aw (aG.mono (λk hk=>by subst hk;rfl)) al (λk hk=>by
    rcases aZ k hk with h|h
    subst h;exact Or.inl rfl
    exact Or.inr h)
   refine fJ 11 ?_ trivial ?_<|fJ 12 ?_ trivial ?_ ?_
   any_goals(rintro w' _;go_simp;first|done|with_reducible rfl)
   have bm:=dn aI 1;have bn:=dO aI 1;clear ax aG aZ al aI aE aX ak aw bk;refine j9 13 λK' y=>?_;unfold m2;go_simp;refine y _ _ ⟨trivial,hw (by kernel_rfl) ?_ _⟩;clear y bm bn;obtain⟨x3,aJ⟩:∃x3,x3=x2.setCell ⟨b,1,none⟩ (.slice a2 ln c2):=⟨_,rfl⟩;have ap:x3.heap.size=x2.heap.size:=by rw[aJ];simp[ne]
   rw[<-aJ]at ab⊢;rw[<-ap]at ab;have ba:m1 (∃F':Nat->Prop,sO vM vK x3 F' b buf (oM ss m X)/\(∀k,F' k->F k\/w.heap.size<=k)/\dw F w x3):=BC U.out HF.out ab a5.out;clear aJ ap ab;go_wp2;go_ret;refine⟨eI (by rw[ae.out];rfl),?_⟩;rw[ae.out];exact ba.out
def TC(y:World->(Nat->Prop)->Nat->List dp->List (List dp)->Prop)(w:World)(F:Nat->Prop)(b:Nat)(code:Nat)(buf:List dp)(ss:List (List dp))(e:Ending)(w':World):Prop:=
 e=.returned (.int .i64 code)/\∃F':Nat->Prop,y w' F' b buf ss/\(∀k,F' k->F k\/w.heap.size<=k)/\dw F w w'
end
section
open Go.RowKit Go.Maps
variable {c:Array Value} {ss:List (List dp)} {ts:List (List Wd)} {buf:List dp} {kn:List Wd} {b n:Nat} {fr:Nat×Nat} {F' F1 F2:Nat->Prop} {e:g9} {vK vS:Value} {w w':World}
def VC(y vS:Value)(w:World)(F:Nat->Prop)(b:Nat)(ts:List (List Wd)):Prop:=(∀k,F k->k<w.heap.size)/\∃B n vK kn,PW w F b y vS ts B n vK kn
def DE{vB:Value}(w:World)(F:Nat->Prop)(b:Nat)(ts:List (List Wd))(s:ByteArray)(hP:VC vB vS w F b ts)(hB:gG ts<=16777216)(hs:s.size<=g7) :
  g8 prog 34 #[.pointer (some ⟨b,0,none⟩),.string s] w λe w'=>e=.returned (.int .i64 (tO ts s.data.toList).1)/\
   ∃F':Nat->Prop,VC vB vS w' F' b (tO ts s.data.toList).2/\(∀k,F' k->F k\/w.heap.size<=k)/\dw F w w':=by
 obtain⟨hF,B,n,vK,kn,hW⟩:=hP;by_cases h:eA s.data.toList=true/\s.data.toList≠[]
 .have HO:m1 (tO ts s.data.toList=if 60<(eV (ts++[iQ (dX s.data.toList)])).length then(4,ts)else(0,ts++[iQ (dX s.data.toList)])):=by
   show tO ts s.data.toList=_;unfold tO;rw[if_pos h]
  have hT:=qH s w hs;rw[decide_eq_true h]at hT;obtain⟨ah,ai⟩:=wJ s h.1;have aj:=xi s w.drew h.1;clear h hs;generalize iQ (dX s.data.toList)=t at *;go_enter func34,ntmps34;go_wp2_with fail;refine hT.mono ?_;rintro e w' ⟨rfl,rfl⟩;clear hT;by_cases aa:60<(eV (ts++[t])).length
  .have ab:m1 (tO ts s.data.toList=(4,ts)):=by show _=_;rw[HO.out,if_pos aa]
   have ac:g8 prog 67 #[.string s] w.drew λe w1=>∃a c,e=.returned (.slice a t.length c)/\Below w.heap.size w w1/\
     g8 prog 66 #[.pointer (some ⟨b,2,none⟩),.slice a t.length c] w1 λe w2=>e=.returned (.bool false)/\Below w.heap.size w w2:=by
    refine aj.mono ?_;rintro e w1 ⟨v,rfl,W,y⟩;have Y:w1.ownsRow w.heap.size 9 1 v t.length (dl t):=W;have U:Below w.heap.size w w1:=⟨y.os,y.tape,y.output,y.size,y.block⟩;clear W y;obtain⟨a,c,rfl,_⟩:=dN Y;refine⟨a,c,rfl,U,?_⟩;refine(KB F b vB vS ts B n vK kn t w.heap.size _ w1 (λk O=>ie (hF k O) U.size) (hW.stay (λk O=>U.block k (hF k O))) Y (λk O al=>by have:=(Y.lt k O).1;have:=hF k al;omega) ah ai hB).mono ?_;rintro e w2 (⟨_,rfl,ad⟩|⟨hn,_⟩);exact⟨rfl,U.trans (ad.mono U.size)⟩;exact absurd aa hn
   clear aj aa ah ai;go_wp2_with fail
   go_region_law (first
    |(go_simp
      go_at_call 67;refine ac.mono ?_
      rintro e w1 ⟨a,c,rfl,U,ae⟩)
    |(go_simp
      go_at_call 66;refine ae.mono ?_
      rintro e w2 ⟨rfl,ad⟩))
   all_goals
    go_wp2;go_ret;refine⟨eI (by rw[ab.out];rfl),F,?_,λk O=>Or.inl O,dw.eQ ad⟩;rw[ab.out];exact⟨λk O=>ie (hF k O) ad.size,B,n,vK,kn,hW.stay (λk O=>ad.block k (hF k O))⟩
  have ab:m1 (tO ts s.data.toList=(0,ts++[t])):=by show _=_;rw[HO.out,if_neg aa]
  have ac:g8 prog 67 #[.string s] w.drew λe w1=>∃a c,e=.returned (.slice a t.length c)/\Below w.heap.size w w1/\
    g8 prog 66 #[.pointer (some ⟨b,2,none⟩),.slice a t.length c] w1 λe w2=>e=.returned (.bool true)/\(∃F' n' af ag,(∀k,F' k->k<w2.heap.size)/\(∀k,F' k->F k\/w.heap.size<=k)/\PW w2 F' b vB vS (ts++[t]) B n' af ag)/\dw F w w2:=by
   refine aj.mono ?_;rintro e w1 ⟨v,rfl,W,y⟩;have Y:w1.ownsRow w.heap.size 9 1 v t.length (dl t):=W;have U:Below w.heap.size w w1:=⟨y.os,y.tape,y.output,y.size,y.block⟩;clear W y;obtain⟨a,c,rfl,_⟩:=dN Y;refine⟨a,c,rfl,U,?_⟩;have an:w.heap.size<=w1.heap.size:=U.size;refine(KB F b vB vS ts B n vK kn t w.heap.size _ w1 (λk O=>ie (hF k O) an) (hW.stay (λk O=>U.block k (hF k O))) Y (λk O al=>by have:=(Y.lt k O).1;have:=hF k al;omega) ah ai hB).mono ?_;rintro e w2 (⟨hy,_⟩|⟨_,rfl,⟨n',af,ag,am⟩,ak⟩);exact absurd hy aa;have aq:=ak.size;refine⟨rfl,⟨QW F w1 w2,n',af,ag,?_,?_,am⟩,?_⟩;rintro k (O|O);have:=hF k O;omega;exact O.2;rintro k (O|O);exact Or.inl O;exact Or.inr (by omega);exact(dw.eQ (F:=F) U).trans ak (λ_ _ h=>h)
  clear aj aa ah ai;go_wp2_with fail
  go_region_law (first
   |(go_simp
     go_at_call 67;refine ac.mono ?_
     rintro e w1 ⟨a,c,rfl,U,ae⟩)
   |(go_simp
     go_at_call 66;refine ae.mono ?_
     rintro e w2 ⟨rfl,⟨F',n',af,ag,ao,ap,am⟩,ak⟩))
  all_goals
   go_wp2;go_ret;refine⟨eI (by rw[ab.out];rfl),F',?_,ap,ak⟩;rw[ab.out];exact⟨ao,B,n',af,ag,am⟩
 have HO:m1 (tO ts s.data.toList=(2,ts)):=by show tO ts s.data.toList=_;unfold tO;rw[if_neg h]
 have hT:=qH s w hs;rw[decide_eq_false h]at hT;go_enter func34,ntmps34;go_wp2_with fail;refine hT.mono ?_;rintro e w' ⟨rfl,rfl⟩;go_wp2;go_ret;refine⟨eI (by rw[HO.out];rfl),F,?_,λk O=>Or.inl O,dw.refl _ _⟩;rw[HO.out];exact⟨hF,B,n,vK,kn,hW⟩
structure PJ(w:World)(F1 F2:Nat->Prop)(b:Nat)(buf:List dp)(ss:List (List dp))(ts:List (List Wd)):Prop where
 Oh:∀k,F1 k->k<w.heap.size
 P8:∀k,F2 k->k<w.heap.size
 apart:∀k,F1 k->F2 k->k=b
 both:∃Bb vS B n vK kn,ED w F1 b buf ss Bb vS (.map (some B)) vK/\PW w F2 b (.map (some Bb)) vS ts B n vK kn
def PJ.below(h:PJ w F1 F2 b buf ss ts)(O:w.heap.size<=w'.heap.size)(hb:∀k,k<w.heap.size->w'.heap[k]?=w.heap[k]?):PJ w' F1 F2 b buf ss ts:=by
 obtain⟨U,W,Y,Bb,vS,B,n,vK,kn,h4,h5⟩:=h;exact⟨λk y=>ie (U k y) O,λk y=>ie (W k y) O,Y,Bb,vS,B,n,vK,kn,h4.stay λk y=>hb k (U k y),h5.stay λk y=>hb k (W k y)⟩
def TS{B:Nat}{f:List Wd->Nat}(h:eJ w B n f)(hb:w.heap[b]?=some (.cells c e fr)):B≠b:=by
 rintro rfl;obtain⟨D,⟨es,clock,y,_⟩,_⟩:=h;rw[y]at hb;cases hb
def T7{B:Nat}{es:List dp}(h:eE w B es)(hb:w.heap[b]?=some (.cells c e fr)):B≠b:=by
 rintro rfl;obtain⟨D,⟨es,clock,y,_⟩,_⟩:=h;rw[y]at hb;cases hb
def Ox{base:Nat}{v:Value}{xs:List Value}(h:w.ownsRow base 9 1 v n xs)(hb:w.heap[b]?=some (.cells c 90 fr)):∀k,v.ownBlock=some k->k≠b:=by
 rintro k y rfl;rcases h.2 with⟨rfl,_⟩|⟨g,cap,B,rfl,_,O,_⟩
 cases y;simp only[nv,nl]at y;subst y;rw[O]at hb;simp only[nl,Obj.cells.injEq]at hb;exact absurd hb.2.1 (by decide)
def PJ.entries{O:List dp}{ss':List (List dp)}{Bb:Nat}{B:Nat}(h1:∀k,F1 k->k<w.heap.size)(h2:∀k,F2 k->k<w.heap.size)(h3:∀k,F1 k->F2 k->k=b)(h4:ED w F1 b buf ss Bb vS (.map (some B)) vK)(h5:PW w F2 b (.map (some Bb)) vS ts B n vK kn)
  (hp:sO (.map (some B)) vK w' F' b O ss') (hF:∀k,F' k->F1 k\/w.heap.size<=k) (U:dw F1 w w'):PJ w' F' F2 b O ss' ts:=by
 obtain⟨g1,aa,ab,g2⟩:=hp;have hz:=U.size;have l6:∀k,F2 k->k≠b->w'.heap[k]?=w.heap[k]?:=λk y ac=>U.block k (h2 k y) λY=>ac (h3 k Y y);refine⟨g1,λk y=>ie (h2 k y) hz,λk y W=>?_,aa,ab,B,n,vK,kn,g2,⟨g2.blk,h5.fb,h5.fB,h5.cnt.stay (l6 B h5.fB (TS h5.cnt h5.blk)),h5.room,eH h5.row λk y=>l6 k (h5.lr k y) (Ox h5.row h5.blk k y),h5.lr,h5.perm,h5.ok,h5.qg⟩⟩;rcases hF k y with Y|Y
 exact h3 k Y W;exact absurd (h2 k W) (by omega)
def PJ.words{U:List (List Wd)}{Bb:Nat}{B:Nat}(h1:∀k,F1 k->k<w.heap.size)(h2:∀k,F2 k->k<w.heap.size)(h3:∀k,F1 k->F2 k->k=b)(y:ED w F1 b buf ss Bb vS (.map (some B)) vK)(h5:PW w F2 b (.map (some Bb)) vS ts B n vK kn)
  (hp:VC (.map (some Bb)) vS w' F' b U) (hF:∀k,F' k->F2 k\/w.heap.size<=k) (W:dw F2 w w'):PJ w' F1 F' b buf ss U:=by
 obtain⟨g1,B',n',aa,ab,g2⟩:=hp;have hz:=W.size;have l6:∀k,F1 k->k≠b->w'.heap[k]?=w.heap[k]?:=λk O ac=>W.block k (h1 k O) λY=>ac (h3 k O Y);refine⟨λk O=>ie (h1 k O) hz,g1,λk O ad=>?_,Bb,vS,B',n',aa,ab,⟨g2.blk,y.fb,y.fB,dM.stay y.say (l6 Bb y.fB (T7 y.say y.blk)),eH y.row λk O=>l6 k (y.lr k O) (Ox y.row y.blk k O),y.lr,y.inv⟩,g2⟩;rcases hF k ad with Y|Y
 exact h3 k O Y;exact absurd (h1 k O) (by omega)
end
end Go.Proofs.YtocbogeoffeolaaGreatDoor
