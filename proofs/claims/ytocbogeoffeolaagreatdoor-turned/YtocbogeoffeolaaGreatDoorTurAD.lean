import Derived.Test.YtocbogeoffeolaaGreatDoorTurAC
import Derived.Shelf.Strconv.Clone
import Derived.Shelf.Sort.Plain
import Derived.Shelf.Slices.In.SortNone
import Derived.Lib.AppendStr
import Derived.Sort.OwnSorted
import Derived.Laws.CopyOwn
set_option linter.all false
set_option maxHeartbeats 8000000
set_option maxRecDepth 1000000
open List renaming length_append->cc,getElem_mem->ch,length_take->cp,getElem?_append_left->cx,getElem?_eq_getElem->dd,take_succ_eq_append_getElem->de,getElem?_append_right->df,length_drop->dg,getElem?_take->di,length_map->dj,getD_eq_getElem?_getD->dk,append_assoc->dm,mem_map->dr,append_nil->dt,getElem?_map->ee,flatMap_cons->ef,mem_of_mem_drop->eg,flatMap_append->ei,map_cons->ej,map_toArray->ek,flatMap_nil->eq,take_of_length_le->er,map_nil->et,getElem_cons_zero->ev,getElem?_toArray->ew,take_succ_cons->ex,filter_sublist->ez,mem_nil_iff->e0,length_nil->e6,pairwise_iff_getElem->e8,mem_cons->fa,length_eq_zero_iff->fd,getElem_cons_succ->ff,drop_eq_nil_of_le->fk,take_append_drop->fm,drop_succ_cons->fs,mem_cons_self->f',getElem?_drop->ga,pairwise_map->gc,take_prefix->gd,length_cons->ge,nil_prefix->gg,mem_filter->gl,map_append->go,length->gt
open Go renaming cell_later->gv,maxLen->g5,Calls->g6,wp_region_held->g7,TypeId->g8,info_parts->g9,wpAnyH_done->ha,setRow_heap->hw,wpOp_step->h7,resolve->h8,wpList->h9,heap_alloc_new->hI,execOp->hJ,wpList_plain->hQ,setRow_self->hU,wpAnyH_all->hV
open Nat renaming lt_of_lt_of_le->hX,le_refl->hY,zero_le->hZ,min_eq_left->ie,le_trans->ip,add_sub_cancel_left->iv,add_zero->i6,zero_mul->i7,zero_add->i8
open Go.Proofs.Tryz renaming underlying60->i',underlying31->jt,underlying9->j1,zeroValue9->j2,underlying85->j3,underlying5->j4,underlying4->j',underlying3->ka,underlying0->kb,zeroValue5->kc,zeroValue4->kd,zeroValue3->ke,zeroValue0->kf,ntmps38->kj,ntmps29->kk,ntmps128->kl,func38->ko,func29->kr,underlying292->ks,underlying276->kt,underlying272->kv,underlying239->k0,underlying229->k3,underlying226->k4,underlying222->k5,underlying221->kB,underlying212->kG,underlying190->kN,underlying184->kT,underlying141->kW,zeroValue292->la,zeroValue276->lc,zeroValue272->ld,zeroValue229->lf,zeroValue226->lk,zeroValue222->lo,zeroValue221->lp,zeroValue212->ls,zeroValue184->lv,zeroValue141->lw,sizeOf9->lx,sizeOf5->ly,sizeOf4->l0,sizeOf3->l4,sizeOf0->mb,ntmps39->md,ntmps26->mi,func128->mj,isAgg9->mp,isAgg5->mr,isAgg4->ms,isAgg3->mv,isAgg0->mx,func39->m0,func26->m1
open Go.RowKit renaming Hid->m2
open Array renaming getElem?_eq_some_iff->m3,getElem?_toList->m4,getElem?_modify->m5,toArray_toList->m6
open Go.RowKit.Below renaming refl->m7,heap_setCell->m8,heap_alloc->m9
open Go.Oper renaming wp->m'
open Go.Value.slice renaming injEq->nc
open Option.some renaming injEq->ne
open Go.World renaming ownsRow_nil->ng,cell?_alloc_at->nl,setCell->no,cell?->nr
open Go.Builtin renaming zeroCells->n0,append_->n3,clear_->n7,copy_->n8
open Go.IntKind renaming wrap_i64->oa
open Go.Value renaming oneCell'->oc,ownBlock->od
open Go.Op renaming bytesLess->oi
open Go.Sort renaming ahead->oj,alloc_eq_grow->on,mapBlock->oo,putRowK->Q9,putRow->ot
open Go.Sem renaming run_pure->ov,run_bind->o0
open Go.Result renaming andThen_ok->o1
open Go.Proofs renaming sortWorldK->o2
open Go.Sort.HoldsK renaming cell->o3
open Go.Addr.mk renaming injEq->o4
open List.Pairwise renaming sublist->o5,imp->o6
open List.Perm renaming refl->o',eq_of_pairwise->oK
namespace Go.Proofs.YtocbogeoffeolaaGreatDoor
open Go.Proofs.Tryz
section
open Go.Shelf
def FF:Go.Shelf.Ren:=⟨fun|316=>90|n=>n,fun|9=>9|3=>3|4=>4|37=>60|0=>0|127=>187|5=>5|n=>n,fun|n=>n⟩
theorem Qc:Go.Proofs.LaysM.n316 prog FF:={
 mixed:=by kernel_rfl
 f316:=func90.trans (congrArg some (by kernel_rfl)),t0:=kb,a0:=mx,z0:=mb,v0:=kf,t3:=ka,a3:=mv,z3:=l4,v3:=ke,t4:=j',a4:=ms,z4:=l0,v4:=kd,t9:=j1,a9:=mp,z9:=lx,v9:=j2,t37:=i',a37:=isAgg60,z37:=sizeOf60,v37:=zeroValue60,t127:=underlying187,a127:=isAgg187,z127:=sizeOf187,v127:=zeroValue187,t5:=j4,a5:=mr,z5:=ly,v5:=kc,i0:=by kernel_rfl
 i3:=by kernel_rfl
 i4:=by kernel_rfl
 i5:=by kernel_rfl
 i9:=by kernel_rfl
 i37:=by kernel_rfl
 i127:=by kernel_rfl}
def EJ:Go.Shelf.Ren:=⟨fun|190=>162|125=>125|258=>217|128=>172|129=>173|302=>243|303=>244|304=>245|305=>246|306=>247|307=>248|308=>249|309=>250|310=>251|333=>271|329=>219|330=>220|334=>272|335=>273|336=>175|344=>279|n=>n,fun|31=>31|9=>9|3=>3|46=>184|0=>0|51=>229|53=>141|4=>4|183=>222|182=>221|131=>226|5=>5|218=>272|222=>276|228=>292|229=>212|n=>n,fun|n=>n⟩
theorem wX:Go.Proofs.Lays.n190 prog EJ:={
 mixed:=by kernel_rfl
 f125:=func125.trans (congrArg some (by kernel_rfl)),f128:=func172.trans (congrArg some (by kernel_rfl)),f129:=func173.trans (congrArg some (by kernel_rfl)),f190:=func162.trans (congrArg some (by kernel_rfl)),f258:=func217.trans (congrArg some (by kernel_rfl)),f302:=func243.trans (congrArg some (by kernel_rfl)),f303:=func244.trans (congrArg some (by kernel_rfl)),f304:=func245.trans (congrArg some (by kernel_rfl)),f305:=func246.trans (congrArg some (by kernel_rfl)),f306:=func247.trans (congrArg some (by kernel_rfl)),f307:=func248.trans (congrArg some (by kernel_rfl)),f308:=func249.trans (congrArg some (by kernel_rfl)),f309:=func250.trans (congrArg some (by kernel_rfl)),f310:=func251.trans (congrArg some (by kernel_rfl)),f329:=func219.trans (congrArg some (by kernel_rfl)),f330:=func220.trans (congrArg some (by kernel_rfl)),f333:=func271.trans (congrArg some (by kernel_rfl)),f334:=func272.trans (congrArg some (by kernel_rfl)),f335:=func273.trans (congrArg some (by kernel_rfl)),f336:=func175.trans (congrArg some (by kernel_rfl)),f344:=func279.trans (congrArg some (by kernel_rfl)),t0:=kb,a0:=mx,z0:=mb,v0:=kf,t3:=ka,a3:=mv,z3:=l4,v3:=ke,t4:=j',a4:=ms,z4:=l0,v4:=kd,t5:=j4,a5:=mr,z5:=ly,v5:=kc,t9:=j1,a9:=mp,z9:=lx,v9:=j2,t31:=jt,a31:=isAgg31,z31:=sizeOf31,v31:=zeroValue31,t46:=kT,a46:=isAgg184,z46:=sizeOf184,v46:=lv,t51:=k3,a51:=isAgg229,z51:=sizeOf229,v51:=lf,t53:=kW,a53:=isAgg141,z53:=sizeOf141,v53:=lw,t131:=k4,a131:=isAgg226,z131:=sizeOf226,v131:=lk,t182:=kB,a182:=isAgg221,z182:=sizeOf221,v182:=lp,t183:=k5,a183:=isAgg222,z183:=sizeOf222,v183:=lo,t218:=kv,a218:=isAgg272,z218:=sizeOf272,v218:=ld,t222:=kt,a222:=isAgg276,z222:=sizeOf276,v222:=lc,t228:=ks,a228:=isAgg292,z228:=sizeOf292,v228:=la,t229:=kG,a229:=isAgg212,z229:=sizeOf212
 v229:=ls}
def Dk:Go.Shelf.Ren:=⟨fun|6=>184|15=>125|14=>227|28=>172|29=>173|20=>257|21=>258|22=>259|23=>260|24=>261|25=>262|26=>263|27=>264|46=>276|47=>219|48=>220|49=>277|50=>278|57=>280|n=>n,fun|22=>190|24=>237|25=>242|3=>3|39=>184|0=>0|53=>229|55=>141|4=>4|46=>222|45=>221|50=>226|5=>5|9=>9|66=>272|70=>276|76=>292|77=>212|n=>n,fun|n=>n⟩
theorem EG:Go.Proofs.SlLaysF0.n6 prog Dk:={
 mixed:=by kernel_rfl
 f6:=⟨f184.name,by decide,func184.trans (congrArg some (by kernel_rfl))⟩,f14:=⟨f227.name,by decide,func227.trans (congrArg some (by kernel_rfl))⟩,f15:=func125.trans (congrArg some (by kernel_rfl)),f20:=⟨f257.name,by decide,func257.trans (congrArg some (by kernel_rfl))⟩,f21:=⟨Tryz.f258.name,by decide,func258.trans (congrArg some (by kernel_rfl))⟩,f22:=⟨f259.name,by decide,func259.trans (congrArg some (by kernel_rfl))⟩,f23:=⟨f260.name,by decide,func260.trans (congrArg some (by kernel_rfl))⟩,f24:=⟨f261.name,by decide,func261.trans (congrArg some (by kernel_rfl))⟩,f25:=⟨f262.name,by decide,func262.trans (congrArg some (by kernel_rfl))⟩,f26:=⟨f263.name,by decide,func263.trans (congrArg some (by kernel_rfl))⟩,f27:=⟨Tryz.f264.name,by decide,func264.trans (congrArg some (by kernel_rfl))⟩,f28:=func172.trans (congrArg some (by kernel_rfl)),f29:=func173.trans (congrArg some (by kernel_rfl)),f46:=⟨f276.name,by decide,func276.trans (congrArg some (by kernel_rfl))⟩,f47:=func219.trans (congrArg some (by kernel_rfl)),f48:=func220.trans (congrArg some (by kernel_rfl)),f49:=⟨f277.name,by decide,func277.trans (congrArg some (by kernel_rfl))⟩,f50:=⟨f278.name,by decide,func278.trans (congrArg some (by kernel_rfl))⟩,f57:=⟨f280.name,by decide,func280.trans (congrArg some (by kernel_rfl))⟩,t0:=kb,a0:=mx,z0:=mb,v0:=kf,t3:=ka,a3:=mv,z3:=l4,v3:=ke,t4:=j',a4:=ms,z4:=l0,v4:=kd,t5:=j4,a5:=mr,z5:=ly,v5:=kc,t9:=j1,a9:=mp,z9:=lx,v9:=j2,t22:=kN,a22:=isAgg190,z22:=sizeOf190,v22:=zeroValue190,t25:=underlying242,a25:=isAgg242,z25:=sizeOf242,v25:=zeroValue242,t39:=kT,a39:=isAgg184,z39:=sizeOf184,v39:=lv,t45:=kB,a45:=isAgg221,z45:=sizeOf221,v45:=lp,t46:=k5,a46:=isAgg222,z46:=sizeOf222,v46:=lo,t50:=k4,a50:=isAgg226,z50:=sizeOf226,v50:=lk,t53:=k3,a53:=isAgg229,z53:=sizeOf229,v53:=lf,t55:=kW,a55:=isAgg141,z55:=sizeOf141,v55:=lw,t66:=kv,a66:=isAgg272,z66:=sizeOf272,v66:=ld,t70:=kt,a70:=isAgg276,z70:=sizeOf276,v70:=lc,t76:=ks,a76:=isAgg292,z76:=sizeOf292,v76:=la,t77:=kG,a77:=isAgg212,z77:=sizeOf212
 v77:=ls}
end
section
open Go.RowKit Go.Maps
variable {ss:List (List dp)} {buf:List dp} {Bb b:Nat} {F:Nat->Prop} {vK vM vS:Value} {w w':World}
theorem uy(s:ByteArray)(w:World)(B:s.size<=281474976710656) :
  g6 prog 61 #[.string s] w λe w'=>e=.returned (.string s)/\Below w.heap.size w w':=by
 have y:=Any.stringslite_Clone Qc s w B;change g6 prog 90 _ _ _ at y;go_enter func61,ntmps61;go_wp2_with fail;refine y.mono ?_;rintro e w1 ⟨rfl,hb⟩;have O:m2 (Below _ _ _):=hb;clear y hb;go_wp2;go_ret;exact⟨rfl,O.out⟩
def sL(vM vK:Value)(w:World)(F:Nat->Prop)(b:Nat)(buf:List dp)(ss:List (List dp)):Prop:=(∀k,F k->k<w.heap.size)/\∃Bb vS,zH w F b buf ss Bb vS vM vK
theorem zH.stay(h:zH w F b buf ss Bb vS vM vK)(hb:∀k,F k->w'.heap[k]?=w.heap[k]?):zH w' F b buf ss Bb vS vM vK where
 blk:=by rw[hb b h.fb]; exact h.blk
 fb:=h.fb;fB:=h.fB;say:=dL.stay h.say (hb Bb h.fB);row:=eD h.row (λk y=>hb k (h.lr k y));lr:=h.lr;inv:=h.inv
theorem sL.below(h:sL vM vK w F b buf ss)(hb:Below w.heap.size w w'):sL vM vK w' F b buf ss:=by
 obtain⟨hF,Bb,vS,B⟩:=h;exact⟨λk y=>hX (hF k y) hb.size,Bb,vS,B.stay (λk y=>hb.block k (hF k y))⟩
theorem zH.buffer{y:List dp}(h:zH w F b buf ss Bb vS vM vK)(hF:∀k,F k->k<w.heap.size)(B:du (· = Bb) w w')(U:eh w' Bb y)(hi:Inv y ss):zH w' F b y ss Bb vS vM vK where
 blk:=by rw[B.block b (hF b h.fb) (λe=>dL.nC h.say h.blk e.symm)]; exact h.blk
 fb:=h.fb;fB:=h.fB;say:=U;row:=eD h.row (λk O=>B.block k (hF k (h.lr k O)) (λe=>pD h.row h.say (by rw[O,e])));lr:=h.lr;inv:=hi
theorem J5(w:World):(zeroValue 111).run prog w=.ok (.agg #[.bool false,.string ⟨#[]⟩,.string ⟨#[]⟩,.int .i64 0,.int .i64 0]) w:=by kernel_rfl
theorem Ff{B:Nat}{es:List dp}(h:eh w B es)(x:Wd)(U:x.length<=g5):∃g a t n m,(Instr.lookup 85 (.map (some B)) (.string ⟨x.toArray⟩) true).run prog w=.ok (.tuple #[.agg #[.bool g,.string a,.string t,.int .i64 n,.int .i64 m],.bool (decide (x∈es.map dp.name))]) w:=by
 have hl:=(dL.look h j1 j3 (J5 w) x U).2
 have W:((es.map ji).any λp=>p.1==x)=decide (x∈es.map dp.name):=by
  rw[Bool.eq_iff_iff,decide_eq_true_eq,List.any_eq_true,dr];constructor
  .rintro⟨p,Y,h⟩;obtain⟨e,y,rfl⟩:=dr.1 Y;exact⟨e,y,by simpa[ji]using h⟩
  .rintro⟨e,y,rfl⟩;exact⟨ji e,dr.2 ⟨e,y,rfl⟩,by simp[ji]⟩
 rw[W]at hl;unfold mA at hl
 cases O:(es.map ji).find? λp=>p.1==x with
 |none=>rw[O]at hl; exact⟨_,_,_,_,_,hl⟩
 |some p=>
  rw[O]at hl;obtain⟨e,_,rfl⟩:=dr.1 (List.mem_of_find?_eq_some O);exact⟨_,_,_,_,_,hl⟩
theorem yr{l:List dp}{x:Wd}:nR l x=none↔x ∉ l.map dp.name:=⟨uC,pF⟩
theorem Qa(w:World)(F:Nat->Prop)(b:Nat)(buf:List dp)(ss:List (List dp))(name text:ByteArray)(dq dB:Int)(hP:sL vM vK w F b buf ss)(hn:name.size<=g5)(ht:text.size<=g5) :
  g6 prog 38 #[.pointer (some ⟨b,0,none⟩),.string name,.string text,.int .i64 dq,.int .i64 dB] w λe w'=>e=.returned (.int .i64 (jl buf ss name.data.toList text.data.toList dq dB).1)/\
   sL vM vK w' F b (jl buf ss name.data.toList text.data.toList dq dB).2 ss/\du F w w':=by
 have HP:m2 (sL _ _ _ _ _ _ _):=hP;have Y:=qT name w hn;have ad:=pJ text w ht;clear hP;by_cases y:iL name.data.toList=true
 .rw[y]at Y;by_cases O:ep text.data.toList=true/\text.data.toList≠[]
  .rw[decide_eq_true O]at ad;by_cases ac:dq<0\/1000000<dq\/dB<0\/255<dB
   .have HU:m2 (jl buf ss name.data.toList text.data.toList dq dB=(3,buf)):=by show jl _ _ _ _ _ _=_; unfold jl; rw[if_pos y,if_pos O,if_pos ac]
    have a4:dq<0\/(0<=dq/\1000000<dq)\/(0<=dq/\dq<=1000000/\dB<0)\/(0<=dq/\dq<=1000000/\0<=dB/\255<dB):=by omega
    clear ac O y;rcases a4 with c1|⟨c1,c2⟩|⟨c1,c2,c3⟩|⟨c1,c2,c3,c4⟩
    all_goals
     go_enter ko,kj;go_wp2_with fail;refine Y.mono ?_;rintro e w' ⟨rfl,rfl⟩;go_wp2_with fail;refine ad.mono ?_;rintro e w' ⟨rfl,rfl⟩;go_wp2;go_ret;refine⟨eQ (by rw[HU.out]; rfl),?_,du.refl _ _⟩;rw[HU.out];exact HP.out
   .have aB:0<=dq:=by omega
    have aC:dq<=1000000:=by omega
    have aD:0<=dB:=by omega
    have aE:dB<=255:=by omega
    obtain⟨hF,Bb,vS,hE⟩:=id HP.out;have HE:m2 (zH _ _ _ _ _ _ _ _ _):=hE;have HF:m2 (∀k,F k->k<w.heap.size):=hF;have ag:=xX F b buf ss Bb vS vM vK w hE
    have HU:m2 (jl buf ss name.data.toList text.data.toList dq dB=if 30<=(eJ ss buf).length/\nR (eJ ss buf) name.data.toList=none then(4,buf)else(0,dH buf [⟨name.data.toList,false,text.data.toList,dq,dB⟩])):=by
     show jl _ _ _ _ _ _=_; unfold jl; rw[if_pos y,if_pos O,if_neg ac]
    have HI:m2 (Inv (jl buf ss name.data.toList text.data.toList dq dB).2 ss):=Jp hE.inv _ _ _ _;have aA:=(gG y).2
    have a5:name.size<=281474976710656:=by have:name.data.toList.length=name.size:=by simp
                                           omega
    have a6:text.size<=281474976710656:=by
     have h1:=jC O.1;have:text.data.toList.length=text.size:=by simp
     omega
    have aq:name.data.toList.length<=g5:=by unfold g5; omega
    clear ac O y hF hE;go_enter ko,kj;go_wp2_with fail;refine Y.mono ?_;rintro e w' ⟨rfl,rfl⟩;go_wp2_with fail;refine ad.mono ?_;rintro e w' ⟨rfl,rfl⟩;clear Y ad;go_wp2_with fail;refine ag.mono ?_;rintro e w1 ⟨C,rfl,hC,hs,ae⟩;have ar:=ae.size;obtain⟨g,aa,tt,nn,mm,ah⟩:=Ff hs name.data.toList aq;rw[<-bytes_eta name]at ah;have au:m2 (Below _ _ _):=ae;have aj:=λ(ty:g8) (o:Obj)=>dL.len (dL.kept hs (World.grownBy_alloc w1 o none) (by simp)) j3 ty;rw[dj]at aj;have af:=yr (l:=eJ ss buf) (x:=name.data.toList);by_cases hk:name.data.toList∈(eJ ss buf).map dp.name
    case' pos=>
     rw[decide_eq_true hk]at ah;have ab:m2 (jl buf ss name.data.toList text.data.toList dq dB=(0,dH buf [⟨name.data.toList,false,text.data.toList,dq,dB⟩])):=by show jl _ _ _ _ _ _=_; rw[HU.out,if_neg (λh=>af.1 h.2 hk)]
     clear af hk hs ae ag HU
    case' neg=>
     rw[decide_eq_false hk]at ah;by_cases av:30<=(eJ ss buf).length
     .have ab:m2 (jl buf ss name.data.toList text.data.toList dq dB=(4,buf)):=by show jl _ _ _ _ _ _=_; rw[HU.out,if_pos ⟨av,af.2 hk⟩]
      have aw:(30:Int)<=((eJ ss buf).length:Int):=by omega
      clear af hk hs ae ag HU;go_wp2;go_ret;have B:=au.out.alloc ar (.cells #[.bool g,.string aa,.string tt,.int .i64 nn,.int .i64 mm] 111);refine⟨eQ (by rw[ab.out]; rfl),?_,du.fC B⟩;rw[ab.out];exact sL.below HP.out B
     have ab:m2 (jl buf ss name.data.toList text.data.toList dq dB=(0,dH buf [⟨name.data.toList,false,text.data.toList,dq,dB⟩])):=by show jl _ _ _ _ _ _=_; rw[HU.out,if_neg (λh=>av h.1)]
     have aw:decide ((30:Int)<=((eJ ss buf).length:Int))=false:=decide_eq_false (by omega);clear af hk hs ae ag HU
    all_goals
     go_wp2_with fail;have B:=au.out.alloc ar (.cells #[.bool g,.string aa,.string tt,.int .i64 nn,.int .i64 mm] 111);clear aj ah;generalize w1.alloc (.cells #[.bool g,.string aa,.string tt,.int .i64 nn,.int .i64 mm] 111)=w2 at B⊢
     have U:w2.drew.cell? ⟨b,0,none⟩=some (.map (some Bb)):=by
      have:w2.cell? ⟨b,0,none⟩=some (.map (some Bb)):=gv B (by rw[dh HE.out.blk]; rfl);exact this
     have ax:m2 (Below w.heap.size w w2.drew):=⟨B.os,B.tape,B.output,B.size,B.block⟩;clear B;refine g7 (S:=λw'=>w'.cell? ⟨b,0,none⟩=some (.map (some Bb))) (by kernel_rfl) ?_;refine fu 0 ?_ U ?_<|fu 1 ?_ U ?_<|fu 2 ?_ U ?_<|fu 3 ?_ U ?_<|fu 4 ?_ U ?_<|fu 6 ?_ U ?_<|fu 8 ?_ U ?_<|fu 9 ?_ U ?_ ?_
     any_goals(rintro w' a7; go_simp; first|done|with_reducible rfl)
     refine kY 5 λK' W=>?_;unfold m';go_simp;refine(uy name w2.drew a5).mono ?_;rintro e w3 ⟨rfl,al⟩;have ay:m2 (Below w.heap.size w w3):=ax.out.trans (al.mono ax.out.size);have az:w3.cell? ⟨b,0,none⟩=some (.map (some Bb)):=gv al U;clear al;refine W _ _ ⟨az,?_⟩;clear W;refine kY 7 λK' W=>?_;unfold m';go_simp;refine(uy text w3 a6).mono ?_;rintro e w4 ⟨rfl,am⟩;have ai:m2 (Below w.heap.size w w4):=ay.out.trans (am.mono ay.out.size);have a0:w4.cell? ⟨b,0,none⟩=some (.map (some Bb)):=gv am az;clear am;refine W _ _ ⟨a0,?_⟩;clear W;refine fu 10 ?_ a0 ?_ ?_;rotate_left
     .rintro w' a7; go_simp; first|done|with_reducible rfl
     refine kY 11 λK' W=>?_;unfold m';go_simp;have an:=Pz Bb buf ⟨name.data.toList,false,text.data.toList,dq,dB⟩ w4 (dL.below HE.out.say ai.out) rfl (by have:=ru HE.out.inv; omega) aq;rw[show zA ⟨name.data.toList,false,text.data.toList,dq,dB⟩=.agg #[.string name,.string text,.int .i64 dq,.int .i64 dB] by unfold zA; simp only[<-bytes_eta]]at an;refine an.mono ?_;rintro e w5 ⟨rfl,q1,q2⟩;clear an;have a3:zH w4 F b buf ss Bb vS vM vK:=HE.out.stay (λk hk=>ai.out.block k (HF.out k hk));have ao:∀k,F k->k<w4.heap.size:=λk hk=>hX (HF.out k hk) ai.out.size
     have hi:Inv (dH buf [⟨name.data.toList,false,text.data.toList,dq,dB⟩]) ss:=by
      have:=HI.out;rw[ab.out]at this;exact this
     have ap:=a3.buffer ao q2 q1 hi;have a8:m2 (zH _ _ _ _ _ _ _ _ _):=ap;have a9:m2 (du F w w5):=(du.fC ai.out).then (q2.mono (λk hk=>by subst hk; exact HE.out.fB));have a':m2 (∀k,F k->k<w5.heap.size):=λk hk=>hX (ao k hk) q2.size;refine W _ _ ⟨by rw[dh ap.blk]; rfl,ha (by kernel_rfl) ?_ _⟩;clear W q1 q2 a3 ao hi ap;go_wp2;go_ret;refine⟨eQ (by rw[ab.out]; rfl),?_,a9.out⟩;rw[ab.out];exact⟨a'.out,Bb,vS,a8.out⟩
  .rw[decide_eq_false O]at ad;have HU:m2 (jl buf ss name.data.toList text.data.toList dq dB=(2,buf)):=by show jl _ _ _ _ _ _=_; unfold jl; rw[if_pos y,if_neg O]
   clear O y;go_enter ko,kj;go_wp2_with fail;refine Y.mono ?_;rintro e w' ⟨rfl,rfl⟩;go_wp2_with fail;refine ad.mono ?_;rintro e w' ⟨rfl,rfl⟩;go_wp2;go_ret;refine⟨eQ (by rw[HU.out]; rfl),?_,du.refl _ _⟩;rw[HU.out];exact HP.out
 .have ak:iL name.data.toList=false:=by simpa using y
  rw[ak]at Y;have HU:m2 (jl buf ss name.data.toList text.data.toList dq dB=(1,buf)):=by show jl _ _ _ _ _ _=_; unfold jl; rw[if_neg y]
  clear y ak;go_enter ko,kj;go_wp2_with fail;refine Y.mono ?_;rintro e w' ⟨rfl,rfl⟩;go_wp2;go_ret;refine⟨eQ (by rw[HU.out]; rfl),?_,du.refl _ _⟩;rw[HU.out];exact HP.out
end
section
open Go.RowKit Go.Maps
variable {vK vM:Value}
theorem OW(w:World)(F:Nat->Prop)(b:Nat)(buf:List dp)(ss:List (List dp))(name:ByteArray)(hP:sL vM vK w F b buf ss)(hn:name.size<=g5) :
  g6 prog 37 #[.pointer (some ⟨b,0,none⟩),.string name] w λe w'=>e=.returned (.int .i64 (kC buf ss name.data.toList).1)/\
   sL vM vK w' F b (kC buf ss name.data.toList).2 ss/\du F w w':=by
 have HP:m2 (sL _ _ _ _ _ _ _):=hP;have ac:=qT name w hn;clear hP;by_cases O:iL name.data.toList=true
 .rw[O]at ac;obtain⟨hF,Bb,vS,hE⟩:=id HP.out;have HE:m2 (zH _ _ _ _ _ _ _ _ _):=hE;have HF:m2 (∀k,F k->k<w.heap.size):=hF;have al:=xX F b buf ss Bb vS vM vK w hE
  have HU:m2 (kC buf ss name.data.toList=if nR (eJ ss buf) name.data.toList=none then(5,buf)else if 100<=iV buf then(4,buf)else(0,dH buf [⟨name.data.toList,true,[],0,0⟩])):=by
   show kC _ _ _=_; unfold kC; rw[if_pos O,jo]; rfl
  have HI:m2 (Inv (kC buf ss name.data.toList).2 ss):=JK hE.inv _;have a6:=(gG O).2
  have ay:name.size<=281474976710656:=by
   have:name.data.toList.length=name.size:=by simp
   omega
  have aq:name.data.toList.length<=g5:=by unfold g5; omega
  clear O hF hE;go_enter func37,ntmps37;go_wp2_with fail;refine ac.mono ?_;rintro e w' ⟨rfl,rfl⟩;clear ac;go_wp2_with fail;refine al.mono ?_;rintro e w1 ⟨C,rfl,hC,hs,ah⟩;have ar:=ah.size;obtain⟨g,aa,tt,nn,mm,ai⟩:=Ff hs name.data.toList aq;rw[<-bytes_eta name]at ai;have aj:=yr (l:=eJ ss buf) (x:=name.data.toList);have U:m2 (Below w.heap.size w (w1.alloc (.cells #[.bool g,.string aa,.string tt,.int .i64 nn,.int .i64 mm] 111))):=ah.alloc ar _;by_cases W:name.data.toList∈(eJ ss buf).map dp.name
  .rw[decide_eq_true W]at ai;have am:m2 (kC buf ss name.data.toList=if 100<=iV buf then(4,buf)else(0,dH buf [⟨name.data.toList,true,[],0,0⟩])):=by show kC _ _ _=_; rw[HU.out,if_neg (λh=>aj.1 h W)]
   clear aj W hs ah al HU;have ad:=U.out;obtain⟨w2,au⟩:∃w2,w1.alloc (.cells #[.bool g,.string aa,.string tt,.int .i64 nn,.int .i64 mm] 111)=w2:=⟨_,rfl⟩;rw[au]at ad;have az:w2.cell? ⟨b,0,none⟩=some (.map (some Bb)):=gv ad (by rw[dh HE.out.blk]; rfl);have av:=AE Bb buf w2 (dL.below HE.out.say ad) (by have:=ru HE.out.inv; omega);have aw:m2 (Below _ _ _):=ad;clear U ad;go_wp2_with fail;refine av.mono ?_;rintro e w3 ⟨rfl,Y⟩;have y:m2 (Below w.heap.size w w3):=aw.out.trans (Y.mono aw.out.size);clear av Y au ai az;by_cases ae:100<=iV buf
   .have B:m2 (kC buf ss name.data.toList=(4,buf)):=by show kC _ _ _=_; rw[am.out,if_pos ae]
    have af:(100:Int)<=(iV buf:Int):=by omega
    go_wp2;go_ret;refine⟨eQ (by rw[B.out]; rfl),?_,du.fC y.out⟩;rw[B.out];exact sL.below HP.out y.out
   .have B:m2 (kC buf ss name.data.toList=(0,dH buf [⟨name.data.toList,true,[],0,0⟩])):=by show kC _ _ _=_; rw[am.out,if_neg ae]
    have af:¬(100:Int)<=(iV buf:Int):=by omega
    clear am ae ar;go_wp2_with fail;clear af;generalize w3=w2 at *
    have ab:w2.drew.cell? ⟨b,0,none⟩=some (.map (some Bb)):=by
     have:w2.cell? ⟨b,0,none⟩=some (.map (some Bb)):=gv y.out (by rw[dh HE.out.blk]; rfl);exact this
    have U:m2 (Below w.heap.size w w2.drew):=⟨y.out.os,y.out.tape,y.out.output,y.out.size,y.out.block⟩;clear y;refine g7 (S:=λw'=>w'.cell? ⟨b,0,none⟩=some (.map (some Bb))) (by kernel_rfl) ?_;refine fu 0 ?_ ab ?_<|fu 1 ?_ ab ?_<|fu 2 ?_ ab ?_<|fu 3 ?_ ab ?_<|fu 4 ?_ ab ?_ ?_
    any_goals(rintro w' a7; go_simp; first|done|with_reducible rfl)
    refine kY 5 λK' ag=>?_;unfold m';go_simp;refine(uy name w2.drew ay).mono ?_;rintro e w3 ⟨rfl,Y⟩;have y:m2 (Below w.heap.size w w3):=U.out.trans (Y.mono U.out.size);have a0:w3.cell? ⟨b,0,none⟩=some (.map (some Bb)):=gv Y ab;clear Y;refine ag _ _ ⟨a0,?_⟩;clear ag;refine kY 6 λK' ag=>?_;unfold m';go_simp;have an:=Ck Bb buf name.data.toList w3 (dL.below HE.out.say y.out) (by have:=ru HE.out.inv; omega) aq;rw[<-bytes_eta name]at an;refine an.mono ?_;rintro e w5 ⟨rfl,q1,q2⟩;clear an;have ax:zH w3 F b buf ss Bb vS vM vK:=HE.out.stay (λk W=>y.out.block k (HF.out k W));have ao:∀k,F k->k<w3.heap.size:=λk W=>hX (HF.out k W) y.out.size
    have hi:Inv (dH buf [⟨name.data.toList,true,[],0,0⟩]) ss:=by
     have:=HI.out;rw[B.out]at this;exact this
    have ap:=ax.buffer ao q2 q1 hi;have a3:m2 (zH _ _ _ _ _ _ _ _ _):=ap;have a4:m2 (du F w w5):=(du.fC y.out).then (q2.mono (λk W=>by subst W; exact HE.out.fB));have a5:m2 (∀k,F k->k<w5.heap.size):=λk W=>hX (ao k W) q2.size;refine ag _ _ ⟨by rw[dh ap.blk]; rfl,ha (by kernel_rfl) ?_ _⟩;clear ag q1 q2 ax ao hi ap;go_wp2;go_ret;refine⟨eQ (by rw[B.out]; rfl),?_,a4.out⟩;rw[B.out];exact⟨a5.out,Bb,vS,a3.out⟩
  .rw[decide_eq_false W]at ai;have B:m2 (kC buf ss name.data.toList=(5,buf)):=by show kC _ _ _=_; rw[HU.out,if_pos (aj.2 W)]
   clear aj W hs ah al HU;go_wp2;go_ret;refine⟨eQ (by rw[B.out]; rfl),?_,du.fC U.out⟩;rw[B.out];exact sL.below HP.out U.out
 .have ak:iL name.data.toList=false:=by simpa using O
  rw[ak]at ac;have HU:m2 (kC buf ss name.data.toList=(1,buf)):=by show kC _ _ _=_; unfold kC; rw[if_neg O]
  clear O ak;go_enter func37,ntmps37;go_wp2_with fail;refine ac.mono ?_;rintro e w' ⟨rfl,rfl⟩;go_wp2;go_ret;refine⟨eQ (by rw[HU.out]; rfl),?_,du.refl _ _⟩;rw[HU.out];exact HP.out
theorem BB(w:World)(F:Nat->Prop)(b:Nat)(buf:List dp)(ss:List (List dp))(B:sL vM vK w F b buf ss) :
  g6 prog 30 #[.pointer (some ⟨b,0,none⟩)] w λe w'=>e=.returned (.int .i64 ss.length)/\w=w':=by
 obtain⟨hF,Bb,vS,y⟩:=B;obtain⟨O,U,rfl,W⟩:=dM y.row;have Y:w.cell? ⟨b,1,none⟩=some (.slice O ss.length U):=by rw[dh y.blk]; rfl
 clear y;go_enter func30,ntmps30;go_wp2;go_ret;exact⟨rfl,rfl⟩
def qk(ss:List (List dp))(n:Int):Wd×Nat:=if n<0\/(ss.length:Int)<=n then([],6)else(dS (ss.getD n.toNat []),0)
theorem Sy(w:World)(F:Nat->Prop)(b:Nat)(buf:List dp)(ss:List (List dp))(n:Int)(hP:sL vM vK w F b buf ss) :
  g6 prog 26 #[.pointer (some ⟨b,0,none⟩),.int .i64 n] w λe w'=>e=.returned (.tuple #[.string ⟨(qk ss n).1.toArray⟩,.int .i64 (qk ss n).2])/\w=w':=by
 obtain⟨hF,Bb,vS,y⟩:=hP;obtain⟨W,cS,rfl,aa⟩:=dM y.row;have ab:w.cell? ⟨b,1,none⟩=some (.slice W ss.length cS):=by rw[dh y.blk]; rfl
 have h6:=y.inv.qi
 have HR:m2 (∀j(Y:j<ss.length),∃bb off,W=some ⟨bb,off,none⟩/\w.cell? ⟨bb,off+j,none⟩=some (.string ⟨(dS ss[j]).toArray⟩)):=by
  intro j Y;obtain⟨a',c',he,_,_,hr⟩:=Rd.jj y.row;simp only[nc]at he;obtain⟨rfl,_,rfl⟩:=he;exact hr j _ (by simp[dn,Y])
 clear y;by_cases h0:n<0
 .have B:m2 (qk ss n=([],6)):=by show qk _ _=_; unfold qk; rw[if_pos (Or.inl h0)]
  go_enter m1,mi;go_wp2;go_ret2;rw[B.out];exact⟨rfl,rfl⟩
 .have O:0<=n:=by omega
  by_cases h1:(ss.length:Int)<=n
  .have B:m2 (qk ss n=([],6)):=by show qk _ _=_; unfold qk; rw[if_pos (Or.inr h1)]
   go_enter m1,mi;go_wp2;go_ret2;rw[B.out];exact⟨rfl,rfl⟩
  .obtain⟨m,rfl⟩:∃m:Nat,n=(m:Int):=⟨n.toNat,by omega⟩;have hm:m<ss.length:=by omega
   have ac:(m:Int)<(ss.length:Int):=by omega
   have B:m2 (qk ss (m:Int)=(dS ss[m],0)):=by
    show qk _ _=_;unfold qk;rw[if_neg (by omega),Int.toNat_natCast,dk,dd hm];rfl
   obtain⟨bb,off,rfl,U⟩:=HR.out m hm;clear h0 O h1;go_enter m1,mi;go_wp2;go_ret2;rw[B.out];exact⟨rfl,rfl⟩
end
section
open Go.RowKit Go.Maps
variable {base:Nat} {v v' x:Value} {l:Wd} {w w':World}
theorem yE{P:Program}(w:World)(base:Nat)(t u ty e:g8)(i:TypeInfo)(ht:P.underlying t=some (.slice e))(hu:P.underlying u=some .string)(hi:P.info? e=some i)(hz:i.zero=some (.int .u8 0))
  (y:i.size=1) (aa:i.bytes=1) (v:Value) (n:Nat) (xs:List Value) (B:w.ownsRow base e 1 v n xs) (hn:0<n) (s:ByteArray) (hb:(n+s.size)*1<=140737488355328) (O:base<=w.heap.size) :
  ∃v' w',(n3 #[t,u] ty #[v,.string s]).run P w=.ok v' w'/\w'.ownsRow base e 1 v' (n+s.size) (xs++fF s.data.toList)/\w.grownBy w' v.ownBlock/\(v'.ownBlock=v.ownBlock\/v'.ownBlock=some w.heap.size):=by
 obtain⟨v',w',U,h2,h3,_⟩:=Lib.run_append_own_string (P:=P) w base t u ty e i ht hu hi hz y aa v n xs B s (by unfold g5; omega) (by omega) O;refine⟨v',w',U,h2,h3,?_⟩;rcases B.2 with⟨rfl,rfl⟩|⟨g,c,ab,rfl,ad,hg,ae,af,ag,ac⟩
 .omega
 .by_cases W:n+s.size<=c
  .have Y:=Lib.run_append_room_string (P:=P) w t u ty e i ht hu hi y g n c ab hg s W (by omega);rw[Y]at U;simp only[Result.ok.injEq]at U;exact Or.inl (by rw[<-U.1]; rfl)
  .have holds:=B.cells (g:=g) rfl;have Y:=Lib.run_append_grow_string (P:=P) w t u ty e i _ ht hu hi hz _ n c xs (by rw[y]; exact B.1) holds s (by omega) (by omega) (by rw[aa]; exact growslice_fits (by omega) hb);rw[Y]at U;simp only[Result.ok.injEq]at U;exact Or.inr (by rw[<-U.1]; rfl)
theorem tq{P:Program}(w:World){ops:Array Oper}{rest:List Oper}{o:Oper}{a:Act}{Q:Exit->Act->World->Prop}(U:o.guard=none)(sl x:Operand)(t u:g8)
  (Y:o.op=.call {callee:=.builtin .append,args:=#[sl,x],argTypes:=#[t,u]})
  (base:Nat) (e:g8) (i:TypeInfo) (ht:P.underlying t=some (.slice e)) (hu:P.underlying u=some .string) (hi:P.info? e=some i) (hz:i.zero=some (.int .u8 0))
  (y:i.size=1) (W:i.bytes=1) (v:Value) (n:Nat) (xs:List Value) (hs:a.eval sl=v) (O:w.ownsRow base e 1 v n xs) (hn:0<n) (s:ByteArray) (hx:a.eval x=.string s) (hb:(n+s.size)*1<=140737488355328) (B:base<=w.heap.size)
  (h:∀v' w',w'.ownsRow base e 1 v' (n+s.size) (xs++fF s.data.toList)->w.grownBy w' v.ownBlock->(v'.ownBlock=v.ownBlock\/v'.ownBlock=some w.heap.size)->h9 P ops Q rest (a.put o.dst v') w'):h9 P ops Q (o::rest) a w:=by
 refine hQ U λ_ hK=>?_;obtain⟨v',w',hr,h2,h3,h4⟩:=yE (P:=P) w base t u o.type e i ht hu hi hz y W v n xs O hn s hb B;unfold m' hJ;simp only[Y,h8,invoke,builtin,o0,ov,o1,ek,ej,et,hs,hx,hr];exact hK _ _ (h v' w' h2 h3 h4)
def fo(w:World)(base:Nat)(v:Value)(l:Wd):Prop:=w.ownsRow base 5 1 v l.length (fF l)
def eF(w w':World)(v v':Value):Prop:=du (λk=>v.ownBlock=some k) w w'/\∀k,v'.ownBlock=some k->v.ownBlock=some k\/w.heap.size<=k
theorem eF.trans{a b c:World}{u:Value}(h:eF a b u v)(k:eF b c v x):eF a c u x:=by
 refine⟨h.1.trans k.1 (λi hi B=>?_),λi hi=>?_⟩
 .rcases h.2 i B with y|y
  .exact y
  .omega
 .rcases k.2 i hi with y|y
  .exact h.2 i y
  .exact Or.inr (ip h.1.size y)
theorem eF.below(h:Below w.heap.size w w')(v:Value):eF w w' v v:=⟨du.fC h,λ_ h=>Or.inl h⟩
theorem eF.of{o:Obj}(y:(w.alloc o).grownBy w' v.ownBlock)(O:v'.ownBlock=v.ownBlock\/v'.ownBlock=some (w.heap.size+1)):eF w w' v v':=by
 have U:=y.size;simp at U;refine⟨⟨y.os,y.tape,y.output,by omega,λk B W=>?_⟩,λk B=>?_⟩
 .rw[y.block k (by simp; omega) (λe=>W e.symm),m9 _ _ _ B]
 .rcases O with h|h
  .exact Or.inl (by rw[<-h]; exact B)
  .rw[h]at B;simp at B;exact Or.inr (by omega)
theorem eF.TJ(y:w.grownBy w' v.ownBlock)(O:v'.ownBlock=v.ownBlock\/v'.ownBlock=some w.heap.size):eF w w' v v':=by
 refine⟨⟨y.os,y.tape,y.output,y.size,λk B U=>y.block k B (λe=>U e.symm)⟩,λk B=>?_⟩;rcases O with h|h
 .exact Or.inl (by rw[<-h]; exact B)
 .rw[h]at B;simp at B;exact Or.inr (by omega)
def OE(base:Nat)(w:World)(v:Value)(l new:Wd)(e:Ending)(w':World):Prop:=∃v',e=.returned v'/\fo w' base v' (l++new)/\eF w w' v v'
theorem fo.below(h:fo w base v l)(hb:Below w.heap.size w w'):fo w' base v l:=eD h (λk y=>hb.block k (h.lt k y).2)
theorem gY(a b:Wd):fF (a++b)=fF a++fF b:=by simp[fF]
theorem jD(base:Nat)(v:Value)(l:Wd)(s:ByteArray)(w:World)(h:fo w base v l)(hl:l.length<=1099511627776)(hs:s.size<=1099511627776)(ad:base<=w.heap.size) :
  g6 prog 177 #[v,.string s] w (OE base w v l (dK s.data.toList)):=by
 obtain⟨i0,hi,U,W,Y⟩:=g9 Fa;obtain⟨a,c,rfl,hc⟩:=dM h;have HO:m2 (fo _ _ _ _):=h;clear h;go_enter func177,ntmps177
 go_wp2_with (first
  |(at_builtin; refine fw _ rfl _ _ 60 rfl base 5 i0 (.int .u8 0) 1 i' hi U W Y rfl _ _ _ rfl (HO.out.alloc _) _ [.int .u8 ((s.size:Int) % 256)] rfl (Rd.one iG) (by simp[oc]) ?c1 ?c2 ?c3 ?_))
 case c1=>simp; omega
 case c2=>unfold g5; simp; omega
 case c3=>simp; omega
 intro v1 w1 y aa ab
 have hO1:fo w1 base v1 (l++[u8 s.size]):=by
  unfold fo;rw[gY,mf,cc];exact y
 have ac:m2 (eF w w1 (.slice a l.length c) v1):=eF.of aa ab
 have B:w1.ownsRow base 5 1 v1 (l.length+1) (fF (l++[u8 s.size])):=by
  unfold fo at hO1;rw[cc]at hO1;exact hO1
 obtain⟨a1,c1,rfl,ak⟩:=dM B;have ae:m2 (w1.ownsRow base 5 1 (.slice a1 (l.length+1) c1) (l.length+1) (fF (l++[u8 s.size]))):=B;have aj:=ac.out.1.size;clear y aa ab hO1 B
 go_wp2_with (first
  |(at_builtin; refine tq _ rfl _ _ 60 9 rfl base 5 i0 i' j1 hi U W Y _ _ _ rfl ae.out ?d1 s rfl ?d2 ?d3 ?_))
 case d1=>omega
 case d2=>omega
 case d3=>omega
 intro v2 w2 O af ag
 have ah:m2 (fo w2 base v2 (l++dK s.data.toList)):=by
  show fo _ _ _ _;unfold fo dK;have e:l++u8 s.data.toList.length::s.data.toList=(l++[u8 s.size])++s.data.toList:=by simp
  rw[e,gY,cc];have e3:(l++[u8 s.size]).length=l.length+1:=by simp
  rw[e3];exact O
 have ai:m2 _:=ac.out.trans (eF.TJ af ag);go_wp2;go_ret;exact⟨v2,rfl,ah.out,ai.out⟩
theorem Rd.three{y z:Value}{t:g8}:Rd (w.alloc (.cells #[x,y,z] t)) (.slice (some ⟨w.heap.size,0,none⟩) 3 3) [x,y,z]:=by
 refine⟨some _,3,rfl,hY _,by unfold g5; omega,λj u B=>⟨w.heap.size,0,rfl,?_⟩⟩
 match j,B with
 |0,B=>simpa using B
 |1,B=>simpa using B
 |2,B=>simpa using B
 |j+3,B=>simp at B
theorem oL(base:Nat)(v:Value)(l:Wd)(n:Int)(w:World)(h:fo w base v l)(hl:l.length<=1099511627776)(ad:0<=n)(hn:n<=1000000)(U:base<=w.heap.size) :
  g6 prog 178 #[v,.int .i64 n] w (OE base w v l (gX n)):=by
 obtain⟨i0,hi,W,Y,aa⟩:=g9 Fa;obtain⟨a,c,rfl,hc⟩:=dM h;have HO:m2 (fo _ _ _ _):=h;clear h;go_enter func178,ntmps178
 go_wp2_with (first
  |(at_builtin; refine fw _ rfl _ _ 60 rfl base 5 i0 (.int .u8 0) 1 i' hi W Y aa rfl _ _ _ rfl (HO.out.alloc _) _ [.int .u8 (n / 65536),.int .u8 (n / 256 % 256),.int .u8 (n % 256)] rfl Rd.three (by simp[oc]) ?c1 ?c2 ?c3 ?_))
 case c1=>simp; omega
 case c2=>unfold g5; simp; omega
 case c3=>simp; omega
 intro v1 w1 y B O
 have ab:m2 (fo w1 base v1 (l++gX n)):=by
  show fo _ _ _ _;unfold fo;rw[gY,cc]
  have e:fF (gX n)=[.int .u8 (n / 65536),.int .u8 (n / 256 % 256),.int .u8 (n % 256)]:=by
   obtain⟨m,rfl⟩:∃m:Nat,n=(m:Int):=⟨n.toNat,by omega⟩;rw[uF m (by omega)];simp only[fF,ej,et];rw[sJ _ (by omega),sJ _ (by omega),sJ _ (by omega)];simp
  rw[e];exact y
 have ac:m2 (eF w w1 (.slice a l.length c) v1):=eF.of B O;clear y B O;go_wp2;go_ret;exact⟨v1,rfl,ab.out,ac.out⟩
theorem fo.form(h:fo w base v l):∃a c,v=.slice a l.length c:=by
 obtain⟨a,c,e,_⟩:=dM h;exact⟨a,c,e⟩
theorem wJ(base:Nat)(v:Value)(l:Wd)(e:dp)(w:World)(h:fo w base v l)(hl:l.length<=549755813888)(ai:Ju e)(a6:base<=w.heap.size) :
  g6 prog 181 #[v,zA e] w (OE base w v l (nv e)):=by
 obtain⟨i0,hi,a7,a8,a9⟩:=g9 Fa;obtain⟨y,gn,tx,wt,tg⟩:=e;have h1:=(gG ai.2.1).2;have h2:=jC ai.2.2.1;obtain⟨_,_,_,_,h3,h4,h5,h6⟩:=ai;simp only at h1 h2 h3 h4 h5 h6;obtain⟨a,c,rfl⟩:=h.form;obtain⟨w0,aj⟩:∃w0,w.alloc (.cells #[.string ⟨y.toArray⟩,.string ⟨tx.toArray⟩,.int .i64 wt,.int .i64 tg] 96)=w0:=⟨_,rfl⟩;have ab:Below w.heap.size w w0:=by rw[<-aj]; exact(m7 _ _).alloc (hY _) _
 have aU:=ab.size;have ak:w0.heap[w.heap.size]?=some (.cells #[.string ⟨y.toArray⟩,.string ⟨tx.toArray⟩,.int .i64 wt,.int .i64 tg] 96 (0,0)):=by rw[<-aj]; exact hI w _
 have B:∀W:World,W.heap[w.heap.size]?=some (.cells #[.string ⟨y.toArray⟩,.string ⟨tx.toArray⟩,.int .i64 wt,.int .i64 tg] 96 (0,0))->W.cell? ⟨w.heap.size,0,none⟩=some (.string ⟨y.toArray⟩)/\W.cell? ⟨w.heap.size,1,none⟩=some (.string ⟨tx.toArray⟩)/\W.cell? ⟨w.heap.size,2,none⟩=some (.int .i64 wt)/\W.cell? ⟨w.heap.size,3,none⟩=some (.int .i64 tg):=by
  intro W hW;exact⟨by rw[dh hW]; rfl,by rw[dh hW]; rfl,by rw[dh hW]; rfl,by rw[dh hW]; rfl⟩
 have HC:m2 (∀W:World,W.heap[w.heap.size]?=some (.cells #[.string ⟨y.toArray⟩,.string ⟨tx.toArray⟩,.int .i64 wt,.int .i64 tg] 96 (0,0))->W.cell? ⟨w.heap.size,0,none⟩=some (.string ⟨y.toArray⟩)/\W.cell? ⟨w.heap.size,1,none⟩=some (.string ⟨tx.toArray⟩)/\W.cell? ⟨w.heap.size,2,none⟩=some (.int .i64 wt)/\W.cell? ⟨w.heap.size,3,none⟩=some (.int .i64 tg)):=B;obtain⟨d0,_,_,_⟩:=B w0 ak;have al:=h.below ab;have a':(⟨y.toArray⟩:ByteArray).size<=1099511627776:=by show y.toArray.size<=_; simp; omega
 have aA:(⟨tx.toArray⟩:ByteArray).size<=1099511627776:=by show tx.toArray.size<=_; simp; omega
 have av:=jD base _ l ⟨y.toArray⟩ w0 al (by omega) a' (by omega);have aB:m2 (eF w w0 (.slice a l.length c) (.slice a l.length c)):=eF.below ab _;have am:m2 (w0.heap[w.heap.size]?=some (.cells #[.string ⟨y.toArray⟩,.string ⟨tx.toArray⟩,.int .i64 wt,.int .i64 tg] 96 (0,0))):=ak;have aw:∀(W:World)(v:Value)(k:Wd),fo W base v k->W.heap[w.heap.size]?=some (.cells #[.string ⟨y.toArray⟩,.string ⟨tx.toArray⟩,.int .i64 wt,.int .i64 tg] 96 (0,0))->v.ownBlock≠some w.heap.size:=λW v k ho hh=>pH hh ho (by decide);have an:m2 (∀(W:World)(v:Value)(k:Wd),fo W base v k->W.heap[w.heap.size]?=some (.cells #[.string ⟨y.toArray⟩,.string ⟨tx.toArray⟩,.int .i64 wt,.int .i64 tg] 96 (0,0))->v.ownBlock≠some w.heap.size):=aw;have aC:m2 (fo _ _ _ _):=al;clear h ab ak B aw al;unfold zA;go_enter func181,ntmps181;go_wp2_with fail;refine av.mono ?_;rintro e1 w1 ⟨v1,rfl,O,ac⟩;obtain⟨L1,ad⟩:∃L1,L1=l++dK y:=⟨_,rfl⟩;have aY:L1.length<=l.length+30:=by rw[ad]; simp[dK]; omega
 have aD:m2 (L1=l++dK y):=ad;change fo w1 base v1 (l++dK y)at O;rw[<-ad]at O;have ao:w1.heap[w.heap.size]?=some (.cells #[.string ⟨y.toArray⟩,.string ⟨tx.toArray⟩,.int .i64 wt,.int .i64 tg] 96 (0,0)):=by rw[ac.1.block _ (eT am.out) (an.out w0 _ _ aC.out am.out)]; exact am.out
 have aE:m2 (eF w w1 (.slice a l.length c) v1):=aB.out.trans ac;obtain⟨a1,c1,rfl⟩:=O.form;have ax:m2 (fo _ _ _ _):=O;have ap:m2 (w1.heap[w.heap.size]?=some (.cells #[.string ⟨y.toArray⟩,.string ⟨tx.toArray⟩,.int .i64 wt,.int .i64 tg] 96 (0,0))):=ao;obtain⟨aF,aG,aH,aI⟩:=HC.out w1 ao;have aV:=ac.1.size;clear av O ac ao ad;clear aj d0;have ay:=jD base _ L1 ⟨tx.toArray⟩ w1 ax.out (by omega) aA (by omega);go_wp2_with fail;refine ay.mono ?_;rintro e2 w2 ⟨v2,rfl,U,ae⟩;obtain⟨L2,af⟩:∃L2,L2=L1++dK tx:=⟨_,rfl⟩;have aZ:L2.length<=L1.length+30:=by rw[af]; simp[dK]; omega
 have aJ:m2 (L2=L1++dK tx):=af;change fo w2 base v2 (L1++dK tx)at U;rw[<-af]at U;have aq:w2.heap[w.heap.size]?=some (.cells #[.string ⟨y.toArray⟩,.string ⟨tx.toArray⟩,.int .i64 wt,.int .i64 tg] 96 (0,0)):=by rw[ae.1.block _ (eT ap.out) (an.out w1 _ _ ax.out ap.out)]; exact ap.out
 have aK:m2 (eF w w2 (.slice a l.length c) v2):=aE.out.trans ae;obtain⟨a2,c2,rfl⟩:=U.form;have az:m2 (fo _ _ _ _):=U;have ar:m2 (w2.heap[w.heap.size]?=some (.cells #[.string ⟨y.toArray⟩,.string ⟨tx.toArray⟩,.int .i64 wt,.int .i64 tg] 96 (0,0))):=aq;obtain⟨aL,aM,aN,aO⟩:=HC.out w2 aq;have aW:=ae.1.size;clear ay U ae aq af;have a0:=oL base _ L2 wt w2 az.out (by omega) h3 h4 (by omega);clear aF aG aH aI;go_wp2_with fail;refine a0.mono ?_;rintro e3 w3 ⟨v3,rfl,Y,ag⟩;obtain⟨L3,ah⟩:∃L3,L3=L2++gX wt:=⟨_,rfl⟩;have ba:L3.length<=L2.length+30:=by rw[ah]; simp[gX]
 have aP:m2 (L3=L2++gX wt):=ah;change fo w3 base v3 (L2++gX wt)at Y;rw[<-ah]at Y;have au:w3.heap[w.heap.size]?=some (.cells #[.string ⟨y.toArray⟩,.string ⟨tx.toArray⟩,.int .i64 wt,.int .i64 tg] 96 (0,0)):=by rw[ag.1.block _ (eT ar.out) (an.out w2 _ _ az.out ar.out)]; exact ar.out
 have aQ:m2 (eF w w3 (.slice a l.length c) v3):=aK.out.trans ag;obtain⟨a3,c3,rfl⟩:=Y.form;have aR:m2 (fo _ _ _ _):=Y;have bc:m2 (w3.heap[w.heap.size]?=some (.cells #[.string ⟨y.toArray⟩,.string ⟨tx.toArray⟩,.int .i64 wt,.int .i64 tg] 96 (0,0))):=au;obtain⟨bd,be,bf,bg⟩:=HC.out w3 au;have aX:=ag.1.size;clear a0 Y ag au ah;clear aL aM aN aO
 go_wp2_with (first
  |(at_builtin; refine fw _ rfl _ _ 60 rfl base 5 i0 (.int .u8 0) 1 i' hi a7 a8 a9 rfl _ _ _ rfl (aR.out.alloc _) _ [.int .u8 tg] rfl (Rd.one iG) (by simp[oc]) ?c1 ?c2 ?c3 ?_))
 case c1=>simp; omega
 case c2=>unfold g5; simp; omega
 case c3=>simp; omega
 intro v4 w4 aa a4 a5
 have aS:m2 (fo w4 base v4 (l++nv ⟨y,gn,tx,wt,tg⟩)):=by
  show fo _ _ _ _;have e:l++nv ⟨y,gn,tx,wt,tg⟩=L3++[u8 tg]:=by rw[aP.out,aJ.out,aD.out]; simp[nv]
  rw[e];unfold fo;rw[gY,mf,cc,show tg % 256=tg by omega];exact aa
 have aT:m2 (eF w w4 (.slice a l.length c) v4):=aQ.out.trans (eF.of a4 a5);clear aa a4 a5;go_wp2;go_ret;exact⟨v4,rfl,aS.out,aT.out⟩
end
section
open Go.RowKit Go.Maps
variable {L:List dp} {b n o:Nat} {v:Value} {a:Wd} {w w':World}
structure pK(w:World)(b o:Nat)(e:dp):Prop where
 path:w.cell? ⟨b,o,none⟩=some (.string ⟨(dE e).toArray⟩)
 name:w.cell? ⟨b,o+1,none⟩=some (.string ⟨e.name.toArray⟩)
 text:w.cell? ⟨b,o+2,none⟩=some (.string ⟨e.text.toArray⟩)
 dq:w.cell? ⟨b,o+3,none⟩=some (.int .i64 e.dq)
 dB:w.cell? ⟨b,o+4,none⟩=some (.int .i64 e.dB)
 blk:∃cs fz,w.heap[b]?=some (.cells cs 237 fz)
def oh(w:World)(v:Value)(L:List dp):Prop:=∃a cap,v=.slice a L.length cap/\L.length<=cap/\cap<=g5/\∀i(h:i<L.length),∃b off,a=some ⟨b,off,none⟩/\pK w b (off+i*5) L[i]
theorem pK.stay{e:dp}(h:pK w b o e)(hb:w'.heap[b]?=w.heap[b]?):pK w' b o e:=by
 have y:∀(o:Nat)(u:Value),w.cell? ⟨b,o,none⟩=some u->w'.cell? ⟨b,o,none⟩=some u:=λo u B=>by
  simp only[nr]at B⊢;rw[hb];exact B
 exact⟨y _ _ h.path,y _ _ h.name,y _ _ h.text,y _ _ h.dq,y _ _ h.dB,by rw[hb]; exact h.blk⟩
theorem pK.lt{e:dp}(h:pK w b o e):b<w.heap.size:=by
 obtain⟨cs,fz,y⟩:=h.blk;exact(m3.1 y).1
theorem oh.below(h:oh w v L)(hb:Below w.heap.size w w'):oh w' v L:=by
 obtain⟨a,cap,B,O,U,W⟩:=h;refine⟨a,cap,B,O,U,λi hi=>?_⟩;obtain⟨b,off,Y,y⟩:=W i hi;exact⟨b,off,Y,y.stay (hb.block b y.lt)⟩
theorem oh.wrote{u B:Value}{base:Nat}{l:Wd}(h:oh w v L)(O:fo w base u l)(U:eF w w' u B):oh w' v L:=by
 obtain⟨a,cap,W,Y,h3,h4⟩:=h;refine⟨a,cap,W,Y,h3,λi hi=>?_⟩;obtain⟨b,off,e1,y⟩:=h4 i hi;refine⟨b,off,e1,y.stay (U.1.block b y.lt (λe=>?_))⟩;obtain⟨cs,fz,hh⟩:=y.blk;exact pH hh O (by decide) e
theorem Cv(v:Value)(L:List dp)(w:World)(h:oh w v L) :
  g6 prog 179 #[v] w λe w'=>e=.returned (.int .i64 (gI L))/\Below w.heap.size w w':=by
 obtain⟨a,cap,rfl,W,hm,O⟩:=h;have U:m2 (∀i(h:i<L.length),∃b off,a=some ⟨b,off,none⟩/\pK w b (off+i*5) L[i]):=O;unfold g5 at hm;clear O;go_enter func179,ntmps179;go_wp2;go_loopw [3,8] (λg i wr=>∃k:Nat,k<=L.length/\i=.int .i64 k/\g=.int .i64 (gI (L.take k))/\Below w.heap.size w wr) (λ_ i _=>L.length-(intOf i).toNat)
 case atStart=>exact⟨0,hZ _,rfl,rfl,m7 _ _⟩
 case round=>
  obtain⟨k,Y,rfl,rfl,hb⟩:=hrel;have HB:m2 (Below _ _ _):=hb;have hz:=hb.size;clear hb;by_cases y:k<L.length
  .obtain⟨b,off,rfl,B⟩:=U.out k y;have q0:=gv HB.out B.path;have q1:=gv HB.out B.name;have q2:=gv HB.out B.text;have q3:=gv HB.out B.dq;have q4:=gv HB.out B.dB
   have HE:m2 (gI (L.take (k+1))=max (gI (L.take k)) L[k].dq):=by
    show _=_;rw[de y,nM,k6,show gI []=0 from rfl];have:=mY (L.take k);omega
   go_wp2;go_roundw
   case rel=>exact⟨k+1,by omega,by go_num,by rw[HE.out],HB.out.alloc hz _⟩
   case measure=>simp[intOf]; omega
  .have HE:m2 (L.take k=L):=er (by omega);go_wp2;go_ret;exact⟨eQ (by rw[HE.out]),HB.out⟩
theorem Py(L:List dp)(d:Nat):iJ L d<=L.length:=by
 exact(List.takeWhile_sublist _).length_le
theorem Fz{d k:Nat}(y:k<=L.length)(B:∀j(h:j<k),(dE (L[j]'(by omega))).length=d)(O:∀h:k<L.length,(dE L[k]).length≠d):iJ L d=k:=by
 exact Ah _ _ k y (λj U=>by simpa using B j U) (λh=>by simpa using O h)
theorem wO(v:Value)(L:List dp)(d:Nat)(w:World)(h:oh w v L) :
  g6 prog 180 #[v,.int .i64 d] w λe w'=>e=.returned (.int .i64 (iJ L d))/\Below w.heap.size w w':=by
 obtain⟨a,cap,rfl,hc,hm,hr⟩:=h;have HR:m2 (∀i(h:i<L.length),∃b off,a=some ⟨b,off,none⟩/\pK w b (off+i*5) L[i]):=hr;unfold g5 at hm;clear hr;go_enter func180,ntmps180;go_wp2;go_loopw [5] (λi wr=>∃k:Nat,k<=L.length/\i=.int .i64 k/\(∀j(h:j<k)(h':j<L.length),(dE L[j]).length=d)/\Below w.heap.size w wr) (λi _=>L.length-(intOf i).toNat)
 case atStart=>exact⟨0,hZ _,rfl,λj h=>by omega,m7 _ _⟩
 case round=>
  obtain⟨k,hk,rfl,ft,hb⟩:=hrel;have O:m2 (Below _ _ _):=hb;have U:m2 (∀j(h:j<k)(h':j<L.length),(dE L[j]).length=d):=ft;clear hb ft;by_cases B:k<L.length
  .obtain⟨b,off,rfl,hL⟩:=HR.out k B;have q0:=gv O.out hL.path;have aa:(k:Int)<(L.length:Int):=by omega
   clear hL;by_cases y:(dE L[k]).length=d
   .have HD:m2 ((dE L[k]).length=d):=y;have W:(((dE L[k]).length:Int)==(d:Int))=true:=beq_iff_eq.2 (by omega);clear y;go_wp2;go_roundw
    case rel=>exact⟨k+1,by omega,by go_num,λj h h'=>by
     by_cases e:j=k
     .subst e; exact HD.out
     .exact U.out j (by omega) h',O.out⟩
    case measure=>simp[intOf]; omega
   .have Y:m2 (iJ L d=k):=Fz hk (λj h=>U.out j h (by omega)) (λ_=>y);have W:(((dE L[k]).length:Int)==d)=false:=beq_eq_false_iff_ne.2 (by omega);go_wp2;go_ret;exact⟨eQ (by rw[Y.out]),O.out⟩
  .have Y:m2 _:=Fz hk (λj h=>U.out j h _) (λh=>absurd h B);go_wp2;go_ret;exact⟨eQ (by rw[Y.out]),O.out⟩
theorem wR{y:Type}{L:List y}(h:L≠[]):0<L.length:=List.length_pos_iff.2 h
theorem xi{b:Wd}(h1:n<=a.length)(O:a.take n=b.take n)(U:n=a.length\/n=b.length\/a.getD n 0≠b.getD n 0):(rX a b).length=n:=by
 have W:=qZ a b _ (gd ..) (by rw[O]; exact gd ..);have Y:=W.length_le;rw[cp]at Y;have B:=rk a b;have hb:=pG a b;rcases Nat.lt_or_ge n _ with y|aa
 .have e1:=Ee B n y;have e2:=Ee hb n y;have:=B.length_le;have:=hb.length_le;rcases U with h|h|h
  .omega
  .omega
  .exact absurd (e1.trans e2.symm) h
 .omega
theorem JW{b:Wd}(B:n<a.length)(O:n<b.length)(U:a.take n=b.take n)(y:a.getD n 0=b.getD n 0):a.take (n+1)=b.take (n+1):=by
 rw[de B,de O,U];rw[dk,dd B,dk,dd O]at y;simp only[Option.getD_some]at y;rw[y]
theorem O2(h:L≠[]):ig L=rX (dE (L[0]'(wR h))) (dE (L[L.length-1]'(by have:=wR h; omega))):=by
 cases L with
 |nil=>exact absurd rfl h
 |cons e C=>
  unfold ig;simp only[ev];rw[List.getLast_eq_getElem]
theorem Gs(v:Value)(L:List dp)(w:World)(h:oh w v L)(W:L≠[])(O:∀e∈L,(dE e).length<=24) :
  g6 prog 183 #[v] w λe w'=>e=.returned (.int .i64 (ig L).length)/\Below w.heap.size w w':=by
 obtain⟨a,cap,rfl,hc,hm,hr⟩:=h;unfold g5 at hm;have y:=wR W;obtain⟨b,off,rfl,h0⟩:=hr 0 y;obtain⟨b',aj,e',h1⟩:=hr (L.length-1) (by omega);simp only[ne,o4,and_true]at e';obtain⟨rfl,rfl⟩:=e';have HC:m2 (ig L=rX (dE (L[0]'y)) (dE (L[L.length-1]'(by omega)))):=O2 W;have hA:(dE (L[0]'y)).length<=24:=O _ (ch _);have hB:(dE (L[L.length-1]'(by omega))).length<=24:=O _ (ch _);have c0:=h0.path;have c1:=h1.path;rw[i7,i6]at c0;obtain⟨m,ab⟩:∃m,L.length=m+1:=⟨L.length-1,by omega⟩;have U:L.length-1=m:=by omega
 rw[show off+(L.length-1)*5=off+m*5 by rw[U]]at c1;clear h0 h1 hr O;generalize ac:dE (L[0]'y)=A at *;generalize ad:dE (L[L.length-1]'(by omega))=B at *;clear ac ad W U y;rw[ab]at hc⊢;have al:IntKind.i64.wrap (((m+1:Nat):Int)-1)=(m:Int):=by simp only[oa]; omega
 have ak:IntKind.i64.wrap ((m:Int)+1-1)=(m:Int):=by simp only[oa]; omega
 have i0:(0:Int)<(m:Int)+1:=by omega
 have i1:(m:Int)<(m:Int)+1:=by omega
 have i2:(0:Int)<=(m:Int):=by omega
 have am:(⟨A.toArray⟩:ByteArray).size=A.length:=by show A.toArray.size=_; simp
 have an:(⟨B.toArray⟩:ByteArray).size=B.length:=by show B.toArray.size=_; simp
 have ae:m2 (∀(n:Nat)(h:n<(⟨A.toArray⟩:ByteArray).size),(⟨A.toArray⟩:ByteArray)[n]=A.getD n 0):=λn h=>(lu ⟨A.toArray⟩ n h).symm;have af:m2 (∀(n:Nat)(h:n<(⟨B.toArray⟩:ByteArray).size),(⟨B.toArray⟩:ByteArray)[n]=B.getD n 0):=λn h=>(lu ⟨B.toArray⟩ n h).symm;generalize (⟨A.toArray⟩:ByteArray)=bA at *;generalize (⟨B.toArray⟩:ByteArray)=bB at *;go_enter func183,ntmps183;go_wp2_with fail;go_quiet (fail);go_wp2;go_loopw [5] (λi wr=>∃n:Nat,n<=A.length/\n<=B.length/\i=.int .i64 n/\A.take n=B.take n/\Below w.heap.size w wr) (λi _=>A.length-(intOf i).toNat)
 case atStart=>exact⟨0,hZ _,hZ _,rfl,by simp,iU (m7 _ _) _⟩
 case round=>
  obtain⟨n,Y,ao,rfl,aa,hb⟩:=hrel;have HB:m2 (Below _ _ _):=hb;have HE:m2 (A.take n=B.take n):=aa;clear hb aa;by_cases h1:n<A.length
  .have ag:(n:Int)<(A.length:Int):=by omega
   by_cases h2:n<B.length
   .have ah:(n:Int)<(B.length:Int):=by omega
    have gA:=ae.out n (by omega);have gB:=af.out n (by omega);by_cases h3:A.getD n 0=B.getD n 0
    .have HT:m2 (A.take (n+1)=B.take (n+1)):=JW h1 h2 HE.out h3;have ai:(((bA[n]'(by omega)).toNat:Int)==((bB[n]'(by omega)).toNat:Int))=true:=beq_iff_eq.2 (by rw[gA,gB,h3]);clear h3 gA gB;go_wp2_with fail;go_quiet (fail);go_wp2;go_roundw
     case rel=>exact⟨n+1,by omega,by omega,by go_num,HT.out,iU HB.out _⟩
     case measure=>simp[intOf]; omega
    .have HT:m2 ((ig L).length=n):=by show _=_; rw[HC.out]; exact xi Y HE.out (Or.inr (Or.inr h3))
     have ai:(((bA[n]'(by omega)).toNat:Int)==((bB[n]'(by omega)).toNat:Int))=false:=beq_eq_false_iff_ne.2 (by
      rw[gA,gB];intro hh
      exact h3 (UInt8.toNat_inj.1 (by omega)))
     clear h3 gA gB;go_wp2_with fail;go_quiet (fail);go_wp2;go_ret;exact⟨eQ (by rw[HT.out]),iU HB.out _⟩
   .have HT:m2 ((ig L).length=n):=by show _=_; rw[HC.out]; exact xi Y HE.out (Or.inr (Or.inl (by omega)))
    have ah:decide ((n:Int)<(B.length:Int))=false:=decide_eq_false (by omega);go_wp2_with fail;go_quiet (fail);go_wp2;go_ret;exact⟨eQ (by rw[HT.out]),iU HB.out _⟩
  .have HT:m2 ((ig L).length=n):=by show _=_; rw[HC.out]; exact xi Y HE.out (Or.inl (by omega))
   have ag:decide ((n:Int)<(A.length:Int))=false:=decide_eq_false (by omega);go_wp2_with fail;go_quiet (fail);go_wp2;go_ret;exact⟨eQ (by rw[HT.out]),iU HB.out _⟩
end
section
open Go.RowKit Go.Maps
variable {Cs:List (List dp)} {L:List dp} {v:Value} {w w':World}
theorem Kh(d:Nat)(e:dp)(l:List dp):∃g gs,runs d (e::l)=(e::g)::gs:=by
 unfold runs;split
 .exact⟨[],[],rfl⟩
 .exact⟨[],_,rfl⟩
 .split
  .exact⟨_,_,rfl⟩
  .exact⟨[],_,rfl⟩
theorem Mz(d:Nat):∀(X:List dp)(j:Nat),j<X.length->(∀i,i<j->∀(U:i+1<X.length),eW d (X[i]'(by omega))=eW d X[i+1])->(∀h:j+1<X.length,eW d (X[j]'(by omega))≠eW d X[j+1])->
  runs d X=X.take (j+1)::runs d (X.drop (j+1)):=by
 intro X
 induction X with
 |nil=>intro j h; simp at h
 |cons e l ih=>
  intro j hj W Y
  cases j with
  |zero=>
   cases l with
   |nil=>simp[runs]
   |cons x l'=>
    obtain⟨g,gs,hg⟩:=Kh d x l';have y:=Y (by simp);simp only[ev,ff]at y;simp only[ex,List.take_zero,fs,List.drop_zero];rw[runs,hg];simp only;rw[if_neg y]
  |succ j=>
   have B:=by simpa using hj
   have h1:=ih j B (λi h U=>by have:=W (i+1) (by omega) (by simpa using U); simpa using this) (λh=>by have:=Y (by simpa using h); simpa using this)
   cases l with
   |nil=>simp at B
   |cons x l'=>
    have O:=W 0 (by omega) (by simp);simp only[ev,ff]at O;rw[ex,fs,runs,h1,ex];simp only;rw[if_pos O]
theorem zD{d:Nat}{st k:Nat}(B:st<=k)(Y:k<L.length)(O:∀i,st<=i->i<k->∀(y:i+1<L.length),eW d (L[i]'(by omega))=eW d L[i+1])(U:∀h:k+1<L.length,eW d (L[k]'(by omega))≠eW d L[k+1]) :
  runs d (L.drop st)=(L.drop st).take (k+1-st)::runs d (L.drop (k+1)):=by
 have h:=Mz d (L.drop st) (k-st) (by simp; omega) (λi hi y=>by
  have:=O (st+i) (by omega) (by omega) (by omega)
  simpa[Nat.add_assoc]using this) (λy=>by
  rw[dg]at y;have:=U (by omega);have e:st+(k-st)=k:=by omega
  have W:st+(k-st+1)=k+1:=by omega
  simpa[e,W]using this)
 rw[h,List.drop_drop,show st+(k-st+1)=k+1 by omega,show k-st+1=k+1-st by omega]
theorem oh.sub{b off n cap:Nat}(h:oh w (.slice (some ⟨b,off,none⟩) n cap) L)(s t:Nat)(O:s<=t)(ht:t<=L.length):oh w (.slice (some ⟨b,off+s*5,none⟩) (t-s) (cap-s)) ((L.drop s).take (t-s)):=by
 obtain⟨a,c,e,h1,h2,U⟩:=h;obtain⟨rfl,_,rfl⟩:=e;have y:((L.drop s).take (t-s)).length=t-s:=by simp; omega
 refine⟨some _,cap-s,by rw[y],by omega,by omega,λi hi=>?_⟩;rw[y]at hi;obtain⟨b',B,W,Y⟩:=U ..;obtain⟨rfl,rfl⟩:=W;refine⟨b,off+s*5,rfl,?_⟩;have e2:((L.drop s).take _)[i]'(by rw[y]; exact hi)=L[s+i]'(by omega):=by simp
 rw[e2,show off+s*5+i*5=off+(s+i)*5 by omega];exact Y
def kX(w:World)(v:Value)(Cs:List (List dp)):Prop:=∃vs:List Value,w.ownsRow 0 190 1 v Cs.length vs/\Zip (oh w) vs Cs
theorem kX.below(h:kX w v Cs)(hb:Below w.heap.size w w'):kX w' v Cs:=by
 obtain⟨vs,y,B⟩:=h;exact⟨vs,eD y (λk O=>hb.block k (y.lt k O).2),B.mono (λu l U=>U.below hb)⟩
theorem kX.wrote{u W:Value}{base:Nat}{l:Wd}(h:kX w v Cs)(B:fo w base u l)(O:eF w w' u W):kX w' v Cs:=by
 obtain⟨vs,y,Y⟩:=h;exact⟨vs,eD y (λk U=>O.1.block k (y.lt k U).2 (λe=>tF y B (by decide) k U e)),Y.mono (λu l hu=>hu.wrote B O)⟩
theorem Rq:(prog.info? 190).map (λi=>(i.zero,i.size,i.bytes))=some (some (.slice none 0 0),1,24):=by kernel_rfl
theorem LA(v:Value)(L:List dp)(d:Nat)(w:World)(h:oh w v L)(hk:∀e∈L,d<(dE e).length)(au:∀e∈L,(dE e).length<=24)(hl:L.length<=1048576) :
  g6 prog 182 #[v,.int .i64 d] w λe w'=>∃v',e=.returned v'/\kX w' v' (runs d L)/\Below w.heap.size w w':=by
 obtain⟨i0,hi,av,aw,ax⟩:=g9 Rq;obtain⟨a,cap,rfl,hc,hm,hr⟩:=id h;have HL:m2 (oh _ _ _):=h;have HR:m2 (∀i(h:i<L.length),∃b off,a=some ⟨b,off,none⟩/\pK w b (off+i*5) L[i]):=hr;have HK:m2 (∀e∈L,d<(dE e).length):=hk;have ay:m2 (∀e∈L,(dE e).length<=24):=au;unfold g5 at hm;clear hr h hk au;go_enter func182,ntmps182;go_wp2;go_loopw [5,6,11] (λv s i wr=>∃(k st:Nat)(O:List (List dp))(vs:List Value),k<=L.length/\st<=k/\i=.int .i64 k/\s=.int .i64 st/\O.length<=k/\wr.ownsRow w.heap.size 190 1 v O.length vs/\Zip (oh w) vs O/\runs d L=O++runs d (L.drop st)/\(∀i(h:st<=i)(h2:i<k)(h':i+1<L.length),eW d (L[i]'(by omega))=eW d L[i+1])/\(k=L.length->st=k)/\Below w.heap.size w wr) (λ_ _ i _=>L.length-(intOf i).toNat)
 case atStart=>exact⟨0,0,[],[],hZ _,hY _,rfl,rfl,hY _,ng _ _ _ _,Zip.nil _,by simp,λi h h2=>by omega,λ_=>rfl,m7 _ _⟩
 case round=>
  obtain⟨k,st,O,vs,aJ,az,rfl,rfl,aK,W,aj,Y,aa,ab,hb⟩:=hrel;have HB:m2 (Below _ _ _):=hb;have HO:m2 (wr.ownsRow w.heap.size 190 1 _ O.length vs):=W;have HZ:m2 (Zip _ _ _):=aj;have af:m2 (runs d L=O++runs d (L.drop st)):=Y;have HS:m2 (∀i(h:st<=i)(h2:i<k)(h':i+1<L.length),eW d (L[i]'(by omega))=eW d L[i+1]):=aa;obtain⟨aP,cP,rfl,aL⟩:=dM W;have hz:=hb.size;clear hb W aj Y aa;by_cases ac:k<L.length
  .obtain⟨b,off,rfl,hL⟩:=HR.out k ac;have q0:=gv HB.out hL.path;have aA:(k:Int)<(L.length:Int):=by omega
   have a0:m2 (oh w (.slice (some ⟨b,off+st*5,none⟩) (k+1-st) (cap-st)) ((L.drop st).take (k+1-st))):=HL.out.sub st (k+1) (by omega) (by omega);have aM:=HK.out _ (ch ac);clear hL ab;by_cases ad:k+1=L.length
   .have a5:(((k:Int)+1)==(L.length:Int))=true:=beq_iff_eq.2 (by omega);have HC:m2 (runs d (L.drop st)=(L.drop st).take (k+1-st)::runs d (L.drop (k+1))):=zD az ac (λi h h2 h'=>HS.out i h h2 h') (λh=>by omega);have a3:st<cap:=by omega
    have ag:(k:Int)+1<=(cap:Int):=by omega
    clear ad;go_wp2_with fail;go_quiet (fail);have ae:m2 ((wr.drewN nq).ownsRow w.heap.size 190 1 (.slice aP O.length cP) O.length vs):=HO.out;have al:m2 (Below w.heap.size w (wr.drewN nq)):=iU HB.out nq;have am:w.heap.size<=(wr.drewN nq).heap.size:=hz;clear HO;generalize wr.drewN nq=wd at *
    go_wp2_with (first
     |(at_builtin; refine fj _ rfl _ _ 239 rfl w.heap.size 190 i0 (.slice none 0 0) 24 k0 hi av aw ax rfl _ _ _ rfl (ae.out.alloc _) ⟨wd.heap.size,0,none⟩ _ rfl iG rfl ?c1 ?c2 ?c3 ?_))
    case c1=>omega
    case c2=>unfold g5; omega
    case c3=>first|omega|(simp; omega)
    intro v' w1 y B _
    have an:m2 (w1.ownsRow w.heap.size 190 1 v' (O++[(L.drop st).take (k+1-st)]).length (vs++[.slice (some ⟨b,off+st*5,none⟩) (k+1-st) (cap-st)])):=by
     show w1.ownsRow _ _ _ _ _ _;rw[cc];exact y
    have ao:m2 (Below w.heap.size w w1):=(al.out.alloc am _).grown B (by simp; omega) (λb hb=>(ae.out.lt b hb).1);have ap:m2 (Zip (oh w) (vs++[.slice (some ⟨b,off+st*5,none⟩) (k+1-st) (cap-st)]) (O++[(L.drop st).take (k+1-st)])):=HZ.out.append (Zip.one a0.out);clear y B;go_wp2;go_roundw
    case rel=>
     refine⟨k+1,k+1,_,_,by omega,hY _,by go_num,by go_num,by simp; omega,an.out,ap.out,?_,λi h h2=>by omega,λ_=>rfl,ao.out⟩;rw[af.out,HC.out];simp
    case measure=>simp[intOf]; omega
   .have a5:(((k:Int)+1)==(L.length:Int))=false:=beq_eq_false_iff_ne.2 (by omega);have ag:k+1<L.length:=by omega
    have aB:(k:Int)+1<(L.length:Int):=by omega
    obtain⟨b',aC,e',a4⟩:=HR.out (k+1) ag;simp only[ne,o4,and_true]at e';obtain⟨rfl,rfl⟩:=e';have q1:=gv HB.out a4.path;have aD:=HK.out _ (ch ag);have aE:=ay.out _ (ch ac);have aF:=ay.out _ (ch ag);have a6:(⟨(dE L[k]).toArray⟩:ByteArray).size=(dE L[k]).length:=by show(dE L[k]).toArray.size=_; simp
    have a7:(⟨(dE L[k+1]).toArray⟩:ByteArray).size=(dE L[k+1]).length:=by show(dE L[k+1]).toArray.size=_; simp
    have gA:∀h:d<(⟨(dE L[k]).toArray⟩:ByteArray).size,(⟨(dE L[k]).toArray⟩:ByteArray)[d]=eW d L[k]:=λh=>(lu ⟨(dE L[k]).toArray⟩ d h).symm;have gB:∀h:d<(⟨(dE L[k+1]).toArray⟩:ByteArray).size,(⟨(dE L[k+1]).toArray⟩:ByteArray)[d]=eW d L[k+1]:=λh=>(lu ⟨(dE L[k+1]).toArray⟩ d h).symm;generalize (⟨(dE L[k]).toArray⟩:ByteArray)=bA at *;generalize (⟨(dE L[k+1]).toArray⟩:ByteArray)=bB at *;have aq:d<bA.size:=by omega
    have ar:d<bB.size:=by omega
    have aG:(d:Int)<(bA.size:Int):=by omega
    have aH:(d:Int)<(bB.size:Int):=by omega
    have ah:=gA aq;have ai:=gB ar;have aN:IntKind.i64.wrap ((k:Int)+1)=((k+1:Nat):Int):=by simp only[oa]; omega
    have aI:((k+1:Nat):Int)<(L.length:Int):=by omega
    have a3:st<cap:=by omega
    have aO:(k:Int)+1<=(cap:Int):=by omega
    clear a4 a6 a7 ad gA gB;by_cases U:eW d L[k]=eW d L[k+1]
    .have a8:(((bA[d]'aq).toNat:Int) != ((bB[d]'ar).toNat:Int))=false:=by rw[ah,ai,U]; simp
     have a9:m2 (eW d L[k]=eW d L[k+1]):=U;clear U ah ai;go_wp2_with fail;go_quiet (fail);go_wp2;go_roundw
     case rel=>
      refine⟨k+1,st,O,vs,by omega,by omega,by go_num,rfl,by omega,HO.out,HZ.out,af.out,λi h h2 h'=>?_,λh=>by omega,iU HB.out _⟩;by_cases e:i=k
      .subst e; exact a9.out
      .exact HS.out i h (by omega) h'
     case measure=>simp[intOf]; omega
    .have a8:(((bA[d]'aq).toNat:Int) != ((bB[d]'ar).toNat:Int))=true:=by
      rw[ah,ai,bne_iff_ne];intro hh;exact U (UInt8.toNat_inj.1 (by omega))
     have HC:m2 (runs d (L.drop st)=(L.drop st).take (k+1-st)::runs d (L.drop (k+1))):=zD az ac (λi h h2 h'=>HS.out i h h2 h') (λ_=>U);clear U ah ai;go_wp2_with fail;go_quiet (fail);have ae:m2 ((wr.drewN nq).ownsRow w.heap.size 190 1 (.slice aP O.length cP) O.length vs):=HO.out;have al:m2 (Below w.heap.size w (wr.drewN nq)):=iU HB.out nq;have am:w.heap.size<=(wr.drewN nq).heap.size:=hz;clear HO;generalize wr.drewN nq=wd at *
     go_wp2_with (first
      |(at_builtin; refine fj _ rfl _ _ 239 rfl w.heap.size 190 i0 (.slice none 0 0) 24 k0 hi av aw ax rfl _ _ _ rfl (ae.out.alloc _) ⟨wd.heap.size,0,none⟩ _ rfl iG rfl ?c1 ?c2 ?c3 ?_))
     case c1=>omega
     case c2=>unfold g5; omega
     case c3=>first|omega|(simp; omega)
     intro v' w1 y B _
     have an:m2 (w1.ownsRow w.heap.size 190 1 v' (O++[(L.drop st).take (k+1-st)]).length (vs++[.slice (some ⟨b,off+st*5,none⟩) (k+1-st) (cap-st)])):=by
      show w1.ownsRow _ _ _ _ _ _;rw[cc];exact y
     have ao:m2 (Below w.heap.size w w1):=(al.out.alloc am _).grown B (by simp; omega) (λb hb=>(ae.out.lt b hb).1);have ap:m2 (Zip (oh w) (vs++[.slice (some ⟨b,off+st*5,none⟩) (k+1-st) (cap-st)]) (O++[(L.drop st).take (k+1-st)])):=HZ.out.append (Zip.one a0.out);clear y B;go_wp2;go_roundw
     case rel=>
      refine⟨k+1,k+1,_,_,by omega,hY _,by go_num,by go_num,by simp; omega,an.out,ap.out,?_,λi h h2=>by omega,λ_=>rfl,ao.out⟩;rw[af.out,HC.out];simp
     case measure=>simp[intOf]; omega
  .have ak:k=L.length:=by omega
   have a':=ab ak
   have HE:m2 (runs d L=O):=by
    show _=_;rw[af.out,a',ak,List.drop_length];simp[runs]
   clear ab;go_wp2;go_ret;refine⟨_,rfl,?_,HB.out⟩;rw[HE.out];exact⟨vs,j7 HO.out (hZ _),HZ.out.mono (λu l hu=>hu.below HB.out)⟩
end
section
open Go.RowKit Go.Maps
variable {L:List dp} {n:Nat} {a:Option Addr} {p:Wd} {w:World}
def T9(f:Nat):Prop:=∀(base:Nat)(v:Value)(l:Wd)(label:ByteArray)(p:Wd)(y:Value)(L:List dp)(w:World),fo w base v l->oh w y L->base<=w.heap.size->(∀e∈L,Ju e/\p <+: dE e)->gq L->L.length<=255->p.length<=24->25<=f+p.length->
  l.length+(dK label.data.toList++gU f p.length L).length<=549755813888->label.size<=1099511627776->
  g6 prog 132 #[v,.string label,.int .i64 p.length,y] w (OE base w v l (dK label.data.toList++gU f p.length L))
theorem oh.tail{cap:Nat}(h:oh w (.slice a n cap) L)(k:Nat)(O:k<=L.length):oh w (.slice (a.map λx=>x.add (k*5)) (L.length-k) (cap-k)) (L.drop k):=by
 obtain⟨U,W,e,Y,h2,y⟩:=h;simp only[nc]at e;refine⟨_,cap-k,by rw[dg],by rw[dg]; omega,by omega,λi hi=>?_⟩;obtain⟨b,off,e,B⟩:=y ..;refine⟨b,off+k*5,by simp only[Option.map_some,Addr.add]; split<;>simp_all,?_⟩;rw[List.getElem_drop,show off+k*5+i*5=off+(k+i)*5 by omega];exact B
theorem oh.SH{c k:Nat}(h:oh w (.slice a n c) L)(y:c=k)(O:k<=L.length):oh w (.slice a (L.length-k) 0) (L.drop k):=by
 obtain⟨U,W,e,Y,h2,h3⟩:=h;simp only[nc]at e;have B:L.drop k=[]:=fk (by omega);rw[B];exact⟨a,0,by simp; omega,hY _,hZ _,nofun⟩
theorem TK{hn:Nat}{C:List dp}(hL:gq L)(hp:∀e∈L,p <+: dE e)(hS:∀e∈L.drop hn,dE e≠p)(hC:C∈runs p.length (L.drop hn)) :
  C≠[]/\gq C/\(∀e∈C,e∈L/\ig C <+: dE e)/\p <+: ig C/\p.length<(ig C).length/\C.length<=L.length:=by
 obtain⟨hs,r1,r2,r3,r4,r5,r6⟩:=xN p _ (o5 (List.drop_sublist hn L) hL) (λe U=>⟨hp e (eg U),hS e U⟩);rw[r1]at hC;obtain⟨x,W,rfl⟩:=dr.1 hC;have y:=(r3 x W).1;have Y:=O4 _ y (r5 x W)
 have B:p++[x.1] <+: ig x.2:=by
  rw[<-Y];refine(pV y).2 _ (λs hs=>?_);obtain⟨e,U,rfl⟩:=dr.1 hs;exact(r3 x W).2 e U
 have O:x.2.Sublist (L.drop hn):=by
  rw[<-r4];exact List.sublist_flatten_of_mem (dr.2 ⟨x,W,rfl⟩)
 refine⟨y,r5 x W,λe U=>⟨eg (O.subset U),?_⟩,(List.prefix_append ..).trans B,?_,?_⟩
 .rw[<-Y];exact(pV y).1 _ (dr.2 ⟨e,U,rfl⟩)
 .have:=B.length_le;simp at this;omega
 .have h1:=O.length_le;rw[dg]at h1;omega
theorem M7{s:Wd}(h:p <+: s)(y:s≠p):p.length<s.length:=by
 have B:=h.length_le;by_cases e:p.length=s.length
 .exact absurd (h.eq_of_length e).symm y
 .omega
theorem Mv(d:Nat):∀L:List dp,(runs d L).length<=L.length:=by
 intro L
 induction L with
 |nil=>simp[runs]
 |cons e l y=>
  unfold runs;split
  .simp
  .next h=>rw[h]at y; simp at y⊢; omega
  .next h=>
   rw[h]at y;split
   .simp at y⊢; omega
   .simp at y⊢; omega
theorem Fo(f d:Nat)(L:List dp):gU (f+1) d L=gX (gI L)++(u8 (iJ L d)::((L.take (iJ L d)).flatMap nv++(u8 (runs d (L.drop (iJ L d))).length::(runs d (L.drop (iJ L d))).flatMap λC=>dK ((ig C).drop d)++gU f (ig C).length C))):=rfl
theorem QW:∀f,T9 f:=by
 intro f
 induction f with
 |zero=>intro base v l label p vL L w _ _ _ _ _ _ cb cd; omega
 |succ f ih=>
  intro base v l label p vL L w hO hL aS aU b0 cw cb cd aJ b1;obtain⟨i0,hi,b2,b3,b4⟩:=g9 Fa;obtain⟨a,c,rfl⟩:=hO.form;obtain⟨aL,cL,rfl,cI,hmL,ce⟩:=id hL;have cf:m2 (T9 f):=ih;have ad:m2 (∀e∈L,Ju e/\p <+: dE e):=aU;have b5:m2 (gq L):=b0;have b6:m2 (oh _ _ _):=hL;have b8:m2 (fo _ _ _ _):=hO;obtain⟨N,hN⟩:∃N,N=l++(dK label.data.toList++gU (f+1) p.length L):=⟨_,rfl⟩;have HN:m2 (N=l++(dK label.data.toList++gU (f+1) p.length L)):=hN;have cJ:N.length<=549755813888:=by rw[hN,cc]; exact aJ
  have cg:0<=gI L:=mY L;have ci:gI L<=1000000:=IP (λe he=>(aU e he).1.2.2.2.2.2.1);have aV:=Py L p.length;have b9:=jD base _ l label w hO (by have:=congrArg gt hN; simp at this; omega) b1 aS;unfold g5 at hmL;clear ih aU b0 hL hO aJ hN ce;go_enter func132,ntmps132;go_wp2_with fail;refine b9.mono ?_;rintro e1 w1 ⟨v1,rfl,aw,ax⟩;obtain⟨L1,aW⟩:∃L1,L1=l++dK label.data.toList:=⟨_,rfl⟩;have b':m2 (L1=l++dK label.data.toList):=aW;rw[<-aW]at aw;have ag:m2 (oh w1 (.slice aL L.length cL) L):=b6.out.wrote b8.out ax;have bA:m2 (eF _ _ _ _):=ax;obtain⟨a1,c1,rfl⟩:=aw.form;have bB:m2 (fo _ _ _ _):=aw;have cy:=ax.1.size;have hG:=Cv _ L w1 ag.out;clear b9 aw ax aW b6 b8;go_wp2_with fail;refine hG.mono ?_;rintro e2 w2 ⟨rfl,ah⟩;have aX:m2 (fo w2 base (.slice a1 L1.length c1) L1):=bB.out.below ah;have aK:m2 (oh w2 (.slice aL L.length cL) L):=ag.out.below ah;have bD:m2 (eF w w2 (.slice a l.length c) (.slice a1 L1.length c1)):=bA.out.trans (eF.below ah _);have cz:=ah.size;have cK:L1.length<=N.length:=by rw[HN.out,b'.out]; simp
  have bE:=oL base _ L1 (gI L) w2 aX.out (by omega) cg ci (by omega);clear hG ah bB ag bA;go_wp2_with fail;refine bE.mono ?_;rintro e3 w3 ⟨v3,rfl,ay,az⟩;obtain⟨L3,aY⟩:∃L3,L3=L1++gX (gI L):=⟨_,rfl⟩;have cj:m2 (L3=L1++gX (gI L)):=aY;rw[<-aY]at ay;have ai:m2 (oh w3 (.slice aL L.length cL) L):=aK.out.wrote aX.out az;have bF:m2 (eF w w3 (.slice a l.length c) v3):=bD.out.trans az;obtain⟨a3,c3,rfl⟩:=ay.form;have bG:m2 (fo _ _ _ _):=ay;have c':=az.1.size;have hC:=wO _ L p.length w3 ai.out;clear bE ay az aY aX aK bD;go_wp2_with fail;refine hC.mono ?_;rintro e4 w4 ⟨rfl,aj⟩;have aZ:m2 (fo w4 base (.slice a3 L3.length c3) L3):=bG.out.below aj;have aM:m2 (oh w4 (.slice aL L.length cL) L):=ai.out.below aj;have bH:m2 (eF w w4 (.slice a l.length c) (.slice a3 L3.length c3)):=bF.out.trans (eF.below aj _);have cA:=aj.size;obtain⟨U,a0⟩:∃U,iJ L p.length=U:=⟨_,rfl⟩;have HH:m2 (iJ L p.length=U):=a0;rw[a0]at aV⊢;obtain⟨Cs,ba⟩:∃Cs,Cs=runs p.length (L.drop U):=⟨_,rfl⟩;have bc:m2 (Cs=runs p.length (L.drop U)):=ba
  have bI:m2 (N=L3++[u8 U]++((L.take U).flatMap nv++(u8 Cs.length::Cs.flatMap λC=>dK ((ig C).drop p.length)++gU f (ig C).length C))):=by
   show _=_;rw[HN.out,cj.out,b'.out,Fo,ba,a0];simp
  clear ba;have cM:L3.length+1<=N.length:=by rw[bI.out]; simp
  clear hC aj bG ai bF a0
  go_wp2_with (first
   |(at_builtin; refine fw _ rfl _ _ 60 rfl base 5 i0 (.int .u8 0) 1 i' hi b2 b3 b4 rfl _ _ _ rfl (aZ.out.alloc _) _ [.int .u8 (U:Int)] rfl (Rd.one iG) (by simp[oc]) ?c1 ?c2 ?c3 ?_))
  case c1=>simp; omega
  case c2=>unfold g5; simp; omega
  case c3=>simp; omega
  intro v5 w5 ak bd be;obtain⟨L5,a4⟩:∃L5,L5=L3++[u8 U]:=⟨_,rfl⟩;have cN:m2 (L5=L3++[u8 U]):=a4
  have bf:m2 (N=L5++((L.take U).flatMap nv++(u8 Cs.length::Cs.flatMap λC=>dK ((ig C).drop p.length)++gU f (ig C).length C))):=by
   show _=_;rw[bI.out,<-a4]
  have HO5:m2 (fo w5 base v5 L5):=by
   show fo _ _ _ _;unfold fo;rw[a4,gY,mf,cc,show(U:Int) % 256=U by omega];exact ak
  have HW5:m2 (eF w w5 (.slice a l.length c) v5):=bH.out.trans (eF.of bd be);have HLv5:m2 (oh w5 (.slice aL L.length cL) L):=aM.out.wrote aZ.out (eF.of bd be);obtain⟨a5,c5,rfl⟩:=HO5.out.form;have cB:=HW5.out.1.size;clear ak bd be a4 aZ aM bH;go_wp2_with fail;go_loopw [0,35] (λu i wr=>∃k:Nat,k<=U/\i=.int .i64 k/\fo wr base u (L5++(L.take k).flatMap nv)/\eF w wr (.slice a l.length c) u/\oh wr (.slice aL L.length cL) L) (λ_ i _=>U-(intOf i).toNat)
  case atStart=>exact⟨0,hZ _,rfl,by simpa using HO5.out,HW5.out,HLv5.out⟩
  case round=>
   obtain⟨k,hk,rfl,a',bg,aN⟩:=hrel;obtain⟨L6,bh⟩:∃L6,L6=L5++(L.take k).flatMap nv:=⟨_,rfl⟩;have aA:m2 (L6=L5++(L.take k).flatMap nv):=bh;rw[<-bh]at a';obtain⟨a6,c6,rfl⟩:=a'.form;have bi:m2 (fo _ _ _ _):=a';have bj:m2 (eF _ _ _ _):=bg;have aa:m2 (oh _ _ _):=aN;have cD:=bg.1.size;clear a' bg aN bh HO5 HW5 HLv5;by_cases aB:k<U
   .obtain⟨_,_,e',_,_,hr⟩:=aa.out;simp only[nc,true_and]at e';obtain⟨rfl,rfl⟩:=e';obtain⟨b,off,rfl,W⟩:=hr k (by omega);have q0:=W.path;have q1:=W.name;have q2:=W.text;have q3:=W.dq;have q4:=W.dB;clear W hr;obtain⟨wa,bk⟩:∃wa,wr.alloc (.cells #[.string ⟨(dE L[k]).toArray⟩,.string ⟨L[k].name.toArray⟩,.string ⟨L[k].text.toArray⟩,.int .i64 L[k].dq,.int .i64 L[k].dB] 237)=wa:=⟨_,rfl⟩;have al:Below wr.heap.size wr wa:=by rw[<-bk]; exact(m7 _ _).alloc (hY _) _
    have ck:m2 (wr.alloc (.cells #[.string ⟨(dE L[k]).toArray⟩,.string ⟨L[k].name.toArray⟩,.string ⟨L[k].text.toArray⟩,.int .i64 L[k].dq,.int .i64 L[k].dB] 237)=wa):=bk;have bJ:m2 (fo wa base (.slice a6 L6.length c6) L6):=bi.out.below al;have cl:m2 (eF w wa (.slice a l.length c) (.slice a6 L6.length c6)):=bj.out.trans (eF.below al _);have bK:m2 (oh wa (.slice (some ⟨b,off,none⟩) L.length cL) L):=aa.out.below al;have cO:=al.size;have HT:m2 (L.take (k+1)=L.take k++[L[k]]):=de (by omega)
    have cm:L6.length<=N.length:=by
     have e:L.take U=L.take k++(L.take U).drop k:=by
      conv=>lhs; rw[<-fm k (L.take U)]
      rw[List.take_take,ie hk]
     rw[bf.out,aA.out,e];simp
    have hA:=wJ base _ L6 L[k] wa bJ.out (by omega) (ad.out _ (ch _)).1 (by omega);unfold zA at hA;clear al bk;go_wp2_with fail;rw[ck.out];refine hA.mono ?_;rintro e7 w7 ⟨v7,rfl,bL,bl⟩;have am:m2 (fo _ _ _ _):=bL;have aD:m2 (eF w w7 (.slice a l.length c) v7):=cl.out.trans bl;have bM:m2 (oh w7 (.slice (some ⟨b,off,none⟩) L.length cL) L):=bK.out.wrote bJ.out bl;clear hA bL bl q0 q1 q2 q3 q4;go_wp2;go_roundw
    case rel=>
     refine⟨k+1,by omega,by go_num,?_,aD.out,bM.out⟩;have e:L5++(L.take (k+1)).flatMap nv=L6++nv L[k]:=by rw[HT.out,aA.out,ei,dm]; simp only[ef,eq,dt]
     rw[e];exact am.out
    case measure=>simp[intOf]; omega
   .have cn:k=U:=by omega
    subst cn
    have HS:m2 (∀e∈L.drop k,dE e≠p):=by
     have:=(zq b5.out (λe he=>(ad.out e he).2)).2;rw[HH.out]at this;exact this
    have an:m2 (∀e∈L,(dE e).length<=24):=λe he=>(tw (ad.out e he).1).1;have bN:m2 (∀(aT:Option Addr)(cT:Nat),oh wr (.slice aT (L.length-k) cT) (L.drop k)->g6 prog 182 #[.slice aT (L.length-k) cT,.int .i64 p.length] wr λe w'=>∃v',e=.returned v'/\kX w' v' (runs p.length (L.drop k))/\Below wr.heap.size wr w'):=λaT cT h=>LA _ (L.drop k) p.length wr h (λe he=>M7 (ad.out e (eg he)).2 (HS.out e he)) (λe he=>an.out e (eg he)) (by rw[dg]; omega);go_wp2_with fail
    all_goals(
     refine(bN.out _ _ (by first|exact aa.out.tail k aV|exact aa.out.SH (by omega) aV)).mono ?_;rintro e7 w7 ⟨v7,rfl,aE,aF⟩;rw[<-bc.out]at aE;obtain⟨vs,ao,ab⟩:=id aE;obtain⟨a7,c7,rfl,cP⟩:=dM ao;have bO:m2 (kX _ _ _):=aE;have am:m2 (fo w7 base (.slice a6 L6.length c6) L6):=bi.out.below aF;have aD:m2 (eF w w7 (.slice a l.length c) (.slice a6 L6.length c6)):=bj.out.trans (eF.below aF _);have cE:=aF.size
     have cQ:Cs.length<=255:=by
      rw[bc.out];have:=Mv p.length (L.drop k);rw[dg]at this;omega
     have cm:L6.length+1<=N.length:=by
      rw[bf.out,aA.out];simp;omega
     clear bN aE ao ab aF bi bj aa
     go_wp2_with (first
      |(at_builtin; refine fw _ rfl _ _ 60 rfl base 5 i0 (.int .u8 0) 1 i' hi b2 b3 b4 rfl _ _ _ rfl (am.out.alloc _) _ [.int .u8 (Cs.length:Int)] rfl (Rd.one iG) (by simp[oc]) ?c1 ?c2 ?c3 ?_))
     case c1=>simp; omega
     case c2=>unfold g5; simp; omega
     case c3=>simp; omega
     intro v8 w8 ap bm bn;obtain⟨L8,aG⟩:∃L8,L8=L6++[u8 Cs.length]:=⟨_,rfl⟩;have cR:m2 (L8=L6++[u8 Cs.length]):=aG
     have bP:m2 (N=L8++Cs.flatMap λC=>dK ((ig C).drop p.length)++gU f (ig C).length C):=by
      show _=_;rw[bf.out,aG,aA.out];simp
     have HO8:m2 (fo w8 base v8 L8):=by
      show fo _ _ _ _;unfold fo;rw[aG,gY,mf,cc,show(Cs.length:Int) % 256=Cs.length by omega];exact ap
     have HW8:m2 (eF w w8 (.slice a l.length c) v8):=aD.out.trans (eF.of bm bn);have HP8:m2 (kX w8 (.slice a7 Cs.length c7) Cs):=bO.out.wrote am.out (eF.of bm bn);obtain⟨a8,c8,rfl⟩:=HO8.out.form;have cF:=HW8.out.1.size;clear ap bm bn aG am bO aD;go_wp2_with fail;go_loopw [0,57] (λu i wx=>∃k:Nat,k<=Cs.length/\i=.int .i64 k/\fo wx base u (L8++(Cs.take k).flatMap λC=>dK ((ig C).drop p.length)++gU f (ig C).length C)/\eF w wx (.slice a l.length c) u/\kX wx (.slice a7 Cs.length c7) Cs) (λ_ i _=>Cs.length-(intOf i).toNat)
     case atStart=>exact⟨0,hZ _,rfl,by simpa using HO8.out,HW8.out,HP8.out⟩
     case round=>
      obtain⟨j,hj,rfl,aH,bo,bQ⟩:=hrel;obtain⟨L9,bp⟩:∃L9,L9=L8++(Cs.take j).flatMap λC=>dK ((ig C).drop p.length)++gU f (ig C).length C:=⟨_,rfl⟩;have bq:m2 (L9=L8++(Cs.take j).flatMap λC=>dK ((ig C).drop p.length)++gU f (ig C).length C):=bp;rw[<-bp]at aH;obtain⟨a9,c9,rfl⟩:=aH.form;have br:m2 (fo _ _ _ _):=aH;have bs:m2 (eF _ _ _ _):=bo;have bt:m2 (kX _ _ _):=bQ;have cG:=bo.1.size;clear aH bo bQ bp HO8 HW8 HP8;by_cases aB:j<Cs.length
      .obtain⟨vs,ao,ab⟩:=id bt.out;have bu:j<vs.length:=by rw[ab.1]; exact aB
       obtain⟨b7,o7,rfl,aq⟩:=iX ao j vs[j] (dd bu)
       have bv:m2 (oh wr vs[j] Cs[j]):=by
        obtain⟨u,bR,cq⟩:=ab.2 j aB;rw[dd bu]at bR;cases bR;exact cq
       have HT:m2 (Cs.take (j+1)=Cs.take j++[Cs[j]]):=de aB;obtain⟨bw,aO,B,aP,cH,cS⟩:=TK (C:=Cs[j]) b5.out (λe he=>(ad.out e he).2) HS.out (by rw[<-bc.out]; exact ch _)
       have cU:L9.length+(dK ((ig Cs[j]).drop p.length)++gU f (ig Cs[j]).length Cs[j]).length<=N.length:=by
        have e:Cs=Cs.take (j+1)++Cs.drop (j+1):=(fm _ _).symm;rw[HT.out]at e;rw[bP.out,bq.out];conv=>rhs; rw[e]
        simp only[ei,ef,eq,cc,dt];omega
       obtain⟨aC,cC,eC,cV,cW,bS⟩:=id bv.out;have ar:m2 (oh wr (.slice aC Cs[j].length cC) Cs[j]):=by have h:=bv.out; rw[eC]at h; exact h
       rw[eC]at aq;have y:=wR bw;obtain⟨bC,oC,rfl,W⟩:=bS 0 y;have q0:=W.path;rw[i7,i6]at q0;clear W bS bv ab ao eC bu;have aI:(ig Cs[j]).length<=24:=ip (B _ (ch y)).2.length_le (tw (ad.out _ (B _ (ch y)).1).1).1;have ae:m2 (∀e∈Cs[j],e∈L/\ig Cs[j] <+: dE e):=B;have cX:(ig Cs[j]).length<=(dE Cs[j][0]).length:=(B _ (ch y)).2.length_le;have cr:(dE Cs[j][0]).length<=24:=an.out _ (B _ (ch y)).1;have ct:m2 (gq _):=aO;have cY:m2 (p <+: ig Cs[j]):=aP;have bT:=Gs _ Cs[j] wr ar.out bw (λe he=>an.out e (B e he).1);have cZ:(⟨(dE Cs[j][0]).toArray⟩:ByteArray).size=(dE Cs[j][0]).length:=by show(dE Cs[j][0]).toArray.size=_; simp
       clear B aO aP bw;go_wp2_with fail;refine bT.mono ?_;rintro da au ⟨rfl,O⟩;have cu:=gv O q0;have aQ:m2 (fo au base (.slice a9 L9.length c9) L9):=br.out.below O;have bx:m2 (oh au (.slice (some ⟨bC,oC,none⟩) Cs[j].length cC) Cs[j]):=ar.out.below O;have bU:m2 (kX au (.slice (some ⟨b7,o7,none⟩) Cs.length c7) Cs):=bt.out.below O;have bV:m2 (eF w au (.slice a l.length c) (.slice a9 L9.length c9)):=bs.out.trans (eF.below O _);have cv:=O.size;clear bT O br ar bt bs q0 aq;obtain⟨ac,af⟩:∃ac,(⟨(dE Cs[j][0]).toArray⟩:ByteArray).extract p.length (ig Cs[j]).length=ac:=⟨_,rfl⟩
       have Y:ac.data.toList=(ig Cs[j]).drop p.length:=by
        have h:=(ae.out _ (ch y)).2;rw[<-af,show(ig Cs[j]).length=p.length+((ig Cs[j]).length-p.length) by omega,J9];show(((dE Cs[j][0]).drop p.length).take _)=_;rw[<-List.drop_take,<-List.prefix_iff_eq_take.1 h]
       have bW:m2 ((⟨(dE Cs[j][0]).toArray⟩:ByteArray).extract p.length (ig Cs[j]).length=ac):=af
       have bz:ac.size<=1099511627776:=by
        have:ac.size=ac.data.toList.length:=by simp
        rw[this,Y];simp;omega
       have hR:=cf.out base _ L9 ac (ig Cs[j]) _ Cs[j] au aQ.out bx.out (by omega) (λe he=>⟨(ad.out e (ae.out e he).1).1,(ae.out e he).2⟩) ct.out (by omega) aI (by omega) (by rw[Y]; omega) bz;rw[Y]at hR;clear af Y;go_wp2_with fail;rw[bW.out];refine hR.mono ?_;rintro db bX ⟨v11,rfl,aR,av⟩;have bY:m2 (fo _ _ _ _):=aR;have bZ:m2 (eF w bX (.slice a l.length c) v11):=bV.out.trans av;have ca:m2 (kX bX (.slice (some ⟨b7,o7,none⟩) Cs.length c7) Cs):=bU.out.wrote aQ.out av;clear hR aR av cu;go_wp2;go_roundw
       case rel=>
        refine⟨j+1,by omega,by go_num,?_,bZ.out,ca.out⟩
        have e:(L8++(Cs.take (j+1)).flatMap λC=>dK ((ig C).drop p.length)++gU f (ig C).length C)=L9++(dK ((ig Cs[j]).drop p.length)++gU f (ig Cs[j]).length Cs[j]):=by
         rw[HT.out,bq.out,ei,dm];simp only[ef,eq,dt]
        rw[e];exact bY.out
       case measure=>simp[intOf]; omega
      .have HE:m2 (L9=l++(dK label.data.toList++gU (f+1) p.length L)):=by
        show _=_;rw[<-HN.out,bP.out,bq.out,er (by omega)]
       go_wp2;go_ret;refine⟨_,rfl,?_,bs.out⟩;rw[<-HE.out]
       exact br.out)
end
section
open Go.RowKit Go.Maps
def eO(es:List dp):List Wd:=(es.filter λe=>e.gone).map dp.name
theorem Iv(l:List dp)(e:dp):eO (l++[e])=eO l++(if e.gone then [e.name]else []):=by
 unfold eO;cases h:e.gone<;>simp[h]
theorem Nh(l:List dp):(eO l).length<=l.length:=by unfold eO; rw[dj]; exact List.length_filter_le ..
theorem pA{l m:List dp}(h:l.Perm m):(eO l).Perm (eO m):=(h.filter _).map _
theorem Cz{B es:List dp}(O:(es.map dp.name).Nodup)(h:B.Perm es):(eO B).mergeSort (λx y=>decide (x<=y))=eO (fi es):=by
 have Y:((eO B).mergeSort (λx y=>decide (x<=y))).Perm _:=(List.mergeSort_perm ..).trans (pA (h.trans (fR es).symm));refine oK (le:=λa b=>a<=b) (λa b _ _ U W=>List.le_antisymm U W) ?_ ?_ Y
 .have:=List.pairwise_mergeSort (le:=λx y=>decide (x<=y)) (by
   intro a b c U W;simp only[decide_eq_true_eq]at *
   exact List.le_trans U W) (by
   intro a b;simp only[Bool.or_eq_true,decide_eq_true_eq]
   exact List.le_total a b) (eO B)
  exact this.imp (λh=>by simpa using h)
 .unfold eO;rw[gc];refine o6 ?_ (o5 ez (mJ es O));intro a b hab;unfold Cg at hab;rw[bytesLess_eq,decide_eq_true_eq]at hab;exact List.le_of_lt hab
theorem K2(base:Nat)(a:Option Addr)(c:Nat)(G:List Wd)(w:World)(U:w.ownsRow base 9 1 (.slice a G.length c) G.length (dn G))(hl:G.length<=1099511627776) :
  g6 prog 162 #[.slice a G.length c] w λe w'=>e=.returned (.tuple #[])/\w'.ownsRow base 9 1 (.slice a G.length c) G.length (dn (G.mergeSort λx y=>decide (x<=y)))/\Below base w w':=by
 rcases U.2 with⟨Y,hn⟩|⟨g,cap,aa,Y,W,hb,h1,h2,h3,h4⟩
 .have hG:=fd.1 (by simpa using hn);subst hG;have B:=Any.slices_Sort_string_none wX a c w;refine B.mono ?_;rintro e w' ⟨rfl,rfl⟩;exact⟨rfl,by simpa using U,m7 ..⟩
 .obtain⟨rfl,_,rfl⟩:=Y;have B:=Any.slices_Sort_string wX g 0 c G w (holds_of_block hb (by simpa[dn]using h4)) (m3.1 hb).1 (by omega);refine B.mono ?_;rintro e w' ⟨rfl,n,os,rfl⟩;refine⟨rfl,?_,?_⟩
  .exact ownsRow_sorted (by simp) W hb h1 h2 h3
  .have O:=grownBy_sorted (w:=w) (g:=g) (n:=n) (os:=os) (G.mergeSort λx y=>decide (x<=y)).toArray;exact⟨O.os,O.tape,O.output,O.size,λk hk=>O.block k (hX hk (by have:=(m3.1 hb).1; omega)) (by intro e; cases e; omega)⟩
theorem vA{w:World}{v:Value}{t:g8}{g:Nat}(y:g=w.heap.size):(w.alloc (.cells #[v] t)).cell? ⟨g,0,none⟩=some v:=by subst y; exact iG
theorem Lw:∀S:List Wd,(∀x∈S,x.length<=255)->(S.flatMap dK).length<=S.length*256:=by
 intro S
 induction S with
 |nil=>simp
 |cons x S B=>
  intro h;have U:=B (λy O=>h y (List.mem_cons_of_mem _ O));have W:=h x (f' ..);rw[ef,cc,ge];have:(dK x).length=x.length+1:=by simp[dK]
  omega
theorem eF.low{w0 w w':World}{v v':Value}{base:Nat}{l:Wd}(h:eF w w' v v')(hb:Below w0.heap.size w0 w)(y:fo w base v l)(O:w0.heap.size<=base):Below w0.heap.size w0 w':=by
 refine hb.trans ⟨h.1.os,h.1.tape,h.1.output,h.1.size,λk B=>h.1.block k (hX B hb.size) (λe=>?_)⟩;have:=(y.lt k e).1;omega
def rO(es:List dp):Wd:=u8 (eO (fi es)).length::(eO (fi es)).flatMap dK
theorem xW(B:Nat)(es:List dp)(w:World)(hs:eh w B es)(hl:es.length<1099511627776)(hg:iV es<=255)(a0:∀e∈es,e.gone=true->e.name.length<=255) :
  g6 prog 131 #[.slice none 0 0,.map (some B)] w λen w'=>∃v,en=.returned v/\fo w' w.heap.size v (rO es)/\Below w.heap.size w w':=by
 obtain⟨i0,hi,aL,aM,aN⟩:=g9 Fa;obtain⟨i9,aO,aP,aQ,aR⟩:=g9 vo;have a5:=hs.nodup;have HS:m2 (eh _ _ _):=hs;have aS:m2 ((es.map dp.name).Nodup):=a5;have aT:m2 (∀e∈es,e.gone=true->e.name.length<=255):=a0;have bh:=dL.lt hs;clear hs a5 a0;go_enter func131,ntmps131;go_wp2_with (first|(at_range; refine jO _ rfl _ rfl rfl HS.out ?_; intro w1 hrg0 hg0 bi));go_frame;go_loopw [5] (λg wr=>∃(y aa:List dp),(y++aa).Perm es/\lM wr B w.heap.size es aa/\wr.ownsRow (w.heap.size+1) 9 1 g (eO y).length (dn (eO y))/\Below w.heap.size w wr/\w.heap.size+1<=wr.heap.size) (λ_ wr=>wr.rangeLeft B w.heap.size)
 case atStart=>exact⟨[],es,o' _,hrg0,ng _ _ _ _,(m7 _ _).grown hg0 (hY _) (λk hk=>by cases hk),by omega⟩
 case round=>
  obtain⟨y,aa,eA,hr,ac,hb,hz⟩:=hrel;have HP:m2 ((y++aa).Perm es):=eA;have HR:m2 (lM _ _ _ _ _):=hr;obtain⟨ag,cg,rfl,aU⟩:=dM ac;have HO:m2 (wr.ownsRow (w.heap.size+1) 9 1 (.slice ag (eO y).length cg) (eO y).length (dn (eO y))):=ac;have HB:m2 (Below _ _ _):=hb
  have aV:(eO y).length<=es.length:=by
   have h1:=Nh y;have h2:=eA.length_eq;rw[cc]at h2;omega
  clear eA hr hb ac;go_wp2_with (first|(at_next; refine kP _ rfl _ rfl w.heap.size aa rfl HR.out ?_ ?_))
  .intro h0
   have hE:y.Perm es:=by
    have:=HP.out;rw[h0,dt]at this;exact this
   obtain⟨S,hS⟩:∃S,S=eO (fi es):=⟨_,rfl⟩;have ao:=K2 (w.heap.size+1) ag cg (eO y) wr HO.out (by omega);rw[Cz aS.out hE,<-hS]at ao;have ap:m2 (S.length=(eO y).length):=by show _=_; rw[hS]; exact(pA (hE.trans (fR es).symm)).length_eq.symm
   have bj:S.length<=255:=by
    rw[hS];have h1:=(pA (fR es)).length_eq;have h2:(eO es).length=iV es:=by simp[eO,iV]
    omega
   have a6:m2 (∀x∈S,x.length<=255):=by
    intro x hx;rw[hS]at hx;have hx2:=(pA (fR es)).mem_iff.1 hx;unfold eO at hx2;obtain⟨e,he,rfl⟩:=dr.1 hx2;rw[gl]at he;exact aT.out e he.1 (by simpa using he.2)
   have aW:m2 (S=eO (fi es)):=hS;clear h0 hE hS;go_wp2_with fail;refine ao.mono ?_;rintro e2 w2 ⟨rfl,aq,ar⟩;have a7:=ar.size;have ae:m2 (Below w.heap.size w w2):=HB.out.trans (ar.mono (by omega));have aX:(eO y).length<=255:=by have:=ap.out; omega
   rw[<-ap.out]at aq⊢;have ad:m2 (w2.ownsRow (w.heap.size+1) 9 1 (.slice ag S.length cg) S.length (dn S)):=aq;have a8:m2 (w2.ownsRow w.heap.size 5 1 (.slice none 0 0) 0 []):=ng _ _ _ _;clear ao aq ar HO HR aX aV;clear aU ap
   go_wp2_with (first
    |(at_builtin; refine fw _ rfl _ _ 60 rfl w.heap.size 5 i0 (.int .u8 0) 1 i' hi aL aM aN rfl _ _ _ rfl (a8.out.alloc _) _ [.int .u8 (S.length:Int)] rfl (Rd.one iG) (by simp[oc]) ?c1 ?c2 ?c3 ?_))
   case c1=>simp
   case c2=>unfold g5; simp
   case c3=>simp; omega
   intro v3 w3 O U a9
   have HO3:m2 (fo w3 w.heap.size v3 [u8 S.length]):=by
    show fo _ _ _ _;unfold fo;rw[mf,show(S.length:Int) % 256=S.length by omega];simpa using O
   have ab:eF w2 w3 (.slice none 0 0) v3:=eF.of U a9;have af:Below w2.heap.size w2 w3:=⟨ab.1.os,ab.1.tape,ab.1.output,ab.1.size,λk hk=>ab.1.block k hk (by simp[od])⟩;have HB3:m2 (Below w.heap.size w w3):=ae.out.trans (af.mono (by omega));have HG3:m2 (w3.ownsRow (w.heap.size+1) 9 1 (.slice ag S.length cg) S.length (dn S)):=eD ad.out (λk hk=>af.block k (ad.out.lt k hk).2);obtain⟨a3,c3,rfl⟩:=HO3.out.form;have bk:=af.size;clear O U a9 ab af a8 ad ae
   have aY:m2 (∀k,k<=S.length->(u8 S.length::(S.take k).flatMap dK).length<=65536):=by
    intro k hk;have h1:=Lw (S.take k) (λx hx=>a6.out x (List.mem_of_mem_take hx));rw[cp,ie hk]at h1;rw[ge];omega
   go_wp2_with fail;go_loopw [0,33] (λu i wx=>∃k:Nat,k<=S.length/\i=.int .i64 k/\fo wx w.heap.size u (u8 S.length::(S.take k).flatMap dK)/\wx.ownsRow (w.heap.size+1) 9 1 (.slice ag S.length cg) S.length (dn S)/\Below w.heap.size w wx) (λ_ i _=>S.length-(intOf i).toNat)
   case atStart=>exact⟨0,hZ _,rfl,by simpa using HO3.out,HG3.out,HB3.out⟩
   case round=>
    obtain⟨k,hk,rfl,ah,a',au⟩:=hrel;obtain⟨L4,ai⟩:∃L4,L4=u8 S.length::(S.take k).flatMap dK:=⟨_,rfl⟩;have aA:m2 (L4=u8 S.length::(S.take k).flatMap dK):=ai;have bl:L4.length<=65536:=by rw[ai]; exact aY.out k hk
    rw[<-ai]at ah;obtain⟨a4,c4,rfl⟩:=ah.form;have aj:m2 (fo _ _ _ _):=ah;have ak:m2 (wr.ownsRow (w.heap.size+1) 9 1 (.slice ag S.length cg) S.length (dn S)):=a';have aB:m2 (Below _ _ _):=au;have aZ:=au.size;clear ah a' au ai HO3 HG3 HB3;by_cases av:k<S.length
    .obtain⟨bg,og,rfl,aw⟩:=iX ak.out k _ (gL S k av);have hx:=a6.out _ (ch av);have HT:m2 (S.take (k+1)=S.take k++[S[k]]):=de av;have hA:=jD w.heap.size _ L4 ⟨S[k].toArray⟩ wr aj.out (by omega) (by show S[k].toArray.size<=_; simp; omega) aZ;go_wp2_with fail;refine hA.mono ?_;rintro e5 w5 ⟨v5,rfl,aC,ax⟩;have ba:m2 (fo _ _ _ _):=aC;have bc:m2 (Below w.heap.size w w5):=ax.low aB.out aj.out (hY _);have bd:m2 (w5.ownsRow (w.heap.size+1) 9 1 (.slice (some ⟨bg,og,none⟩) S.length cg) S.length (dn S)):=eD ak.out (λj hj=>ax.1.block j (ak.out.lt j hj).2 (λe=>tF ak.out aj.out (by decide) j hj e));clear hA aC ax aw;go_wp2;go_roundw
     case rel=>
      refine⟨_,_,_,_,_,_,_,_,_,_,⟨k+1,by omega,by go_num,?_,bd.out,bc.out⟩,rfl⟩
      have e:(u8 S.length::(S.take (k+1)).flatMap dK)=L4++dK S[k]:=by
       rw[HT.out,aA.out,ei,List.cons_append];simp only[ef,eq,dt]
      rw[e];exact ba.out
     case measure=>simp[intOf]; omega
    .have HE:m2 (L4=rO es):=by
      show _=_;unfold rO;rw[aA.out,er (by omega),aW.out]
     go_wp2;go_ret;refine⟨_,rfl,?_,aB.out⟩;rw[<-HE.out];exact aj.out
  .intro e Y w2 aD al an ay be bm;have aE:=eu.lt al;have aF:=dL.lt (eu.owns al);have aG:m2 (Below w.heap.size w w2):=lO HB.out ay (hY _);have aH:m2 (lM _ _ _ _ _):=al;have aI:m2 (w2.rangeLeft B w.heap.size<wr.rangeLeft B w.heap.size):=an;have aJ:m2 (aa.Perm (e::Y)):=aD;have W:m2 (w2.ownsRow (w.heap.size+1) 9 1 (.slice ag (eO y).length cg) (eO y).length (dn (eO y))):=eD HO.out (λk hk=>ay.block k (HO.out.lt k hk).2 (by have:=(HO.out.lt k hk).1; intro e; cases e; omega));have am:=Iv y e;have a7:w.heap.size+1<=w2.heap.size:=by omega
   clear aD al an ay be;obtain⟨nm,gn,tx,wt,tg⟩:=e
   cases gn with
   |false=>
    have az:m2 (eO (y++[⟨nm,false,tx,wt,tg⟩])=eO y):=by show _=_; rw[am]; simp
    clear am;go_wp2;go_roundw
    case rel=>
     exact⟨y++[⟨nm,false,tx,wt,tg⟩],Y,ja HP.out aJ.out,aH.out.alloc _,by rw[az.out]; exact W.out.alloc _,aG.out.alloc (by omega) _,by simp; omega⟩
    case measure=>
     rw[iP aF aE];exact aI.out
   |true=>
    have az:m2 (eO (y++[⟨nm,true,tx,wt,tg⟩])=eO y++[nm]):=by show _=_; rw[am]; simp
    clear am
    go_wp2_with (first
      |(at_builtin; refine fj _ rfl _ _ 31 rfl (w.heap.size+1) 9 i9 (.string ⟨#[]⟩) 16 jt aO aP aQ aR rfl _ _ _ rfl ((W.out.alloc _).alloc _) ⟨w2.heap.size+1,0,none⟩ _ rfl (vA (by simp)) rfl ?c1 ?c2 ?c3 ?_))
    case c1=>omega
    case c2=>unfold g5; omega
    case c3=>first|omega|(simp; omega)
    intro v3 w3 O U _;have aK:Below w.heap.size w w3:=((aG.out.alloc (by omega) _).alloc (by simp; omega) _).grown U (by simp; omega) (λb hb=>by have:=(W.out.lt b hb).1; omega);have ae:m2 (Below _ _ _):=aK;have bn:w2.heap.size<=w3.heap.size:=by have:=U.size; simp at this; omega
    have bf:m2 (lM w3 B w.heap.size es Y):=eu.kept ((aH.out.alloc _).alloc _) U (λe=>by have:=(W.out.lt B e.symm).1; omega) (λe=>by have:=(W.out.lt _ e.symm).1; omega)
    have ad:m2 (w3.ownsRow (w.heap.size+1) 9 1 v3 (eO (y++[⟨nm,true,tx,wt,tg⟩])).length (dn (eO (y++[⟨nm,true,tx,wt,tg⟩])))):=by
     show w3.ownsRow _ _ _ _ _ _;rw[az.out,mB];rw[cc];exact O
    have HL2:m2 (w3.rangeLeft B w.heap.size<wr.rangeLeft B w.heap.size):=by
     show _<_;rw[eu.jA (U.block B (by simp; omega) (λe=>by have:=(W.out.lt B e.symm).1; omega)) (U.block w.heap.size (by simp; omega) (λe=>by have:=(W.out.lt _ e.symm).1; omega)),iP (by simp; omega) (by simp; omega),iP aF aE];exact aI.out
    clear O U aK;go_wp2;go_roundw
    case rel=>
     exact⟨y++[⟨nm,true,tx,wt,tg⟩],Y,ja HP.out aJ.out,bf.out,ad.out,ae.out,by omega⟩
    case measure=>exact HL2.out
end
section
open Go.RowKit Go.Maps Go.Sort
def r9(x y:Wd):Int:=if oi x y=true then -1 else if oi y x=true then 1 else 0
theorem Ar(x:ByteArray)(w:World):g6 prog 175 #[.string x] w λe w'=>e=.returned (.bool false)/\w=w':=by
 go_wp2;go_ret;exact⟨rfl,rfl⟩
theorem pS(x y:Wd)(w:World):g6 prog 128 #[.string ⟨x.toArray⟩,.string ⟨y.toArray⟩] w λe w'=>e=.returned (.int .i64 (r9 x y))/\w=w':=by
 have W:=Ar ⟨x.toArray⟩ w;have Y:=Ar ⟨y.toArray⟩ w;unfold r9;by_cases U:oi x y=true
 .rw[if_pos U];go_enter mj,kl;go_wp2_with fail;refine W.mono ?_;rintro e w' ⟨rfl,rfl⟩;go_wp2_with fail;refine Y.mono ?_;rintro e w' ⟨rfl,rfl⟩;go_wp2;go_ret;exact⟨rfl,rfl⟩
 .rw[if_neg U];have B:oi x y=false:=by simpa using U
  clear U;by_cases O:oi y x=true
  .rw[if_pos O];have aa:(x==y)=false:=beq_eq_false_iff_ne.2 (λe=>by subst e; rw[B]at O; cases O);clear O;go_enter mj,kl;go_wp2_with fail;refine W.mono ?_;rintro e w' ⟨rfl,rfl⟩;go_wp2_with fail;refine Y.mono ?_;rintro e w' ⟨rfl,rfl⟩;go_wp2;go_ret;exact⟨rfl,rfl⟩
  .obtain rfl:x=y:=by
    rcases im x y with h|h|h
    .rw[B]at h; cases h
    .exact h
    .exact absurd h O
   go_enter mj,kl;go_wp2_with fail;refine W.mono ?_;rintro e w' ⟨rfl,rfl⟩;go_wp2_with fail;refine Y.mono ?_;rintro e w' ⟨rfl,rfl⟩;go_wp2;go_ret;exact⟨rfl,rfl⟩
def k8(e:dp):List Value:=[.string ⟨(dE e).toArray⟩,.string ⟨e.name.toArray⟩,.string ⟨e.text.toArray⟩,.int .i64 e.dq,.int .i64 e.dB]
def Q'(x y:dp):Int:=if r9 (dE x) (dE y)≠0 then r9 (dE x) (dE y)else r9 x.name y.name
theorem Nv(x y:dp)(w:World):g6 prog 185 #[.agg #[.string ⟨(dE x).toArray⟩,.string ⟨x.name.toArray⟩,.string ⟨x.text.toArray⟩,.int .i64 x.dq,.int .i64 x.dB],.agg #[.string ⟨(dE y).toArray⟩,.string ⟨y.name.toArray⟩,.string ⟨y.text.toArray⟩,.int .i64 y.dq,.int .i64 y.dB]] w λe w'=>e=.returned (.int .i64 (Q' x y))/\∃k os,w'=grow (w.drewN k) os:=by
 have h1:=λW=>pS (dE x) (dE y) W;have h2:=λW=>pS x.name y.name W;unfold Q';obtain⟨z,hz⟩:∃z,z=r9 (dE x) (dE y):=⟨_,rfl⟩;obtain⟨t,ht⟩:∃t,t=r9 x.name y.name:=⟨_,rfl⟩;rw[<-hz]at h1⊢;rw[<-ht]at h2⊢;obtain⟨s4,aa⟩:∃s4,s4=if z≠0 then z else t:=⟨_,rfl⟩
 rw[<-aa]
 have ad:∀(g:Nat)(W:World),W.cell? ⟨g,0,none⟩=some (.int .i64 z)->W.cell? ⟨g,1,none⟩=some (.int .i64 t)->g6 prog 126 #[.slice (some ⟨g,0,none⟩) 2 2] W λe w'=>e=.returned (.int .i64 s4)/\W=w':=λg W k1 k2=>by
  rw[aa];exact Cb z t g W k1 k2
 clear hz ht aa;generalize dE x=kx at *;generalize dE y=ky at *;obtain⟨nx,_,tx,wx,gx⟩:=x;obtain⟨ny,_,ty,wy,gy⟩:=y;simp only at h2⊢;obtain⟨Y,ab⟩:∃Y,Y=(w.alloc (.cells #[.string ⟨kx.toArray⟩,.string ⟨nx.toArray⟩,.string ⟨tx.toArray⟩,.int .i64 wx,.int .i64 gx] 237)).alloc (.cells #[.string ⟨ky.toArray⟩,.string ⟨ny.toArray⟩,.string ⟨ty.toArray⟩,.int .i64 wy,.int .i64 gy] 237):=⟨_,rfl⟩
 have hA:∀j,Y.cell? ⟨w.heap.size,j,none⟩=(#[Value.string ⟨kx.toArray⟩,.string ⟨nx.toArray⟩,.string ⟨tx.toArray⟩,.int .i64 wx,.int .i64 gx]:Array Value)[j]?:=λj=>by
  rw[ab,World.cell?_alloc_past _ _ _ (by simp),nl _ _ _ _ rfl]
 have ac:∀j,Y.cell? ⟨w.heap.size+1,j,none⟩=(#[Value.string ⟨ky.toArray⟩,.string ⟨ny.toArray⟩,.string ⟨ty.toArray⟩,.int .i64 wy,.int .i64 gy]:Array Value)[j]?:=λj=>by
  rw[ab,nl _ _ _ _ (by simp)]
 have ae:∃os,Y=grow w os:=⟨_,by rw[ab,on,on,grow_grow]⟩;have a0:Y.cell? ⟨w.heap.size,0,none⟩=some (.string ⟨kx.toArray⟩):=hA 0;have a1:Y.cell? ⟨w.heap.size,1,none⟩=some (.string ⟨nx.toArray⟩):=hA 1;have b0:Y.cell? ⟨w.heap.size+1,0,none⟩=some (.string ⟨ky.toArray⟩):=ac 0;have b1:Y.cell? ⟨w.heap.size+1,1,none⟩=some (.string ⟨ny.toArray⟩):=ac 1;clear hA ac;go_enter func185,ntmps185;go_wp2_with fail;rw[<-ab];clear ab;have O:(λw':World=>w'.cell? ⟨w.heap.size,0,none⟩=some (.string ⟨kx.toArray⟩)/\w'.cell? ⟨w.heap.size,1,none⟩=some (.string ⟨nx.toArray⟩)/\w'.cell? ⟨w.heap.size+1,0,none⟩=some (.string ⟨ky.toArray⟩)/\w'.cell? ⟨w.heap.size+1,1,none⟩=some (.string ⟨ny.toArray⟩)) Y.drew:=⟨a0,a1,b0,b1⟩;clear a0 a1 b0 b1;refine g7 (S:=λw'=>w'.cell? ⟨w.heap.size,0,none⟩=some (.string ⟨kx.toArray⟩)/\w'.cell? ⟨w.heap.size,1,none⟩=some (.string ⟨nx.toArray⟩)/\w'.cell? ⟨w.heap.size+1,0,none⟩=some (.string ⟨ky.toArray⟩)/\w'.cell? ⟨w.heap.size+1,1,none⟩=some (.string ⟨ny.toArray⟩)) (by kernel_rfl) ?_;refine fu 0 ?_ O ?_<|fu 1 ?_ O ?_<|fu 2 ?_ O ?_<|fu 3 ?_ O ?_<|fu 5 ?_ O ?_<|fu 6 ?_ O ?_<|fu 7 ?_ O ?_<|fu 8 ?_ O ?_<|fu 9 ?_ O ?_<|fu 10 ?_ O ?_ ?_
 any_goals(rintro w' ⟨s0,s1,s2,s3⟩; go_simp; first|done|with_reducible rfl)
 refine kY 4 λK' U=>?_;unfold m';go_simp;refine(h1 _).mono ?_;rintro e w' ⟨rfl,rfl⟩;refine U _ _ ⟨O,?_⟩;clear U;refine kY 11 λK' U=>?_;unfold m';go_simp;refine(h2 _).mono ?_;rintro e w' ⟨rfl,rfl⟩;refine U _ _ ⟨O,?_⟩;clear U;refine kY 12 λK' U=>?_;unfold m';go_simp
 have B:Below Y.heap.size Y (Y.alloc (.cells #[.int .i64 z,.int .i64 t] 3)).drew:=by
  have h:Below Y.heap.size Y (Y.alloc (.cells #[.int .i64 z,.int .i64 t] 3)):=(m7 _ _).alloc (hY _) _;exact⟨h.os,h.tape,h.output,h.size,h.block⟩
 refine U _ _ ⟨⟨gv B O.1,gv B O.2.1,gv B O.2.2.1,gv B O.2.2.2⟩,?_⟩;clear U;refine kY 13 λK' U=>?_;unfold m';go_simp;refine(ad Y.heap.size (Y.alloc (.cells #[.int .i64 z,.int .i64 t] 3)).drew (Bl (w:=Y) (by rfl)).1 (Bl (w:=Y) (by rfl)).2).mono ?_;rintro e w' ⟨rfl,rfl⟩;refine U _ _ ⟨⟨gv B O.1,gv B O.2.1,gv B O.2.2.1,gv B O.2.2.2⟩,?_⟩;clear U;have af:(λw':World=>w'.cell? ⟨w.heap.size,0,none⟩=some (.string ⟨kx.toArray⟩)/\w'.cell? ⟨w.heap.size,1,none⟩=some (.string ⟨nx.toArray⟩)/\w'.cell? ⟨w.heap.size+1,0,none⟩=some (.string ⟨ky.toArray⟩)/\w'.cell? ⟨w.heap.size+1,1,none⟩=some (.string ⟨ny.toArray⟩)) (Y.alloc (.cells #[.int .i64 z,.int .i64 t] 3)).drew:=⟨gv B O.1,gv B O.2.1,gv B O.2.2.1,gv B O.2.2.2⟩;refine fu 14 ?_ af ?_ ?_;rotate_left
 .rintro w' ⟨s0,s1,s2,s3⟩; go_simp; first|done|with_reducible rfl
 refine ha (by kernel_rfl) ?_ _;go_wp2;go_ret;obtain⟨os,rfl⟩:=ae;exact⟨rfl,1,_,by rw[on,grow_grow]; rfl⟩
end
section
open Go.RowKit Go.Maps Go.Sort
variable {a b:dp} {base g:Nat} {w:World}
theorem wZ(x y:Wd):r9 x y<0↔oi x y=true:=by
 unfold r9;by_cases B:oi x y=true
 .simp[B]
 .by_cases O:oi y x=true
  .simp[B,O]
  .simp[B,O]
theorem qY(x y:Wd):r9 x y=0↔x=y:=by
 unfold r9;constructor
 .intro h;rcases im x y with B|B|B
  .rw[if_pos B]at h; cases h
  .exact B
  .rw[if_neg (by rw[pM B]; simp),if_pos B]at h; cases h
 .rintro rfl;simp[gZ]
theorem uN(x y:dp):ltOf Q' x y=true↔Dr x y:=by
 unfold ltOf Q' Dr;rw[decide_eq_true_eq];by_cases h:dE x=dE y
 .rw[if_neg (by rw[Classical.not_not]; exact(qY ..).2 h),wZ,h,gZ];simp
 .rw[if_pos (λe=>h ((qY ..).1 e)),wZ];simp[h]
theorem A4{c:dp}(B:Dr a b)(y:Dr b c):Dr a c:=by
 rcases B with B|⟨B,O⟩
 .rcases y with y|⟨y,_⟩
  .exact Or.inl (lW _ _ _ B y)
  .exact Or.inl (by rw[<-y]; exact B)
 .rcases y with y|⟨y,U⟩
  .exact Or.inl (by rw[B]; exact y)
  .exact Or.inr ⟨B.trans y,lW _ _ _ O U⟩
theorem B5(a b:dp):Dr a b\/(dE a=dE b/\a.name=b.name)\/Dr b a:=by
 rcases im .. with h|h|h
 .exact Or.inl (Or.inl h)
 .rcases im .. with y|y|y
  .exact Or.inl (Or.inr ⟨h,y⟩)
  .exact Or.inr (Or.inl ⟨h,y⟩)
  .exact Or.inr (Or.inr (Or.inr ⟨h.symm,y⟩))
 .exact Or.inr (Or.inr (Or.inl h))
theorem H7(a:dp):¬Dr a a:=by
 unfold Dr;simp[gZ]
theorem My{c:dp}(h:dE a=dE b/\a.name=b.name)(y:Dr a c):Dr b c:=by
 unfold Dr at *;rw[<-h.1,<-h.2];exact y
theorem Q0:SWO (ltOf Q') where
 irrefl x:=by
  have:=H7 x;rw[<-uN]at this;simpa using this
 trans x y z h1 h2:=by rw[uN]at *; exact A4 h1 h2
 ntrans x y z h1 h2:=by
  cases B:ltOf Q' x z with
  |false=>rfl
  |true=>
   rw[uN]at B;have n1:¬Dr x y:=by rw[<-uN,h1]; simp
   have n2:¬Dr y z:=by rw[<-uN,h2]; simp
   rcases B5 x y with h|h|h
   .exact absurd h n1
   .exact absurd (My h B) n2
   .exact absurd (A4 h B) n2
def gW(es:List dp):List Value:=es.flatMap k8
theorem Ad(es:List dp)(x:dp):gW (es++[x])=gW es++k8 x:=by simp[gW]
theorem BO:∀(ws:List dp)(i c:Nat)(h:i<ws.length),c<5->(gW ws)[i*5+c]?=(k8 ws[i])[c]?:=by
 intro ws
 induction ws with
 |nil=>intro i c h; simp at h
 |cons a l y=>
  intro i c h B;have e:gW (a::l)=k8 a++gW l:=by simp[gW]
  rw[e]
  cases i with
  |zero=>rw[cx (by simp[k8]; omega)]; simp
  |succ i=>
   rw[df (by simp[k8]; omega)];have O:(k8 a).length=5:=rfl;rw[O,show(i+1)*5+c-5=i*5+c by omega,y i c (by simpa using h) B];simp
theorem B6(x:dp):∀v∈k8 x,v.oneCell'=true:=by
 intro v y;simp[k8]at y;rcases y with rfl|rfl|rfl|rfl|rfl<;>rfl
instance:Inhabited dp:=⟨⟨[],false,[],0,0⟩⟩
theorem yb{e n m cap:Nat}{ws:List dp}(h:w.ownsRow base e 5 (.slice (some ⟨g,0,none⟩) m cap) n (gW ws))(hn:n=ws.length):HoldsK k8 5 w g 0 ws.toArray:=by
 intro j hj;have B:=by simpa using hj
 have U:j / 5<ws.length:=by omega
 have y:(gW ws)[j]?=some ((flatK k8 5 ws.toArray)[j]!):=by
  rw[get_flatK _ _ _ _ (by simpa using B)];have:=BO ws _ (j % 5) U (by omega);rw[show j / 5*5+j % 5=j by omega]at this;rw[this];have e1:ws.toArray[j / 5]! = ws[j / 5]:=by rw[getElem!_pos _ _ (by simpa using U)]; simp
  rw[e1];have W:j % 5<(k8 ws[j / 5]).length:=by simp[k8]; omega
  rw[dd W,getElem!_pos (k8 _) _ W]
 rcases h.2 with⟨h0,_⟩|⟨g',Y,aa,he,_,hg,_,_,ab,O⟩
 .simp at h0
 .obtain⟨⟨rfl,_⟩,_,rfl⟩:=he;refine⟨?_,?_⟩
  .rw[dh hg];rw[<-O,di,if_pos (by omega)]at y;simpa using y
  .simp[World.frozen?,hg]
theorem vp{k blk off m:Nat}{enc:dp->List Value}{d:Array dp}{os:Array Obj}(hb:base<=blk)(y:blk<w.heap.size):Below base w (o2 enc k w blk off m d os):=by
 refine⟨rfl,rfl,rfl,?_,λj B=>?_⟩
 .unfold o2 Q9 ot grow oo;simp[oj]
 .unfold o2 Q9 ot grow oo;simp[oj];rw[Array.getElem?_append_left (by simp; omega),m5,if_neg (by omega)]
theorem EV{k m:Nat}{enc:dp->List Value}{d:Array dp}{os:Array Obj}{y:Array Value}{e:g8}{fr:Nat×Nat}(hb:w.heap[g]?=some (.cells y e fr)):∃cs,(o2 enc k w g 0 m d os).heap[g]?=some (.cells cs e fr):=by
 have B:=(m3.1 hb).1;unfold o2 Q9;rw[heap_grow_old _ _ (by simpa using B)];simp[ot,oo,oj,m5,hb,onCells]
theorem K8(blk off size:Nat)(w:World):CmpLays prog 185 #[] k8 5 Q' blk off size w:=by
 intro m os B _ x y;exact Nv x y _
theorem JY(base:Nat)(au:Option Addr)(W:Nat)(es:List dp)(w:World)(O:w.ownsRow base 237 5 (.slice au es.length W) es.length (gW es))(ad:(es.map dp.name).Nodup)(hl:es.length<=1048576) :
  g6 prog 184 #[.slice au es.length W,.func (.func 185) #[] #[]] w λe w2=>e=.returned (.tuple #[])/\Below base w w2/\
   ∃L:List dp,L.Perm es/\gq L/\oh w2 (.slice au es.length W) L:=by
 rcases O.2 with⟨he,hn⟩|⟨g,cap,ah,he,Y,hb,h1,h2,h3,h4⟩
 .have hG:es=[]:=fd.1 (by simpa using hn);subst hG;have y:=AnyF.slices_SortFunc_none EG au W (.func (.func 185) #[] #[]) w;change g6 prog 184 _ _ _ at y;simp only[nc]at he;refine y.mono ?_;rintro e w2 ⟨rfl,rfl⟩;exact⟨rfl,m7 _ _,[],o' _,List.Pairwise.nil,au,W,rfl,hZ _,by rw[he.2.2]; exact hZ _,λi h=>by simp at h⟩
 .simp only[nc]at he;obtain⟨rfl,_,rfl⟩:=he;have aa:g<w.heap.size:=(m3.1 hb).1
  have y:=AnyQ.slices_SortFunc EG 5 isAgg237 sizeOf237 k8 (λ_=>rfl) B6 Q' Q0 185 #[] g 0 W es.toArray w
   (enters_of func185 (by kernel_rfl) rfl) (K8 g 0 _ w) (yb O rfl) aa (by simp; omega)
  change g6 prog 184 _ _ _ at y;refine y.mono ?_;rintro e w2 ⟨rfl,d',nq,os,hp,hs,rfl⟩;have ab:d'.size=es.length:=by rw[hp.1]; simp
  have hH:HoldsK k8 5 (o2 k8 5 w g 0 nq d' os) g 0 d':=by
   unfold o2;refine holdsK_grow _ _ _ _ _ _ _ ?_ (holdsK_putRowK _ _ _ _ _ _ _ (holdsK_ahead _ _ _ _ _ _ _ (yb O rfl)) hp.1);unfold Q9 ot oo;simp[oj];exact aa
  obtain⟨cs,ae⟩:=EV (enc:=k8) (k:=5) (m:=nq) (d:=d') (os:=os) hb
  have eA:=by
   have e1:d'.extract 0 es.toArray.size=d':=by rw[<-hp.1]; simp
   have e2:es.toArray.extract 0 es.toArray.size=es.toArray:=by simp
   have p3:=hp.2.2;rw[e1,e2]at p3;exact p3
  have af:gq d'.toList:=by
   have U:=(eA.map _).nodup_iff.2 ad;unfold gq;rw[e8];intro i j hi hj ac;have ag:d'.toList.length=es.toArray.size:=by simpa using ab
   have h:=hs i j (hZ _) ac (by omega);have gi:d'[i]! = d'.toList[i]:=by rw[getElem!_pos d' i _]; rfl
   have gj:d'[j]! = d'.toList[j]:=by rw[getElem!_pos d' j _]; rfl
   rw[gi,gj]at h;rcases B5 _ _ with h'|h'|h'
   .exact h'
   .rw[List.Nodup,gc,e8]at U;exact absurd h'.2 (U i j hi hj ac)
   .rw[<-uN,h]at h';cases h'
  refine⟨rfl,vp Y aa,d'.toList,eA,af,some _,W,by rw[show d'.toList.length=es.length by simpa using ab],by rw[show d'.toList.length=es.length by simpa using ab]; exact h1,h2,λi hi=>?_⟩;have B:=by simpa using hi
  have g0:=(o3 hH B (c:=0) (by decide)).1;have g1:=(o3 hH B (c:=1) (by decide)).1;have g2:=(o3 hH B (c:=2) (by decide)).1;have g3:=(o3 hH B (c:=3) (by decide)).1;have g4:=(o3 hH B (c:=4) (by decide)).1;have e2:d'[i]! = d'.toList[i]:=by rw[getElem!_pos d' i B]; rfl
  rw[e2]at g0 g1 g2 g3 g4;refine⟨g,0,rfl,g0,?_,?_,?_,?_,cs,(0,0),ae⟩
  .exact g1
  .exact g2
  .exact g3
  .exact g4
end
section
open Go.RowKit Go.Maps Go.Sort
variable {u:Value} {w w':World}
theorem zT{P:Program}(w:World){o:Oper}{a:Act}{K:Act->World->Prop}{Q:Exit->Act->World->Prop}(s x:Operand)(t:g8)
  (ho:o.op=.call {callee:=.builtin .append,args:=#[s,x],argTypes:=#[t,t]})
  (base:Nat) (e:g8) (i:TypeInfo) (z:Value) (size bytes:Nat) (ht:P.underlying t=some (.slice e)) (hi:P.info? e=some i) (hz:i.zero=some z)
  (O:i.size=size) (Y:i.bytes=bytes) (aa:z.cells.size=size) (ab:0<size)
  (v:Value) (n:Nat) (xs:List Value) (hs:a.eval s=v) (W:w.ownsRow base e size v n xs)
  (y:Value) (m:Nat) (news:List Value) (hx:a.eval x=y) (hy:sM w size y m news) (h1:∀u∈news,u.oneCell'=true)
  (B:(n+m)*bytes<=140737488355328) (ac:n+m<=g5) (U:base<=w.heap.size)
  (h:∀v' w',w'.ownsRow base e size v' (n+m) (xs++news)->w.grownBy w' v.ownBlock->(v'.ownBlock=v.ownBlock\/(v'.ownBlock=some w.heap.size/\Below w.heap.size w w'))->K (a.put o.dst v') w'):m' P o a w K Q:=by
 obtain⟨v',w',hr,h2,h3,h4⟩:=pI (P:=P) w base t o.type e i z size bytes ht hi hz O Y aa ab v n xs W y m news hy h1 B ac U;unfold m' hJ;simp only[ho,h8,invoke,builtin,o0,ov,o1,ek,ej,et,hs,hx,hr];exact h v' w' h2 h3 h4
theorem MM:(prog.info? 237).map (λi=>(i.zero,i.size,i.bytes))=some (some (.agg #[.string ⟨#[]⟩,.string ⟨#[]⟩,.string ⟨#[]⟩,.int .i64 0,.int .i64 0]),5,64):=by kernel_rfl
theorem Om{x y z v:Value}{t:g8}{g:Nat}(O:g=w.heap.size):sM (w.alloc (.cells #[x,y,z,u,v] t)) 5 (.slice (some ⟨g,0,none⟩) 1 1) 1 [x,y,z,u,v]:=by
 subst O;refine⟨some _,1,rfl,hY _,by unfold g5; omega,rfl,λj u B=>⟨w.heap.size,0,rfl,?_⟩⟩
 match j,B with
 |0,B=>simpa using B
 |1,B=>simpa using B
 |2,B=>simpa using B
 |3,B=>simpa using B
 |4,B=>simpa using B
 |j+5,B=>simp at B
theorem cell_grown{row:Option Nat}{k o:Nat}(B:w.grownBy w' row)(h:w.cell? ⟨k,o,none⟩=some u)(y:some k≠row):w'.cell? ⟨k,o,none⟩=some u:=by
 have hb:=B.block k (PO h) y;simp only[nr]at h⊢;rw[hb];exact h
theorem lM.QX{B r:Nat}{es y:List dp}(h:lM w B r es y)(hb:Below w.heap.size w w'):lM w' B r es y:=eu.kept (row:=none) h ⟨hb.os,hb.tape,hb.output,hb.size,λk O _=>hb.block k O⟩ (by simp) (by simp)
theorem Ib(B:Nat)(es:List dp)(w:World)(hs:eh w B es)(hl:es.length<=1048576)(ay:∀e∈es,e.text.length<=1099511627776) :
  g6 prog 133 #[.map (some B)] w λen w'=>∃v L,en=.returned v/\L.Perm (dw es)/\gq L/\oh w' v L/\Below w.heap.size w w':=by
 obtain⟨i0,hi,aG,aH,aI⟩:=g9 MM;have az:=hs.nodup;have HS:m2 (eh _ _ _):=hs;have aJ:m2 ((es.map dp.name).Nodup):=az;have aK:m2 (∀e∈es,e.text.length<=1099511627776):=ay;have aW:=dL.lt hs;clear hs az ay;go_enter func133,ntmps133;go_wp2_with (first|(at_range; refine jO _ rfl _ rfl rfl HS.out ?_; intro w1 hrg0 hg0 aX));go_frame;go_loopw [3] (λg wr=>∃(y ae:List dp),(y++ae).Perm es/\lM wr B w.heap.size es ae/\wr.ownsRow (w.heap.size+1) 237 5 g (dw y).length (gW (dw y))/\Below w.heap.size w wr/\w.heap.size+1<=wr.heap.size) (λ_ wr=>wr.rangeLeft B w.heap.size)
 case atStart=>exact⟨[],es,o' _,hrg0,ng _ _ _ _,(m7 _ _).grown hg0 (hY _) (λk hk=>by cases hk),by omega⟩
 case round=>
  obtain⟨y,ae,eA,hr,ah,hb,hz⟩:=hrel;have HP:m2 ((y++ae).Perm es):=eA;have HR:m2 (lM _ _ _ _ _):=hr;obtain⟨ag,cg,rfl,aY⟩:=iW ah;have HO:m2 (wr.ownsRow (w.heap.size+1) 237 5 (.slice ag (dw y).length cg) (dw y).length (gW (dw y))):=ah;have HB:m2 (Below _ _ _):=hb
  have aZ:(dw y).length<=es.length:=by
   have h1:=oE y;have h2:=eA.length_eq;rw[cc]at h2;omega
  clear eA hr hb ah;go_wp2_with (first|(at_next; refine kP _ rfl _ rfl w.heap.size ae rfl HR.out ?_ ?_))
  .intro h0
   have hE:y.Perm es:=by
    have:=HP.out;rw[h0,dt]at this;exact this
   have a0:=JY (w.heap.size+1) ag cg (dw y) wr HO.out (by
    have h1:(y.map dp.name).Nodup:=(hE.map _).nodup_iff.2 aJ.out
    exact h1.sublist (ez.map _)) (by omega)
   have HE:m2 ((dw y).Perm (dw es)):=ve hE;clear h0 hE;go_wp2_with fail;refine a0.mono ?_;rintro e2 w2 ⟨rfl,a3,L,a4,a5,a6⟩;have aL:m2 (Below w.heap.size w w2):=HB.out.trans (a3.mono (by omega));have HL:m2 (L.Perm (dw es)):=a4.trans HE.out;have aM:m2 (gq L):=a5;have aN:m2 (oh _ _ _):=a6;clear a0 a3 a4 a5 a6;go_wp2;go_ret;exact⟨_,L,rfl,HL.out,aM.out,aN.out,aL.out⟩
  .intro e aa w2 aq aj ao ar aO ba;have a7:=eu.lt aj;have a8:=dL.lt (eu.owns aj);have a9:m2 (Below w.heap.size w w2):=lO HB.out ar (hY _);have a':m2 (lM _ _ _ _ _):=aj;have aA:m2 (w2.rangeLeft B w.heap.size<wr.rangeLeft B w.heap.size):=ao;have aB:m2 (ae.Perm (e::aa)):=aq;have Y:m2 (w2.ownsRow (w.heap.size+1) 237 5 (.slice ag (dw y).length cg) (dw y).length (gW (dw y))):=gR HO.out (λk hk=>ar.block k (HO.out.lt k hk).2 (by have:=(HO.out.lt k hk).1; intro e; cases e; omega));have ak:=vH y e;have aP:e.text.length<=1099511627776:=aK.out e (HP.out.mem_iff.1 (List.mem_append_right _ (aq.mem_iff.2 (f' ..))));have aV:w.heap.size+1<=w2.heap.size:=by omega
   clear aq aj ao ar aO;obtain⟨nm,gn,tx,wt,tg⟩:=e
   cases gn with
   |true=>
    have au:m2 (dw (y++[⟨nm,true,tx,wt,tg⟩])=dw y):=by show _=_; rw[ak]; simp
    clear ak;go_wp2;go_roundw
    case rel=>
     exact⟨y++[⟨nm,true,tx,wt,tg⟩],aa,ja HP.out aB.out,a'.out.alloc _,by rw[au.out]; exact Y.out.alloc _,a9.out.alloc (by omega) _,by simp; omega⟩
    case measure=>
     rw[iP a8 a7];exact aA.out
   |false=>
    have au:m2 (dw (y++[⟨nm,false,tx,wt,tg⟩])=dw y++[⟨nm,false,tx,wt,tg⟩]):=by show _=_; rw[ak]; simp
    clear ak;go_wp2_with fail;rw[show tY ⟨nm,false,tx,wt,tg⟩=nm from rfl];obtain⟨wa,al⟩:∃wa,wa=w2.alloc (.cells #[.bool false,.string ⟨nm.toArray⟩,.string ⟨tx.toArray⟩,.int .i64 wt,.int .i64 tg] 111):=⟨_,rfl⟩;rw[<-al];obtain⟨k,hk⟩:∃k,k=w2.heap.size:=⟨_,rfl⟩;rw[<-hk];have av:Below w2.heap.size w2 wa:=by rw[al]; exact(m7 _ _).alloc (hY _) _
    have ai:wa.heap[k]?=some (.cells #[.bool false,.string ⟨nm.toArray⟩,.string ⟨tx.toArray⟩,.int .i64 wt,.int .i64 tg] 111 (0,0)):=by rw[al,hk]; exact hI w2 _
    have hS:(λw':World=>w'.cell? ⟨k,1,none⟩=some (.string ⟨nm.toArray⟩)/\w'.cell? ⟨k,2,none⟩=some (.string ⟨tx.toArray⟩)/\w'.cell? ⟨k,3,none⟩=some (.int .i64 wt)/\w'.cell? ⟨k,4,none⟩=some (.int .i64 tg)) wa.drew:=⟨by show wa.cell? _=_; rw[dh ai]; rfl,by show wa.cell? _=_; rw[dh ai]; rfl,by show wa.cell? _=_; rw[dh ai]; rfl,by show wa.cell? _=_; rw[dh ai]; rfl⟩;have aw:=pb ⟨tx.toArray⟩ wa.drew (by show tx.toArray.size<=_; simpa using aP);change g6 _ _ _ _ (λe w'=>e=.returned (.string ⟨(eo tx).toArray⟩)/\Below wa.heap.size wa.drew w')at aw;have aQ:m2 (k=w2.heap.size):=hk;clear al ai hk;refine g7 (S:=λw'=>w'.cell? ⟨k,1,none⟩=some (.string ⟨nm.toArray⟩)/\w'.cell? ⟨k,2,none⟩=some (.string ⟨tx.toArray⟩)/\w'.cell? ⟨k,3,none⟩=some (.int .i64 wt)/\w'.cell? ⟨k,4,none⟩=some (.int .i64 tg)) (by kernel_rfl) ?_;refine fu 0 ?_ hS ?_<|fu 1 ?_ hS ?_<|fu 2 ?_ hS ?_<|fu 3 ?_ hS ?_<|fu 5 ?_ hS ?_<|fu 6 ?_ hS ?_ ?_
    any_goals(rintro w' ⟨s0,s1,s2,s3⟩; go_simp; first|done|with_reducible rfl)
    refine kY 4 λK' ab=>?_;unfold m';go_simp;refine aw.mono ?_;rintro e w3 ⟨rfl,O⟩;have ac:(λw':World=>w'.cell? ⟨k,1,none⟩=some (.string ⟨nm.toArray⟩)/\w'.cell? ⟨k,2,none⟩=some (.string ⟨tx.toArray⟩)/\w'.cell? ⟨k,3,none⟩=some (.int .i64 wt)/\w'.cell? ⟨k,4,none⟩=some (.int .i64 tg)) w3:=⟨gv O hS.1,gv O hS.2.1,gv O hS.2.2.1,gv O hS.2.2.2⟩;refine ab _ _ ⟨ac,?_⟩;clear ab;refine fu 7 ?_ ac ?_ ?_;rotate_left
    .rintro w' ⟨s0,s1,s2,s3⟩; go_simp; first|done|with_reducible rfl
    refine kY 8 λK' ab=>?_;unfold m';go_simp;obtain⟨w4,am⟩:∃w4,w4=w3.alloc (.cells #[.string ⟨(eo tx).toArray⟩,.string ⟨nm.toArray⟩,.string ⟨tx.toArray⟩,.int .i64 wt,.int .i64 tg] 237):=⟨_,rfl⟩;rw[<-am];have ad:Below w3.heap.size w3 w4:=by rw[am]; exact(m7 _ _).alloc (hY _) _
    have aC:sM w4 5 (.slice (some ⟨w3.heap.size,0,none⟩) 1 1) 1 (k8 ⟨nm,false,tx,wt,tg⟩):=by rw[am]; exact Om rfl
    have af:(λw':World=>w'.cell? ⟨k,1,none⟩=some (.string ⟨nm.toArray⟩)/\w'.cell? ⟨k,2,none⟩=some (.string ⟨tx.toArray⟩)/\w'.cell? ⟨k,3,none⟩=some (.int .i64 wt)/\w'.cell? ⟨k,4,none⟩=some (.int .i64 tg)) w4:=⟨gv ad ac.1,gv ad ac.2.1,gv ad ac.2.2.1,gv ad ac.2.2.2⟩;refine ab _ _ ⟨af,?_⟩;clear ab;have bc:wa.heap.size<=w3.heap.size:=O.size;have bd:=ad.size;have aR:=av.size
    have W:Below w2.heap.size w2 w4:=by
     have h1:Below wa.heap.size wa w3:=⟨O.os,O.tape,O.output,O.size,O.block⟩;exact(av.trans (h1.mono aR)).trans (ad.mono (by omega))
    have aD:w4.ownsRow (w.heap.size+1) 237 5 (.slice ag (dw y).length cg) (dw y).length (gW (dw y)):=gR Y.out (λj hj=>W.block j (Y.out.lt j hj).2);have ap:Below w.heap.size w w4:=a9.out.trans (W.mono (by omega));clear am ad O;refine kY 9 λK' ab=>?_;refine zT _ _ _ 190 rfl (w.heap.size+1) 237 i0 _ 5 64 kN hi aG aH aI rfl (by decide) _ _ _ rfl aD _ 1 _ rfl aC (B6 _) (by omega) (by unfold g5; omega) (by omega) ?_;intro v5 w5 aE U _;have an:some k≠(Value.slice ag (dw y).length cg).ownBlock:=λe=>by have:=(Y.out.lt k e.symm).2; have:=aQ.out; omega
    have ax:(λw':World=>w'.cell? ⟨k,1,none⟩=some (.string ⟨nm.toArray⟩)/\w'.cell? ⟨k,2,none⟩=some (.string ⟨tx.toArray⟩)/\w'.cell? ⟨k,3,none⟩=some (.int .i64 wt)/\w'.cell? ⟨k,4,none⟩=some (.int .i64 tg)) w5:=⟨cell_grown U af.1 an,cell_grown U af.2.1 an,cell_grown U af.2.2.1 an,cell_grown U af.2.2.2 an⟩;refine ab _ _ ⟨ax,?_⟩;clear ab;refine fu 10 ?_ ax ?_ ?_;rotate_left
    .rintro w' ⟨s0,s1,s2,s3⟩; go_simp; first|done|with_reducible rfl
    refine ha (by kernel_rfl) ?_ _;have be:=U.size;have aS:m2 (Below w.heap.size w w5):=ap.grown U (by omega) (λb hb=>by have:=(Y.out.lt b hb).1; omega);have aF:lM w4 B w.heap.size es aa:=a'.out.QX W;have aT:m2 (lM w5 B w.heap.size es aa):=eu.kept aF U (λe=>by have:=(Y.out.lt B e.symm).1; omega) (λe=>by have:=(Y.out.lt _ e.symm).1; omega)
    have aU:m2 (w5.ownsRow (w.heap.size+1) 237 5 v5 (dw (y++[⟨nm,false,tx,wt,tg⟩])).length (gW (dw (y++[⟨nm,false,tx,wt,tg⟩])))):=by
     show w5.ownsRow _ _ _ _ _ _;rw[au.out,Ad,cc];exact aE
    have HL5:m2 (w5.rangeLeft B w.heap.size<wr.rangeLeft B w.heap.size):=by
     show _<_;rw[eu.jA (U.block B (by omega) (λe=>by have:=(Y.out.lt B e.symm).1; omega)) (U.block w.heap.size (by omega) (λe=>by have:=(Y.out.lt _ e.symm).1; omega)),eu.jA (W.block B a8) (W.block _ a7)];exact aA.out
    clear aE U ap aD aF aC hS ac af ax aw av W;go_wp2;go_roundw
    case rel=>
     exact⟨_,_,_,_,_,_,_,_,_,_,_,_,_,_,_,_,_,_,_,⟨y++[⟨nm,false,tx,wt,tg⟩],aa,ja HP.out aB.out,aT.out,aU.out,aS.out,by omega⟩,rfl⟩
    case measure=>exact HL5.out
end
section
open Go.RowKit Go.Maps
theorem IB{es L:List dp}(B:(es.map dp.name).Nodup)(O:L.Perm (dw es))(W:gq L):dS es=rO es++(dK []++gU 26 0 L):=by
 have U:=PX 26 [] L W (λe _=>gg)
 have y:=by
  have:((dw es).map _).Nodup:=B.sublist (ez.map _);exact(O.map _).nodup_iff.2 this
 have Y:fi L=(fi es).filter λe=>!e.gone:=by
  rw[p8,Gf y O];rfl
 rw[e6]at U;rw[U,Y];unfold dS rO eO;rw[List.flatMap_map];simp
theorem NL(B:Nat)(es:List dp)(w:World)(hs:eh w B es)(y:mT es) :
  g6 prog 91 #[.map (some B)] w λen w'=>en=.returned (.string ⟨(dS es).toArray⟩)/\Below w.heap.size w w':=by
 have ao:=re y
 have ap:es.length<=130:=by
  have h1:=y.gone;have h2:=y.there;have h3:=jo es;have h4:(dw es).length<=30:=h2;omega
 have af:=y.nodup;have HS:m2 (eh _ _ _):=hs;have aa:m2 (mT _):=y
 have hG:=xW B es w hs (by omega) (by have:=y.gone; unfold iV; omega) (λe he hg=>by
  rcases y.each e he with h|h
  .rw[h.1]at hg; cases hg
  .have:=(gG h.2).2; omega)
 clear hs y;go_enter func91,ntmps91;go_wp2_with fail;refine hG.mono ?_;rintro e1 w1 ⟨v1,rfl,U,O⟩;obtain⟨a1,c1,rfl⟩:=U.form;have ag:m2 (fo _ _ _ _):=U;have ah:m2 (Below _ _ _):=O;have ai:=O.size
 have hL:=Ib B es w1 (dL.below HS.out O) (by omega) (λe he=>by
  rcases aa.out.each e he with h|h
  .have:=jC h.2.2.1; omega
  .rw[h.1]; simp)
 clear hG U O;go_wp2_with fail;refine hL.mono ?_;rintro e2 w2 ⟨v2,L,rfl,W,ab,aj,Y⟩;have ak:m2 (Below w.heap.size w w2):=ah.out.trans (Y.mono ai);have ac:m2 (fo w2 w.heap.size (.slice a1 (rO es).length c1) (rO es)):=ag.out.below Y;have aq:=Y.size;have ad:m2 (dS es=rO es++(dK []++gU 26 0 L)):=IB af W ab
 have hN:=QW 26 w.heap.size _ (rO es) ⟨#[]⟩ [] _ L w2 ac.out aj (by omega) (λe he=>⟨by
   have hm:=W.mem_iff.1 he;unfold dw at hm;rw[gl]at hm;rcases aa.out.each e hm.1 with h|h
   .exact h
   .have:=hm.2;rw[h.1]at this
    simp at this,gg⟩) ab (by
   have h1:=W.length_eq;have h2:=oE es
   omega) (by simp) (by simp) (by
   have h1:=congrArg gt ad.out;rw[cc]at h1;change (rO es).length+(dK []++gU 26 0 L).length<=_
   omega) (hZ _)
 change g6 _ _ _ _ (OE _ w2 _ _ (dK []++gU 26 0 L))at hN;go_wp2_with fail;refine hN.mono ?_;rintro e3 w3 ⟨v3,rfl,ae,al⟩;have am:m2 _:=al.low ak.out ac.out (hY _);rw[<-ad.out]at ae;have an:=Hs ae i' j4 j1;go_wp2;go_ret;exact⟨rfl,am.out⟩
end
section
open Go.RowKit Go.Maps
theorem ug{P:Program}(w:World){o:Oper}{a:Act}{K:Act->World->Prop}{Q:Exit->Act->World->Prop}(s x:Operand)(t:g8)
  (ho:o.op=.call {callee:=.builtin .append,args:=#[s,x],argTypes:=#[t,t]})
  (base:Nat) (e:g8) (i:TypeInfo) (z:Value) (bytes:Nat) (ht:P.underlying t=some (.slice e)) (hi:P.info? e=some i) (hz:i.zero=some z)
  (O:i.size=1) (Y:i.bytes=bytes) (aa:z.cells.size=1)
  (v:Value) (n:Nat) (xs:List Value) (hs:a.eval s=v) (W:w.ownsRow base e 1 v n xs)
  (y:Value) (news:List Value) (hx:a.eval x=y) (hy:Rd w y news) (h1:∀u∈news,u.oneCell'=true)
  (B:(n+news.length)*bytes<=140737488355328) (ab:n+news.length<=g5) (U:base<=w.heap.size)
  (h:∀v' w',w'.ownsRow base e 1 v' (n+news.length) (xs++news)->w.grownBy w' v.ownBlock->(v'.ownBlock=v.ownBlock\/v'.ownBlock=some w.heap.size)->K (a.put o.dst v') w'):m' P o a w K Q:=by
 obtain⟨v',w',hr,h2,h3,h4⟩:=qg (P:=P) w base t o.type e i z bytes ht hi hz O Y aa v n xs W y news hy h1 B ab U;unfold m' hJ;simp only[ho,h8,invoke,builtin,o0,ov,o1,ek,ej,et,hs,hx,hr];exact h v' w' h2 h3 h4
def iq(es:List dp):List Wd:=if 0<es.length then [dS es]else []
theorem CO(B:Nat)(es:List dp)(w:World)(Y:eh w B es)(O:0<es.length->mT es) :
  g6 prog 63 #[.map (some B)] w λen w'=>∃v,en=.returned v/\Rd w' v (dn (iq es))/\Below w.heap.size w w':=by
 have y:=λ(ty:g8)=>dL.len Y j3 ty;rw[dj]at y;by_cases W:0<es.length
 .have HE:m2 (iq es=[dS es]):=by show iq es=_; unfold iq; rw[if_pos W]
  have hp:=NL B es w Y (O W);have U:((es.length:Int)==0)=false:=beq_eq_false_iff_ne.2 (by omega);clear Y O W;go_enter func63,ntmps63;go_wp2_with fail;refine hp.mono ?_;rintro e w1 ⟨rfl,hb⟩;have HB:m2 (Below _ _ _):=hb;have hz:=hb.size;clear hp hb;go_wp2;go_ret;refine⟨_,rfl,?_,HB.out.alloc hz _⟩;rw[HE.out];exact Rd.one iG
 .have HE:m2 (iq es=[]):=by show iq es=_; unfold iq; rw[if_neg W]
  have U:es.length=0:=by omega
  rw[U]at y;clear Y O W U;go_enter func63,ntmps63;go_wp2;go_ret;refine⟨_,rfl,?_,m7 _ _⟩;rw[HE.out];exact Rd.Ie rfl (by unfold g5; omega)
end
section
open Go.RowKit Go.Maps
variable {ss':List (List dp)} {Bb b:Nat} {F:Nat->Prop} {v' vK vM:Value} {w:World}
theorem zH.jg{w2 w3:World}{buf:List dp}{ss:List (List dp)}{vS:Value}(W:zH w F b buf ss Bb vS vM vK)(hF:∀k,F k->k<w.heap.size)(hb:Below w.heap.size w w2)
  (hg:du (λk=>vS.ownBlock=some k) w2 w3) (y:w3.ownsRow 0 9 1 v' ss'.length (dn (ss'.map dS))) (hv:∀k,v'.ownBlock=some k->vS.ownBlock=some k\/w2.heap.size<=k) :
  (w3.setCell ⟨b,1,none⟩ v').heap[b]?=some (.cells #[.map (some Bb),v',vM,vK] 90 (0,0))/\eh (w3.setCell ⟨b,1,none⟩ v') Bb buf/\(w3.setCell ⟨b,1,none⟩ v').ownsRow 0 9 1 v' ss'.length (dn (ss'.map dS))/\
   du F w (w3.setCell ⟨b,1,none⟩ v')/\(∀k,v'.ownBlock=some k->(F k\/w.heap.size<=k)/\k<w3.heap.size):=by
 have aa:w2.heap[b]?=some (.cells #[.map (some Bb),vS,vM,vK] 90 (0,0)):=by rw[hb.block b (hF b W.fb)]; exact W.blk
 have ad:b<w2.heap.size:=eT aa;have ae:Bb<w2.heap.size:=hX (hF Bb W.fB) hb.size;have B:w2.ownsRow 0 9 1 vS ss.length (dn (ss.map dS)):=eD W.row (λk Y=>hb.block k (hF k (W.lr k Y)));have O:eh w2 Bb buf:=dL.stay W.say (hb.block Bb (hF Bb W.fB));have ab:w3.heap[b]?=some (.cells #[.map (some Bb),vS,vM,vK] 90 (0,0)):=by rw[hg.block b ad (pH aa B (by decide))]; exact aa
 have U:eh w3 Bb buf:=dL.stay O (hg.block Bb ae (λe=>pD B O e.symm));have ac:∀k,k≠b->(w3.setCell ⟨b,1,none⟩ v').heap[k]?=w3.heap[k]?:=λk Y=>m8 _ _ _ _ (λe=>Y e);refine⟨by rw[heap_set ab]; rfl,dL.stay U (ac Bb (λe=>dL.nC U ab e)),eD y (λk Y=>ac k (λe=>pH ab y (by decide) (by rw[Y,e]))),?_,λk Y=>⟨?_,(y.lt k Y).2⟩⟩
 .exact((du.fC hb).trans hg (λi _ hi=>W.lr i hi)).then (ki W.fb)
 .rcases hv k Y with h|h
  .exact Or.inl (W.lr k h)
  .exact Or.inr (ip hb.size h)
def p9(ss:List (List dp))(l:List dp):List (List dp):=if 0<l.length then ss++[l]else ss
theorem Gu(ss:List (List dp))(l:List dp):(p9 ss l).length=ss.length+(dn (iq l)).length:=by
 unfold p9 iq;split<;>simp[dn]
theorem D5(ss:List (List dp))(l:List dp):dn ((p9 ss l).map dS)=dn (ss.map dS)++dn (iq l):=by
 unfold p9 iq;split<;>simp[dn]
theorem ub(es:List dp):(iq es).length<=1:=by unfold iq; split<;>simp
theorem du.Lo{w':World}{o:Option Nat}(h:w.grownBy w' o):du (λk=>o=some k) w w':=⟨h.os,h.tape,h.output,h.size,λk y B=>h.block k y (λe=>B e.symm)⟩
theorem G1{w4:World}(fb:F b)(W:w4.heap[b]?=some (.cells #[.map (some Bb),v',vM,vK] 90 (0,0)))
  (p3:w4.ownsRow 0 9 1 v' ss'.length (dn (ss'.map dS))) (p4:du F w w4) (Y:∀k,v'.ownBlock=some k->(F k\/w.heap.size<=k)/\k<w4.heap.size) (hi:Inv [] ss') :
  ∃F':Nat->Prop,sL vM vK ((w4.alloc (.map #[] 0)).setCell ⟨b,0,none⟩ (.map (some w4.heap.size))) F' b [] ss'/\(∀k,F' k->F k\/w.heap.size<=k)/\du F w ((w4.alloc (.map #[] 0)).setCell ⟨b,0,none⟩ (.map (some w4.heap.size))):=by
 have B:Below w4.heap.size w4 (w4.alloc (.map #[] 0)):=(m7 _ _).alloc (hY _) _;have aa:eh (w4.alloc (.map #[] 0)) w4.heap.size []:=dL.made w4;have ab:(w4.alloc (.map #[] 0)).heap.size=w4.heap.size+1:=by simp
 generalize (w4.alloc (.map #[] 0))=O at *;have ac:=eT W;have ad:O.heap[b]?=some (.cells #[.map (some Bb),v',vM,vK] 90 (0,0)):=by rw[B.block b ac]; exact W
 have U:∀k,k≠b->(O.setCell ⟨b,0,none⟩ (.map (some w4.heap.size))).heap[k]?=O.heap[k]?:=λk y=>m8 _ _ _ _ (λe=>y e);have ae:(O.setCell ⟨b,0,none⟩ (.map (some w4.heap.size))).heap.size=O.heap.size:=by simp[no]
 refine⟨λk=>(F k\/w.heap.size<=k)/\k<w4.heap.size+1,⟨λk y=>by rw[ae,ab]; exact y.2,w4.heap.size,v',?_⟩,λk y=>y.1,?_⟩
 .exact {
   blk:=by rw[heap_set ad]; rfl
   fb:=⟨Or.inl fb,by omega⟩,fB:=⟨Or.inr p4.size,by omega⟩,say:=dL.stay aa (U _ (by omega)),row:=eD p3 (λk y=>by rw[U k (λe=>pH W p3 (by decide) (by rw[y,e])),B.block k (Y k y).2]),lr:=λk y=>⟨(Y k y).1,by have:=(Y k y).2; omega⟩
   inv:=hi}
 .exact(p4.then (du.fC B)).then (ki fb)
theorem R'(w:World)(F:Nat->Prop)(b:Nat)(buf:List dp)(ss:List (List dp))(hP:sL vM vK w F b buf ss) :
  g6 prog 29 #[.pointer (some ⟨b,0,none⟩)] w λe w'=>e=.returned (.int .i64 (eV buf ss).1)/\
   ∃F':Nat->Prop,sL vM vK w' F' b (eV buf ss).2.1 (eV buf ss).2.2/\(∀k,F' k->F k\/w.heap.size<=k)/\du F w w':=by
 have HP:m2 (sL _ _ _ _ _ _ _):=hP;obtain⟨i9,a5,a6,a7,a8⟩:=g9 vo;have aE:=@run_makeMap prog;obtain⟨hF,Bb,vS,O⟩:=hP;obtain⟨aS,cS,rfl,aF⟩:=dM O.row;have HE:m2 (zH _ _ _ _ _ _ _ _ _):=O;have HF:m2 (∀k,F k->k<w.heap.size):=hF;have aG:w.cell? ⟨b,0,none⟩=some (.map (some Bb)):=by rw[dh O.blk]; rfl
 have a9:w.cell? ⟨b,1,none⟩=some (.slice aS ss.length cS):=by rw[dh O.blk]; rfl
 have aH:w.frozen? ⟨b,1,none⟩=false:=dJ O.blk 1;have U:=λ(ty:g8)=>dL.len O.say j3 ty;rw[dj]at U;have h6:=O.inv.qi;have HI:m2 (Inv (eV buf ss).2.1 (eV buf ss).2.2):=AG O.inv;have aI:=ru O.inv;have a':=hF b O.fb;clear hF O;by_cases h0:buf.length=0
 .have HU:m2 (eV buf ss=(5,buf,ss)):=by show eV _ _=_; unfold eV; rw[if_pos h0]
  rw[h0]at U;clear h0;go_enter kr,kk;go_wp2;go_ret;refine⟨eQ (by rw[HU.out]; rfl),F,?_,λk hk=>Or.inl hk,du.refl _ _⟩;rw[HU.out];exact HP.out
 .have aA:((buf.length:Int)==0)=false:=beq_eq_false_iff_ne.2 (by omega);by_cases W:6<=ss.length
  .have HU:m2 (eV buf ss=(4,buf,ss)):=by show eV _ _=_; unfold eV; rw[if_neg h0,if_pos W]
   have au:(6:Int)<=(ss.length:Int):=by omega
   clear h0 W;go_enter kr,kk;go_wp2;go_ret;refine⟨eQ (by rw[HU.out]; rfl),F,?_,λk hk=>Or.inl hk,du.refl _ _⟩;rw[HU.out];exact HP.out
  .have HU:m2 (eV buf ss=(0,[],if 0<(eY buf ss).length then ss++[eY buf ss]else ss)):=by show eV _ _=_; unfold eV; rw[if_neg h0,if_neg W]
   have au:¬(6:Int)<=(ss.length:Int):=by omega
   have ag:m2 (0<(eY buf ss).length->mT (eY buf ss)):=by
    intro hp;have hi:=HI.out;rw[HU.out]at hi;simp only[if_pos hp]at hi;exact hi.jg _ (by simp)
   clear h0;have ah:m2 (eV buf ss=(0,[],p9 ss (eY buf ss))):=HU.out;have av:m2 (Inv [] (p9 ss (eY buf ss))):=by have:=HI.out; rw[ah.out]at this; exact this
   by_cases ai:ss.length=0
   case' pos=>
    have ac:m2 (eY buf ss=dw buf):=by show eY _ _=_; unfold eY; rw[if_pos ai]
    have ad:((ss.length:Int)==0)=true:=beq_iff_eq.2 (by omega);have aw:=qC Bb buf w HE.out.say (by omega) (λe he=>AU HE.out.inv buf (by simp) e he);clear W ai;go_enter kr,kk;go_wp2_with fail;refine aw.mono ?_;rintro e w1 ⟨C,rfl,hC,ax,B⟩;have aj:m2 (Below w.heap.size w w1.drew):=⟨B.os,B.tape,B.output,B.size,B.block⟩;have aJ:w1.cell? ⟨b,1,none⟩=some (.slice aS ss.length cS):=gv B a9;have ak:=CO C (eY buf ss) w1.drew (by rw[ac.out]; exact ax) ag.out;clear aw ax B
   case' neg=>
    have ac:m2 (eY buf ss=buf):=by show eY _ _=_; unfold eY; rw[if_neg ai]
    have ad:((ss.length:Int)==0)=false:=beq_eq_false_iff_ne.2 (by omega);have ak:=CO Bb (eY buf ss) w.drew (by rw[ac.out]; exact HE.out.say) ag.out;have aj:m2 (Below w.heap.size w w.drew):=⟨rfl,rfl,rfl,hY _,λ_ _=>rfl⟩;clear W;go_enter kr,kk
   all_goals
    go_wp2_with fail;clear U aA au ad ac HU ag;generalize eY buf ss=X at *;refine g7 (S:=λw'=>True) (by kernel_rfl) ?_;refine fu 0 ?_ trivial ?_<|fu 1 ?_ trivial ?_<|fu 2 ?_ trivial ?_<|fu 3 ?_ trivial ?_<|fu 5 ?_ trivial ?_ ?_
    any_goals(rintro w' _; go_simp; first|done|with_reducible rfl)
    refine hV (rs:=[4,6]) (by kernel_rfl) (by simp) ?_;intro i hi;simp only[fa,e0,or_false]at hi;rcases hi with rfl|rfl
    case' inl=>
     refine h7 (by rfl) λK' y=>?_;rw[if_pos (by rfl)];unfold m';go_simp;refine y _ _ ⟨trivial,?_⟩;clear y;refine kY 6 λK' y=>?_
    case' inr=>
     refine h7 (by rfl) λK' y=>?_;rw[if_pos (by rfl)]
    all_goals
     unfold m';go_simp;refine ak.mono ?_;rintro e w2 ⟨v2,rfl,ay,az⟩;have Y:Below w.heap.size w w2:=aj.out.trans (az.mono aj.out.size);have aK:=Y.size;have aa:w2.heap[b]?=some (.cells #[.map (some Bb),.slice aS ss.length cS,vM,vK] 90 (0,0)):=by rw[Y.block b a']; exact HE.out.blk
     have al:w2.ownsRow 0 9 1 (.slice aS ss.length cS) ss.length (dn (ss.map dS)):=eD HE.out.row (λk hk=>Y.block k (HF.out k (HE.out.lr k hk)));have aL:w2.cell? ⟨b,1,none⟩=some (.slice aS ss.length cS):=by rw[dh aa]; rfl
     refine y _ _ ⟨trivial,?_⟩;clear y ak az
    case' inr=>
     refine kY 4 λK' y=>?_;unfold m';go_simp;refine y _ _ ⟨trivial,?_⟩;clear y
    all_goals
     refine kY 7 λK' y=>?_;refine ug _ _ _ 31 rfl 0 9 i9 (.string ⟨#[]⟩) 16 jt a5 a6 a7 a8 rfl _ _ _ rfl al _ _ rfl ay k9 ?c1 ?c2 (hZ _) ?_
     case c1=>rw[dC]; have:=ub X; omega
     case c2=>rw[dC]; have:=ub X; unfold g5; omega
     intro v3 w3 am an a0;obtain⟨a3,c3,rfl,aM⟩:=dM am;have ao:w3.heap[b]?=some (.cells #[.map (some Bb),.slice aS ss.length cS,vM,vK] 90 (0,0)):=by rw[an.block b (eT aa) (λe=>pH aa al (by decide) e.symm)]; exact aa
     refine y _ _ ⟨trivial,?_⟩;clear y
     have ab:w3.ownsRow 0 9 1 (.slice a3 (ss.length+(dn (iq X)).length) c3) (p9 ss X).length (dn ((p9 ss X).map dS)):=by
      rw[D5,Gu];exact am
     have ae:=HE.out.jg HF.out Y (du.Lo an) ab (λk hk=>by
      rcases a0 with h|h
      .exact Or.inl (h.symm.trans hk)
      .have aB:=h.symm.trans hk; cases aB; exact Or.inr (hY _))
     refine fu 8 ?_ trivial ?_<|fu 9 ?_ trivial ?_ ?_
     any_goals(rintro w' _; go_simp; first|done|with_reducible rfl)
     have aC:w3.cell? ⟨b,1,none⟩=some (.slice aS ss.length cS):=by rw[dh ao]; rfl
     have aD:w3.frozen? ⟨b,1,none⟩=false:=dJ ao 1;clear am an a0 ab ao al ay aa Y;refine kY 10 λK' y=>?_;unfold m';go_simp;refine y _ _ ⟨trivial,ha (by kernel_rfl) ?_ _⟩;clear y aC aD;obtain⟨w4,ap⟩:∃w4,w4=w3.setCell ⟨b,1,none⟩ (.slice a3 (ss.length+(dn (iq X)).length) c3):=⟨_,rfl⟩;have a4:w4.heap.size=w3.heap.size:=by rw[ap]; simp[no]
     rw[<-ap]at ae⊢;obtain⟨p1,p2,p3,p4,p5⟩:=ae;rw[<-a4]at p5;have af:=G1 HE.out.fb p1 p3 p4 p5 av.out;have aq:(w4.alloc (.map #[] 0)).heap[b]?=some (.cells #[.map (some Bb),.slice a3 (ss.length+(dn (iq X)).length) c3,vM,vK] 90 (0,0)):=by rw[m9 _ _ _ (eT p1)]; exact p1
     have aN:(w4.alloc (.map #[] 0)).cell? ⟨b,0,none⟩=some (.map (some Bb)):=by rw[dh aq]; rfl
     have aO:(w4.alloc (.map #[] 0)).frozen? ⟨b,0,none⟩=false:=dJ aq 0;have ar:m2 (∃F':Nat->Prop,sL vM vK ((w4.alloc (.map #[] 0)).setCell ⟨b,0,none⟩ (.map (some w4.heap.size))) F' b [] (p9 ss X)/\(∀k,F' k->F k\/w.heap.size<=k)/\du F w ((w4.alloc (.map #[] 0)).setCell ⟨b,0,none⟩ (.map (some w4.heap.size)))):=af;clear ap a4 p1 p2 p3 p4 p5 af aq;go_wp2;go_ret;refine⟨eQ (by rw[ah.out]; rfl),?_⟩;rw[ah.out];exact ar.out
end
section
open Go.RowKit Go.Maps
theorem RZ{w:World}{C D:Nat}{B lb:List dp}{t:g8}{g:Nat}(O:g=w.heap.size)(U:eh w C B)(W:eh w D lb):J4 (w.alloc (.cells #[.map (some C),.map (some D)] t)) (.slice (some ⟨g,0,none⟩) 2 2) [C,D] [B,lb] where
 rd:=by
  subst O;refine⟨some ⟨w.heap.size,0,none⟩,2,rfl,hY _,by unfold g5; omega,λj u y=>⟨w.heap.size,0,rfl,?_⟩⟩;rw[nl _ _ _ _ rfl]
  match j,y with
  |0,y=>simpa[zC]using y
  |1,y=>simpa[zC]using y
  |j+2,y=>simp at y
 len:=rfl
 each:=λi h Y=>by
  have hb:Below w.heap.size w (w.alloc (.cells #[.map (some C),.map (some D)] t)):=(m7 _ _).alloc (hY _) _
  match i,h,Y with
  |0,_,_=>exact dL.below U hb
  |1,_,_=>exact dL.below W hb
  |i+2,h,_=>exact absurd h (by simp)
theorem KZ{w w4:World}{F:Nat->Prop}{b:Nat}{buf:List dp}{ss ss':List (List dp)}{Bb:Nat}{vS vM vK v':Value}(B:zH w F b buf ss Bb vS vM vK)(hF:∀k,F k->k<w.heap.size)
  (h:w4.heap[b]?=some (.cells #[.map (some Bb),v',vM,vK] 90 (0,0))/\eh w4 Bb buf/\w4.ownsRow 0 9 1 v' ss'.length (dn (ss'.map dS))/\du F w w4/\(∀k,v'.ownBlock=some k->(F k\/w.heap.size<=k)/\k<w4.heap.size)) (hi:Inv buf ss') :
  ∃F':Nat->Prop,sL vM vK w4 F' b buf ss'/\(∀k,F' k->F k\/w.heap.size<=k)/\du F w w4:=by
 obtain⟨O,p2,p3,p4,U⟩:=h;refine⟨λk=>(F k\/w.heap.size<=k)/\k<w4.heap.size,⟨λk y=>y.2,Bb,v',?_⟩,λk y=>y.1,p4⟩
 exact {
  blk:=O,fb:=⟨Or.inl B.fb,eT O⟩,fB:=⟨Or.inl B.fB,hX (hF Bb B.fB) p4.size⟩,say:=p2,row:=p3,lr:=λk y=>U k y
  inv:=hi}
end
section
open Go.RowKit Go.Maps
theorem rR{P:Program}(w:World)(t ty elem:g8)(g off k c:Nat)(z:Value)(y:Array Value)(T:g8)(hu:P.underlying t=some (.slice elem))(hz:(zeroValue elem).run P w=.ok z w)(O:z.cells=#[z])(h1:z.oneCell'=true)
  (hg:w.heap[g]?=some (.cells y T (0,0))) (hk:0<k) (aa:off+k<=y.size) :
  ∃U:List Value,U.length=y.size/\(∀j,j<off->U[j]?=y[j]?)/\(n7 #[t] ty #[.slice (some ⟨g,off,none⟩) k c]).run P w=.ok (.tuple #[]) (w.setRow g U.toArray):=by
 obtain⟨k',rfl⟩:∃k',k=k'+1:=⟨k-1,by omega⟩;have B:(n0 #[z] (k'+1)).toList.length=k'+1:=by simp[size_zeroCells]
 have W:∀v∈(n0 #[z] (k'+1)).toList,v.oneCell'=true:=by
  intro v hv;simp[n0,Nat.mod_one]at hv;rw[<-hv.2];exact h1
 have Y:=run_storeCells_at P g off T (n0 #[z] (k'+1)).toList 0 y w hg (by rw[B]; omega) W;refine⟨y.toList.take (off+0)++(n0 #[z] (k'+1)).toList++y.toList.drop (off+0+(n0 #[z] (k'+1)).toList.length),?_,?_,?_⟩
 .rw[cc,cc,B,cp,dg];simp;omega
 .intro j hj;rw[dm,cx (by rw[cp]; simp; omega),di,if_pos (by omega)];simp
 .unfold n7;simp[run_underlying hu,hz,O,Y]
theorem pe{w:World}{g:Nat}{cs:Array Value}:du (· = g) w (w.setRow g cs):=⟨rfl,rfl,rfl,by simp[World.setRow],λk _ y=>setRow_other w g k cs (λe=>y (by omega))⟩
theorem rU{w':World}{e m:Nat}{g cap:Nat}{O:List Value}{B:Array Value}(hm:m<=cap)(y:cap<=g5)(Y:O.length=m)(U:w'.heap[g]?=some (.cells B e (0,0)))(hl:B.size=cap)(W:∀j,j<m->B[j]?=O[j]?):w'.ownsRow 0 e 1 (.slice (some ⟨g,0,none⟩) m cap) m O:=by
 refine⟨by omega,Or.inr ⟨g,cap,B,rfl,hZ _,U,hm,y,by omega,?_⟩⟩;apply List.ext_getElem?;intro j;rw[di];split
 .rw[m4];exact W j (by omega)
 .rw[List.getElem?_eq_none (by omega)]
theorem wG{P:Program}(w:World)(t ty e:g8)(i:TypeInfo)(ht:P.underlying t=some (.slice e))(hi:P.info? e=some i)(y:i.size=1)(g n c:Nat)(B:Array Value)(hg:w.heap[g]?=some (.cells B e (0,0)))(U:B.size=c)
  (x:Value) (news:List Value) (hx:Rd w x news) (h1:∀u∈news,u.oneCell'=true) (O:n+news.length<=c) :
  ∃l':List Value,l'.length=c/\(∀j,j<n->l'[j]?=B[j]?)/\(∀j,j<news.length->l'[n+j]?=news[j]?)/\(n3 #[t,t] ty #[.slice (some ⟨g,0,none⟩) n c,x]).run P w=.ok (.slice (some ⟨g,0,none⟩) (n+news.length) c) (w.setRow g l'.toArray):=by
 obtain⟨a,cap,rfl,hc,hm,ab⟩:=hx
 cases a with
 |none=>
  have hn:news=[]:=by
   cases news with
   |nil=>rfl
   |cons u us=>obtain⟨b,off,he,_⟩:=ab 0 u rfl; simp at he
  subst hn;refine⟨B.toList,by simpa using U,λj _=>by simp,λj W=>by simp at W,?_⟩;have:=jS (P:=P) w t ty e i ht hi (some ⟨g,0,none⟩) n c cap (by simp at O; omega);simp only[e6,i6];rw[this,m6,hU w g B e (0,0) hg]
 |some ad=>
  have Y:∀j u,news[j]?=some u->w.cell? (ad.add j)=some u:=by
   intro j u W;obtain⟨b,off,he,aa⟩:=ab j u W;simp only[ne]at he;subst he;rw[Addr.add_lit]; exact aa
  have hl:news.length=news.length*i.size:=by rw[y]; omega
  have ac:=run_append_room (P:=P) w t ty e i ht hi g n c B hg ad news.length cap news hl Y h1 O (by rw[U,y]; omega);rw[y,Nat.mul_one]at ac;have jv:B.toList.length=c:=by simpa using U
  refine⟨_,?_,?_,?_,ac⟩
  .simp only[cc,cp,dg,jv];omega
  .intro j W;rw[dm,cx (by rw[cp,jv]; omega),di,if_pos W];simp
  .intro j W;rw[dm,df (by rw[cp,jv]; omega),cp,jv,ie (by omega),iv,cx W]
theorem sH{P:Program}(w:World){ops:Array Oper}{rest:List Oper}{o:Oper}{a:Act}{Q:Exit->Act->World->Prop}(Y:o.guard=none)(s x:Operand)(t:g8)
  (ho:o.op=.call {callee:=.builtin .append,args:=#[s,x],argTypes:=#[t,t]}) (e:g8) (i:TypeInfo) (ht:P.underlying t=some (.slice e)) (hi:P.info? e=some i) (O:i.size=1) (g n c:Nat) (B:Array Value) (hg:w.heap[g]?=some (.cells B e (0,0))) (aa:B.size=c)
  (hs:a.eval s=.slice (some ⟨g,0,none⟩) n c) (y:Value) (news:List Value) (hx:a.eval x=y) (hy:Rd w y news) (h1:∀u∈news,u.oneCell'=true) (U:n+news.length<=c)
  (h:∀W:List Value,W.length=c->(∀j,j<n->W[j]?=B[j]?)->(∀j,j<news.length->W[n+j]?=news[j]?)->h9 P ops Q rest (a.put o.dst (.slice (some ⟨g,0,none⟩) (n+news.length) c)) (w.setRow g W.toArray)):h9 P ops Q (o::rest) a w:=by
 refine hQ Y λ_ hK=>?_;obtain⟨W,h2,h3,h4,hr⟩:=wG (P:=P) w t o.type e i ht hi O g n c B hg aa y news hy h1 U;unfold m' hJ;simp only[ho,h8,invoke,builtin,o0,ov,o1,ek,ej,et,hs,hx,hr];exact hK _ _ (h W h2 h3 h4)
theorem EQ(w:World)(g n cap:Nat)(xs:List Wd)(v:Value)(ps:List Wd)(W:w.ownsRow 0 9 1 (.slice (some ⟨g,0,none⟩) xs.length cap) xs.length (dn xs))(hv:Rd w v (dn ps))(aD:ps.length<=1)(hn:n+2=xs.length)(aq:xs.length<=6) :
  g6 prog 74 #[.slice (some ⟨g,0,none⟩) xs.length cap,.int .i64 n,.int .i64 ((n:Int)+2),v] w λe w'=>∃v',e=.returned v'/\w'.ownsRow 0 9 1 v' (xs.take n++ps).length (dn (xs.take n++ps))/\du (· = g) w w'/\∀k,v'.ownBlock=some k->k=g\/w.heap.size<=k:=by
 obtain⟨i9,ar,_,au,_⟩:=g9 vo;obtain⟨av,cv,rfl,aw,hmv,ax⟩:=id hv;rw[dC]at aw⊢;rcases W.2 with⟨he,_⟩|⟨g',aA,y,he,_,hg,ay,hcm,az,ad⟩
 .cases he
 simp only[nc,ne,o4,and_true,true_and]at he;obtain⟨rfl,rfl⟩:=he
 have ae:∀j,j<n->y[j]?=(dn (xs.take n))[j]?:=by
  intro j hj;have h1:=congrArg (λl:List Value=>l[j]?) ad;simp only[di]at h1;rw[if_pos (by omega),m4]at h1;rw[h1];unfold dn;rw[ee,ee,di,if_pos hj]
 obtain⟨L,hL⟩:∃L,L=xs.length:=⟨_,rfl⟩;rw[<-hL]at aq hn ay⊢;have HV:m2 (Rd w (.slice av ps.length cv) (dn ps)):=by have:=hv; rw[dC]at this; exact this
 have HG:m2 (w.heap[g]?=some (.cells y 9 (0,0))):=hg;have Y:y.size=cap:=by omega
 have HC:m2 (y.size=cap):=Y;have hj:IntKind.i64.wrap ((n:Int)+2)=(n:Int)+2:=by simp only[oa]; omega
 have aE:((n:Int)==(n:Int)+2)=false:=beq_eq_false_iff_ne.2 (by omega);have aF:(((n:Int)+2)==(L:Int))=true:=beq_iff_eq.2 (by omega);have aB:(n:Int)+2<=(cap:Int):=by omega
 have aG:¬cap=n:=by omega
 have B:m2 (n+2=L):=hn;have af:m2 (L=xs.length):=hL;have a0:m2 (∀j,j<n->y[j]?=(dn (xs.take n))[j]?):=ae;unfold g5 at hcm hmv;clear hv W ax hg az ad ae hL Y hn;go_enter func74,ntmps74;have ag:n+(dn ps).length<=cap:=by rw[dC]; omega
 go_wp2_with (first
  |(at_builtin; refine sH _ rfl _ _ 31 rfl 9 i9 jt ar au g n cap y HG.out HC.out rfl _ _ rfl HV.out k9 ag ?_))
 intro l1 ah ai ac;rw[dC]at ac⊢;obtain⟨w1,O⟩:∃w1,w1=w.setRow g l1.toArray:=⟨_,rfl⟩;rw[<-O];have aj:m2 (w1.heap[g]?=some (.cells l1.toArray 9 (0,0))):=by show _=_; rw[O]; exact hw w g _ _ _ _ HG.out
 have a3:m2 (du (· = g) w w1):=by show du _ _ _; rw[O]; exact pe
 have a4:m2 (∀j,j<n->l1[j]?=y[j]?):=ai;have a5:m2 (∀j,j<ps.length->l1[n+j]?=(dn ps)[j]?):=ac;have ak:m2 (l1.length=cap):=ah;have aH:((n+ps.length:Nat):Int)<(L:Int):=by have:=B.out; omega
 have aC:¬cap=n+ps.length:=by have:=B.out; omega
 clear ah ai ac O ag;have al:0<L-(n+ps.length):=by have:=B.out; omega
 have aa:n+ps.length+(L-(n+ps.length))<=l1.toArray.size:=by have:=B.out; have:=ak.out; simp; omega
 obtain⟨l2,am,an,a6⟩:=rR (P:=prog) w1 31 0 9 g (n+ps.length) (L-(n+ps.length)) (cap-(n+ps.length)) (.string ⟨#[]⟩) l1.toArray 9 jt (j2 w1) rfl rfl aj.out al aa;obtain⟨w2,U⟩:∃w2,w2=w1.setRow g l2.toArray:=⟨_,rfl⟩;rw[<-U]at a6;have a7:m2 (w2.heap[g]?=some (.cells l2.toArray 9 (0,0))):=by show _=_; rw[U]; exact hw w1 g _ _ _ _ aj.out
 have a8:m2 (du (· = g) w w2):=by show du _ _ _; rw[U]; exact a3.out.then pe
 have a9:m2 (∀j,j<n+ps.length->l2[j]?=l1[j]?):=λj hj=>by have:=an j hj; simpa using this
 have a':m2 (l2.length=cap):=by show _=_; rw[am]; simpa using ak.out
 clear am an U al aa;go_wp2;go_ret;refine⟨_,rfl,?_,a8.out,λk hk=>Or.inl (by simp[od]at hk; exact hk.symm)⟩
 have ab:(xs.take n++ps).length=n+ps.length:=by
  have:=af.out;have:=B.out;rw[cc,cp];omega
 rw[ab];refine rU (by have:=B.out; omega) (by unfold g5; omega) (by rw[dC,ab]) a7.out (by simpa using a'.out) (λj hj=>?_);have e1:(dn (xs.take n++ps))[j]?=(dn (xs.take n)++dn ps)[j]?:=by rw[show dn (xs.take n++ps)=dn (xs.take n)++dn ps by simp[dn]]
 have ao:(dn (xs.take n)).length=n:=by
  have:=af.out;have:=B.out;rw[dC,cp];omega
 rw[e1,ew,a9.out j hj];by_cases ap:j<n
 .rw[a4.out j ap,cx (by omega),a0.out j ap]
 .rw[df (by omega),ao,<-a5.out (j-n) (by omega),show n+(j-n)=j by omega]
end
section
open Go.RowKit Go.Maps
theorem rI{P:Program}(w:World)(t ty e:g8)(ht:P.underlying t=some (.slice e))(hi:(P.info? e).map (·.size)=some 1)(g off Y dc c:Nat)(y:Array Value)(hg:w.heap[g]?=some (.cells y e (0,0)))(aa:y.size=c)
  (x:Value) (news:List Value) (hx:Rd w x news) (h1:∀u∈news,u.oneCell'=true) (hd:news.length<=Y) (ab:off+news.length<=c) :
  ∃l':List Value,l'.length=c/\(∀j,j<off\/off+news.length<=j->l'[j]?=y[j]?)/\(∀j,j<news.length->l'[off+j]?=news[j]?)/\(n8 #[t,t] ty #[.slice (some ⟨g,off,none⟩) Y dc,x]).run P w=.ok (.int .i64 (news.length:Int)) (w.setRow g l'.toArray):=by
 obtain⟨a,cap,rfl,hc,hm,W⟩:=hx;have jv:y.toList.length=c:=by simpa using aa
 cases a with
 |none=>
  have hn:news=[]:=by
   cases news with
   |nil=>rfl
   |cons u us=>obtain⟨b,off,he,_⟩:=W 0 u rfl; simp at he
  subst hn;refine⟨y.toList,jv,λj _=>by simp,λj B=>by simp at B,?_⟩;have:=run_copy_none (P:=P) w t t ty e (some ⟨g,off,none⟩) none Y dc 0 cap ht hi (by simp);simp only[e6];rw[this,m6,hU w g y e (0,0) hg];rfl
 |some ad=>
  have O:∀j u,news[j]?=some u->w.cell? (ad.add j)=some u:=by
   intro j u B;obtain⟨b,off,he,U⟩:=W j u B;simp only[ne]at he;subst he;rw[Addr.add_lit]; exact U
  have ac:=run_copy_row (P:=P) w t t ty e g off Y dc ad news.length cap y e news ht hi hg (ie hd).symm O (by omega) h1;refine⟨_,?_,?_,?_,ac⟩
  .simp only[cc,cp,dg,jv];omega
  .intro j B;rcases B with B|B
   .rw[dm,cx (by rw[cp,jv]; omega),di,if_pos B];simp
   .rw[df (by simp only[cc,cp,jv]; omega),ga];simp only[cc,cp,jv];rw[ie (by omega),show off+news.length+(j-(off+news.length))=j by omega];simp
  .intro j B;rw[dm,df (by rw[cp,jv]; omega),cp,jv,ie (by omega),iv,cx B]
theorem T8:(prog.info? 9).map (·.size)=some 1:=by kernel_rfl
theorem DU(w:World)(g n q cap:Nat)(xs:List Wd)(v:Value)(ps:List Wd)(aa:w.ownsRow 0 9 1 (.slice (some ⟨g,0,none⟩) xs.length cap) xs.length (dn xs))(hv:Rd w v (dn ps))(aY:ps.length<=1)(hn:xs.length=n+2+q)(hq:0<q)(a5:xs.length<=6) :
  g6 prog 74 #[.slice (some ⟨g,0,none⟩) xs.length cap,.int .i64 n,.int .i64 ((n:Int)+2),v] w λe w'=>∃v',e=.returned v'/\w'.ownsRow 0 9 1 v' (xs.take n++(ps++xs.drop (n+2))).length (dn (xs.take n++(ps++xs.drop (n+2))))/\du (· = g) w w'/\∀k,v'.ownBlock=some k->k=g\/w.heap.size<=k:=by
 obtain⟨av,cv,rfl,a6,hmv,a7⟩:=id hv;rw[dC]at a6⊢;rcases aa.2 with⟨he,_⟩|⟨g',aS,y,he,_,hg,a8,hcm,a9,ak⟩
 .cases he
 simp only[nc,ne,o4,and_true,true_and]at he;obtain⟨rfl,rfl⟩:=he
 have al:∀j,j<xs.length->y[j]?=(dn xs)[j]?:=by
  intro j B;have h1:=congrArg (λl:List Value=>l[j]?) ak;simp only[di]at h1;rw[if_pos (by omega),m4]at h1;exact h1
 have ad:m2 (xs.length=n+2+q):=hn;have HV:m2 (Rd w (.slice av ps.length cv) (dn ps)):=by have:=hv; rw[dC]at this; exact this
 have HG:m2 (w.heap[g]?=some (.cells y 9 (0,0))):=hg;have ab:y.size=cap:=by omega
 have HC:m2 (y.size=cap):=ab;have am:m2 (∀j,j<xs.length->y[j]?=(dn xs)[j]?):=al;rw[hn]at a5 a8⊢;have aZ:((n:Int)==(n:Int)+2)=false:=beq_eq_false_iff_ne.2 (by omega);have ba:(((n:Int)+2)==((n+2+q:Nat):Int))=false:=beq_eq_false_iff_ne.2 (by omega);have aT:(((n:Int)+2)==(n:Int)+2+(q:Int))=false:=beq_eq_false_iff_ne.2 (by omega);have aU:(n:Int)+2<=(cap:Int):=by omega
 have bc:¬cap=n:=by omega
 have aV:¬cap=n+2:=by omega
 unfold g5 at hcm hmv;clear hv aa a7 hg a9 ak al ab hn;go_enter func74,ntmps74;go_wp2_with fail;go_quiet (fail);have an:m2 ((w.drewN nq).heap[g]?=some (.cells y 9 (0,0))):=HG.out;have a':m2 (Rd (w.drewN nq) (.slice av ps.length cv) (dn ps)):=HV.out;have aA:m2 (du (· = g) w (w.drewN nq)):=⟨rfl,rfl,rfl,hY _,λ_ _ _=>rfl⟩;generalize w.drewN nq=wd at *;obtain⟨l1,ao,ae,af,ag⟩:=rI (P:=prog) wd 31 3 9 jt T8 g n (n+ps.length+q-n) (cap-n) cap y an.out HC.out (.slice av ps.length cv) (dn ps) a'.out k9 (by rw[dC]; omega) (by rw[dC]; omega);rw[dC]at ae af ag;obtain⟨w1,O⟩:∃w1,w1=wd.setRow g l1.toArray:=⟨_,rfl⟩;rw[<-O]at ag;have ah:m2 (w1.heap[g]?=some (.cells l1.toArray 9 (0,0))):=by show _=_; rw[O]; exact hw wd g _ _ _ _ an.out
 have aB:m2 (du (· = g) w w1):=by show du _ _ _; rw[O]; exact aA.out.then pe
 have ap:m2 (∀j,j<n\/n+ps.length<=j->l1[j]?=y[j]?):=ae;have aC:m2 (∀j,j<ps.length->l1[n+j]?=(dn ps)[j]?):=af;have aD:m2 (l1.length=cap):=ao;have aW:¬cap=n+ps.length:=by omega
 have bd:(n:Int)+(ps.length:Int)<=(n:Int)+2:=by omega
 clear ao ae af O;go_wp2_with fail;clear ag;have aE:IntKind.i64.wrap ((n:Int)+(ps.length:Int))=(n:Int)+(ps.length:Int):=by simp only[oa]; omega
 have hA:(0:Int)<=(n:Int)+(ps.length:Int):=by omega
 have hB:(n:Int)+(ps.length:Int)<=(n:Int)+(ps.length:Int)+(q:Int):=by omega
 have hT:((n:Int)+(ps.length:Int)).toNat=n+ps.length:=by omega
 have aF:(0:Int)<=(n:Int)+2:=by omega
 have aG:(n:Int)+2<=(n:Int)+2+(q:Int):=by omega
 have aH:((n:Int)+2).toNat=n+2:=by omega
 refine g7 (S:=λw'=>True) (by kernel_rfl) ?_;refine fu 0 ?_ trivial ?_<|fu 1 ?_ trivial ?_<|fu 2 ?_ trivial ?_<|fu 3 ?_ trivial ?_<|fu 4 ?_ trivial ?_<|fu 5 ?_ trivial ?_<|fu 6 ?_ trivial ?_<|fu 7 ?_ trivial ?_<|fu 8 ?_ trivial ?_ ?_
 any_goals(rintro w' _; go_simp; first|done|with_reducible rfl)
 refine kY 9 λK' aq=>?_;unfold m';go_simp;have U:(dn (xs.drop (n+2))).length=q:=by rw[dC,dg,ad.out]; omega
 have ar:Rd w1.drew (.slice (some ⟨g,n+2,none⟩) q (cap-(n+2))) (dn (xs.drop (n+2))):=by
  refine⟨some ⟨g,n+2,none⟩,cap-(n+2),by rw[U],by rw[U]; omega,by unfold g5; omega,λj u B=>⟨g,n+2,rfl,?_⟩⟩
  have be:j<q:=by
   have:=(List.getElem?_eq_some_iff.1 B).1;omega
  show w1.cell? _=_;rw[dh ah.out];show l1.toArray[n+2+j]?=_;rw[ew,ap.out _ (Or.inr (by omega)),am.out _ (by rw[ad.out]; omega),<-B];unfold dn;rw[ee,ee,ga]
 obtain⟨l2,au,ai,aj,aw⟩:=rI (P:=prog) w1.drew 31 3 9 jt T8 g (n+ps.length) q (cap-(n+ps.length)) cap l1.toArray ah.out (by simpa using aD.out) _ _ ar k9 (by omega) (by omega);rw[aw];rw[U]at ai aj;obtain⟨w2,W⟩:∃w2,w2=w1.drew.setRow g l2.toArray:=⟨_,rfl⟩;rw[<-W];have ax:m2 (w2.heap[g]?=some (.cells l2.toArray 9 (0,0))):=by show _=_; rw[W]; exact hw w1.drew g _ _ _ _ ah.out
 have aI:m2 (du (· = g) w w2):=by
  show du _ _ _;rw[W];have h1:du (· = g) w1 w1.drew:=⟨rfl,rfl,rfl,hY _,λ_ _ _=>rfl⟩;exact(aB.out.then h1).then pe
 have ay:m2 (∀j,j<n+ps.length\/n+ps.length+q<=j->l2[j]?=l1[j]?):=λj B=>by have:=ai j B; simpa using this
 have aJ:m2 (∀j,j<q->l2[n+ps.length+j]?=(dn (xs.drop (n+2)))[j]?):=aj;have az:m2 (l2.length=cap):=au;clear au ai aj aw W ar U;refine aq _ _ ⟨trivial,ha (by kernel_rfl) ?_ _⟩;clear aq aE hA hB hT aF aG aH;have aX:¬cap=n+ps.length+q:=by omega
 obtain⟨l3,a0,a3,aK⟩:=rR (P:=prog) w2 31 0 9 g (n+ps.length+q) (n+2+q-(n+ps.length+q)) (cap-(n+ps.length+q)) (.string ⟨#[]⟩) l2.toArray 9 jt (j2 w2) rfl rfl ax.out (by omega) (by have:=az.out; simp; omega);obtain⟨w3,Y⟩:∃w3,w3=w2.setRow g l3.toArray:=⟨_,rfl⟩;rw[<-Y]at aK;have aL:m2 (w3.heap[g]?=some (.cells l3.toArray 9 (0,0))):=by show _=_; rw[Y]; exact hw w2 g _ _ _ _ ax.out
 have aM:m2 (du (· = g) w w3):=by show du _ _ _; rw[Y]; exact aI.out.then pe
 have aN:m2 (∀j,j<n+ps.length+q->l3[j]?=l2[j]?):=λj B=>by have:=a3 j B; simpa using this
 have aO:m2 (l3.length=cap):=by show _=_; rw[a0]; simpa using az.out
 clear a0 a3 Y;go_wp2;go_ret;refine⟨_,rfl,?_,aM.out,λk hk=>Or.inl (by simp[od]at hk; exact hk.symm)⟩;have bf:=ad.out
 have ac:(xs.take n++(ps++xs.drop (n+2))).length=n+ps.length+q:=by
  rw[cc,cc,cp,dg];omega
 have aP:(dn (xs.take n)).length=n:=by rw[dC,cp]; omega
 have aQ:(dn ps).length=ps.length:=dC ps;rw[ac];refine rU (by omega) (by unfold g5; omega) (by rw[dC,ac]) aL.out (by simpa using aO.out) (λj B=>?_);rw[show dn (xs.take n++(ps++xs.drop (n+2)))=dn (xs.take n)++(dn ps++dn (xs.drop (n+2))) by simp[dn],ew,aN.out j B];by_cases a4:j<n
 .rw[ay.out j (Or.inl (by omega)),ap.out j (Or.inl a4),am.out j (by omega),cx (by omega)];unfold dn;rw[ee,ee,di,if_pos a4]
 .rw[df (by omega),aP];by_cases aR:j<n+ps.length
  .rw[ay.out j (Or.inl aR),cx (by omega),<-aC.out (j-n) (by omega),show n+(j-n)=j by omega]
  .rw[df (by omega),aQ,<-aJ.out (j-n-ps.length) (by omega),show n+ps.length+(j-n-ps.length)=j by omega]
theorem Gi(w:World)(g n cap:Nat)(xs:List Wd)(v:Value)(ps:List Wd)(y:w.ownsRow 0 9 1 (.slice (some ⟨g,0,none⟩) xs.length cap) xs.length (dn xs))(U:Rd w v (dn ps))(B:ps.length<=1)(W:n+2<=xs.length)(O:xs.length<=6) :
  g6 prog 74 #[.slice (some ⟨g,0,none⟩) xs.length cap,.int .i64 n,.int .i64 ((n:Int)+2),v] w λe w'=>∃v',e=.returned v'/\w'.ownsRow 0 9 1 v' (xs.take n++(ps++xs.drop (n+2))).length (dn (xs.take n++(ps++xs.drop (n+2))))/\du (· = g) w w'/\∀k,v'.ownBlock=some k->k=g\/w.heap.size<=k:=by
 by_cases h:n+2=xs.length
 .have e:xs.drop (n+2)=[]:=fk (by omega);rw[e,dt];exact EQ w g n cap xs v ps y U B h O
 .exact DU w g n (xs.length-(n+2)) cap xs v ps y U B (by omega) (by omega) O
end
section
open Go.RowKit Go.Maps
def nO(ss:List (List dp))(m:Nat)(l:List dp):List (List dp):=ss.take m++((if 0<l.length then [l]else [])++ss.drop (m+2))
theorem tj(ss:List (List dp))(m:Nat)(l:List dp):(nO ss m l).map dS=(ss.map dS).take m++(iq l++(ss.map dS).drop (m+2)):=by
 unfold nO iq;rw[go,go,List.map_take,List.map_drop];split<;>simp
theorem QQ{vM vK:Value}(w:World)(F:Nat->Prop)(b:Nat)(buf:List dp)(ss:List (List dp))(n:Int)(hP:sL vM vK w F b buf ss) :
  g6 prog 39 #[.pointer (some ⟨b,0,none⟩),.int .i64 n] w λe w'=>e=.returned (.int .i64 (eP ss n).1)/\
   ∃F':Nat->Prop,sL vM vK w' F' b buf (eP ss n).2/\(∀k,F' k->F k\/w.heap.size<=k)/\du F w w':=by
 have HP:m2 (sL _ _ _ _ _ _ _):=hP;obtain⟨hF,Bb,vS,hE⟩:=hP;obtain⟨aS,cS,rfl,bl⟩:=dM hE.row;have HF:m2 (∀k,F k->k<w.heap.size):=hF;have aH:w.cell? ⟨b,1,none⟩=some (.slice aS ss.length cS):=by rw[dh hE.blk]; rfl
 have h6:=hE.inv.qi;have aY:=hF b hE.fb;have U:m2 (zH _ _ _ _ _ _ _ _ _):=hE;clear hF hE;by_cases h0:n<0
 .have HU:m2 (eP ss n=(6,ss)):=by show eP _ _=_; unfold eP; rw[if_pos (Or.inl h0)]
  go_enter m0,md;go_wp2;go_ret;refine⟨eQ (by rw[HU.out]; rfl),F,?_,λk hk=>Or.inl hk,du.refl _ _⟩;rw[HU.out];exact HP.out
 .have bm:IntKind.i64.wrap ((ss.length:Int)-1)=(ss.length:Int)-1:=by simp only[oa]; omega
  by_cases h1:(ss.length:Int)-1<=n
  .have HU:m2 (eP ss n=(6,ss)):=by show eP _ _=_; unfold eP; rw[if_pos (Or.inr h1)]
   go_enter m0,md;go_wp2;go_ret;refine⟨eQ (by rw[HU.out]; rfl),F,?_,λk hk=>Or.inl hk,du.refl _ _⟩;rw[HU.out];exact HP.out
  .obtain⟨m,rfl⟩:∃m:Nat,n=(m:Int):=⟨n.toNat,by omega⟩;have hm:m+1<ss.length:=by omega
   have am:m<ss.length:=by omega
   obtain⟨g,rfl⟩:∃g,aS=some ⟨g,0,none⟩:=by
    rcases U.out.row.2 with⟨he,_⟩|⟨g,cap,bn,he,_⟩
    .simp only[nc]at he; omega
    .simp only[nc]at he;exact⟨g,he.1⟩
   have an:m2 (iy ss m=if m=0 then dw (dH ss[m] ss[m+1])else dH ss[m] ss[m+1]):=by
    show iy _ _=_;unfold iy;rw[dk,dk,dd am,dd hm];rfl
   have HU:m2 (eP ss (m:Int)=if 100<iV (iy ss m)then(4,ss)else(0,ss.take m++((if 0<(iy ss m).length then [iy ss m]else [])++ss.drop (m+2)))):=by
    show eP _ _=_;unfold eP;rw[if_neg (by omega),Int.toNat_natCast,jo];rfl
   have aZ:w.cell? ⟨g,m,none⟩=some (.string ⟨(dS ss[m]).toArray⟩):=by
    obtain⟨b',off,e,hc⟩:=iX U.out.row m (.string ⟨(dS ss[m]).toArray⟩) (by simp[dn,am]);cases e;rw[i8]at hc;exact hc
   have ba:w.cell? ⟨g,m+1,none⟩=some (.string ⟨(dS ss[m+1]).toArray⟩):=by
    obtain⟨b',off,e,hc⟩:=iX U.out.row (m+1) (.string ⟨(dS ss[m+1]).toArray⟩) (by simp[dn,hm]);cases e;rw[i8]at hc;exact hc
   have a3:m2 (∀l∈[ss[m],ss[m+1]],∀e∈l,e.name.length<=g5):=by
    intro l hl e he;simp only[fa,e0,or_false]at hl;rcases hl with rfl|rfl
    .exact qR (U.out.inv.jg _ (ch am)) e he
    .exact qR (U.out.inv.jg _ (ch hm)) e he
   have ao:m2 (fV [ss[m],ss[m+1]]=dH ss[m] ss[m+1]):=by
    show _=_;unfold fV;simp only[List.foldl_cons,List.foldl_nil];rw[mg]
   have a4:m2 (∀e∈dH ss[m] ss[m+1],e.name.length<=g5):=by
    rw[<-ao.out];exact vZ a3.out
   have af:m2 ((dH ss[m] ss[m+1]).length<=1000):=by
    have h1:=mL (U.out.inv.jg _ (ch am));have h2:=mL (U.out.inv.jg _ (ch hm));have h3:=uK [ss[m],ss[m+1]] 2 (by simp);simp only[List.take]at h3;rw[ao.out]at h3;have h4:ir [ss[m],ss[m+1]]<=1000:=by simp[ir]; omega
    show _<=_;omega
   have bo:(0:Int)<=(m:Int):=by omega
   have bp:(m:Int)<(ss.length:Int):=by omega
   have bq:(m:Int)+1<(ss.length:Int):=by omega
   have br:IntKind.i64.wrap ((m:Int)+1)=(m:Int)+1:=by simp only[oa]; omega
   have bs:IntKind.i64.wrap ((m:Int)+2)=(m:Int)+2:=by simp only[oa]; omega
   have bt:((m:Int)+1).toNat=m+1:=by omega
   have bu:(0:Int)<=(m:Int)+1:=by omega
   clear h0;go_enter m0,md;go_wp2_with fail;have B:(λw':World=>w'.cell? ⟨b,1,none⟩=some (.slice (some ⟨g,0,none⟩) ss.length cS)/\w'.cell? ⟨g,m,none⟩=some (.string ⟨(dS ss[m]).toArray⟩)/\w'.cell? ⟨g,m+1,none⟩=some (.string ⟨(dS ss[m+1]).toArray⟩)) w.drew:=⟨aH,aZ,ba⟩;refine g7 (S:=λw'=>w'.cell? ⟨b,1,none⟩=some (.slice (some ⟨g,0,none⟩) ss.length cS)/\w'.cell? ⟨g,m,none⟩=some (.string ⟨(dS ss[m]).toArray⟩)/\w'.cell? ⟨g,m+1,none⟩=some (.string ⟨(dS ss[m+1]).toArray⟩)) (by kernel_rfl) ?_;refine fu 0 ?_ B ?_<|fu 1 ?_ B ?_<|fu 2 ?_ B ?_<|fu 3 ?_ B ?_<|fu 4 ?_ B ?_<|fu 5 ?_ B ?_<|fu 6 ?_ B ?_<|fu 8 ?_ B ?_<|fu 9 ?_ B ?_<|fu 10 ?_ B ?_<|fu 11 ?_ B ?_<|fu 12 ?_ B ?_<|fu 13 ?_ B ?_<|fu 14 ?_ B ?_<|fu 15 ?_ B ?_ ?_
   any_goals(rintro w' ⟨s0,s1,s2⟩; go_simp; first|done|with_reducible rfl)
   refine kY 7 λK' y=>?_;unfold m';go_simp;refine(ou ss[m] w.drew (U.out.inv.jg _ (ch _))).mono ?_;rintro e w1 ⟨C,rfl,hC,aI,O⟩;have a5:Below w.heap.size w w1:=⟨O.os,O.tape,O.output,O.size,O.block⟩;have aJ:=a5.size;have ag:(λw':World=>w'.cell? ⟨b,1,none⟩=some (.slice (some ⟨g,0,none⟩) ss.length cS)/\w'.cell? ⟨g,m,none⟩=some (.string ⟨(dS ss[m]).toArray⟩)/\w'.cell? ⟨g,m+1,none⟩=some (.string ⟨(dS ss[m+1]).toArray⟩)) w1:=⟨gv O B.1,gv O B.2.1,gv O B.2.2⟩;refine y _ _ ⟨ag,?_⟩;clear y O;refine kY 16 λK' y=>?_;unfold m';go_simp;refine(ou ss[m+1] w1 (U.out.inv.jg _ (ch _))).mono ?_;rintro e w2 ⟨D,rfl,hD,aK,Y⟩;have bc:=Y.size;have aL:Below w.heap.size w w2:=a5.trans (Y.mono aJ);have ah:(λw':World=>w'.cell? ⟨b,1,none⟩=some (.slice (some ⟨g,0,none⟩) ss.length cS)/\w'.cell? ⟨g,m,none⟩=some (.string ⟨(dS ss[m]).toArray⟩)/\w'.cell? ⟨g,m+1,none⟩=some (.string ⟨(dS ss[m+1]).toArray⟩)) w2:=⟨gv Y ag.1,gv Y ag.2.1,gv Y ag.2.2⟩;have ay:eh w2 C ss[m]:=dL.below aI Y;refine y _ _ ⟨ah,?_⟩;clear y Y aI;refine kY 17 λK' y=>?_;unfold m';go_simp;have a6:=RZ (t:=85) rfl ay aK;obtain⟨w3,a7⟩:∃w3,w3=w2.alloc (.cells #[.map (some C),.map (some D)] 85):=⟨_,rfl⟩;rw[<-a7]at a6⊢;have ac:Below w2.heap.size w2 w3:=by rw[a7]; exact(m7 _ _).alloc (hY _) _
   have ap:=ac.size;have aM:Below w.heap.size w w3:=aL.trans (ac.mono (by omega));have ai:(λw':World=>w'.cell? ⟨b,1,none⟩=some (.slice (some ⟨g,0,none⟩) ss.length cS)/\w'.cell? ⟨g,m,none⟩=some (.string ⟨(dS ss[m]).toArray⟩)/\w'.cell? ⟨g,m+1,none⟩=some (.string ⟨(dS ss[m+1]).toArray⟩)) w3:=⟨gv ac ah.1,gv ac ah.2.1,gv ac ah.2.2⟩;refine y _ _ ⟨ai,?_⟩;clear y ac a7;refine kY 18 λK' y=>?_;unfold m';go_simp
   refine(zu _ [C,D] [ss[m],ss[m+1]] w3 a6 (by
     have h1:=mL (U.out.inv.jg _ (ch (show m<ss.length by omega)));have h2:=mL (U.out.inv.jg _ (ch (show m+1<ss.length by omega)));simp[ir]
     omega) a3.out).mono ?_
   rintro e w4 ⟨M,rfl,hM,a8,ad⟩;have bd:=ad.size;have a9:Below w.heap.size w w4:=aM.trans (ad.mono (by omega));have a':(λw':World=>w'.cell? ⟨b,1,none⟩=some (.slice (some ⟨g,0,none⟩) ss.length cS)/\w'.cell? ⟨g,m,none⟩=some (.string ⟨(dS ss[m]).toArray⟩)/\w'.cell? ⟨g,m+1,none⟩=some (.string ⟨(dS ss[m+1]).toArray⟩)) w4:=⟨gv ad ai.1,gv ad ai.2.1,gv ad ai.2.2⟩;refine y _ _ ⟨a',?_⟩;clear y ad;refine fu 19 ?_ a' ?_ ?_;rotate_left
   .rintro w' ⟨s0,s1,s2⟩; go_simp; first|done|with_reducible rfl
   refine ha (by kernel_rfl) ?_ _;rw[ao.out]at a8;have be:w.heap.size<=w4.heap.size:=a9.size;have aq:m2 (eh _ _ _):=a8;have ar:m2 (Below _ _ _):=a9;clear B ag ah ai a' a6 a8 ay aK a5 aL aM a9 hC hD aJ bc ap bd ao a3;generalize dH ss[m] ss[m+1]=X at *;by_cases au:m=0
   case' pos=>
    have az:((m:Int)==0)=true:=beq_iff_eq.2 (by omega);have aA:m2 (iy ss m=dw X):=by show iy _ _=_; rw[an.out,if_pos au]
    have aN:=qC M _ w4 aq.out (by have:=af.out; omega) a4.out;clear au an;go_wp2_with fail;refine aN.mono ?_;rintro e w4 ⟨M,rfl,hN,aO,aP⟩;have aq:m2 (eh _ _ _):=aO;have af:m2 ((dw X).length<=1000):=ip (oE _) af.out;have ar:m2 (Below w.heap.size w w4):=ar.out.trans (aP.mono be);clear aN aO aP az a4;generalize dw X=X at *
   case' neg=>
    have aA:m2 (iy ss m=X):=by show iy _ _=_; rw[an.out,if_neg au]
    have az:((m:Int)==0)=false:=beq_eq_false_iff_ne.2 (by omega);clear au an a4
   all_goals
    have aQ:=AE M X w4 aq.out (by have:=af.out; omega);go_wp2_with fail;refine aQ.mono ?_;rintro e w6 ⟨rfl,av⟩;have bv:=av.size;have W:m2 (Below w.heap.size w w6):=ar.out.trans (av.mono ar.out.size);have bf:m2 (eh w6 M X):=dL.below aq.out av;have bg:iV X<=1000:=ip (EY _) af.out;clear aQ av;by_cases aa:100<iV X
    .have ae:m2 (eP ss (m:Int)=(4,ss)):=by show eP _ _=_; rw[HU.out,aA.out,if_pos aa]
     have aj:(100:Int)<(iV X:Int):=by omega
     clear aa;go_wp2;go_ret;refine⟨eQ (by rw[ae.out]; rfl),F,?_,λk hk=>Or.inl hk,du.fC W.out⟩;rw[ae.out];exact sL.below HP.out W.out
    .have ae:m2 (eP ss (m:Int)=(0,nO ss m X)):=by show eP _ _=_; rw[HU.out,aA.out,if_neg aa]; rfl
     have aj:¬(100:Int)<(iV X:Int):=by omega
     have a0:m2 (Inv buf (nO ss m X)):=by have:=AF U.out.inv (m:Int); rw[ae.out]at this; exact this
     have aR:m2 (Below w.heap.size w w6.drew):=⟨W.out.os,W.out.tape,W.out.output,W.out.size,W.out.block⟩;have bw:w6.cell? ⟨b,1,none⟩=some (.slice (some ⟨g,0,none⟩) ss.length cS):=gv W.out aH
     have aT:=CO M X w6.drew bf.out (λhp=>a0.out.jg _ (by
      unfold nO;rw[if_pos hp]
      simp))
     clear aa;go_wp2_with fail;clear aj bg;refine g7 (S:=λw'=>True) (by kernel_rfl) ?_;refine fu 0 ?_ trivial ?_<|fu 1 ?_ trivial ?_<|fu 2 ?_ trivial ?_<|fu 3 ?_ trivial ?_<|fu 5 ?_ trivial ?_<|fu 6 ?_ trivial ?_<|fu 7 ?_ trivial ?_<|fu 8 ?_ trivial ?_ ?_
     any_goals(rintro w' _; go_simp; first|done|with_reducible rfl)
     refine hV (rs:=[4,9]) (by kernel_rfl) (by simp) ?_;intro i hi;simp only[fa,e0,or_false]at hi;rcases hi with rfl|rfl
     case' inl=>
      refine h7 (by rfl) λK' y=>?_;rw[if_pos (by rfl)];unfold m';go_simp;refine y _ _ ⟨trivial,?_⟩;clear y;refine kY 9 λK' y=>?_
     case' inr=>
      refine h7 (by rfl) λK' y=>?_;rw[if_pos (by rfl)]
     all_goals
      unfold m';go_simp;refine aT.mono ?_;rintro e x1 ⟨v1,rfl,aU,aV⟩;have aw:Below w.heap.size w x1:=aR.out.trans (aV.mono aR.out.size);have ak:x1.heap[b]?=some (.cells #[.map (some Bb),.slice (some ⟨g,0,none⟩) ss.length cS,vM,vK] 90 (0,0)):=by rw[aw.block b aY]; exact U.out.blk
      have bh:x1.cell? ⟨b,1,none⟩=some (.slice (some ⟨g,0,none⟩) ss.length cS):=by rw[dh ak]; rfl
      refine y _ _ ⟨trivial,?_⟩;clear y aT aV
     case' inr=>
      refine kY 4 λK' y=>?_;unfold m';go_simp;refine y _ _ ⟨trivial,?_⟩;clear y
     all_goals
      have aB:x1.ownsRow 0 9 1 (.slice (some ⟨g,0,none⟩) (ss.map dS).length cS) (ss.map dS).length (dn (ss.map dS)):=by
       rw[dj];exact eD U.out.row (λk hk=>aw.block k (HF.out k (U.out.lr k hk)))
      have aC:=Gi x1 g m cS (ss.map dS) v1 (iq X) aB aU (ub _) (by rw[dj]; omega) (by rw[dj]; omega);rw[dj]at aC;refine kY 10 λK' y=>?_;unfold m';go_simp;refine aC.mono ?_;rintro e x2 ⟨v2,rfl,ax,aD,aW⟩;obtain⟨ln,aE⟩:∃ln,ln=((ss.map dS).take m++(iq X++(ss.map dS).drop (m+2))).length:=⟨_,rfl⟩;rw[<-aE]at ax;have bi:m2 (ln=((ss.map dS).take m++(iq X++(ss.map dS).drop (m+2))).length):=aE;clear aE;obtain⟨a2,c2,rfl,bx⟩:=dM ax;have aF:x2.heap[b]?=some (.cells #[.map (some Bb),.slice (some ⟨g,0,none⟩) ss.length cS,vM,vK] 90 (0,0)):=by rw[aD.block b (eT ak) (λe=>pH ak aB (by decide) (by rw[e]; rfl))]; exact ak
      refine y _ _ ⟨trivial,?_⟩;clear y aC
      have al:x2.ownsRow 0 9 1 (.slice a2 ln c2) (nO ss m X).length (dn ((nO ss m X).map dS)):=by
       rw[tj,<-dj (f:=dS),tj,<-bi.out];exact ax
      have ab:=U.out.jg HF.out aw (aD.mono (λk hk=>by subst hk; rfl)) al (λk hk=>by
       rcases aW k hk with h|h
       .subst h; exact Or.inl rfl
       .exact Or.inr h)
      refine fu 11 ?_ trivial ?_<|fu 12 ?_ trivial ?_ ?_
      any_goals(rintro w' _; go_simp; first|done|with_reducible rfl)
      have bj:x2.cell? ⟨b,1,none⟩=some (.slice (some ⟨g,0,none⟩) ss.length cS):=by rw[dh aF]; rfl
      have bk:x2.frozen? ⟨b,1,none⟩=false:=dJ aF 1;clear ax aD aW al aF aB aU ak aw bh;refine kY 13 λK' y=>?_;unfold m';go_simp;refine y _ _ ⟨trivial,ha (by kernel_rfl) ?_ _⟩;clear y bj bk;obtain⟨x3,aG⟩:∃x3,x3=x2.setCell ⟨b,1,none⟩ (.slice a2 ln c2):=⟨_,rfl⟩;have ap:x3.heap.size=x2.heap.size:=by rw[aG]; simp[no]
      rw[<-aG]at ab⊢;rw[<-ap]at ab;have aX:m2 (∃F':Nat->Prop,sL vM vK x3 F' b buf (nO ss m X)/\(∀k,F' k->F k\/w.heap.size<=k)/\du F w x3):=KZ U.out HF.out ab a0.out;clear aG ap ab;go_wp2;go_ret;refine⟨eQ (by rw[ae.out]; rfl),?_⟩;rw[ae.out];exact aX.out
end
section
open Go.RowKit Go.Maps
def RE(y:World->(Nat->Prop)->Nat->List dp->List (List dp)->Prop)(w:World)(F:Nat->Prop)(b:Nat)(code:Nat)(buf:List dp)(ss:List (List dp))(e:Ending)(w':World):Prop:=
 e=.returned (.int .i64 code)/\∃F':Nat->Prop,y w' F' b buf ss/\(∀k,F' k->F k\/w.heap.size<=k)/\du F w w'
end
section
open Go.RowKit Go.Maps
variable {c:Array Value} {ss:List (List dp)} {ts:List (List Wd)} {buf:List dp} {kn:List Wd} {b n:Nat} {fr:Nat×Nat} {F' F1 F2:Nat->Prop} {e:g8} {vK vS:Value} {w w':World}
def Tp(y vS:Value)(w:World)(F:Nat->Prop)(b:Nat)(ts:List (List Wd)):Prop:=(∀k,F k->k<w.heap.size)/\∃B n vK kn,PW w F b y vS ts B n vK kn
theorem Dq{vB:Value}(w:World)(F:Nat->Prop)(b:Nat)(ts:List (List Wd))(s:ByteArray)(hP:Tp vB vS w F b ts)(hB:gp ts<=16777216)(hs:s.size<=g5) :
  g6 prog 34 #[.pointer (some ⟨b,0,none⟩),.string s] w λe w'=>e=.returned (.int .i64 (rY ts s.data.toList).1)/\
   ∃F':Nat->Prop,Tp vB vS w' F' b (rY ts s.data.toList).2/\(∀k,F' k->F k\/w.heap.size<=k)/\du F w w':=by
 obtain⟨hF,B,n,vK,kn,hW⟩:=hP;by_cases h:ep s.data.toList=true/\s.data.toList≠[]
 .have HO:m2 (rY ts s.data.toList=if 60<(eK (ts++[iz (eo s.data.toList)])).length then(4,ts)else(0,ts++[iz (eo s.data.toList)])):=by
   show rY ts s.data.toList=_;unfold rY;rw[if_pos h]
  have hT:=pJ s w hs;rw[decide_eq_true h]at hT;obtain⟨ah,ai⟩:=vD s h.1;have aj:=vh s w.drew h.1;clear h hs;generalize iz (eo s.data.toList)=t at *;go_enter func34,ntmps34;go_wp2_with fail;refine hT.mono ?_;rintro e w' ⟨rfl,rfl⟩;clear hT;by_cases aa:60<(eK (ts++[t])).length
  .have ab:m2 (rY ts s.data.toList=(4,ts)):=by show _=_; rw[HO.out,if_pos aa]
   have ac:g6 prog 67 #[.string s] w.drew λe w1=>∃a c,e=.returned (.slice a t.length c)/\Below w.heap.size w w1/\
     g6 prog 66 #[.pointer (some ⟨b,2,none⟩),.slice a t.length c] w1 λe w2=>e=.returned (.bool false)/\Below w.heap.size w w2:=by
    refine aj.mono ?_;rintro e w1 ⟨v,rfl,W,y⟩;have Y:w1.ownsRow w.heap.size 9 1 v t.length (dn t):=W;have U:Below w.heap.size w w1:=⟨y.os,y.tape,y.output,y.size,y.block⟩;clear W y;obtain⟨a,c,rfl,_⟩:=dM Y;refine⟨a,c,rfl,U,?_⟩;refine(IW F b vB vS ts B n vK kn t w.heap.size _ w1 (λk O=>hX (hF k O) U.size) (hW.stay (λk O=>U.block k (hF k O))) Y (λk O al=>by have:=(Y.lt k O).1; have:=hF k al; omega) ah ai hB).mono ?_;rintro e w2 (⟨_,rfl,ad⟩|⟨hn,_⟩)
    .exact⟨rfl,U.trans (ad.mono U.size)⟩
    .exact absurd aa hn
   clear aj aa ah ai;go_wp2_with fail
   go_region_law (first
    |(go_simp
      go_at_call 67
      refine ac.mono ?_
      rintro e w1 ⟨a,c,rfl,U,ae⟩)
    |(go_simp
      go_at_call 66
      refine ae.mono ?_
      rintro e w2 ⟨rfl,ad⟩))
   all_goals
    go_wp2;go_ret;refine⟨eQ (by rw[ab.out]; rfl),F,?_,λk O=>Or.inl O,du.fC ad⟩;rw[ab.out];exact⟨λk O=>hX (hF k O) ad.size,B,n,vK,kn,hW.stay (λk O=>ad.block k (hF k O))⟩
  .have ab:m2 (rY ts s.data.toList=(0,ts++[t])):=by show _=_; rw[HO.out,if_neg aa]
   have ac:g6 prog 67 #[.string s] w.drew λe w1=>∃a c,e=.returned (.slice a t.length c)/\Below w.heap.size w w1/\
     g6 prog 66 #[.pointer (some ⟨b,2,none⟩),.slice a t.length c] w1 λe w2=>e=.returned (.bool true)/\(∃F' n' af ag,(∀k,F' k->k<w2.heap.size)/\(∀k,F' k->F k\/w.heap.size<=k)/\PW w2 F' b vB vS (ts++[t]) B n' af ag)/\du F w w2:=by
    refine aj.mono ?_;rintro e w1 ⟨v,rfl,W,y⟩;have Y:w1.ownsRow w.heap.size 9 1 v t.length (dn t):=W;have U:Below w.heap.size w w1:=⟨y.os,y.tape,y.output,y.size,y.block⟩;clear W y;obtain⟨a,c,rfl,_⟩:=dM Y;refine⟨a,c,rfl,U,?_⟩;have an:w.heap.size<=w1.heap.size:=U.size;refine(IW F b vB vS ts B n vK kn t w.heap.size _ w1 (λk O=>hX (hF k O) an) (hW.stay (λk O=>U.block k (hF k O))) Y (λk O al=>by have:=(Y.lt k O).1; have:=hF k al; omega) ah ai hB).mono ?_;rintro e w2 (⟨hy,_⟩|⟨_,rfl,⟨n',af,ag,am⟩,ak⟩)
    .exact absurd hy aa
    .have aq:=ak.size;refine⟨rfl,⟨Qw F w1 w2,n',af,ag,?_,?_,am⟩,?_⟩
     .rintro k (O|O)
      .have:=hF k O; omega
      .exact O.2
     .rintro k (O|O)
      .exact Or.inl O
      .exact Or.inr (by omega)
     .exact(du.fC (F:=F) U).trans ak (λ_ _ h=>h)
   clear aj aa ah ai;go_wp2_with fail
   go_region_law (first
    |(go_simp
      go_at_call 67
      refine ac.mono ?_
      rintro e w1 ⟨a,c,rfl,U,ae⟩)
    |(go_simp
      go_at_call 66
      refine ae.mono ?_
      rintro e w2 ⟨rfl,⟨F',n',af,ag,ao,ap,am⟩,ak⟩))
   all_goals
    go_wp2;go_ret;refine⟨eQ (by rw[ab.out]; rfl),F',?_,ap,ak⟩;rw[ab.out];exact⟨ao,B,n',af,ag,am⟩
 .have HO:m2 (rY ts s.data.toList=(2,ts)):=by show rY ts s.data.toList=_; unfold rY; rw[if_neg h]
  have hT:=pJ s w hs;rw[decide_eq_false h]at hT;go_enter func34,ntmps34;go_wp2_with fail;refine hT.mono ?_;rintro e w' ⟨rfl,rfl⟩;go_wp2;go_ret;refine⟨eQ (by rw[HO.out]; rfl),F,?_,λk O=>Or.inl O,du.refl _ _⟩;rw[HO.out];exact⟨hF,B,n,vK,kn,hW⟩
structure PJ(w:World)(F1 F2:Nat->Prop)(b:Nat)(buf:List dp)(ss:List (List dp))(ts:List (List Wd)):Prop where
 RS:∀k,F1 k->k<w.heap.size
 RO:∀k,F2 k->k<w.heap.size
 apart:∀k,F1 k->F2 k->k=b
 both:∃Bb vS B n vK kn,zH w F1 b buf ss Bb vS (.map (some B)) vK/\PW w F2 b (.map (some Bb)) vS ts B n vK kn
theorem PJ.below(h:PJ w F1 F2 b buf ss ts)(O:w.heap.size<=w'.heap.size)(hb:∀k,k<w.heap.size->w'.heap[k]?=w.heap[k]?):PJ w' F1 F2 b buf ss ts:=by
 obtain⟨U,W,Y,Bb,vS,B,n,vK,kn,h4,h5⟩:=h;exact⟨λk y=>hX (U k y) O,λk y=>hX (W k y) O,Y,Bb,vS,B,n,vK,kn,h4.stay λk y=>hb k (U k y),h5.stay λk y=>hb k (W k y)⟩
theorem Rz{B:Nat}{f:List Wd->Nat}(h:eE w B n f)(hb:w.heap[b]?=some (.cells c e fr)):B≠b:=by
 rintro rfl;obtain⟨D,⟨es,clock,y,_⟩,_⟩:=h;rw[y]at hb;cases hb
theorem Re{B:Nat}{es:List dp}(h:eh w B es)(hb:w.heap[b]?=some (.cells c e fr)):B≠b:=by
 rintro rfl;obtain⟨D,⟨es,clock,y,_⟩,_⟩:=h;rw[y]at hb;cases hb
theorem NZ{base:Nat}{v:Value}{xs:List Value}(h:w.ownsRow base 9 1 v n xs)(hb:w.heap[b]?=some (.cells c 90 fr)):∀k,v.ownBlock=some k->k≠b:=by
 rintro k y rfl;rcases h.2 with⟨rfl,_⟩|⟨g,cap,B,rfl,_,O,_⟩
 .cases y
 .simp only[od,ne]at y;subst y;rw[O]at hb;simp only[ne,Obj.cells.injEq]at hb;exact absurd hb.2.1 (by decide)
theorem PJ.entries{U:List dp}{ss':List (List dp)}{Bb:Nat}{B:Nat}(h1:∀k,F1 k->k<w.heap.size)(h2:∀k,F2 k->k<w.heap.size)(h3:∀k,F1 k->F2 k->k=b)(h4:zH w F1 b buf ss Bb vS (.map (some B)) vK)(y:PW w F2 b (.map (some Bb)) vS ts B n vK kn)
  (hp:sL (.map (some B)) vK w' F' b U ss') (hF:∀k,F' k->F1 k\/w.heap.size<=k) (W:du F1 w w'):PJ w' F' F2 b U ss' ts:=by
 obtain⟨g1,aa,ab,g2⟩:=hp;have hz:w.heap.size<=w'.heap.size:=W.size;have lh:∀k,F2 k->k≠b->w'.heap[k]?=w.heap[k]?:=λk O ac=>W.block k (h2 k O) λhf=>ac (h3 k hf O);refine⟨g1,λk O=>hX (h2 k O) hz,λk O Y=>?_,aa,ab,B,n,vK,kn,g2,⟨g2.blk,y.fb,y.fB,y.cnt.stay (lh B y.fB (Rz y.cnt y.blk)),y.room,eD y.row λk O=>lh k (y.lr k O) (NZ y.row y.blk k O),y.lr,y.perm,y.ok,y.qi⟩⟩;rcases hF k O with hf|hf
 .exact h3 k hf Y
 .exact absurd (h2 k Y) (by omega)
theorem PJ.words{U:List (List Wd)}{Bb:Nat}{B:Nat}(h1:∀k,F1 k->k<w.heap.size)(h2:∀k,F2 k->k<w.heap.size)(h3:∀k,F1 k->F2 k->k=b)(y:zH w F1 b buf ss Bb vS (.map (some B)) vK)(h5:PW w F2 b (.map (some Bb)) vS ts B n vK kn)
  (hp:Tp (.map (some Bb)) vS w' F' b U) (hF:∀k,F' k->F2 k\/w.heap.size<=k) (W:du F2 w w'):PJ w' F1 F' b buf ss U:=by
 obtain⟨g1,B',n',aa,ab,g2⟩:=hp;have hz:w.heap.size<=w'.heap.size:=W.size;have lh:∀k,F1 k->k≠b->w'.heap[k]?=w.heap[k]?:=λk O ac=>W.block k (h1 k O) λY=>ac (h3 k O Y);refine⟨λk O=>hX (h1 k O) hz,g1,λk O ad=>?_,Bb,vS,B',n',aa,ab,⟨g2.blk,y.fb,y.fB,dL.stay y.say (lh Bb y.fB (Re y.say y.blk)),eD y.row λk O=>lh k (y.lr k O) (NZ y.row y.blk k O),y.lr,y.inv⟩,g2⟩;rcases hF k ad with Y|Y
 .exact h3 k O Y
 .exact absurd (h1 k O) (by omega)
end
end Go.Proofs.YtocbogeoffeolaaGreatDoor
