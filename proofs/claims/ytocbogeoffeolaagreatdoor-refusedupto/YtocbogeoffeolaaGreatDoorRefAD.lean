import Derived.Test.YtocbogeoffeolaaGreatDoorRefAC
import Derived.Shelf.Strconv.Clone
import Derived.Shelf.Sort.Plain
import Derived.Shelf.Slices.In.SortNone
import Derived.Lib.AppendStr
import Derived.Sort.OwnSorted
import Derived.Laws.CopyOwn
set_option linter.all false
set_option maxHeartbeats 8000000
set_option maxRecDepth 1000000
open List renaming length_append->cc,getElem_mem->ch,length_take->cp,getElem?_append_left->cx,getElem?_eq_getElem->dd,take_succ_eq_append_getElem->df,getElem?_append_right->dg,getElem?_take->dh,length_drop->di,length_map->dj,getD_eq_getElem?_getD->dk,append_assoc->dm,mem_map->dn,append_nil->dp,getElem?_map->dq,flatMap_cons->dr,mem_of_mem_drop->dt,flatMap_append->du,map_cons->dv,map_toArray->dw,flatMap_nil->dx,take_of_length_le->dy,map_nil->dz,getElem_cons_zero->dA,getElem?_toArray->dB,take_succ_cons->dC,filter_sublist->dD,mem_nil_iff->dE,length_nil->dF,pairwise_iff_getElem->dG,mem_cons->dH,length_eq_zero_iff->dI,getElem_cons_succ->dJ,drop_eq_nil_of_le->dK,take_append_drop->dL,drop_succ_cons->dM,mem_cons_self->dN,getElem?_drop->dO,pairwise_map->dP,take_prefix->dQ,length_cons->dR,nil_prefix->dS,mem_filter->dT,length->dU
open Go renaming cell_later->dV,maxLen->dW,Calls->dX,wp_region_held->dY,TypeId->dZ,info_parts->ed,wpAnyH_done->ee,setRow_heap->ef,wpOp_step->eg,resolve->eh,wpList->ei,heap_alloc_new->ej,execOp->ek,wpList_plain->eo,setRow_self->ep,wpAnyH_all->eq
open Nat renaming lt_of_lt_of_le->er,le_refl->et,zero_le->eu,min_eq_left->ev,le_trans->ew,add_sub_cancel_left->ex,add_zero->ey,zero_mul->ez,zero_add->e0
open Go.Proofs.Tryz renaming underlying60->e6,underlying31->e8,underlying9->e9,zeroValue9->eA,underlying85->eB,underlying5->eD,underlying4->eE,underlying3->eF,underlying0->eG,zeroValue5->eH,zeroValue4->eI,zeroValue3->eJ,zeroValue0->eK,ntmps38->eL,ntmps29->eM,ntmps128->eN,func38->eO,func29->eP,underlying292->eQ,underlying276->eR,underlying272->eS,underlying239->eT,underlying229->eU,underlying226->eV,underlying222->eW,underlying221->eX,underlying212->eY,underlying190->eZ,underlying184->fa,underlying141->fc,zeroValue292->fd,zeroValue276->fe,zeroValue272->ff,zeroValue229->fg,zeroValue226->fh,zeroValue222->fi,zeroValue221->fj,zeroValue212->fk,zeroValue184->fl,zeroValue141->fm,sizeOf9->fo,sizeOf5->fp,sizeOf4->fq,sizeOf3->fs,sizeOf0->ft,ntmps39->fu,func128->fv,isAgg9->fw,isAgg5->fx,isAgg4->fy,isAgg3->f',isAgg0->fA,func39->fC
open Go.RowKit renaming Hid->fD
open Go.RowKit.Below renaming refl->fE,heap_setCell->fF,heap_alloc->fG
open Array renaming getElem?_eq_some_iff->fH,getElem?_toList->fI,getElem?_modify->fJ
open Go.Oper renaming wp->fK
open Go.Value.slice renaming injEq->fL
open Option.some renaming injEq->fM
open Go.World renaming ownsRow_nil->fN,cell?_alloc_at->fO,setCell->fP,cell?->fQ
open Go.IntKind renaming wrap_i64->fR
open Go.Value renaming oneCell'->fS,ownBlock->fT
open Go.Builtin renaming zeroCells->fU,append_->fV,clear_->fW,copy_->fX
open Go.Op renaming bytesLess->fY
open Go.Sort renaming ahead->fZ,alloc_eq_grow->ga,mapBlock->gc,putRowK->gd,putRow->ge
open Go.Sem renaming run_pure->gf,run_bind->gg
open Go.Result renaming andThen_ok->gh
open Go.Proofs renaming sortWorldK->gl
open Go.Sort.HoldsK renaming cell->gm
open Go.Addr.mk renaming injEq->go
open List.Pairwise renaming sublist->gt,imp->gv
open List.Perm renaming refl->g5,eq_of_pairwise->g6
namespace Go.Proofs.YtocbogeoffeolaaGreatDoor
open Go.Proofs.Tryz
section
open Go.Shelf
def Gi:Go.Shelf.Ren:=⟨fun|316=>90|n=>n,fun|9=>9|3=>3|4=>4|37=>60|0=>0|127=>187|5=>5|n=>n,fun|n=>n⟩
theorem RR:Go.Proofs.LaysM.n316 prog Gi:={
 mixed:=by kernel_rfl
 f316:=func90.trans (congrArg some (by kernel_rfl)),t0:=eG,a0:=fA,z0:=ft,v0:=eK,t3:=eF,a3:=f',z3:=fs,v3:=eJ,t4:=eE,a4:=fy,z4:=fq,v4:=eI,t9:=e9,a9:=fw,z9:=fo,v9:=eA,t37:=e6,a37:=isAgg60,z37:=sizeOf60,v37:=zeroValue60,t127:=underlying187,a127:=isAgg187,z127:=sizeOf187,v127:=zeroValue187,t5:=eD,a5:=fx,z5:=fp,v5:=eH,i0:=by kernel_rfl
 i3:=by kernel_rfl
 i4:=by kernel_rfl
 i5:=by kernel_rfl
 i9:=by kernel_rfl
 i37:=by kernel_rfl
 i127:=by kernel_rfl}
def Gc:Go.Shelf.Ren:=⟨fun|190=>162|125=>125|258=>217|128=>172|129=>173|302=>243|303=>244|304=>245|305=>246|306=>247|307=>248|308=>249|309=>250|310=>251|333=>271|329=>219|330=>220|334=>272|335=>273|336=>175|344=>279|n=>n,fun|31=>31|9=>9|3=>3|46=>184|0=>0|51=>229|53=>141|4=>4|183=>222|182=>221|131=>226|5=>5|218=>272|222=>276|228=>292|229=>212|n=>n,fun|n=>n⟩
theorem z8:Go.Proofs.Lays.n190 prog Gc:={
 mixed:=by kernel_rfl
 f125:=func125.trans (congrArg some (by kernel_rfl)),f128:=func172.trans (congrArg some (by kernel_rfl)),f129:=func173.trans (congrArg some (by kernel_rfl)),f190:=func162.trans (congrArg some (by kernel_rfl)),f258:=func217.trans (congrArg some (by kernel_rfl)),f302:=func243.trans (congrArg some (by kernel_rfl)),f303:=func244.trans (congrArg some (by kernel_rfl)),f304:=func245.trans (congrArg some (by kernel_rfl)),f305:=func246.trans (congrArg some (by kernel_rfl)),f306:=func247.trans (congrArg some (by kernel_rfl)),f307:=func248.trans (congrArg some (by kernel_rfl)),f308:=func249.trans (congrArg some (by kernel_rfl)),f309:=func250.trans (congrArg some (by kernel_rfl)),f310:=func251.trans (congrArg some (by kernel_rfl)),f329:=func219.trans (congrArg some (by kernel_rfl)),f330:=func220.trans (congrArg some (by kernel_rfl)),f333:=func271.trans (congrArg some (by kernel_rfl)),f334:=func272.trans (congrArg some (by kernel_rfl)),f335:=func273.trans (congrArg some (by kernel_rfl)),f336:=func175.trans (congrArg some (by kernel_rfl)),f344:=func279.trans (congrArg some (by kernel_rfl)),t0:=eG,a0:=fA,z0:=ft,v0:=eK,t3:=eF,a3:=f',z3:=fs,v3:=eJ,t4:=eE,a4:=fy,z4:=fq,v4:=eI,t5:=eD,a5:=fx,z5:=fp,v5:=eH,t9:=e9,a9:=fw,z9:=fo,v9:=eA,t31:=e8,a31:=isAgg31,z31:=sizeOf31,v31:=zeroValue31,t46:=fa,a46:=isAgg184,z46:=sizeOf184,v46:=fl,t51:=eU,a51:=isAgg229,z51:=sizeOf229,v51:=fg,t53:=fc,a53:=isAgg141,z53:=sizeOf141,v53:=fm,t131:=eV,a131:=isAgg226,z131:=sizeOf226,v131:=fh,t182:=eX,a182:=isAgg221,z182:=sizeOf221,v182:=fj,t183:=eW,a183:=isAgg222,z183:=sizeOf222,v183:=fi,t218:=eS,a218:=isAgg272,z218:=sizeOf272,v218:=ff,t222:=eR,a222:=isAgg276,z222:=sizeOf276,v222:=fe,t228:=eQ,a228:=isAgg292,z228:=sizeOf292,v228:=fd,t229:=eY,a229:=isAgg212,z229:=sizeOf212
 v229:=fk}
def Fb:Go.Shelf.Ren:=⟨fun|6=>184|15=>125|14=>227|28=>172|29=>173|20=>257|21=>258|22=>259|23=>260|24=>261|25=>262|26=>263|27=>264|46=>276|47=>219|48=>220|49=>277|50=>278|57=>280|n=>n,fun|22=>190|24=>237|25=>242|3=>3|39=>184|0=>0|53=>229|55=>141|4=>4|46=>222|45=>221|50=>226|5=>5|9=>9|66=>272|70=>276|76=>292|77=>212|n=>n,fun|n=>n⟩
theorem Ib:Go.Proofs.SlLaysF0.n6 prog Fb:={
 mixed:=by kernel_rfl
 f6:=⟨f184.name,by decide,func184.trans (congrArg some (by kernel_rfl))⟩,f14:=⟨f227.name,by decide,func227.trans (congrArg some (by kernel_rfl))⟩,f15:=func125.trans (congrArg some (by kernel_rfl)),f20:=⟨f257.name,by decide,func257.trans (congrArg some (by kernel_rfl))⟩,f21:=⟨Tryz.f258.name,by decide,func258.trans (congrArg some (by kernel_rfl))⟩,f22:=⟨f259.name,by decide,func259.trans (congrArg some (by kernel_rfl))⟩,f23:=⟨f260.name,by decide,func260.trans (congrArg some (by kernel_rfl))⟩,f24:=⟨f261.name,by decide,func261.trans (congrArg some (by kernel_rfl))⟩,f25:=⟨f262.name,by decide,func262.trans (congrArg some (by kernel_rfl))⟩,f26:=⟨f263.name,by decide,func263.trans (congrArg some (by kernel_rfl))⟩,f27:=⟨Tryz.f264.name,by decide,func264.trans (congrArg some (by kernel_rfl))⟩,f28:=func172.trans (congrArg some (by kernel_rfl)),f29:=func173.trans (congrArg some (by kernel_rfl)),f46:=⟨f276.name,by decide,func276.trans (congrArg some (by kernel_rfl))⟩,f47:=func219.trans (congrArg some (by kernel_rfl)),f48:=func220.trans (congrArg some (by kernel_rfl)),f49:=⟨f277.name,by decide,func277.trans (congrArg some (by kernel_rfl))⟩,f50:=⟨f278.name,by decide,func278.trans (congrArg some (by kernel_rfl))⟩,f57:=⟨f280.name,by decide,func280.trans (congrArg some (by kernel_rfl))⟩,t0:=eG,a0:=fA,z0:=ft,v0:=eK,t3:=eF,a3:=f',z3:=fs,v3:=eJ,t4:=eE,a4:=fy,z4:=fq,v4:=eI,t5:=eD,a5:=fx,z5:=fp,v5:=eH,t9:=e9,a9:=fw,z9:=fo,v9:=eA,t22:=eZ,a22:=isAgg190,z22:=sizeOf190,v22:=zeroValue190,t25:=underlying242,a25:=isAgg242,z25:=sizeOf242,v25:=zeroValue242,t39:=fa,a39:=isAgg184,z39:=sizeOf184,v39:=fl,t45:=eX,a45:=isAgg221,z45:=sizeOf221,v45:=fj,t46:=eW,a46:=isAgg222,z46:=sizeOf222,v46:=fi,t50:=eV,a50:=isAgg226,z50:=sizeOf226,v50:=fh,t53:=eU,a53:=isAgg229,z53:=sizeOf229,v53:=fg,t55:=fc,a55:=isAgg141,z55:=sizeOf141,v55:=fm,t66:=eS,a66:=isAgg272,z66:=sizeOf272,v66:=ff,t70:=eR,a70:=isAgg276,z70:=sizeOf276,v70:=fe,t76:=eQ,a76:=isAgg292,z76:=sizeOf292,v76:=fd,t77:=eY,a77:=isAgg212,z77:=sizeOf212
 v77:=fk}
end
section
open Go.RowKit Go.Maps
variable {ss:List (List gu)} {buf:List gu} {Bb b:Nat} {F:Nat->Prop} {vK vM vS:Value} {w w':World}
theorem xA(s:ByteArray)(w:World)(O:s.size<=281474976710656) :
  dX prog 61 #[.string s] w λe w'=>e=.returned (.string s)/\Below w.heap.size w w':=by
 have B:=Any.stringslite_Clone RR s w O;go_enter func61,ntmps61;go_wp2_with fail;refine B.mono ?_;rintro e w1 ⟨rfl,hb⟩;have U:fD _:=hb;go_wp2;go_ret;exact⟨rfl,U.out⟩
def vu(vM vK:Value)(w:World)(F:Nat->Prop)(b:Nat)(buf:List gu)(ss:List (List gu)):Prop:=(∀k,F k->k<w.heap.size)/\∃Bb vS,BU w F b buf ss Bb vS vM vK
theorem BU.stay(h:BU w F b buf ss Bb vS vM vK)(hb:∀k,F k->w'.heap[k]?=w.heap[k]?):BU w' F b buf ss Bb vS vM vK where
 blk:=by rw[hb b h.fb]; exact h.blk
 fb:=h.fb;fB:=h.fB;say:=gT.stay h.say (hb Bb h.fB);row:=iz h.row (λk B=>hb k (h.nT k B));nT:=h.nT;inv:=h.inv
theorem vu.below(h:vu vM vK w F b buf ss)(hb:Below w.heap.size w w'):vu vM vK w' F b buf ss:=by
 obtain⟨hF,Bb,vS,O⟩:=h;exact⟨λk B=>er (hF k B) hb.size,Bb,vS,O.stay (λk B=>hb.block k (hF k B))⟩
theorem BU.buffer{B:List gu}(h:BU w F b buf ss Bb vS vM vK)(hF:∀k,F k->k<w.heap.size)(O:gz (· = Bb) w w')(Y:iu w' Bb B)(hi:Inv B ss):BU w' F b B ss Bb vS vM vK where
 blk:=by rw[O.block b (hF b h.fb) (λe=>gT.pX h.say h.blk e.symm)]; exact h.blk
 fb:=h.fb;fB:=h.fB;say:=Y;row:=iz h.row (λk U=>O.block k (hF k (h.nT k U)) (λe=>sG h.row h.say (by rw[U,e])));nT:=h.nT;inv:=hi
theorem Lo(w:World):(zeroValue 111).run prog w=.ok (.agg #[.bool false,.string ⟨#[]⟩,.string ⟨#[]⟩,.int .i64 0,.int .i64 0]) w:=by kernel_rfl
theorem GF{B:Nat}{es:List gu}(h:iu w B es)(x:Wd)(Y:x.length<=dW):∃g a t n m,(Instr.lookup 85 (.map (some B)) (.string ⟨x.toArray⟩) true).run prog w=.ok (.tuple #[.agg #[.bool g,.string a,.string t,.int .i64 n,.int .i64 m],.bool (decide (x∈es.map gu.name))]) w:=by
 have hl:=(gT.look h e9 eB (Lo w) x Y).2
 have e2:((es.map lR).any λp=>p.1==x)=decide (x∈es.map gu.name):=by
  rw[Bool.eq_iff_iff,decide_eq_true_eq,List.any_eq_true,dn];constructor
  .rintro⟨p,hp,h⟩;obtain⟨e,O,rfl⟩:=dn.1 hp;exact⟨e,O,by simpa[lR]using h⟩
  .rintro⟨e,O,rfl⟩;exact⟨lR e,dn.2 ⟨e,O,rfl⟩,by simp[lR]⟩
 rw[e2]at hl;unfold pf at hl
 cases U:(es.map lR).find? _ with
 |none=>rw[U]at hl; exact⟨_,_,_,_,_,hl⟩
 |some p=>
  rw[U]at hl;obtain⟨e,_,rfl⟩:=dn.1 (List.mem_of_find?_eq_some U);exact⟨_,_,_,_,_,hl⟩
theorem BQ{l:List gu}{x:Wd}:sM l x=none↔x ∉ l.map gu.name:=⟨xM,s6⟩
theorem Sh(w:World)(F:Nat->Prop)(b:Nat)(buf:List gu)(ss:List (List gu))(name text:ByteArray)(gw gK:Int)(hP:vu vM vK w F b buf ss)(hn:name.size<=dW)(ht:text.size<=dW) :
  dX prog 38 #[.pointer (some ⟨b,0,none⟩),.string name,.string text,.int .i64 gw,.int .i64 gK] w λe w'=>e=.returned (.int .i64 (kq buf ss name.data.toList text.data.toList gw gK).1)/\
   vu vM vK w' F b (kq buf ss name.data.toList text.data.toList gw gK).2 ss/\gz F w w':=by
 have HP:fD (vu _ _ _ _ _ _ _):=hP;have ac:=tC name w hn;have af:=sD text w ht;clear hP;by_cases B:jE name.data.toList=true
 .rw[B]at ac;by_cases U:il text.data.toList=true/\text.data.toList≠[]
  .rw[decide_eq_true U]at af;by_cases ae:gw<0\/1000000<gw\/gK<0\/255<gK
   .have HU:fD (kq buf ss name.data.toList text.data.toList gw gK=(3,buf)):=by show kq _ _ _ _ _ _=_; unfold kq; rw[if_pos B,if_pos U,if_pos ae]
    have a6:gw<0\/(0<=gw/\1000000<gw)\/(0<=gw/\gw<=1000000/\gK<0)\/(0<=gw/\gw<=1000000/\0<=gK/\255<gK):=by omega
    clear ae U B;rcases a6 with c1|⟨c1,c2⟩|⟨c1,c2,c3⟩|⟨c1,c2,c3,c4⟩
    all_goals
     go_enter eO,eL;go_wp2_with fail;refine ac.mono ?_;rintro e w' ⟨rfl,rfl⟩;go_wp2_with fail;refine af.mono ?_;rintro e w' ⟨rfl,rfl⟩;go_wp2;go_ret;refine⟨iP (by rw[HU.out]; rfl),?_,gz.refl _ _⟩;rw[HU.out];exact HP.out
   .have aD:0<=gw:=by omega
    have aE:gw<=1000000:=by omega
    have aF:0<=gK:=by omega
    have aG:gK<=255:=by omega
    obtain⟨hF,Bb,vS,hE⟩:=id HP.out;have HE:fD (BU _ _ _ _ _ _ _ _ _):=hE;have HF:fD (∀k,F k->k<w.heap.size):=hF;have ai:=AP F b buf ss Bb vS vM vK w hE
    have HU:fD (kq buf ss name.data.toList text.data.toList gw gK=if 30<=(ix ss buf).length/\sM (ix ss buf) name.data.toList=none then(4,buf)else(0,gQ buf [⟨name.data.toList,false,text.data.toList,gw,gK⟩])):=by
     show kq _ _ _ _ _ _=_; unfold kq; rw[if_pos B,if_pos U,if_neg ae]
    have HI:fD (Inv (kq buf ss name.data.toList text.data.toList gw gK).2 ss):=Ex hE.inv _ _ _ _;have aC:=(jV B).2
    have a7:name.size<=281474976710656:=by have:name.data.toList.length=name.size:=by simp
                                           omega
    have a8:text.size<=281474976710656:=by
     have h1:=mD U.1;have:text.data.toList.length=text.size:=by simp
     omega
    have au:name.data.toList.length<=dW:=by unfold dW; omega
    clear ae U B hF hE;go_enter eO,eL;go_wp2_with fail;refine ac.mono ?_;rintro e w' ⟨rfl,rfl⟩;go_wp2_with fail;refine af.mono ?_;rintro e w' ⟨rfl,rfl⟩;clear ac af;go_wp2_with fail;refine ai.mono ?_;rintro e w1 ⟨C,rfl,hC,hs,ag⟩;have av:=ag.size;obtain⟨g,aa,tt,nn,mm,aj⟩:=GF hs name.data.toList au;rw[<-bytes_eta name]at aj;have aw:fD (Below _ _ _):=ag;have al:=λ(ty:dZ) (o:Obj)=>gT.len (gT.kept hs (World.grownBy_alloc w1 o none) (by simp)) eB ty;rw[dj]at al;have ah:=BQ (l:=ix ss buf) (x:=name.data.toList);by_cases hk:name.data.toList∈(ix ss buf).map gu.name
    case' pos=>
     rw[decide_eq_true hk]at aj;have ad:fD (kq buf ss name.data.toList text.data.toList gw gK=(0,gQ buf [⟨name.data.toList,false,text.data.toList,gw,gK⟩])):=by show kq _ _ _ _ _ _=_; rw[HU.out,if_neg (λh=>ah.1 h.2 hk)]
     clear ah hk hs ag ai HU
    case' neg=>
     rw[decide_eq_false hk]at aj;by_cases ax:30<=(ix ss buf).length
     .have ad:fD (kq buf ss name.data.toList text.data.toList gw gK=(4,buf)):=by show kq _ _ _ _ _ _=_; rw[HU.out,if_pos ⟨ax,ah.2 hk⟩]
      have ay:(30:Int)<=((ix ss buf).length:Int):=by omega
      clear ah hk hs ag ai HU;go_wp2;go_ret;have O:=aw.out.alloc av (.cells #[.bool g,.string aa,.string tt,.int .i64 nn,.int .i64 mm] 111);refine⟨iP (by rw[ad.out]; rfl),?_,gz.jm O⟩;rw[ad.out];exact vu.below HP.out O
     have ad:fD (kq buf ss name.data.toList text.data.toList gw gK=(0,gQ buf [⟨name.data.toList,false,text.data.toList,gw,gK⟩])):=by show kq _ _ _ _ _ _=_; rw[HU.out,if_neg (λh=>ax h.1)]
     have ay:decide ((30:Int)<=((ix ss buf).length:Int))=false:=decide_eq_false (by omega);clear ah hk hs ag ai HU
    all_goals
     go_wp2_with fail;have O:=aw.out.alloc av (.cells #[.bool g,.string aa,.string tt,.int .i64 nn,.int .i64 mm] 111);clear al aj;generalize w1.alloc (.cells #[.bool g,.string aa,.string tt,.int .i64 nn,.int .i64 mm] 111)=w2 at O⊢
     have Y:w2.drew.cell? ⟨b,0,none⟩=some (.map (some Bb)):=by
      have:w2.cell? ⟨b,0,none⟩=some (.map (some Bb)):=dV O (by rw[gq HE.out.blk]; rfl);exact this
     have az:fD (Below w.heap.size w w2.drew):=⟨O.os,O.tape,O.output,O.size,O.block⟩;clear O;refine dY (S:=λw'=>w'.cell? ⟨b,0,none⟩=some (.map (some Bb))) (by kernel_rfl) ?_;refine j7 0 ?_ Y ?_<|j7 1 ?_ Y ?_<|j7 2 ?_ Y ?_<|j7 3 ?_ Y ?_<|j7 4 ?_ Y ?_<|j7 6 ?_ Y ?_<|j7 8 ?_ Y ?_<|j7 9 ?_ Y ?_ ?_
     any_goals(rintro w' a9; go_simp; first|done|with_reducible rfl)
     refine nY 5 λK' ab=>?_;unfold fK;go_simp;refine(xA name w2.drew a7).mono ?_;rintro e w3 ⟨rfl,an⟩;have a0:fD (Below w.heap.size w w3):=az.out.trans (an.mono az.out.size);have a3:w3.cell? ⟨b,0,none⟩=some (.map (some Bb)):=dV an Y;clear an;refine ab _ _ ⟨a3,?_⟩;clear ab;refine nY 7 λK' ab=>?_;unfold fK;go_simp;refine(xA text w3 a8).mono ?_;rintro e w4 ⟨rfl,ao⟩;have ak:fD (Below w.heap.size w w4):=a0.out.trans (ao.mono a0.out.size);have a4:w4.cell? ⟨b,0,none⟩=some (.map (some Bb)):=dV ao a3;clear ao;refine ab _ _ ⟨a4,?_⟩;clear ab;refine j7 10 ?_ a4 ?_ ?_;rotate_left
     .rintro w' a9; go_simp; first|done|with_reducible rfl
     refine nY 11 λK' ab=>?_;unfold fK;go_simp;have ap:=R5 Bb buf ⟨name.data.toList,false,text.data.toList,gw,gK⟩ w4 (gT.below HE.out.say ak.out) rfl (by have:=ud HE.out.inv; omega) au;rw[show Bp ⟨name.data.toList,false,text.data.toList,gw,gK⟩=.agg #[.string name,.string text,.int .i64 gw,.int .i64 gK] by unfold Bp; simp only[<-bytes_eta]]at ap;refine ap.mono ?_;rintro e w5 ⟨rfl,q1,q2⟩;clear ap;have a5:BU w4 F b buf ss Bb vS vM vK:=HE.out.stay (λk hk=>ak.out.block k (HF.out k hk));have aq:∀k,F k->k<w4.heap.size:=λk hk=>er (HF.out k hk) ak.out.size
     have hi:Inv (gQ buf [⟨name.data.toList,false,text.data.toList,gw,gK⟩]) ss:=by
      have:=HI.out;rw[ad.out]at this;exact this
     have ar:=a5.buffer aq q2 q1 hi;have a':fD (BU _ _ _ _ _ _ _ _ _):=ar;have aA:fD (gz F w w5):=(gz.jm ak.out).then (q2.mono (λk hk=>by subst hk; exact HE.out.fB));have aB:fD (∀k,F k->k<w5.heap.size):=λk hk=>er (aq k hk) q2.size;refine ab _ _ ⟨by rw[gq ar.blk]; rfl,ee (by kernel_rfl) ?_ _⟩;clear ab q1 q2 a5 aq hi ar;go_wp2;go_ret;refine⟨iP (by rw[ad.out]; rfl),?_,aA.out⟩;rw[ad.out];exact⟨aB.out,Bb,vS,a'.out⟩
  .rw[decide_eq_false U]at af;have HU:fD (kq buf ss name.data.toList text.data.toList gw gK=(2,buf)):=by show kq _ _ _ _ _ _=_; unfold kq; rw[if_pos B,if_neg U]
   clear U B;go_enter eO,eL;go_wp2_with fail;refine ac.mono ?_;rintro e w' ⟨rfl,rfl⟩;go_wp2_with fail;refine af.mono ?_;rintro e w' ⟨rfl,rfl⟩;go_wp2;go_ret;refine⟨iP (by rw[HU.out]; rfl),?_,gz.refl _ _⟩;rw[HU.out];exact HP.out
 .have am:jE name.data.toList=false:=by simpa using B
  rw[am]at ac;have HU:fD (kq buf ss name.data.toList text.data.toList gw gK=(1,buf)):=by show kq _ _ _ _ _ _=_; unfold kq; rw[if_neg B]
  clear B am;go_enter eO,eL;go_wp2_with fail;refine ac.mono ?_;rintro e w' ⟨rfl,rfl⟩;go_wp2;go_ret;refine⟨iP (by rw[HU.out]; rfl),?_,gz.refl _ _⟩;rw[HU.out];exact HP.out
end
section
open Go.RowKit Go.Maps
variable {vK vM:Value}
theorem Sl(w:World)(F:Nat->Prop)(b:Nat)(buf:List gu)(ss:List (List gu))(name:ByteArray)(hP:vu vM vK w F b buf ss)(hn:name.size<=dW) :
  dX prog 37 #[.pointer (some ⟨b,0,none⟩),.string name] w λe w'=>e=.returned (.int .i64 (mI buf ss name.data.toList).1)/\
   vu vM vK w' F b (mI buf ss name.data.toList).2 ss/\gz F w w':=by
 have HP:fD (vu _ _ _ _ _ _ _):=hP;have ad:=tC name w hn;clear hP;by_cases U:jE name.data.toList=true
 .rw[U]at ad;obtain⟨hF,Bb,vS,hE⟩:=id HP.out;have HE:fD (BU _ _ _ _ _ _ _ _ _):=hE;have HF:fD (∀k,F k->k<w.heap.size):=hF;have am:=AP F b buf ss Bb vS vM vK w hE
  have HU:fD (mI buf ss name.data.toList=if sM (ix ss buf) name.data.toList=none then(5,buf)else if 100<=lH buf then(4,buf)else(0,gQ buf [⟨name.data.toList,true,[],0,0⟩])):=by
   show mI _ _ _=_; unfold mI; rw[if_pos U,mq]; rfl
  have HI:fD (Inv (mI buf ss name.data.toList).2 ss):=Ll hE.inv _;have a7:=(jV U).2
  have az:name.size<=281474976710656:=by
   have:name.data.toList.length=name.size:=by simp
   omega
  have ar:name.data.toList.length<=dW:=by unfold dW; omega
  clear U hF hE;go_enter func37,ntmps37;go_wp2_with fail;refine ad.mono ?_;rintro e w' ⟨rfl,rfl⟩;clear ad;go_wp2_with fail;refine am.mono ?_;rintro e w1 ⟨C,rfl,hC,hs,ai⟩;have au:=ai.size;obtain⟨g,aa,tt,nn,mm,aj⟩:=GF hs name.data.toList ar;rw[<-bytes_eta name]at aj;have ak:=BQ (l:=ix ss buf) (x:=name.data.toList);have Y:fD (Below w.heap.size w (w1.alloc (.cells #[.bool g,.string aa,.string tt,.int .i64 nn,.int .i64 mm] 111))):=ai.alloc au _;by_cases hk:name.data.toList∈(ix ss buf).map gu.name
  .rw[decide_eq_true hk]at aj;have an:fD (mI buf ss name.data.toList=if 100<=lH buf then(4,buf)else(0,gQ buf [⟨name.data.toList,true,[],0,0⟩])):=by show mI _ _ _=_; rw[HU.out,if_neg (λh=>ak.1 h hk)]
   clear ak hk hs ai am HU;have ae:=Y.out;obtain⟨w2,av⟩:∃w2,w1.alloc (.cells #[.bool g,.string aa,.string tt,.int .i64 nn,.int .i64 mm] 111)=w2:=⟨_,rfl⟩;rw[av]at ae;have a0:w2.cell? ⟨b,0,none⟩=some (.map (some Bb)):=dV ae (by rw[gq HE.out.blk]; rfl);have aw:=CF Bb buf w2 (gT.below HE.out.say ae) (by have:=ud HE.out.inv; omega);have ax:fD (Below _ _ _):=ae;clear Y ae;go_wp2_with fail;refine aw.mono ?_;rintro e w3 ⟨rfl,ab⟩;have B:fD (Below w.heap.size w w3):=ax.out.trans (ab.mono ax.out.size);clear aw ab av aj a0;by_cases af:100<=lH buf
   .have O:fD (mI buf ss name.data.toList=(4,buf)):=by show mI _ _ _=_; rw[an.out,if_pos af]
    have ag:(100:Int)<=(lH buf:Int):=by omega
    go_wp2;go_ret;refine⟨iP (by rw[O.out]; rfl),?_,gz.jm B.out⟩;rw[O.out];exact vu.below HP.out B.out
   .have O:fD (mI buf ss name.data.toList=(0,gQ buf [⟨name.data.toList,true,[],0,0⟩])):=by show mI _ _ _=_; rw[an.out,if_neg af]
    have ag:¬(100:Int)<=(lH buf:Int):=by omega
    clear an af au;go_wp2_with fail;clear ag;generalize w3=w2 at *
    have ac:w2.drew.cell? ⟨b,0,none⟩=some (.map (some Bb)):=by
     have:w2.cell? ⟨b,0,none⟩=some (.map (some Bb)):=dV B.out (by rw[gq HE.out.blk]; rfl);exact this
    have Y:fD (Below w.heap.size w w2.drew):=⟨B.out.os,B.out.tape,B.out.output,B.out.size,B.out.block⟩;clear B;refine dY (S:=λw'=>w'.cell? ⟨b,0,none⟩=some (.map (some Bb))) (by kernel_rfl) ?_;refine j7 0 ?_ ac ?_<|j7 1 ?_ ac ?_<|j7 2 ?_ ac ?_<|j7 3 ?_ ac ?_<|j7 4 ?_ ac ?_ ?_
    any_goals(rintro w' a8; go_simp; first|done|with_reducible rfl)
    refine nY 5 λK' ah=>?_;unfold fK;go_simp;refine(xA name w2.drew az).mono ?_;rintro e w3 ⟨rfl,ab⟩;have B:fD (Below w.heap.size w w3):=Y.out.trans (ab.mono Y.out.size);have a3:w3.cell? ⟨b,0,none⟩=some (.map (some Bb)):=dV ab ac;clear ab;refine ah _ _ ⟨a3,?_⟩;clear ah;refine nY 6 λK' ah=>?_;unfold fK;go_simp;have ao:=DV Bb buf name.data.toList w3 (gT.below HE.out.say B.out) (by have:=ud HE.out.inv; omega) ar;rw[<-bytes_eta name]at ao;refine ao.mono ?_;rintro e w5 ⟨rfl,q1,q2⟩;clear ao;have ay:BU w3 F b buf ss Bb vS vM vK:=HE.out.stay (λk hk=>B.out.block k (HF.out k hk));have ap:∀k,F k->k<w3.heap.size:=λk hk=>er (HF.out k hk) B.out.size
    have hi:Inv (gQ buf [⟨name.data.toList,true,[],0,0⟩]) ss:=by
     have:=HI.out;rw[O.out]at this;exact this
    have aq:=ay.buffer ap q2 q1 hi;have a4:fD (BU _ _ _ _ _ _ _ _ _):=aq;have a5:fD (gz F w w5):=(gz.jm B.out).then (q2.mono (λk hk=>by subst hk; exact HE.out.fB));have a6:fD (∀k,F k->k<w5.heap.size):=λk hk=>er (ap k hk) q2.size;refine ah _ _ ⟨by rw[gq aq.blk]; rfl,ee (by kernel_rfl) ?_ _⟩;clear ah q1 q2 ay ap hi aq;go_wp2;go_ret;refine⟨iP (by rw[O.out]; rfl),?_,a5.out⟩;rw[O.out];exact⟨a6.out,Bb,vS,a4.out⟩
  .rw[decide_eq_false hk]at aj;have O:fD (mI buf ss name.data.toList=(5,buf)):=by show mI _ _ _=_; rw[HU.out,if_pos (ak.2 hk)]
   clear ak hk hs ai am HU;go_wp2;go_ret;refine⟨iP (by rw[O.out]; rfl),?_,gz.jm Y.out⟩;rw[O.out];exact vu.below HP.out Y.out
 .have al:jE name.data.toList=false:=by simpa using U
  rw[al]at ad;have HU:fD (mI buf ss name.data.toList=(1,buf)):=by show mI _ _ _=_; unfold mI; rw[if_neg U]
  clear U al;go_enter func37,ntmps37;go_wp2_with fail;refine ad.mono ?_;rintro e w' ⟨rfl,rfl⟩;go_wp2;go_ret;refine⟨iP (by rw[HU.out]; rfl),?_,gz.refl _ _⟩;rw[HU.out];exact HP.out
theorem Da(w:World)(F:Nat->Prop)(b:Nat)(buf:List gu)(ss:List (List gu))(O:vu vM vK w F b buf ss) :
  dX prog 30 #[.pointer (some ⟨b,0,none⟩)] w λe w'=>e=.returned (.int .i64 ss.length)/\w=w':=by
 obtain⟨hF,Bb,vS,B⟩:=O;obtain⟨U,Y,rfl,aa⟩:=gU B.row;have ab:w.cell? ⟨b,1,none⟩=some (.slice U ss.length Y):=by rw[gq B.blk]; rfl
 go_wp2;go_ret;exact⟨rfl,rfl⟩
def tn(ss:List (List gu))(n:Int):Wd×Nat:=if n<0\/(ss.length:Int)<=n then([],6)else(gZ (ss.getD n.toNat []),0)
theorem UE(w:World)(F:Nat->Prop)(b:Nat)(buf:List gu)(ss:List (List gu))(n:Int)(hP:vu vM vK w F b buf ss) :
  dX prog 26 #[.pointer (some ⟨b,0,none⟩),.int .i64 n] w λe w'=>e=.returned (.tuple #[.string ⟨(tn ss n).1.toArray⟩,.int .i64 (tn ss n).2])/\w=w':=by
 obtain⟨hF,Bb,vS,B⟩:=hP;obtain⟨Y,cS,rfl,aa⟩:=gU B.row;have ab:w.cell? ⟨b,1,none⟩=some (.slice Y ss.length cS):=by rw[gq B.blk]; rfl
 have h6:=B.inv.rz
 have HR:fD (∀j(hj:j<ss.length),∃bb off,Y=some ⟨bb,off,none⟩/\w.cell? ⟨bb,off+j,none⟩=some (.string ⟨(gZ ss[j]).toArray⟩)):=by
  intro j hj;obtain⟨a',c',he,_,_,hr⟩:=Rd.lT B.row;simp only[fL]at he;obtain⟨rfl,_,rfl⟩:=he;exact hr j _ (by simp[gr,hj])
 clear B;by_cases h0:n<0
 .have O:fD (tn ss n=([],6)):=by show tn _ _=_; unfold tn; rw[if_pos (Or.inl h0)]
  go_enter func26,ntmps26;go_wp2;go_ret2;rw[O.out];exact⟨rfl,rfl⟩
 .have ac:0<=n:=by omega
  by_cases h1:(ss.length:Int)<=n
  .have O:fD (tn ss n=([],6)):=by show tn _ _=_; unfold tn; rw[if_pos (Or.inr h1)]
   go_enter func26,ntmps26;go_wp2;go_ret2;rw[O.out];exact⟨rfl,rfl⟩
  .obtain⟨m,rfl⟩:∃m:Nat,n=(m:Int):=⟨n.toNat,by omega⟩;have hm:m<ss.length:=by omega
   have ad:(m:Int)<(ss.length:Int):=by omega
   have O:fD (tn ss m=(gZ ss[m],0)):=by
    unfold tn;rw[if_neg (by omega),Int.toNat_natCast,dk,dd hm];rfl
   obtain⟨bb,off,rfl,U⟩:=HR.out m hm;go_wp2;go_ret2;rw[O.out];exact⟨rfl,rfl⟩
end
section
open Go.RowKit Go.Maps
variable {base:Nat} {v v' x:Value} {l:Wd} {w w':World}
theorem A0{P:Program}(w:World)(base:Nat)(t u ty e:dZ)(i:TypeInfo)(ht:P.underlying t=some (.slice e))(hu:P.underlying u=some .string)(hi:P.info? e=some i)(hz:i.zero=some (.int .u8 0))
  (B:i.size=1) (ac:i.bytes=1) (v:Value) (n:Nat) (xs:List Value) (O:w.ownsRow base e 1 v n xs) (hn:0<n) (s:ByteArray) (hb:(n+s.size)*1<=140737488355328) (U:base<=w.heap.size) :
  ∃v' w',(fV #[t,u] ty #[v,.string s]).run P w=.ok v' w'/\w'.ownsRow base e 1 v' (n+s.size) (xs++js s.data.toList)/\w.grownBy w' v.ownBlock/\(v'.ownBlock=v.ownBlock\/v'.ownBlock=some w.heap.size):=by
 obtain⟨v',w',Y,h2,h3,_⟩:=Lib.run_append_own_string (P:=P) w base t u ty e i ht hu hi hz B ac v n xs O s (by unfold dW; omega) (by omega) U;refine⟨v',w',Y,h2,h3,?_⟩;rcases O.2 with⟨rfl,rfl⟩|⟨g,c,ad,rfl,af,hg,ag,ah,ai,ae⟩
 .omega
 .by_cases aa:n+s.size<=c
  .have ab:=Lib.run_append_room_string (P:=P) w t u ty e i ht hu hi B g n c ad hg s aa (by omega);rw[ab]at Y;simp only[Result.ok.injEq]at Y;exact Or.inl (by rw[<-Y.1]; rfl)
  .have holds:=O.cells (g:=g) rfl;have ab:=Lib.run_append_grow_string (P:=P) w t u ty e i _ ht hu hi hz _ n c xs (by rw[B]; exact O.1) holds s (by omega) (by omega) (by rw[ac]; exact growslice_fits (by omega) hb);rw[ab]at Y;simp only[Result.ok.injEq]at Y;exact Or.inr (by rw[<-Y.1]; rfl)
theorem wE{P:Program}(w:World){ops:Array Oper}{rest:List Oper}{o:Oper}{a:Act}{Q:Exit->Act->World->Prop}(Y:o.guard=none)(sl x:Operand)(t u:dZ)
  (ho:o.op=.call {callee:=.builtin .append,args:=#[sl,x],argTypes:=#[t,u]})
  (base:Nat) (e:dZ) (i:TypeInfo) (ht:P.underlying t=some (.slice e)) (hu:P.underlying u=some .string) (hi:P.info? e=some i) (hz:i.zero=some (.int .u8 0))
  (B:i.size=1) (aa:i.bytes=1) (v:Value) (n:Nat) (xs:List Value) (hs:a.eval sl=v) (U:w.ownsRow base e 1 v n xs) (hn:0<n) (s:ByteArray) (hx:a.eval x=.string s) (hb:(n+s.size)*1<=140737488355328) (O:base<=w.heap.size)
  (h:∀v' w',w'.ownsRow base e 1 v' (n+s.size) (xs++js s.data.toList)->w.grownBy w' v.ownBlock->(v'.ownBlock=v.ownBlock\/v'.ownBlock=some w.heap.size)->ei P ops Q rest (a.put o.dst v') w'):ei P ops Q (o::rest) a w:=by
 refine eo Y λ_ hK=>?_;obtain⟨v',w',hr,h2,h3,h4⟩:=A0 (P:=P) w base t u o.type e i ht hu hi hz B aa v n xs U hn s hb O;unfold fK ek;simp only[ho,eh,invoke,builtin,gg,gf,gh,dw,dv,dz,hs,hx,hr];exact hK _ _ (h v' w' h2 h3 h4)
def jh(w:World)(base:Nat)(v:Value)(l:Wd):Prop:=w.ownsRow base 5 1 v l.length (js l)
def iG(w w':World)(v v':Value):Prop:=gz (λk=>v.ownBlock=some k) w w'/\∀k,v'.ownBlock=some k->v.ownBlock=some k\/w.heap.size<=k
theorem iG.trans{a b c:World}{u:Value}(h:iG a b u v)(k:iG b c v x):iG a c u x:=by
 refine⟨h.1.trans k.1 (λi hi O=>?_),λi hi=>?_⟩
 .rcases h.2 i O with B|B
  .exact B
  .omega
 .rcases k.2 i hi with B|B
  .exact h.2 i B
  .exact Or.inr (ew h.1.size B)
theorem iG.below(h:Below w.heap.size w w')(v:Value):iG w w' v v:=⟨gz.jm h,λ_ h=>Or.inl h⟩
theorem iG.of{o:Obj}(B:(w.alloc o).grownBy w' v.ownBlock)(U:v'.ownBlock=v.ownBlock\/v'.ownBlock=some (w.heap.size+1)):iG w w' v v':=by
 have Y:=B.size;simp at Y;refine⟨⟨B.os,B.tape,B.output,by omega,λk O hn=>?_⟩,λk O=>?_⟩
 .rw[B.block k (by simp; omega) (λe=>hn e.symm),fG _ _ _ O]
 .rcases U with h|h
  .exact Or.inl (by rw[<-h]; exact O)
  .rw[h]at O;simp at O;exact Or.inr (by omega)
theorem iG.VW(B:w.grownBy w' v.ownBlock)(U:v'.ownBlock=v.ownBlock\/v'.ownBlock=some w.heap.size):iG w w' v v':=by
 refine⟨⟨B.os,B.tape,B.output,B.size,λk O Y=>B.block k O (λe=>Y e.symm)⟩,λk O=>?_⟩;rcases U with h|h
 .exact Or.inl (by rw[<-h]; exact O)
 .rw[h]at O;simp at O;exact Or.inr (by omega)
def Pc(base:Nat)(w:World)(v:Value)(l new:Wd)(e:Ending)(w':World):Prop:=∃v',e=.returned v'/\jh w' base v' (l++new)/\iG w w' v v'
theorem jh.below(h:jh w base v l)(hb:Below w.heap.size w w'):jh w' base v l:=iz h (λk B=>hb.block k (h.lt k B).2)
theorem kI(a b:Wd):js (a++b)=js a++js b:=by simp[js]
theorem mC(base:Nat)(v:Value)(l:Wd)(s:ByteArray)(w:World)(h:jh w base v l)(hl:l.length<=1099511627776)(hs:s.size<=1099511627776)(af:base<=w.heap.size) :
  dX prog 177 #[v,.string s] w (Pc base w v l (gS s.data.toList)):=by
 obtain⟨i0,hi,Y,aa,ab⟩:=ed IC;obtain⟨a,c,rfl,hc⟩:=gU h;have HO:fD (jh _ _ _ _):=h;clear h;go_enter func177,ntmps177
 go_wp2_with (first
  |(at_builtin; refine jk _ rfl _ _ 60 rfl base 5 i0 (.int .u8 0) 1 e6 hi Y aa ab rfl _ _ _ rfl (HO.out.alloc _) _ [.int .u8 ((s.size:Int) % 256)] rfl (Rd.one lr) (by simp[fS]) ?c1 ?c2 ?c3 ?_))
 case c1=>simp; omega
 case c2=>unfold dW; simp; omega
 case c3=>simp; omega
 intro v1 w1 B ac ad
 have hO1:jh w1 base v1 (l++[u8 s.size]):=by
  unfold jh;rw[kI,oU,cc];exact B
 have ae:fD (iG w w1 (.slice a l.length c) v1):=iG.of ac ad
 have O:w1.ownsRow base 5 1 v1 (l.length+1) (js (l++[u8 s.size])):=by
  unfold jh at hO1;rw[cc]at hO1;exact hO1
 obtain⟨a1,c1,rfl,am⟩:=gU O;have ag:fD (w1.ownsRow base 5 1 (.slice a1 (l.length+1) c1) (l.length+1) (js (l++[u8 s.size]))):=O;have al:=ae.out.1.size;clear B ac ad hO1 O
 go_wp2_with (first
  |(at_builtin; refine wE _ rfl _ _ 60 9 rfl base 5 i0 e6 e9 hi Y aa ab _ _ _ rfl ag.out ?d1 s rfl ?d2 ?d3 ?_))
 case d1=>omega
 case d2=>omega
 case d3=>omega
 intro v2 w2 U ah ai
 have aj:fD (jh w2 base v2 (l++gS s.data.toList)):=by
  show jh _ _ _ _;unfold jh gS;have e:l++u8 s.data.toList.length::s.data.toList=(l++[u8 s.size])++s.data.toList:=by simp
  rw[e,kI,cc];have e3:(l++[u8 s.size]).length=l.length+1:=by simp
  rw[e3];exact U
 have ak:fD _:=ae.out.trans (iG.VW ah ai);go_wp2;go_ret;exact⟨v2,rfl,aj.out,ak.out⟩
theorem Rd.three{y z:Value}{t:dZ}:Rd (w.alloc (.cells #[x,y,z] t)) (.slice (some ⟨w.heap.size,0,none⟩) 3 3) [x,y,z]:=by
 refine⟨some _,3,rfl,et _,by unfold dW; omega,λj u B=>⟨w.heap.size,0,rfl,?_⟩⟩
 match j,B with
 |0,B=>simpa using B
 |1,B=>simpa using B
 |2,B=>simpa using B
 |j+3,B=>simp at B
theorem r7(base:Nat)(v:Value)(l:Wd)(n:Int)(w:World)(h:jh w base v l)(hl:l.length<=1099511627776)(af:0<=n)(hn:n<=1000000)(Y:base<=w.heap.size) :
  dX prog 178 #[v,.int .i64 n] w (Pc base w v l (kF n)):=by
 obtain⟨i0,hi,aa,ab,ac⟩:=ed IC;obtain⟨a,c,rfl,hc⟩:=gU h;have HO:fD (jh _ _ _ _):=h;clear h;go_enter func178,ntmps178
 go_wp2_with (first
  |(at_builtin; refine jk _ rfl _ _ 60 rfl base 5 i0 (.int .u8 0) 1 e6 hi aa ab ac rfl _ _ _ rfl (HO.out.alloc _) _ [.int .u8 (n / 65536),.int .u8 (n / 256 % 256),.int .u8 (n % 256)] rfl Rd.three (by simp[fS]) ?c1 ?c2 ?c3 ?_))
 case c1=>simp; omega
 case c2=>unfold dW; simp; omega
 case c3=>simp; omega
 intro v1 w1 B O U
 have ad:fD (jh w1 base v1 (l++kF n)):=by
  show jh _ _ _ _;unfold jh;rw[kI,cc]
  have e:js (kF n)=[.int .u8 (n / 65536),.int .u8 (n / 256 % 256),.int .u8 (n % 256)]:=by
   obtain⟨m,rfl⟩:∃m:Nat,n=(m:Int):=⟨n.toNat,by omega⟩;rw[xF m (by omega)];simp only[js,dv,dz];rw[vf _ (by omega),vf _ (by omega),vf _ (by omega)];simp
  rw[e];exact B
 have ae:fD (iG w w1 (.slice a l.length c) v1):=iG.of O U;clear B O U;go_wp2;go_ret;exact⟨v1,rfl,ad.out,ae.out⟩
theorem jh.form(h:jh w base v l):∃a c,v=.slice a l.length c:=by
 obtain⟨a,c,e,_⟩:=gU h;exact⟨a,c,e⟩
theorem yR(base:Nat)(v:Value)(l:Wd)(e:gu)(w:World)(h:jh w base v l)(hl:l.length<=549755813888)(aj:KZ e)(a7:base<=w.heap.size) :
  dX prog 181 #[v,Bp e] w (Pc base w v l (qh e)):=by
 obtain⟨i0,hi,a8,a9,a'⟩:=ed IC;obtain⟨B,gn,tx,wt,tg⟩:=e;have h1:=(jV aj.2.1).2;have h2:=mD aj.2.2.1;obtain⟨_,_,_,_,h3,h4,h5,h6⟩:=aj;simp only at h1 h2 h3 h4 h5 h6;obtain⟨a,c,rfl⟩:=h.form;obtain⟨w0,ak⟩:∃w0,w.alloc (.cells #[.string ⟨B.toArray⟩,.string ⟨tx.toArray⟩,.int .i64 wt,.int .i64 tg] 96)=w0:=⟨_,rfl⟩;have ac:Below w.heap.size w w0:=by rw[<-ak]; exact(fE _ _).alloc (et _) _
 have aV:=ac.size;have al:w0.heap[w.heap.size]?=some (.cells #[.string ⟨B.toArray⟩,.string ⟨tx.toArray⟩,.int .i64 wt,.int .i64 tg] 96 (0,0)):=by rw[<-ak]; exact ej w _
 have O:∀W:World,W.heap[w.heap.size]?=some (.cells #[.string ⟨B.toArray⟩,.string ⟨tx.toArray⟩,.int .i64 wt,.int .i64 tg] 96 (0,0))->W.cell? ⟨w.heap.size,0,none⟩=some (.string ⟨B.toArray⟩)/\W.cell? ⟨w.heap.size,1,none⟩=some (.string ⟨tx.toArray⟩)/\W.cell? ⟨w.heap.size,2,none⟩=some (.int .i64 wt)/\W.cell? ⟨w.heap.size,3,none⟩=some (.int .i64 tg):=by
  intro W hW;exact⟨by rw[gq hW]; rfl,by rw[gq hW]; rfl,by rw[gq hW]; rfl,by rw[gq hW]; rfl⟩
 have HC:fD (∀W:World,W.heap[w.heap.size]?=some (.cells #[.string ⟨B.toArray⟩,.string ⟨tx.toArray⟩,.int .i64 wt,.int .i64 tg] 96 (0,0))->W.cell? ⟨w.heap.size,0,none⟩=some (.string ⟨B.toArray⟩)/\W.cell? ⟨w.heap.size,1,none⟩=some (.string ⟨tx.toArray⟩)/\W.cell? ⟨w.heap.size,2,none⟩=some (.int .i64 wt)/\W.cell? ⟨w.heap.size,3,none⟩=some (.int .i64 tg)):=O;obtain⟨d0,_,_,_⟩:=O w0 al;have am:=h.below ac;have aA:(⟨B.toArray⟩:ByteArray).size<=1099511627776:=by show B.toArray.size<=_; simp; omega
 have aB:(⟨tx.toArray⟩:ByteArray).size<=1099511627776:=by show tx.toArray.size<=_; simp; omega
 have aw:=mC base _ l ⟨B.toArray⟩ w0 am (by omega) aA (by omega);have aC:fD (iG w w0 (.slice a l.length c) (.slice a l.length c)):=iG.below ac _;have an:fD (w0.heap[w.heap.size]?=some (.cells #[.string ⟨B.toArray⟩,.string ⟨tx.toArray⟩,.int .i64 wt,.int .i64 tg] 96 (0,0))):=al;have ax:∀(W:World)(v:Value)(k:Wd),jh W base v k->W.heap[w.heap.size]?=some (.cells #[.string ⟨B.toArray⟩,.string ⟨tx.toArray⟩,.int .i64 wt,.int .i64 tg] 96 (0,0))->v.ownBlock≠some w.heap.size:=λW v k ho hh=>sI hh ho (by decide);have ao:fD (∀(W:World)(v:Value)(k:Wd),jh W base v k->W.heap[w.heap.size]?=some (.cells #[.string ⟨B.toArray⟩,.string ⟨tx.toArray⟩,.int .i64 wt,.int .i64 tg] 96 (0,0))->v.ownBlock≠some w.heap.size):=ax;have aD:fD (jh _ _ _ _):=am;clear h ac al O ax am;unfold Bp;go_enter func181,ntmps181;go_wp2_with fail;refine aw.mono ?_;rintro e1 w1 ⟨v1,rfl,U,ad⟩;obtain⟨L1,ae⟩:∃L1,L1=l++gS B:=⟨_,rfl⟩;have aZ:L1.length<=l.length+30:=by rw[ae]; simp[gS]; omega
 have aE:fD (L1=l++gS B):=ae;change jh w1 base v1 (l++gS B)at U;rw[<-ae]at U;have ap:w1.heap[w.heap.size]?=some (.cells #[.string ⟨B.toArray⟩,.string ⟨tx.toArray⟩,.int .i64 wt,.int .i64 tg] 96 (0,0)):=by rw[ad.1.block _ (iQ an.out) (ao.out w0 _ _ aD.out an.out)]; exact an.out
 have aF:fD (iG w w1 (.slice a l.length c) v1):=aC.out.trans ad;obtain⟨a1,c1,rfl⟩:=U.form;have ay:fD (jh _ _ _ _):=U;have aq:fD (w1.heap[w.heap.size]?=some (.cells #[.string ⟨B.toArray⟩,.string ⟨tx.toArray⟩,.int .i64 wt,.int .i64 tg] 96 (0,0))):=ap;obtain⟨aG,aH,aI,aJ⟩:=HC.out w1 ap;have aW:=ad.1.size;clear aw U ad ap ae;clear ak d0;have az:=mC base _ L1 ⟨tx.toArray⟩ w1 ay.out (by omega) aB (by omega);go_wp2_with fail;refine az.mono ?_;rintro e2 w2 ⟨v2,rfl,Y,af⟩;obtain⟨L2,ag⟩:∃L2,L2=L1++gS tx:=⟨_,rfl⟩;have ba:L2.length<=L1.length+30:=by rw[ag]; simp[gS]; omega
 have aK:fD (L2=L1++gS tx):=ag;change jh w2 base v2 (L1++gS tx)at Y;rw[<-ag]at Y;have ar:w2.heap[w.heap.size]?=some (.cells #[.string ⟨B.toArray⟩,.string ⟨tx.toArray⟩,.int .i64 wt,.int .i64 tg] 96 (0,0)):=by rw[af.1.block _ (iQ aq.out) (ao.out w1 _ _ ay.out aq.out)]; exact aq.out
 have aL:fD (iG w w2 (.slice a l.length c) v2):=aF.out.trans af;obtain⟨a2,c2,rfl⟩:=Y.form;have a0:fD (jh _ _ _ _):=Y;have au:fD (w2.heap[w.heap.size]?=some (.cells #[.string ⟨B.toArray⟩,.string ⟨tx.toArray⟩,.int .i64 wt,.int .i64 tg] 96 (0,0))):=ar;obtain⟨aM,aN,aO,aP⟩:=HC.out w2 ar;have aX:=af.1.size;clear az Y af ar ag;have a4:=r7 base _ L2 wt w2 a0.out (by omega) h3 h4 (by omega);clear aG aH aI aJ;go_wp2_with fail;refine a4.mono ?_;rintro e3 w3 ⟨v3,rfl,aa,ah⟩;obtain⟨L3,ai⟩:∃L3,L3=L2++kF wt:=⟨_,rfl⟩;have bc:L3.length<=L2.length+30:=by rw[ai]; simp[kF]
 have aQ:fD (L3=L2++kF wt):=ai;change jh w3 base v3 (L2++kF wt)at aa;rw[<-ai]at aa;have av:w3.heap[w.heap.size]?=some (.cells #[.string ⟨B.toArray⟩,.string ⟨tx.toArray⟩,.int .i64 wt,.int .i64 tg] 96 (0,0)):=by rw[ah.1.block _ (iQ au.out) (ao.out w2 _ _ a0.out au.out)]; exact au.out
 have aR:fD (iG w w3 (.slice a l.length c) v3):=aL.out.trans ah;obtain⟨a3,c3,rfl⟩:=aa.form;have aS:fD (jh _ _ _ _):=aa;have bd:fD (w3.heap[w.heap.size]?=some (.cells #[.string ⟨B.toArray⟩,.string ⟨tx.toArray⟩,.int .i64 wt,.int .i64 tg] 96 (0,0))):=av;obtain⟨be,bf,bg,bh⟩:=HC.out w3 av;have aY:=ah.1.size;clear a4 aa ah av ai;clear aM aN aO aP
 go_wp2_with (first
  |(at_builtin; refine jk _ rfl _ _ 60 rfl base 5 i0 (.int .u8 0) 1 e6 hi a8 a9 a' rfl _ _ _ rfl (aS.out.alloc _) _ [.int .u8 tg] rfl (Rd.one lr) (by simp[fS]) ?c1 ?c2 ?c3 ?_))
 case c1=>simp; omega
 case c2=>unfold dW; simp; omega
 case c3=>simp; omega
 intro v4 w4 ab a5 a6
 have aT:fD (jh w4 base v4 (l++qh ⟨B,gn,tx,wt,tg⟩)):=by
  show jh _ _ _ _;have e:l++qh ⟨B,gn,tx,wt,tg⟩=L3++[u8 tg]:=by rw[aQ.out,aK.out,aE.out]; simp[qh]
  rw[e];unfold jh;rw[kI,oU,cc,show tg % 256=tg by omega];exact ab
 have aU:fD (iG w w4 (.slice a l.length c) v4):=aR.out.trans (iG.of a5 a6);clear ab a5 a6;go_wp2;go_ret;exact⟨v4,rfl,aT.out,aU.out⟩
end
section
open Go.RowKit Go.Maps
variable {L:List gu} {b n o:Nat} {v:Value} {a:Wd} {w w':World}
structure sE(w:World)(b o:Nat)(e:gu):Prop where
 path:w.cell? ⟨b,o,none⟩=some (.string ⟨(gM e).toArray⟩)
 name:w.cell? ⟨b,o+1,none⟩=some (.string ⟨e.name.toArray⟩)
 text:w.cell? ⟨b,o+2,none⟩=some (.string ⟨e.text.toArray⟩)
 gw:w.cell? ⟨b,o+3,none⟩=some (.int .i64 e.gw)
 gK:w.cell? ⟨b,o+4,none⟩=some (.int .i64 e.gK)
 blk:∃cs fz,w.heap[b]?=some (.cells cs 237 fz)
def qV(w:World)(v:Value)(L:List gu):Prop:=∃a cap,v=.slice a L.length cap/\L.length<=cap/\cap<=dW/\∀i(h:i<L.length),∃b off,a=some ⟨b,off,none⟩/\sE w b (off+i*5) L[i]
theorem sE.stay{e:gu}(h:sE w b o e)(hb:w'.heap[b]?=w.heap[b]?):sE w' b o e:=by
 have B:∀(o:Nat)(u:Value),w.cell? ⟨b,o,none⟩=some u->w'.cell? ⟨b,o,none⟩=some u:=λo u O=>by
  simp only[fQ]at O⊢;rw[hb];exact O
 exact⟨B _ _ h.path,B _ _ h.name,B _ _ h.text,B _ _ h.gw,B _ _ h.gK,by rw[hb]; exact h.blk⟩
theorem sE.lt{e:gu}(h:sE w b o e):b<w.heap.size:=by
 obtain⟨cs,fz,B⟩:=h.blk;exact(fH.1 B).1
theorem qV.below(h:qV w v L)(hb:Below w.heap.size w w'):qV w' v L:=by
 obtain⟨a,cap,O,U,Y,h4⟩:=h;refine⟨a,cap,O,U,Y,λi hi=>?_⟩;obtain⟨b,off,e1,B⟩:=h4 i hi;exact⟨b,off,e1,B.stay (hb.block b B.lt)⟩
theorem qV.wrote{u O:Value}{base:Nat}{l:Wd}(h:qV w v L)(U:jh w base u l)(Y:iG w w' u O):qV w' v L:=by
 obtain⟨a,cap,h1,h2,h3,h4⟩:=h;refine⟨a,cap,h1,h2,h3,λi hi=>?_⟩;obtain⟨b,off,e1,B⟩:=h4 i hi;refine⟨b,off,e1,B.stay (Y.1.block b B.lt (λe=>?_))⟩;obtain⟨cs,fz,hh⟩:=B.blk;exact sI hh U (by decide) e
theorem DY(v:Value)(L:List gu)(w:World)(h:qV w v L) :
  dX prog 179 #[v] w λe w'=>e=.returned (.int .i64 (jZ L))/\Below w.heap.size w w':=by
 obtain⟨a,cap,rfl,hc,hm,U⟩:=h;have Y:fD (∀i(h:i<L.length),∃b off,a=some ⟨b,off,none⟩/\sE w b (off+i*5) L[i]):=U;unfold dW at hm;clear U;go_enter func179,ntmps179;go_wp2;go_loopw [3,8] (λg i wr=>∃k:Nat,k<=L.length/\i=.int .i64 k/\g=.int .i64 (jZ (L.take k))/\Below w.heap.size w wr) (λ_ i _=>L.length-(intOf i).toNat)
 case atStart=>exact⟨0,eu _,rfl,rfl,fE _ _⟩
 case round=>
  obtain⟨k,hk,rfl,rfl,hb⟩:=hrel;have HB:fD (Below _ _ _):=hb;have hz:=hb.size;clear hb;by_cases B:k<L.length
  .obtain⟨b,off,rfl,O⟩:=Y.out k B;have q0:=dV HB.out O.path;have q1:=dV HB.out O.name;have q2:=dV HB.out O.text;have q3:=dV HB.out O.gw;have q4:=dV HB.out O.gK
   have HE:fD (jZ (L.take (k+1))=max (jZ (L.take k)) L[k].gw):=by
    show _=_;rw[df B,qK,nu,show jZ []=0 from rfl];have:=pY (L.take k);omega
   go_wp2;go_roundw
   case rel=>exact⟨k+1,by omega,by go_num,by rw[HE.out],HB.out.alloc hz _⟩
   case measure=>simp[intOf]; omega
  .have HE:fD (L.take k=L):=dy (by omega);go_wp2;go_ret;exact⟨iP (by rw[HE.out]),HB.out⟩
theorem Sq(L:List gu)(d:Nat):l5 L d<=L.length:=by
 exact(List.takeWhile_sublist _).length_le
theorem Hv{d k:Nat}(B:k<=L.length)(O:∀j(h:j<k),(gM (L[j]'(by omega))).length=d)(U:∀h:k<L.length,(gM L[k]).length≠d):l5 L d=k:=by
 exact Cf _ _ k B (λj Y=>by simpa using O j Y) (λh=>by simpa using U h)
theorem yO(v:Value)(L:List gu)(d:Nat)(w:World)(h:qV w v L) :
  dX prog 180 #[v,.int .i64 d] w λe w'=>e=.returned (.int .i64 (l5 L d))/\Below w.heap.size w w':=by
 obtain⟨a,cap,rfl,hc,hm,hr⟩:=h;have HR:fD (∀i(h:i<L.length),∃b off,a=some ⟨b,off,none⟩/\sE w b (off+i*5) L[i]):=hr;unfold dW at hm;clear hr;go_enter func180,ntmps180;go_wp2;go_loopw [5] (λi wr=>∃k:Nat,k<=L.length/\i=.int .i64 k/\(∀j(h:j<k)(h':j<L.length),(gM L[j]).length=d)/\Below w.heap.size w wr) (λi _=>L.length-(intOf i).toNat)
 case atStart=>exact⟨0,eu _,rfl,λj h=>by omega,fE _ _⟩
 case round=>
  obtain⟨k,hk,rfl,ji,hb⟩:=hrel;have U:fD (Below _ _ _):=hb;have Y:fD (∀j(h:j<k)(h':j<L.length),(gM L[j]).length=d):=ji;clear hb ji;by_cases O:k<L.length
  .obtain⟨b,off,rfl,hL⟩:=HR.out k O;have q0:=dV U.out hL.path;have ab:(k:Int)<(L.length:Int):=by omega
   clear hL;by_cases B:(gM L[k]).length=d
   .have HD:fD ((gM L[k]).length=d):=B;have aa:(((gM L[k]).length:Int)==(d:Int))=true:=beq_iff_eq.2 (by omega);clear B;go_wp2;go_roundw
    case rel=>exact⟨k+1,by omega,by go_num,λj h h'=>by
     by_cases e:j=k
     .subst e; exact HD.out
     .exact Y.out j (by omega) h',U.out⟩
    case measure=>simp[intOf]; omega
   .have HE:fD (l5 L d=k):=Hv hk (λj h=>Y.out j h (by omega)) (λ_=>B);have aa:(((gM L[k]).length:Int)==d)=false:=beq_eq_false_iff_ne.2 (by omega);go_wp2;go_ret;exact⟨iP (by rw[HE.out]),U.out⟩
  .have HE:fD _:=Hv hk (λj h=>Y.out j h _) (λh=>absurd h O);go_wp2;go_ret;exact⟨iP (by rw[HE.out]),U.out⟩
theorem zE{B:Type}{L:List B}(h:L≠[]):0<L.length:=List.length_pos_iff.2 h
theorem A3{b:Wd}(h1:n<=a.length)(U:a.take n=b.take n)(Y:n=a.length\/n=b.length\/a.getD n 0≠b.getD n 0):(vi a b).length=n:=by
 have hp:=ua a b _ (dQ ..) (by rw[U]; exact dQ ..);have hl:=hp.length_le;rw[cp]at hl;have O:=um a b;have hb:=rP a b;rcases Nat.lt_or_ge n _ with B|aa
 .have e1:=GR O n B;have e2:=GR hb n B;have:=O.length_le;have:=hb.length_le;rcases Y with h|h|h
  .omega
  .omega
  .exact absurd (e1.trans e2.symm) h
 .omega
theorem Ma{b:Wd}(O:n<a.length)(U:n<b.length)(Y:a.take n=b.take n)(B:a.getD n 0=b.getD n 0):a.take (n+1)=b.take (n+1):=by
 rw[df O,df U,Y];rw[dk,dd O,dk,dd U]at B;simp only[Option.getD_some]at B;rw[B]
theorem O1(h:L≠[]):kL L=vi (gM (L[0]'(zE h))) (gM (L[L.length-1]'(by have:=zE h; omega))):=by
 cases L with
 |nil=>exact absurd rfl h
 |cons e C=>
  unfold kL;simp only[dA];rw[List.getLast_eq_getElem]
theorem J7(v:Value)(L:List gu)(w:World)(h:qV w v L)(aa:L≠[])(U:∀e∈L,(gM e).length<=24) :
  dX prog 183 #[v] w λe w'=>e=.returned (.int .i64 (kL L).length)/\Below w.heap.size w w':=by
 obtain⟨a,cap,rfl,hc,hm,hr⟩:=h;unfold dW at hm;have O:=zE aa;obtain⟨b,off,rfl,h0⟩:=hr 0 O;obtain⟨b',al,e',h1⟩:=hr (L.length-1) (by omega);simp only[fM,go,and_true]at e';obtain⟨rfl,rfl⟩:=e';have HC:fD (kL L=vi (gM (L[0]'O)) (gM (L[L.length-1]'(by omega)))):=O1 aa;have hA:(gM (L[0]'O)).length<=24:=U _ (ch _);have hB:(gM (L[L.length-1]'(by omega))).length<=24:=U _ (ch _);have c0:=h0.path;have c1:=h1.path;rw[ez,ey]at c0;obtain⟨m,ad⟩:∃m,L.length=m+1:=⟨L.length-1,by omega⟩;have Y:L.length-1=m:=by omega
 rw[show off+(L.length-1)*5=off+m*5 by rw[Y]]at c1;clear h0 h1 hr U;generalize ae:gM (L[0]'O)=A at *;generalize af:gM (L[L.length-1]'(by omega))=B at *;clear ae af aa Y O;rw[ad]at hc⊢;have an:IntKind.i64.wrap (((m+1:Nat):Int)-1)=(m:Int):=by simp only[fR]; omega
 have am:IntKind.i64.wrap ((m:Int)+1-1)=(m:Int):=by simp only[fR]; omega
 have i0:(0:Int)<(m:Int)+1:=by omega
 have i1:(m:Int)<(m:Int)+1:=by omega
 have i2:(0:Int)<=(m:Int):=by omega
 have ao:(⟨A.toArray⟩:ByteArray).size=A.length:=by show A.toArray.size=_; simp
 have ap:(⟨B.toArray⟩:ByteArray).size=B.length:=by show B.toArray.size=_; simp
 have ag:fD (∀(n:Nat)(h:n<(⟨A.toArray⟩:ByteArray).size),(⟨A.toArray⟩:ByteArray)[n]=A.getD n 0):=λn h=>(nO ⟨A.toArray⟩ n h).symm;have ah:fD (∀(n:Nat)(h:n<(⟨B.toArray⟩:ByteArray).size),(⟨B.toArray⟩:ByteArray)[n]=B.getD n 0):=λn h=>(nO ⟨B.toArray⟩ n h).symm;generalize (⟨A.toArray⟩:ByteArray)=bA at *;generalize (⟨B.toArray⟩:ByteArray)=bB at *;go_enter func183,ntmps183;go_wp2_with fail;go_quiet (fail);go_wp2;go_loopw [5] (λi wr=>∃n:Nat,n<=A.length/\n<=B.length/\i=.int .i64 n/\A.take n=B.take n/\Below w.heap.size w wr) (λi _=>A.length-(intOf i).toNat)
 case atStart=>exact⟨0,eu _,eu _,rfl,by simp,lW (fE _ _) _⟩
 case round=>
  obtain⟨n,ab,aq,rfl,ac,hb⟩:=hrel;have HB:fD (Below _ _ _):=hb;have HE:fD (A.take n=B.take n):=ac;clear hb ac;by_cases h1:n<A.length
  .have ai:(n:Int)<(A.length:Int):=by omega
   by_cases h2:n<B.length
   .have aj:(n:Int)<(B.length:Int):=by omega
    have gA:=ag.out n (by omega);have gB:=ah.out n (by omega);by_cases h3:A.getD n 0=B.getD n 0
    .have HT:fD (A.take (n+1)=B.take (n+1)):=Ma h1 h2 HE.out h3;have ak:(((bA[n]'(by omega)).toNat:Int)==((bB[n]'(by omega)).toNat:Int))=true:=beq_iff_eq.2 (by rw[gA,gB,h3]);clear h3 gA gB;go_wp2_with fail;go_quiet (fail);go_wp2;go_roundw
     case rel=>exact⟨n+1,by omega,by omega,by go_num,HT.out,lW HB.out _⟩
     case measure=>simp[intOf]; omega
    .have HT:fD ((kL L).length=n):=by show _=_; rw[HC.out]; exact A3 ab HE.out (Or.inr (Or.inr h3))
     have ak:(((bA[n]'(by omega)).toNat:Int)==((bB[n]'(by omega)).toNat:Int))=false:=beq_eq_false_iff_ne.2 (by
      rw[gA,gB];intro hh
      exact h3 (UInt8.toNat_inj.1 (by omega)))
     clear h3 gA gB;go_wp2_with fail;go_quiet (fail);go_wp2;go_ret;exact⟨iP (by rw[HT.out]),lW HB.out _⟩
   .have HT:fD ((kL L).length=n):=by show _=_; rw[HC.out]; exact A3 ab HE.out (Or.inr (Or.inl (by omega)))
    have aj:decide ((n:Int)<(B.length:Int))=false:=decide_eq_false (by omega);go_wp2_with fail;go_quiet (fail);go_wp2;go_ret;exact⟨iP (by rw[HT.out]),lW HB.out _⟩
  .have HT:fD ((kL L).length=n):=by show _=_; rw[HC.out]; exact A3 ab HE.out (Or.inl (by omega))
   have ai:decide ((n:Int)<(A.length:Int))=false:=decide_eq_false (by omega);go_wp2_with fail;go_quiet (fail);go_wp2;go_ret;exact⟨iP (by rw[HT.out]),lW HB.out _⟩
end
section
open Go.RowKit Go.Maps
variable {Cs:List (List gu)} {L:List gu} {v:Value} {w w':World}
theorem Nr(d:Nat)(e:gu)(l:List gu):∃g gs,runs d (e::l)=(e::g)::gs:=by
 unfold runs;split
 .exact⟨[],[],rfl⟩
 .exact⟨[],_,rfl⟩
 .split
  .exact⟨_,_,rfl⟩
  .exact⟨[],_,rfl⟩
theorem Qx(d:Nat):∀(X:List gu)(j:Nat),j<X.length->(∀i,i<j->∀(Y:i+1<X.length),iV d (X[i]'(by omega))=iV d X[i+1])->(∀h:j+1<X.length,iV d (X[j]'(by omega))≠iV d X[j+1])->
  runs d X=X.take (j+1)::runs d (X.drop (j+1)):=by
 intro X
 induction X with
 |nil=>intro j h; simp at h
 |cons e l ih=>
  intro j hj hs hn
  cases j with
  |zero=>
   cases l with
   |nil=>simp[runs]
   |cons x l'=>
    obtain⟨g,gs,hg⟩:=Nr d x l';have B:=hn (by simp);simp only[dA,dJ]at B;simp only[dC,List.take_zero,dM,List.drop_zero];rw[runs,hg];simp only;rw[if_neg B]
  |succ j=>
   have O:=by simpa using hj
   have h1:=ih j O (λi h Y=>by have:=hs (i+1) (by omega) (by simpa using Y); simpa using this) (λh=>by have:=hn (by simpa using h); simpa using this)
   cases l with
   |nil=>simp at O
   |cons x l'=>
    have U:=hs 0 (by omega) (by simp);simp only[dA,dJ]at U;rw[dC,dM,runs,h1,dC];simp only;rw[if_pos U]
theorem Bu{d:Nat}{st k:Nat}(O:st<=k)(hk:k<L.length)(U:∀i,st<=i->i<k->∀(B:i+1<L.length),iV d (L[i]'(by omega))=iV d L[i+1])(Y:∀h:k+1<L.length,iV d (L[k]'(by omega))≠iV d L[k+1]) :
  runs d (L.drop st)=(L.drop st).take (k+1-st)::runs d (L.drop (k+1)):=by
 have h:=Qx d (L.drop st) (k-st) (by simp; omega) (λi hi B=>by
  have:=U (st+i) (by omega) (by omega) (by omega)
  simpa[Nat.add_assoc]using this) (λB=>by
  rw[di]at B;have:=Y (by omega);have e:st+(k-st)=k:=by omega
  have e1:st+(k-st+1)=k+1:=by omega
  simpa[e,e1]using this)
 rw[h,List.drop_drop,show st+(k-st+1)=k+1 by omega,show k-st+1=k+1-st by omega]
theorem qV.sub{b off n cap:Nat}(h:qV w (.slice (some ⟨b,off,none⟩) n cap) L)(s t:Nat)(U:s<=t)(ht:t<=L.length):qV w (.slice (some ⟨b,off+s*5,none⟩) (t-s) (cap-s)) ((L.drop s).take (t-s)):=by
 obtain⟨a,c,e,h1,h2,Y⟩:=h;obtain⟨rfl,_,rfl⟩:=e;have B:((L.drop s).take (t-s)).length=t-s:=by simp; omega
 refine⟨some _,cap-s,by rw[B],by omega,by omega,λi hi=>?_⟩;rw[B]at hi;obtain⟨b',O,e',hL⟩:=Y ..;obtain⟨rfl,rfl⟩:=e';refine⟨b,off+s*5,rfl,?_⟩;have e2:((L.drop s).take _)[i]'(by rw[B]; exact hi)=L[s+i]'(by omega):=by simp
 rw[e2,show off+s*5+i*5=off+(s+i)*5 by omega];exact hL
def nM(w:World)(v:Value)(Cs:List (List gu)):Prop:=∃vs:List Value,w.ownsRow 0 190 1 v Cs.length vs/\Zip (qV w) vs Cs
theorem nM.below(h:nM w v Cs)(hb:Below w.heap.size w w'):nM w' v Cs:=by
 obtain⟨vs,B,O⟩:=h;exact⟨vs,iz B (λk U=>hb.block k (B.lt k U).2),O.mono (λu l Y=>Y.below hb)⟩
theorem nM.wrote{u u':Value}{base:Nat}{l:Wd}(h:nM w v Cs)(O:jh w base u l)(U:iG w w' u u'):nM w' v Cs:=by
 obtain⟨vs,B,h2⟩:=h;exact⟨vs,iz B (λk Y=>U.1.block k (B.lt k Y).2 (λe=>wj B O (by decide) k Y e)),h2.mono (λu l hu=>hu.wrote O U)⟩
theorem TO:(prog.info? 190).map (λi=>(i.zero,i.size,i.bytes))=some (some (.slice none 0 0),1,24):=by kernel_rfl
theorem N7(v:Value)(L:List gu)(d:Nat)(w:World)(h:qV w v L)(hk:∀e∈L,d<(gM e).length)(aw:∀e∈L,(gM e).length<=24)(hl:L.length<=1048576) :
  dX prog 182 #[v,.int .i64 d] w λe w'=>∃v',e=.returned v'/\nM w' v' (runs d L)/\Below w.heap.size w w':=by
 obtain⟨i0,hi,ax,ay,az⟩:=ed TO;obtain⟨a,cap,rfl,hc,hm,hr⟩:=id h;have HL:fD (qV _ _ _):=h;have HR:fD (∀i(h:i<L.length),∃b off,a=some ⟨b,off,none⟩/\sE w b (off+i*5) L[i]):=hr;have HK:fD (∀e∈L,d<(gM e).length):=hk;have a0:fD (∀e∈L,(gM e).length<=24):=aw;unfold dW at hm;clear hr h hk aw;go_enter func182,ntmps182;go_wp2;go_loopw [5,6,11] (λv s i wr=>∃(k st:Nat)(U:List (List gu))(vs:List Value),k<=L.length/\st<=k/\i=.int .i64 k/\s=.int .i64 st/\U.length<=k/\wr.ownsRow w.heap.size 190 1 v U.length vs/\Zip (qV w) vs U/\runs d L=U++runs d (L.drop st)/\(∀i(h:st<=i)(h2:i<k)(h':i+1<L.length),iV d (L[i]'(by omega))=iV d L[i+1])/\(k=L.length->st=k)/\Below w.heap.size w wr) (λ_ _ i _=>L.length-(intOf i).toNat)
 case atStart=>exact⟨0,0,[],[],eu _,et _,rfl,rfl,et _,fN _ _ _ _,Zip.nil _,by simp,λi h h2=>by omega,λ_=>rfl,fE _ _⟩
 case round=>
  obtain⟨k,st,U,vs,aL,a3,rfl,rfl,aM,aa,al,ab,ac,ad,hb⟩:=hrel;have HB:fD (Below _ _ _):=hb;have HO:fD (wr.ownsRow w.heap.size 190 1 _ U.length vs):=aa;have HZ:fD (Zip _ _ _):=al;have ah:fD (runs d L=U++runs d (L.drop st)):=ab;have HS:fD (∀i(h:st<=i)(h2:i<k)(h':i+1<L.length),iV d (L[i]'(by omega))=iV d L[i+1]):=ac;obtain⟨aP,cP,rfl,aN⟩:=gU aa;have hz:=hb.size;clear hb aa al ab ac;by_cases ae:k<L.length
  .obtain⟨b,off,rfl,hL⟩:=HR.out k ae;have q0:=dV HB.out hL.path;have aC:(k:Int)<(L.length:Int):=by omega
   have a4:fD (qV w (.slice (some ⟨b,off+st*5,none⟩) (k+1-st) (cap-st)) ((L.drop st).take (k+1-st))):=HL.out.sub st (k+1) (by omega) (by omega);have aO:=HK.out _ (ch ae);clear hL ad;by_cases af:k+1=L.length
   .have a7:(((k:Int)+1)==(L.length:Int))=true:=beq_iff_eq.2 (by omega);have HC:fD (runs d (L.drop st)=(L.drop st).take (k+1-st)::runs d (L.drop (k+1))):=Bu a3 ae (λi h h2 h'=>HS.out i h h2 h') (λh=>by omega);have a5:st<cap:=by omega
    have ai:(k:Int)+1<=(cap:Int):=by omega
    clear af;go_wp2_with fail;go_quiet (fail);have ag:fD ((wr.drewN nq).ownsRow w.heap.size 190 1 (.slice aP U.length cP) U.length vs):=HO.out;have an:fD (Below w.heap.size w (wr.drewN nq)):=lW HB.out nq;have ao:w.heap.size<=(wr.drewN nq).heap.size:=hz;clear HO;generalize wr.drewN nq=wd at *
    go_wp2_with (first
     |(at_builtin; refine jc _ rfl _ _ 239 rfl w.heap.size 190 i0 (.slice none 0 0) 24 eT hi ax ay az rfl _ _ _ rfl (ag.out.alloc _) ⟨wd.heap.size,0,none⟩ _ rfl lr rfl ?c1 ?c2 ?c3 ?_))
    case c1=>omega
    case c2=>unfold dW; omega
    case c3=>first|omega|(simp; omega)
    intro v' w1 B O _
    have ap:fD (w1.ownsRow w.heap.size 190 1 v' (U++[(L.drop st).take (k+1-st)]).length (vs++[.slice (some ⟨b,off+st*5,none⟩) (k+1-st) (cap-st)])):=by
     show w1.ownsRow _ _ _ _ _ _;rw[cc];exact B
    have aq:fD (Below w.heap.size w w1):=(an.out.alloc ao _).grown O (by simp; omega) (λb hb=>(ag.out.lt b hb).1);have ar:fD (Zip (qV w) (vs++[.slice (some ⟨b,off+st*5,none⟩) (k+1-st) (cap-st)]) (U++[(L.drop st).take (k+1-st)])):=HZ.out.append (Zip.one a4.out);clear B O;go_wp2;go_roundw
    case rel=>
     refine⟨k+1,k+1,_,_,by omega,et _,by go_num,by go_num,by simp; omega,ap.out,ar.out,?_,λi h h2=>by omega,λ_=>rfl,aq.out⟩;rw[ah.out,HC.out];simp
    case measure=>simp[intOf]; omega
   .have a7:(((k:Int)+1)==(L.length:Int))=false:=beq_eq_false_iff_ne.2 (by omega);have ai:k+1<L.length:=by omega
    have aD:(k:Int)+1<(L.length:Int):=by omega
    obtain⟨b',aE,e',a6⟩:=HR.out (k+1) ai;simp only[fM,go,and_true]at e';obtain⟨rfl,rfl⟩:=e';have q1:=dV HB.out a6.path;have aF:=HK.out _ (ch ai);have aG:=a0.out _ (ch ae);have aH:=a0.out _ (ch ai);have a8:(⟨(gM L[k]).toArray⟩:ByteArray).size=(gM L[k]).length:=by show(gM L[k]).toArray.size=_; simp
    have a9:(⟨(gM L[k+1]).toArray⟩:ByteArray).size=(gM L[k+1]).length:=by show(gM L[k+1]).toArray.size=_; simp
    have gA:∀h:d<(⟨(gM L[k]).toArray⟩:ByteArray).size,(⟨(gM L[k]).toArray⟩:ByteArray)[d]=iV d L[k]:=λh=>(nO ⟨(gM L[k]).toArray⟩ d h).symm;have gB:∀h:d<(⟨(gM L[k+1]).toArray⟩:ByteArray).size,(⟨(gM L[k+1]).toArray⟩:ByteArray)[d]=iV d L[k+1]:=λh=>(nO ⟨(gM L[k+1]).toArray⟩ d h).symm;generalize (⟨(gM L[k]).toArray⟩:ByteArray)=bA at *;generalize (⟨(gM L[k+1]).toArray⟩:ByteArray)=bB at *;have au:d<bA.size:=by omega
    have av:d<bB.size:=by omega
    have aI:(d:Int)<(bA.size:Int):=by omega
    have aJ:(d:Int)<(bB.size:Int):=by omega
    have aj:=gA au;have ak:=gB av;have aQ:IntKind.i64.wrap ((k:Int)+1)=((k+1:Nat):Int):=by simp only[fR]; omega
    have aK:((k+1:Nat):Int)<(L.length:Int):=by omega
    have a5:st<cap:=by omega
    have aR:(k:Int)+1<=(cap:Int):=by omega
    clear a6 a8 a9 af gA gB;by_cases Y:iV d L[k]=iV d L[k+1]
    .have a':(((bA[d]'au).toNat:Int) != ((bB[d]'av).toNat:Int))=false:=by rw[aj,ak,Y]; simp
     have aA:fD (iV d L[k]=iV d L[k+1]):=Y;clear Y aj ak;go_wp2_with fail;go_quiet (fail);go_wp2;go_roundw
     case rel=>
      refine⟨k+1,st,U,vs,by omega,by omega,by go_num,rfl,by omega,HO.out,HZ.out,ah.out,λi h h2 h'=>?_,λh=>by omega,lW HB.out _⟩;by_cases e:i=k
      .subst e; exact aA.out
      .exact HS.out i h (by omega) h'
     case measure=>simp[intOf]; omega
    .have a':(((bA[d]'au).toNat:Int) != ((bB[d]'av).toNat:Int))=true:=by
      rw[aj,ak,bne_iff_ne];intro hh;exact Y (UInt8.toNat_inj.1 (by omega))
     have HC:fD (runs d (L.drop st)=(L.drop st).take (k+1-st)::runs d (L.drop (k+1))):=Bu a3 ae (λi h h2 h'=>HS.out i h h2 h') (λ_=>Y);clear Y aj ak;go_wp2_with fail;go_quiet (fail);have ag:fD ((wr.drewN nq).ownsRow w.heap.size 190 1 (.slice aP U.length cP) U.length vs):=HO.out;have an:fD (Below w.heap.size w (wr.drewN nq)):=lW HB.out nq;have ao:w.heap.size<=(wr.drewN nq).heap.size:=hz;clear HO;generalize wr.drewN nq=wd at *
     go_wp2_with (first
      |(at_builtin; refine jc _ rfl _ _ 239 rfl w.heap.size 190 i0 (.slice none 0 0) 24 eT hi ax ay az rfl _ _ _ rfl (ag.out.alloc _) ⟨wd.heap.size,0,none⟩ _ rfl lr rfl ?c1 ?c2 ?c3 ?_))
     case c1=>omega
     case c2=>unfold dW; omega
     case c3=>first|omega|(simp; omega)
     intro v' w1 B O _
     have ap:fD (w1.ownsRow w.heap.size 190 1 v' (U++[(L.drop st).take (k+1-st)]).length (vs++[.slice (some ⟨b,off+st*5,none⟩) (k+1-st) (cap-st)])):=by
      show w1.ownsRow _ _ _ _ _ _;rw[cc];exact B
     have aq:fD (Below w.heap.size w w1):=(an.out.alloc ao _).grown O (by simp; omega) (λb hb=>(ag.out.lt b hb).1);have ar:fD (Zip (qV w) (vs++[.slice (some ⟨b,off+st*5,none⟩) (k+1-st) (cap-st)]) (U++[(L.drop st).take (k+1-st)])):=HZ.out.append (Zip.one a4.out);clear B O;go_wp2;go_roundw
     case rel=>
      refine⟨k+1,k+1,_,_,by omega,et _,by go_num,by go_num,by simp; omega,ap.out,ar.out,?_,λi h h2=>by omega,λ_=>rfl,aq.out⟩;rw[ah.out,HC.out];simp
     case measure=>simp[intOf]; omega
  .have am:k=L.length:=by omega
   have aB:=ad am
   have HE:fD (runs d L=U):=by
    show _=_;rw[ah.out,aB,am,List.drop_length];simp[runs]
   clear ad;go_wp2;go_ret;refine⟨_,rfl,?_,HB.out⟩;rw[HE.out];exact⟨vs,mA HO.out (eu _),HZ.out.mono (λu l hu=>hu.below HB.out)⟩
end
section
open Go.RowKit Go.Maps
variable {L:List gu} {n:Nat} {a:Option Addr} {p:Wd} {w:World}
def VF(f:Nat):Prop:=∀(base:Nat)(v:Value)(l:Wd)(label:ByteArray)(p:Wd)(B:Value)(L:List gu)(w:World),jh w base v l->qV w B L->base<=w.heap.size->(∀e∈L,KZ e/\p <+: gM e)->jN L->L.length<=255->p.length<=24->25<=f+p.length->
  l.length+(gS label.data.toList++kD f p.length L).length<=549755813888->label.size<=1099511627776->
  dX prog 132 #[v,.string label,.int .i64 p.length,B] w (Pc base w v l (gS label.data.toList++kD f p.length L))
theorem qV.tail{cap:Nat}(h:qV w (.slice a n cap) L)(k:Nat)(U:k<=L.length):qV w (.slice (a.map λx=>x.add (k*5)) (L.length-k) (cap-k)) (L.drop k):=by
 obtain⟨Y,c',e,h1,h2,B⟩:=h;simp only[fL]at e;refine⟨_,cap-k,by rw[di],by rw[di]; omega,by omega,λi hi=>?_⟩;obtain⟨b,off,e,O⟩:=B ..;refine⟨b,off+k*5,by simp only[Option.map_some,Addr.add]; split<;>simp_all,?_⟩;rw[List.getElem_drop,show off+k*5+i*5=off+(k+i)*5 by omega];exact O
theorem qV.UH{c k:Nat}(h:qV w (.slice a n c) L)(B:c=k)(U:k<=L.length):qV w (.slice a (L.length-k) 0) (L.drop k):=by
 obtain⟨Y,c',e,h1,h2,h3⟩:=h;simp only[fL]at e;have O:L.drop k=[]:=dK (by omega);rw[O];exact⟨a,0,by simp; omega,et _,eu _,nofun⟩
theorem VY{hn:Nat}{C:List gu}(hL:jN L)(hp:∀e∈L,p <+: gM e)(hS:∀e∈L.drop hn,gM e≠p)(hC:C∈runs p.length (L.drop hn)) :
  C≠[]/\jN C/\(∀e∈C,e∈L/\kL C <+: gM e)/\p <+: kL C/\p.length<(kL C).length/\C.length<=L.length:=by
 obtain⟨hs,r1,r2,r3,r4,r5,r6⟩:=zR p _ (gt (List.drop_sublist hn L) hL) (λe Y=>⟨hp e (dt Y),hS e Y⟩);rw[r1]at hC;obtain⟨x,hx,rfl⟩:=dn.1 hC;have B:=(r3 x hx).1;have aa:=O0 _ B (r5 x hx)
 have O:p++[x.1] <+: kL x.2:=by
  rw[<-aa];refine(s4 B).2 _ (λs hs=>?_);obtain⟨e,Y,rfl⟩:=dn.1 hs;exact(r3 x hx).2 e Y
 have U:x.2.Sublist (L.drop hn):=by
  rw[<-r4];exact List.sublist_flatten_of_mem (dn.2 ⟨x,hx,rfl⟩)
 refine⟨B,r5 x hx,λe Y=>⟨dt (U.subset Y),?_⟩,(List.prefix_append ..).trans O,?_,?_⟩
 .rw[<-aa];exact(s4 B).1 _ (dn.2 ⟨e,Y,rfl⟩)
 .have:=O.length_le;simp at this;omega
 .have h1:=U.length_le;rw[di]at h1;omega
theorem Q7{s:Wd}(h:p <+: s)(B:s≠p):p.length<s.length:=by
 have O:=h.length_le;by_cases e:p.length=s.length
 .exact absurd (h.eq_of_length e).symm B
 .omega
theorem OB(d:Nat):∀L:List gu,(runs d L).length<=L.length:=by
 intro L
 induction L with
 |nil=>simp[runs]
 |cons e l B=>
  unfold runs;split
  .simp
  .next h=>rw[h]at B; simp at B⊢; omega
  .next h=>
   rw[h]at B;split
   .simp at B⊢; omega
   .simp at B⊢; omega
theorem I2(f d:Nat)(L:List gu):kD (f+1) d L=kF (jZ L)++(u8 (l5 L d)::((L.take (l5 L d)).flatMap qh++(u8 (runs d (L.drop (l5 L d))).length::(runs d (L.drop (l5 L d))).flatMap λC=>gS ((kL C).drop d)++kD f (kL C).length C))):=rfl
theorem TM:∀f,VF f:=by
 intro f
 induction f with
 |zero=>intro base v l label p vL L w _ _ _ _ _ _ ce cf; omega
 |succ f ih=>
  intro base v l label p vL L w hO hL aV aW b2 cz ce cf aM b3;obtain⟨i0,hi,b4,b5,b6⟩:=ed IC;obtain⟨a,c,rfl⟩:=hO.form;obtain⟨aL,cL,rfl,cK,hmL,cg⟩:=id hL;have ci:fD (VF f):=ih;have af:fD (∀e∈L,KZ e/\p <+: gM e):=aW;have b8:fD (jN L):=b2;have b9:fD (qV _ _ _):=hL;have b':fD (jh _ _ _ _):=hO;obtain⟨N,hN⟩:∃N,N=l++(gS label.data.toList++kD (f+1) p.length L):=⟨_,rfl⟩;have HN:fD (N=l++(gS label.data.toList++kD (f+1) p.length L)):=hN;have cM:N.length<=549755813888:=by rw[hN,cc]; exact aM
  have cj:0<=jZ L:=pY L;have ck:jZ L<=1000000:=LC (λe he=>(aW e he).1.2.2.2.2.2.1);have aX:=Sq L p.length;have bA:=mC base _ l label w hO (by have:=congrArg dU hN; simp at this; omega) b3 aV;unfold dW at hmL;clear ih aW b2 hL hO aM hN cg;go_enter func132,ntmps132;go_wp2_with fail;refine bA.mono ?_;rintro e1 w1 ⟨v1,rfl,ay,az⟩;obtain⟨L1,aY⟩:∃L1,L1=l++gS label.data.toList:=⟨_,rfl⟩;have bB:fD (L1=l++gS label.data.toList):=aY;rw[<-aY]at ay;have ai:fD (qV w1 (.slice aL L.length cL) L):=b9.out.wrote b'.out az;have bD:fD (iG _ _ _ _):=az;obtain⟨a1,c1,rfl⟩:=ay.form;have bE:fD (jh _ _ _ _):=ay;have c':=az.1.size;have hG:=DY _ L w1 ai.out;clear bA ay az aY b9 b';go_wp2_with fail;refine hG.mono ?_;rintro e2 w2 ⟨rfl,aj⟩;have aZ:fD (jh w2 base (.slice a1 L1.length c1) L1):=bE.out.below aj;have aN:fD (qV w2 (.slice aL L.length cL) L):=ai.out.below aj;have bF:fD (iG w w2 (.slice a l.length c) (.slice a1 L1.length c1)):=bD.out.trans (iG.below aj _);have cA:=aj.size;have cN:L1.length<=N.length:=by rw[HN.out,bB.out]; simp
  have bG:=r7 base _ L1 (jZ L) w2 aZ.out (by omega) cj ck (by omega);clear hG aj bE ai bD;go_wp2_with fail;refine bG.mono ?_;rintro e3 w3 ⟨v3,rfl,a0,a4⟩;obtain⟨L3,ba⟩:∃L3,L3=L1++kF (jZ L):=⟨_,rfl⟩;have cl:fD (L3=L1++kF (jZ L)):=ba;rw[<-ba]at a0;have ak:fD (qV w3 (.slice aL L.length cL) L):=aN.out.wrote aZ.out a4;have bH:fD (iG w w3 (.slice a l.length c) v3):=bF.out.trans a4;obtain⟨a3,c3,rfl⟩:=a0.form;have bI:fD (jh _ _ _ _):=a0;have cB:=a4.1.size;have hC:=yO _ L p.length w3 ak.out;clear bG a0 a4 ba aZ aN bF;go_wp2_with fail;refine hC.mono ?_;rintro e4 w4 ⟨rfl,al⟩;have bc:fD (jh w4 base (.slice a3 L3.length c3) L3):=bI.out.below al;have aO:fD (qV w4 (.slice aL L.length cL) L):=ak.out.below al;have bJ:fD (iG w w4 (.slice a l.length c) (.slice a3 L3.length c3)):=bH.out.trans (iG.below al _);have cD:=al.size;obtain⟨Y,a'⟩:∃Y,l5 L p.length=Y:=⟨_,rfl⟩;have HH:fD (l5 L p.length=Y):=a';rw[a']at aX⊢;obtain⟨Cs,bd⟩:∃Cs,Cs=runs p.length (L.drop Y):=⟨_,rfl⟩;have be:fD (Cs=runs p.length (L.drop Y)):=bd
  have bK:fD (N=L3++[u8 Y]++((L.take Y).flatMap qh++(u8 Cs.length::Cs.flatMap λC=>gS ((kL C).drop p.length)++kD f (kL C).length C))):=by
   show _=_;rw[HN.out,cl.out,bB.out,I2,bd,a'];simp
  clear bd;have cO:L3.length+1<=N.length:=by rw[bK.out]; simp
  clear hC al bI ak bH a'
  go_wp2_with (first
   |(at_builtin; refine jk _ rfl _ _ 60 rfl base 5 i0 (.int .u8 0) 1 e6 hi b4 b5 b6 rfl _ _ _ rfl (bc.out.alloc _) _ [.int .u8 (Y:Int)] rfl (Rd.one lr) (by simp[fS]) ?c1 ?c2 ?c3 ?_))
  case c1=>simp; omega
  case c2=>unfold dW; simp; omega
  case c3=>simp; omega
  intro v5 w5 am bf bg;obtain⟨L5,aA⟩:∃L5,L5=L3++[u8 Y]:=⟨_,rfl⟩;have cP:fD (L5=L3++[u8 Y]):=aA
  have bh:fD (N=L5++((L.take Y).flatMap qh++(u8 Cs.length::Cs.flatMap λC=>gS ((kL C).drop p.length)++kD f (kL C).length C))):=by
   show _=_;rw[bK.out,<-aA]
  have HO5:fD (jh w5 base v5 L5):=by
   show jh _ _ _ _;unfold jh;rw[aA,kI,oU,cc,show(Y:Int) % 256=Y by omega];exact am
  have HW5:fD (iG w w5 (.slice a l.length c) v5):=bJ.out.trans (iG.of bf bg);have HLv5:fD (qV w5 (.slice aL L.length cL) L):=aO.out.wrote bc.out (iG.of bf bg);obtain⟨a5,c5,rfl⟩:=HO5.out.form;have cE:=HW5.out.1.size;clear am bf bg aA bc aO bJ;go_wp2_with fail;go_loopw [0,35] (λu i wr=>∃k:Nat,k<=Y/\i=.int .i64 k/\jh wr base u (L5++(L.take k).flatMap qh)/\iG w wr (.slice a l.length c) u/\qV wr (.slice aL L.length cL) L) (λ_ i _=>Y-(intOf i).toNat)
  case atStart=>exact⟨0,eu _,rfl,by simpa using HO5.out,HW5.out,HLv5.out⟩
  case round=>
   obtain⟨k,hk,rfl,aB,bi,aP⟩:=hrel;obtain⟨L6,bj⟩:∃L6,L6=L5++(L.take k).flatMap qh:=⟨_,rfl⟩;have aD:fD (L6=L5++(L.take k).flatMap qh):=bj;rw[<-bj]at aB;obtain⟨a6,c6,rfl⟩:=aB.form;have bk:fD (jh _ _ _ _):=aB;have bl:fD (iG _ _ _ _):=bi;have ac:fD (qV _ _ _):=aP;have cF:=bi.1.size;clear aB bi aP bj HO5 HW5 HLv5;by_cases aE:k<Y
   .obtain⟨_,_,e',_,_,hr⟩:=ac.out;simp only[fL,true_and]at e';obtain⟨rfl,rfl⟩:=e';obtain⟨b,off,rfl,aa⟩:=hr k (by omega);have q0:=aa.path;have q1:=aa.name;have q2:=aa.text;have q3:=aa.gw;have q4:=aa.gK;clear aa hr;obtain⟨wa,bm⟩:∃wa,wr.alloc (.cells #[.string ⟨(gM L[k]).toArray⟩,.string ⟨L[k].name.toArray⟩,.string ⟨L[k].text.toArray⟩,.int .i64 L[k].gw,.int .i64 L[k].gK] 237)=wa:=⟨_,rfl⟩;have an:Below wr.heap.size wr wa:=by rw[<-bm]; exact(fE _ _).alloc (et _) _
    have cm:fD (wr.alloc (.cells #[.string ⟨(gM L[k]).toArray⟩,.string ⟨L[k].name.toArray⟩,.string ⟨L[k].text.toArray⟩,.int .i64 L[k].gw,.int .i64 L[k].gK] 237)=wa):=bm;have bL:fD (jh wa base (.slice a6 L6.length c6) L6):=bk.out.below an;have cn:fD (iG w wa (.slice a l.length c) (.slice a6 L6.length c6)):=bl.out.trans (iG.below an _);have bM:fD (qV wa (.slice (some ⟨b,off,none⟩) L.length cL) L):=ac.out.below an;have cQ:=an.size;have HT:fD (L.take (k+1)=L.take k++[L[k]]):=df (by omega)
    have cq:L6.length<=N.length:=by
     have e:L.take Y=L.take k++(L.take Y).drop k:=by
      conv=>lhs; rw[<-dL k (L.take Y)]
      rw[List.take_take,ev hk]
     rw[bh.out,aD.out,e];simp
    have hA:=yR base _ L6 L[k] wa bL.out (by omega) (af.out _ (ch _)).1 (by omega);unfold Bp at hA;clear an bm;go_wp2_with fail;rw[cm.out];refine hA.mono ?_;rintro e7 w7 ⟨v7,rfl,bN,bn⟩;have ao:fD (jh _ _ _ _):=bN;have aF:fD (iG w w7 (.slice a l.length c) v7):=cn.out.trans bn;have bO:fD (qV w7 (.slice (some ⟨b,off,none⟩) L.length cL) L):=bM.out.wrote bL.out bn;clear hA bN bn q0 q1 q2 q3 q4;go_wp2;go_roundw
    case rel=>
     refine⟨k+1,by omega,by go_num,?_,aF.out,bO.out⟩;have e:L5++(L.take (k+1)).flatMap qh=L6++qh L[k]:=by rw[HT.out,aD.out,du,dm]; simp only[dr,dx,dp]
     rw[e];exact ao.out
    case measure=>simp[intOf]; omega
   .have cr:k=Y:=by omega
    subst cr
    have HS:fD (∀e∈L.drop k,gM e≠p):=by
     have:=(Bm b8.out (λe he=>(af.out e he).2)).2;rw[HH.out]at this;exact this
    have ap:fD (∀e∈L,(gM e).length<=24):=λe he=>(vw (af.out e he).1).1;have bP:fD (∀(aT:Option Addr)(cT:Nat),qV wr (.slice aT (L.length-k) cT) (L.drop k)->dX prog 182 #[.slice aT (L.length-k) cT,.int .i64 p.length] wr λe w'=>∃v',e=.returned v'/\nM w' v' (runs p.length (L.drop k))/\Below wr.heap.size wr w'):=λaT cT h=>N7 _ (L.drop k) p.length wr h (λe he=>Q7 (af.out e (dt he)).2 (HS.out e he)) (λe he=>ap.out e (dt he)) (by rw[di]; omega);go_wp2_with fail
    all_goals(
     refine(bP.out _ _ (by first|exact ac.out.tail k aX|exact ac.out.UH (by omega) aX)).mono ?_;rintro e7 w7 ⟨v7,rfl,aG,aH⟩;rw[<-be.out]at aG;obtain⟨vs,aq,ad⟩:=id aG;obtain⟨a7,c7,rfl,cR⟩:=gU aq;have bQ:fD (nM _ _ _):=aG;have ao:fD (jh w7 base (.slice a6 L6.length c6) L6):=bk.out.below aH;have aF:fD (iG w w7 (.slice a l.length c) (.slice a6 L6.length c6)):=bl.out.trans (iG.below aH _);have cG:=aH.size
     have cS:Cs.length<=255:=by
      rw[be.out];have:=OB p.length (L.drop k);rw[di]at this;omega
     have cq:L6.length+1<=N.length:=by
      rw[bh.out,aD.out];simp;omega
     clear bP aG aq ad aH bk bl ac
     go_wp2_with (first
      |(at_builtin; refine jk _ rfl _ _ 60 rfl base 5 i0 (.int .u8 0) 1 e6 hi b4 b5 b6 rfl _ _ _ rfl (ao.out.alloc _) _ [.int .u8 (Cs.length:Int)] rfl (Rd.one lr) (by simp[fS]) ?c1 ?c2 ?c3 ?_))
     case c1=>simp; omega
     case c2=>unfold dW; simp; omega
     case c3=>simp; omega
     intro v8 w8 ar bo bp;obtain⟨L8,aI⟩:∃L8,L8=L6++[u8 Cs.length]:=⟨_,rfl⟩;have cU:fD (L8=L6++[u8 Cs.length]):=aI
     have bR:fD (N=L8++Cs.flatMap λC=>gS ((kL C).drop p.length)++kD f (kL C).length C):=by
      show _=_;rw[bh.out,aI,aD.out];simp
     have HO8:fD (jh w8 base v8 L8):=by
      show jh _ _ _ _;unfold jh;rw[aI,kI,oU,cc,show(Cs.length:Int) % 256=Cs.length by omega];exact ar
     have HW8:fD (iG w w8 (.slice a l.length c) v8):=aF.out.trans (iG.of bo bp);have HP8:fD (nM w8 (.slice a7 Cs.length c7) Cs):=bQ.out.wrote ao.out (iG.of bo bp);obtain⟨a8,c8,rfl⟩:=HO8.out.form;have cH:=HW8.out.1.size;clear ar bo bp aI ao bQ aF;go_wp2_with fail;go_loopw [0,57] (λu i wx=>∃k:Nat,k<=Cs.length/\i=.int .i64 k/\jh wx base u (L8++(Cs.take k).flatMap λC=>gS ((kL C).drop p.length)++kD f (kL C).length C)/\iG w wx (.slice a l.length c) u/\nM wx (.slice a7 Cs.length c7) Cs) (λ_ i _=>Cs.length-(intOf i).toNat)
     case atStart=>exact⟨0,eu _,rfl,by simpa using HO8.out,HW8.out,HP8.out⟩
     case round=>
      obtain⟨j,hj,rfl,aJ,bq,bS⟩:=hrel;obtain⟨L9,br⟩:∃L9,L9=L8++(Cs.take j).flatMap λC=>gS ((kL C).drop p.length)++kD f (kL C).length C:=⟨_,rfl⟩;have bs:fD (L9=L8++(Cs.take j).flatMap λC=>gS ((kL C).drop p.length)++kD f (kL C).length C):=br;rw[<-br]at aJ;obtain⟨a9,c9,rfl⟩:=aJ.form;have bt:fD (jh _ _ _ _):=aJ;have bu:fD (iG _ _ _ _):=bq;have bv:fD (nM _ _ _):=bS;have cI:=bq.1.size;clear aJ bq bS br HO8 HW8 HP8;by_cases aE:j<Cs.length
      .obtain⟨vs,aq,ad⟩:=id bv.out;have bw:j<vs.length:=by rw[ad.1]; exact aE
       obtain⟨b7,o7,rfl,au⟩:=lJ aq j vs[j] (dd bw)
       have bx:fD (qV wr vs[j] Cs[j]):=by
        obtain⟨u,bT,ct⟩:=ad.2 j aE;rw[dd bw]at bT;cases bT;exact ct
       have HT:fD (Cs.take (j+1)=Cs.take j++[Cs[j]]):=df aE;obtain⟨bz,aQ,O,aR,cJ,cV⟩:=VY (C:=Cs[j]) b8.out (λe he=>(af.out e he).2) HS.out (by rw[<-be.out]; exact ch _)
       have cW:L9.length+(gS ((kL Cs[j]).drop p.length)++kD f (kL Cs[j]).length Cs[j]).length<=N.length:=by
        have e:Cs=Cs.take (j+1)++Cs.drop (j+1):=(dL _ _).symm;rw[HT.out]at e;rw[bR.out,bs.out];conv=>rhs; rw[e]
        simp only[du,dr,dx,cc,dp];omega
       obtain⟨aC,cC,eC,cX,cY,bU⟩:=id bx.out;have av:fD (qV wr (.slice aC Cs[j].length cC) Cs[j]):=by have h:=bx.out; rw[eC]at h; exact h
       rw[eC]at au;have B:=zE bz;obtain⟨bC,oC,rfl,aa⟩:=bU 0 B;have q0:=aa.path;rw[ez,ey]at q0;clear aa bU bx ad aq eC bw;have aK:(kL Cs[j]).length<=24:=ew (O _ (ch B)).2.length_le (vw (af.out _ (O _ (ch B)).1).1).1;have ag:fD (∀e∈Cs[j],e∈L/\kL Cs[j] <+: gM e):=O;have cZ:(kL Cs[j]).length<=(gM Cs[j][0]).length:=(O _ (ch B)).2.length_le;have cu:(gM Cs[j][0]).length<=24:=ap.out _ (O _ (ch B)).1;have cv:fD (jN _):=aQ;have da:fD (p <+: kL Cs[j]):=aR;have bV:=J7 _ Cs[j] wr av.out bz (λe he=>ap.out e (O e he).1);have db:(⟨(gM Cs[j][0]).toArray⟩:ByteArray).size=(gM Cs[j][0]).length:=by show(gM Cs[j][0]).toArray.size=_; simp
       clear O aQ aR bz;go_wp2_with fail;refine bV.mono ?_;rintro dc aw ⟨rfl,U⟩;have cw:=dV U q0;have aS:fD (jh aw base (.slice a9 L9.length c9) L9):=bt.out.below U;have b0:fD (qV aw (.slice (some ⟨bC,oC,none⟩) Cs[j].length cC) Cs[j]):=av.out.below U;have bW:fD (nM aw (.slice (some ⟨b7,o7,none⟩) Cs.length c7) Cs):=bv.out.below U;have bX:fD (iG w aw (.slice a l.length c) (.slice a9 L9.length c9)):=bu.out.trans (iG.below U _);have cy:=U.size;clear bV U bt av bv bu q0 au;obtain⟨ae,ah⟩:∃ae,(⟨(gM Cs[j][0]).toArray⟩:ByteArray).extract p.length (kL Cs[j]).length=ae:=⟨_,rfl⟩
       have ab:ae.data.toList=(kL Cs[j]).drop p.length:=by
        have h:=(ag.out _ (ch B)).2;rw[<-ah,show(kL Cs[j]).length=p.length+((kL Cs[j]).length-p.length) by omega,KQ];show(((gM Cs[j][0]).drop p.length).take _)=_;rw[<-List.drop_take,<-List.prefix_iff_eq_take.1 h]
       have bY:fD ((⟨(gM Cs[j][0]).toArray⟩:ByteArray).extract p.length (kL Cs[j]).length=ae):=ah
       have b1:ae.size<=1099511627776:=by
        have:ae.size=ae.data.toList.length:=by simp
        rw[this,ab];simp;omega
       have hR:=ci.out base _ L9 ae (kL Cs[j]) _ Cs[j] aw aS.out b0.out (by omega) (λe he=>⟨(af.out e (ag.out e he).1).1,(ag.out e he).2⟩) cv.out (by omega) aK (by omega) (by rw[ab]; omega) b1;rw[ab]at hR;clear ah ab;go_wp2_with fail;rw[bY.out];refine hR.mono ?_;rintro de bZ ⟨v11,rfl,aU,ax⟩;have ca:fD (jh _ _ _ _):=aU;have cb:fD (iG w bZ (.slice a l.length c) v11):=bX.out.trans ax;have cd:fD (nM bZ (.slice (some ⟨b7,o7,none⟩) Cs.length c7) Cs):=bW.out.wrote aS.out ax;clear hR aU ax cw;go_wp2;go_roundw
       case rel=>
        refine⟨j+1,by omega,by go_num,?_,cb.out,cd.out⟩
        have e:(L8++(Cs.take (j+1)).flatMap λC=>gS ((kL C).drop p.length)++kD f (kL C).length C)=L9++(gS ((kL Cs[j]).drop p.length)++kD f (kL Cs[j]).length Cs[j]):=by
         rw[HT.out,bs.out,du,dm];simp only[dr,dx,dp]
        rw[e];exact ca.out
       case measure=>simp[intOf]; omega
      .have HE:fD (L9=l++(gS label.data.toList++kD (f+1) p.length L)):=by
        show _=_;rw[<-HN.out,bR.out,bs.out,dy (by omega)]
       go_wp2;go_ret;refine⟨_,rfl,?_,bu.out⟩;rw[<-HE.out]
       exact bt.out)
end
section
open Go.RowKit Go.Maps
def iL(es:List gu):List Wd:=(es.filter λe=>e.gone).map gu.name
theorem K2(l:List gu)(e:gu):iL (l++[e])=iL l++(if e.gone then [e.name]else []):=by
 unfold iL;cases h:e.gone<;>simp[h]
theorem O6(l:List gu):(iL l).length<=l.length:=by unfold iL; rw[dj]; exact List.length_filter_le ..
theorem rQ{l m:List gu}(h:l.Perm m):(iL l).Perm (iL m):=(h.filter _).map _
theorem Fi{B es:List gu}(O:(es.map gu.name).Nodup)(h:B.Perm es):(iL B).mergeSort (λx y=>decide (x<=y))=iL (jd es):=by
 have hp:((iL B).mergeSort (λx y=>decide (x<=y))).Perm _:=(List.mergeSort_perm ..).trans (rQ (h.trans (jA es).symm));refine g6 (le:=λa b=>a<=b) (λa b _ _ U Y=>List.le_antisymm U Y) ?_ ?_ hp
 .have:=List.pairwise_mergeSort (le:=λx y=>decide (x<=y)) (by
   intro a b c U Y;simp only[decide_eq_true_eq]at *
   exact List.le_trans U Y) (by
   intro a b;simp only[Bool.or_eq_true,decide_eq_true_eq]
   exact List.le_total a b) (iL B)
  exact this.imp (λh=>by simpa using h)
 .unfold iL;rw[dP];refine gv ?_ (gt dD (p8 es O));intro a b hab;unfold EF at hab;rw[bytesLess_eq,decide_eq_true_eq]at hab;exact List.le_of_lt hab
theorem LW(base:Nat)(a:Option Addr)(c:Nat)(G:List Wd)(w:World)(U:w.ownsRow base 9 1 (.slice a G.length c) G.length (gr G))(hl:G.length<=1099511627776) :
  dX prog 162 #[.slice a G.length c] w λe w'=>e=.returned (.tuple #[])/\w'.ownsRow base 9 1 (.slice a G.length c) G.length (gr (G.mergeSort λx y=>decide (x<=y)))/\Below base w w':=by
 rcases U.2 with⟨he,hn⟩|⟨g,cap,aa,he,Y,hb,h1,h2,h3,h4⟩
 .have hG:=dI.1 (by simpa using hn);subst hG;have B:=Any.slices_Sort_string_none z8 a c w;refine B.mono ?_;rintro e w' ⟨rfl,rfl⟩;exact⟨rfl,by simpa using U,fE ..⟩
 .obtain⟨rfl,_,rfl⟩:=he;have B:=Any.slices_Sort_string z8 g 0 c G w (holds_of_block hb (by simpa[gr]using h4)) (fH.1 hb).1 (by omega);refine B.mono ?_;rintro e w' ⟨rfl,n,os,rfl⟩;refine⟨rfl,?_,?_⟩
  .exact ownsRow_sorted (by simp) Y hb h1 h2 h3
  .have O:=grownBy_sorted (w:=w) (g:=g) (n:=n) (os:=os) (G.mergeSort λx y=>decide (x<=y)).toArray;exact⟨O.os,O.tape,O.output,O.size,λk hk=>O.block k (er hk (by have:=(fH.1 hb).1; omega)) (by intro e; cases e; omega)⟩
theorem ye{w:World}{v:Value}{t:dZ}{g:Nat}(B:g=w.heap.size):(w.alloc (.cells #[v] t)).cell? ⟨g,0,none⟩=some v:=by subst B; exact lr
theorem Md:∀S:List Wd,(∀x∈S,x.length<=255)->(S.flatMap gS).length<=S.length*256:=by
 intro S
 induction S with
 |nil=>simp
 |cons x S B=>
  intro h;have U:=B (λy O=>h y (List.mem_cons_of_mem _ O));have Y:=h x (dN ..);rw[dr,cc,dR];have:(gS x).length=x.length+1:=by simp[gS]
  omega
theorem iG.low{w0 w w':World}{v v':Value}{base:Nat}{l:Wd}(h:iG w w' v v')(hb:Below w0.heap.size w0 w)(B:jh w base v l)(U:w0.heap.size<=base):Below w0.heap.size w0 w':=by
 refine hb.trans ⟨h.1.os,h.1.tape,h.1.output,h.1.size,λk O=>h.1.block k (er O hb.size) (λe=>?_)⟩;have:=(B.lt k e).1;omega
def uH(es:List gu):Wd:=u8 (iL (jd es)).length::(iL (jd es)).flatMap gS
theorem zV(B:Nat)(es:List gu)(w:World)(hs:iu w B es)(hl:es.length<1099511627776)(hg:lH es<=255)(a6:∀e∈es,e.gone=true->e.name.length<=255) :
  dX prog 131 #[.slice none 0 0,.map (some B)] w λen w'=>∃v,en=.returned v/\jh w' w.heap.size v (uH es)/\Below w.heap.size w w':=by
 obtain⟨i0,hi,aN,aO,aP⟩:=ed IC;obtain⟨i9,aQ,aR,aS,aT⟩:=ed yM;have a7:=hs.nodup;have HS:fD (iu _ _ _):=hs;have aU:fD ((es.map gu.name).Nodup):=a7;have aV:fD (∀e∈es,e.gone=true->e.name.length<=255):=a6;have bj:=gT.lt hs;clear hs a7 a6;go_enter func131,ntmps131;go_wp2_with (first|(at_range; refine mR _ rfl _ rfl rfl HS.out ?_; intro w1 hrg0 hg0 bk));go_frame;go_loopw [5] (λg wr=>∃(O ac:List gu),(O++ac).Perm es/\ow wr B w.heap.size es ac/\wr.ownsRow (w.heap.size+1) 9 1 g (iL O).length (gr (iL O))/\Below w.heap.size w wr/\w.heap.size+1<=wr.heap.size) (λ_ wr=>wr.rangeLeft B w.heap.size)
 case atStart=>exact⟨[],es,g5 _,hrg0,fN _ _ _ _,(fE _ _).grown hg0 (et _) (λk hk=>by cases hk),by omega⟩
 case round=>
  obtain⟨O,ac,iC,hr,ae,hb,hz⟩:=hrel;have HP:fD ((O++ac).Perm es):=iC;have HR:fD (ow _ _ _ _ _):=hr;obtain⟨ag,cg,rfl,aW⟩:=gU ae;have HO:fD (wr.ownsRow (w.heap.size+1) 9 1 (.slice ag (iL O).length cg) (iL O).length (gr (iL O))):=ae;have HB:fD (Below _ _ _):=hb
  have aX:(iL O).length<=es.length:=by
   have h1:=O6 O;have h2:=iC.length_eq;rw[cc]at h2;omega
  clear iC hr hb ae;go_wp2_with (first|(at_next; refine nN _ rfl _ rfl w.heap.size ac rfl HR.out ?_ ?_))
  .intro h0
   have hE:O.Perm es:=by
    have:=HP.out;rw[h0,dp]at this;exact this
   obtain⟨S,hS⟩:∃S,S=iL (jd es):=⟨_,rfl⟩;have aq:=LW (w.heap.size+1) ag cg (iL O) wr HO.out (by omega);rw[Fi aU.out hE,<-hS]at aq;have ar:fD (S.length=(iL O).length):=by show _=_; rw[hS]; exact(rQ (hE.trans (jA es).symm)).length_eq.symm
   have bl:S.length<=255:=by
    rw[hS];have h1:=(rQ (jA es)).length_eq;have h2:(iL es).length=lH es:=by simp[iL,lH]
    omega
   have a8:fD (∀x∈S,x.length<=255):=by
    intro x hx;rw[hS]at hx;have hx2:=(rQ (jA es)).mem_iff.1 hx;unfold iL at hx2;obtain⟨e,he,rfl⟩:=dn.1 hx2;rw[dT]at he;exact aV.out e he.1 (by simpa using he.2)
   have aY:fD (S=iL (jd es)):=hS;clear h0 hE hS;go_wp2_with fail;refine aq.mono ?_;rintro e2 w2 ⟨rfl,au,av⟩;have a9:=av.size;have ah:fD (Below w.heap.size w w2):=HB.out.trans (av.mono (by omega));have aZ:(iL O).length<=255:=by have:=ar.out; omega
   rw[<-ar.out]at au⊢;have af:fD (w2.ownsRow (w.heap.size+1) 9 1 (.slice ag S.length cg) S.length (gr S)):=au;have a':fD (w2.ownsRow w.heap.size 5 1 (.slice none 0 0) 0 []):=fN _ _ _ _;clear aq au av HO HR aZ aX;clear aW ar
   go_wp2_with (first
    |(at_builtin; refine jk _ rfl _ _ 60 rfl w.heap.size 5 i0 (.int .u8 0) 1 e6 hi aN aO aP rfl _ _ _ rfl (a'.out.alloc _) _ [.int .u8 (S.length:Int)] rfl (Rd.one lr) (by simp[fS]) ?c1 ?c2 ?c3 ?_))
   case c1=>simp
   case c2=>unfold dW; simp
   case c3=>simp; omega
   intro v3 w3 U Y aA
   have HO3:fD (jh w3 w.heap.size v3 [u8 S.length]):=by
    show jh _ _ _ _;unfold jh;rw[oU,show(S.length:Int) % 256=S.length by omega];simpa using U
   have ad:iG w2 w3 (.slice none 0 0) v3:=iG.of Y aA;have ai:Below w2.heap.size w2 w3:=⟨ad.1.os,ad.1.tape,ad.1.output,ad.1.size,λk hk=>ad.1.block k hk (by simp[fT])⟩;have HB3:fD (Below w.heap.size w w3):=ah.out.trans (ai.mono (by omega));have HG3:fD (w3.ownsRow (w.heap.size+1) 9 1 (.slice ag S.length cg) S.length (gr S)):=iz af.out (λk hk=>ai.block k (af.out.lt k hk).2);obtain⟨a3,c3,rfl⟩:=HO3.out.form;have bm:=ai.size;clear U Y aA ad ai a' af ah
   have ba:fD (∀k,k<=S.length->(u8 S.length::(S.take k).flatMap gS).length<=65536):=by
    intro k hk;have h1:=Md (S.take k) (λx hx=>a8.out x (List.mem_of_mem_take hx));rw[cp,ev hk]at h1;rw[dR];omega
   go_wp2_with fail;go_loopw [0,33] (λu i wx=>∃k:Nat,k<=S.length/\i=.int .i64 k/\jh wx w.heap.size u (u8 S.length::(S.take k).flatMap gS)/\wx.ownsRow (w.heap.size+1) 9 1 (.slice ag S.length cg) S.length (gr S)/\Below w.heap.size w wx) (λ_ i _=>S.length-(intOf i).toNat)
   case atStart=>exact⟨0,eu _,rfl,by simpa using HO3.out,HG3.out,HB3.out⟩
   case round=>
    obtain⟨k,hk,rfl,aj,aB,aw⟩:=hrel;obtain⟨L4,ak⟩:∃L4,L4=u8 S.length::(S.take k).flatMap gS:=⟨_,rfl⟩;have aC:fD (L4=u8 S.length::(S.take k).flatMap gS):=ak;have bn:L4.length<=65536:=by rw[ak]; exact ba.out k hk
    rw[<-ak]at aj;obtain⟨a4,c4,rfl⟩:=aj.form;have al:fD (jh _ _ _ _):=aj;have am:fD (wr.ownsRow (w.heap.size+1) 9 1 (.slice ag S.length cg) S.length (gr S)):=aB;have aD:fD (Below _ _ _):=aw;have bc:=aw.size;clear aj aB aw ak HO3 HG3 HB3;by_cases ax:k<S.length
    .obtain⟨bg,og,rfl,ay⟩:=lJ am.out k _ (kh S k ax);have hx:=a8.out _ (ch ax);have HT:fD (S.take (k+1)=S.take k++[S[k]]):=df ax;have hA:=mC w.heap.size _ L4 ⟨S[k].toArray⟩ wr al.out (by omega) (by show S[k].toArray.size<=_; simp; omega) bc;go_wp2_with fail;refine hA.mono ?_;rintro e5 w5 ⟨v5,rfl,aE,az⟩;have bd:fD (jh _ _ _ _):=aE;have be:fD (Below w.heap.size w w5):=az.low aD.out al.out (et _);have bf:fD (w5.ownsRow (w.heap.size+1) 9 1 (.slice (some ⟨bg,og,none⟩) S.length cg) S.length (gr S)):=iz am.out (λj hj=>az.1.block j (am.out.lt j hj).2 (λe=>wj am.out al.out (by decide) j hj e));clear hA aE az ay;go_wp2;go_roundw
     case rel=>
      refine⟨_,_,_,_,_,_,_,_,_,_,⟨k+1,by omega,by go_num,?_,bf.out,be.out⟩,rfl⟩
      have e:(u8 S.length::(S.take (k+1)).flatMap gS)=L4++gS S[k]:=by
       rw[HT.out,aC.out,du,List.cons_append];simp only[dr,dx,dp]
      rw[e];exact bd.out
     case measure=>simp[intOf]; omega
    .have HE:fD (L4=uH es):=by
      show _=_;unfold uH;rw[aC.out,dy (by omega),aY.out]
     go_wp2;go_ret;refine⟨_,rfl,?_,aD.out⟩;rw[<-HE.out];exact al.out
  .intro e ab w2 aF an ap a0 bh bo;have aG:=iq.lt an;have aH:=gT.lt (iq.owns an);have aI:fD (Below w.heap.size w w2):=ox HB.out a0 (et _);have aJ:fD (ow _ _ _ _ _):=an;have aK:fD (w2.rangeLeft B w.heap.size<wr.rangeLeft B w.heap.size):=ap;have aL:fD (ac.Perm (e::ab)):=aF;have aa:fD (w2.ownsRow (w.heap.size+1) 9 1 (.slice ag (iL O).length cg) (iL O).length (gr (iL O))):=iz HO.out (λk hk=>a0.block k (HO.out.lt k hk).2 (by have:=(HO.out.lt k hk).1; intro e; cases e; omega));have ao:=K2 O e;have a9:w.heap.size+1<=w2.heap.size:=by omega
   clear aF an ap a0 bh;obtain⟨nm,gn,tx,wt,tg⟩:=e
   cases gn with
   |false=>
    have a5:fD (iL (O++[⟨nm,false,tx,wt,tg⟩])=iL O):=by show _=_; rw[ao]; simp
    clear ao;go_wp2;go_roundw
    case rel=>
     exact⟨O++[⟨nm,false,tx,wt,tg⟩],ab,lL HP.out aL.out,aJ.out.alloc _,by rw[a5.out]; exact aa.out.alloc _,aI.out.alloc (by omega) _,by simp; omega⟩
    case measure=>
     rw[lE aH aG];exact aK.out
   |true=>
    have a5:fD (iL (O++[⟨nm,true,tx,wt,tg⟩])=iL O++[nm]):=by show _=_; rw[ao]; simp
    clear ao
    go_wp2_with (first
      |(at_builtin; refine jc _ rfl _ _ 31 rfl (w.heap.size+1) 9 i9 (.string ⟨#[]⟩) 16 e8 aQ aR aS aT rfl _ _ _ rfl ((aa.out.alloc _).alloc _) ⟨w2.heap.size+1,0,none⟩ _ rfl (ye (by simp)) rfl ?c1 ?c2 ?c3 ?_))
    case c1=>omega
    case c2=>unfold dW; omega
    case c3=>first|omega|(simp; omega)
    intro v3 w3 U Y _;have aM:Below w.heap.size w w3:=((aI.out.alloc (by omega) _).alloc (by simp; omega) _).grown Y (by simp; omega) (λb hb=>by have:=(aa.out.lt b hb).1; omega);have ah:fD (Below _ _ _):=aM;have bp:w2.heap.size<=w3.heap.size:=by have:=Y.size; simp at this; omega
    have bi:fD (ow w3 B w.heap.size es ab):=iq.kept ((aJ.out.alloc _).alloc _) Y (λe=>by have:=(aa.out.lt B e.symm).1; omega) (λe=>by have:=(aa.out.lt _ e.symm).1; omega)
    have af:fD (w3.ownsRow (w.heap.size+1) 9 1 v3 (iL (O++[⟨nm,true,tx,wt,tg⟩])).length (gr (iL (O++[⟨nm,true,tx,wt,tg⟩])))):=by
     show w3.ownsRow _ _ _ _ _ _;rw[a5.out,pB];rw[cc];exact U
    have HL2:fD (w3.rangeLeft B w.heap.size<wr.rangeLeft B w.heap.size):=by
     show _<_;rw[iq.mB (Y.block B (by simp; omega) (λe=>by have:=(aa.out.lt B e.symm).1; omega)) (Y.block w.heap.size (by simp; omega) (λe=>by have:=(aa.out.lt _ e.symm).1; omega)),lE (by simp; omega) (by simp; omega),lE aH aG];exact aK.out
    clear U Y aM;go_wp2;go_roundw
    case rel=>
     exact⟨O++[⟨nm,true,tx,wt,tg⟩],ab,lL HP.out aL.out,bi.out,af.out,ah.out,by omega⟩
    case measure=>exact HL2.out
end
section
open Go.RowKit Go.Maps Go.Sort
def uo(x y:Wd):Int:=if fY x y=true then -1 else if fY y x=true then 1 else 0
theorem Dx(x:ByteArray)(w:World):dX prog 175 #[.string x] w λe w'=>e=.returned (.bool false)/\w=w':=by
 go_wp2;go_ret;exact⟨rfl,rfl⟩
theorem sH(x y:Wd)(w:World):dX prog 128 #[.string ⟨x.toArray⟩,.string ⟨y.toArray⟩] w λe w'=>e=.returned (.int .i64 (uo x y))/\w=w':=by
 have Y:=Dx ⟨x.toArray⟩ w;have hy:=Dx ⟨y.toArray⟩ w;unfold uo;by_cases U:fY x y=true
 .rw[if_pos U];go_enter fv,eN;go_wp2_with fail;refine Y.mono ?_;rintro e w' ⟨rfl,rfl⟩;go_wp2_with fail;refine hy.mono ?_;rintro e w' ⟨rfl,rfl⟩;go_wp2;go_ret;exact⟨rfl,rfl⟩
 .rw[if_neg U];have B:fY x y=false:=by simpa using U
  clear U;by_cases O:fY y x=true
  .rw[if_pos O];have aa:(x==y)=false:=beq_eq_false_iff_ne.2 (λe=>by subst e; rw[B]at O; cases O);clear O;go_enter fv,eN;go_wp2_with fail;refine Y.mono ?_;rintro e w' ⟨rfl,rfl⟩;go_wp2_with fail;refine hy.mono ?_;rintro e w' ⟨rfl,rfl⟩;go_wp2;go_ret;exact⟨rfl,rfl⟩
  .obtain rfl:x=y:=by
    rcases kR x y with h|h|h
    .rw[B]at h; cases h
    .exact h
    .exact absurd h O
   go_enter fv,eN;go_wp2_with fail;refine Y.mono ?_;rintro e w' ⟨rfl,rfl⟩;go_wp2_with fail;refine hy.mono ?_;rintro e w' ⟨rfl,rfl⟩;go_wp2;go_ret;exact⟨rfl,rfl⟩
def np(e:gu):List Value:=[.string ⟨(gM e).toArray⟩,.string ⟨e.name.toArray⟩,.string ⟨e.text.toArray⟩,.int .i64 e.gw,.int .i64 e.gK]
def Tk(x y:gu):Int:=if uo (gM x) (gM y)≠0 then uo (gM x) (gM y)else uo x.name y.name
theorem PX(x y:gu)(w:World):dX prog 185 #[.agg #[.string ⟨(gM x).toArray⟩,.string ⟨x.name.toArray⟩,.string ⟨x.text.toArray⟩,.int .i64 x.gw,.int .i64 x.gK],.agg #[.string ⟨(gM y).toArray⟩,.string ⟨y.name.toArray⟩,.string ⟨y.text.toArray⟩,.int .i64 y.gw,.int .i64 y.gK]] w λe w'=>e=.returned (.int .i64 (Tk x y))/\∃k os,w'=grow (w.drewN k) os:=by
 have h1:=λW=>sH (gM x) (gM y) W;have h2:=λW=>sH x.name y.name W;unfold Tk;obtain⟨z,hz⟩:∃z,z=uo (gM x) (gM y):=⟨_,rfl⟩;obtain⟨t,ht⟩:∃t,t=uo x.name y.name:=⟨_,rfl⟩;rw[<-hz]at h1⊢;rw[<-ht]at h2⊢;obtain⟨uS,Y⟩:∃uS,uS=if z≠0 then z else t:=⟨_,rfl⟩
 rw[<-Y]
 have ac:∀(g:Nat)(W:World),W.cell? ⟨g,0,none⟩=some (.int .i64 z)->W.cell? ⟨g,1,none⟩=some (.int .i64 t)->dX prog 126 #[.slice (some ⟨g,0,none⟩) 2 2] W λe w'=>e=.returned (.int .i64 uS)/\W=w':=λg W k1 k2=>by
  rw[Y];exact EU z t g W k1 k2
 clear hz ht Y;generalize gM x=kx at *;generalize gM y=ky at *;obtain⟨nx,_,tx,wx,gx⟩:=x;obtain⟨ny,_,ty,wy,gy⟩:=y;simp only at h2⊢;obtain⟨W0,aa⟩:∃W0,W0=(w.alloc (.cells #[.string ⟨kx.toArray⟩,.string ⟨nx.toArray⟩,.string ⟨tx.toArray⟩,.int .i64 wx,.int .i64 gx] 237)).alloc (.cells #[.string ⟨ky.toArray⟩,.string ⟨ny.toArray⟩,.string ⟨ty.toArray⟩,.int .i64 wy,.int .i64 gy] 237):=⟨_,rfl⟩
 have hA:∀j,W0.cell? ⟨w.heap.size,j,none⟩=(#[Value.string ⟨kx.toArray⟩,.string ⟨nx.toArray⟩,.string ⟨tx.toArray⟩,.int .i64 wx,.int .i64 gx]:Array Value)[j]?:=λj=>by
  rw[aa,World.cell?_alloc_past _ _ _ (by simp),fO _ _ _ _ rfl]
 have ab:∀j,W0.cell? ⟨w.heap.size+1,j,none⟩=(#[Value.string ⟨ky.toArray⟩,.string ⟨ny.toArray⟩,.string ⟨ty.toArray⟩,.int .i64 wy,.int .i64 gy]:Array Value)[j]?:=λj=>by
  rw[aa,fO _ _ _ _ (by simp)]
 have ad:∃os,W0=grow w os:=⟨_,by rw[aa,ga,ga,grow_grow]⟩;have a0:W0.cell? ⟨w.heap.size,0,none⟩=some (.string ⟨kx.toArray⟩):=hA 0;have a1:W0.cell? ⟨w.heap.size,1,none⟩=some (.string ⟨nx.toArray⟩):=hA 1;have b0:W0.cell? ⟨w.heap.size+1,0,none⟩=some (.string ⟨ky.toArray⟩):=ab 0;have b1:W0.cell? ⟨w.heap.size+1,1,none⟩=some (.string ⟨ny.toArray⟩):=ab 1;clear hA ab;go_enter func185,ntmps185;go_wp2_with fail;rw[<-aa];clear aa;have O:(λw':World=>w'.cell? ⟨w.heap.size,0,none⟩=some (.string ⟨kx.toArray⟩)/\w'.cell? ⟨w.heap.size,1,none⟩=some (.string ⟨nx.toArray⟩)/\w'.cell? ⟨w.heap.size+1,0,none⟩=some (.string ⟨ky.toArray⟩)/\w'.cell? ⟨w.heap.size+1,1,none⟩=some (.string ⟨ny.toArray⟩)) W0.drew:=⟨a0,a1,b0,b1⟩;clear a0 a1 b0 b1;refine dY (S:=λw'=>w'.cell? ⟨w.heap.size,0,none⟩=some (.string ⟨kx.toArray⟩)/\w'.cell? ⟨w.heap.size,1,none⟩=some (.string ⟨nx.toArray⟩)/\w'.cell? ⟨w.heap.size+1,0,none⟩=some (.string ⟨ky.toArray⟩)/\w'.cell? ⟨w.heap.size+1,1,none⟩=some (.string ⟨ny.toArray⟩)) (by kernel_rfl) ?_;refine j7 0 ?_ O ?_<|j7 1 ?_ O ?_<|j7 2 ?_ O ?_<|j7 3 ?_ O ?_<|j7 5 ?_ O ?_<|j7 6 ?_ O ?_<|j7 7 ?_ O ?_<|j7 8 ?_ O ?_<|j7 9 ?_ O ?_<|j7 10 ?_ O ?_ ?_
 any_goals(rintro w' ⟨s0,s1,s2,s3⟩; go_simp; first|done|with_reducible rfl)
 refine nY 4 λK' U=>?_;unfold fK;go_simp;refine(h1 _).mono ?_;rintro e w' ⟨rfl,rfl⟩;refine U _ _ ⟨O,?_⟩;clear U;refine nY 11 λK' U=>?_;unfold fK;go_simp;refine(h2 _).mono ?_;rintro e w' ⟨rfl,rfl⟩;refine U _ _ ⟨O,?_⟩;clear U;refine nY 12 λK' U=>?_;unfold fK;go_simp
 have B:Below W0.heap.size W0 (W0.alloc (.cells #[.int .i64 z,.int .i64 t] 3)).drew:=by
  have h:Below W0.heap.size W0 (W0.alloc (.cells #[.int .i64 z,.int .i64 t] 3)):=(fE _ _).alloc (et _) _;exact⟨h.os,h.tape,h.output,h.size,h.block⟩
 refine U _ _ ⟨⟨dV B O.1,dV B O.2.1,dV B O.2.2.1,dV B O.2.2.2⟩,?_⟩;clear U;refine nY 13 λK' U=>?_;unfold fK;go_simp;refine(ac W0.heap.size (W0.alloc (.cells #[.int .i64 z,.int .i64 t] 3)).drew (Dd (w:=W0) (by rfl)).1 (Dd (w:=W0) (by rfl)).2).mono ?_;rintro e w' ⟨rfl,rfl⟩;refine U _ _ ⟨⟨dV B O.1,dV B O.2.1,dV B O.2.2.1,dV B O.2.2.2⟩,?_⟩;clear U;have ae:(λw':World=>w'.cell? ⟨w.heap.size,0,none⟩=some (.string ⟨kx.toArray⟩)/\w'.cell? ⟨w.heap.size,1,none⟩=some (.string ⟨nx.toArray⟩)/\w'.cell? ⟨w.heap.size+1,0,none⟩=some (.string ⟨ky.toArray⟩)/\w'.cell? ⟨w.heap.size+1,1,none⟩=some (.string ⟨ny.toArray⟩)) (W0.alloc (.cells #[.int .i64 z,.int .i64 t] 3)).drew:=⟨dV B O.1,dV B O.2.1,dV B O.2.2.1,dV B O.2.2.2⟩;refine j7 14 ?_ ae ?_ ?_;rotate_left
 .rintro w' ⟨s0,s1,s2,s3⟩; go_simp; first|done|with_reducible rfl
 refine ee (by kernel_rfl) ?_ _;go_wp2;go_ret;obtain⟨os,rfl⟩:=ad;exact⟨rfl,1,_,by rw[ga,grow_grow]; rfl⟩
end
section
open Go.RowKit Go.Maps Go.Sort
variable {a b:gu} {base g:Nat} {w:World}
theorem zG(x y:Wd):uo x y<0↔fY x y=true:=by
 unfold uo;by_cases B:fY x y=true
 .simp[B]
 .by_cases O:fY y x=true
  .simp[B,O]
  .simp[B,O]
theorem uk(x y:Wd):uo x y=0↔x=y:=by
 unfold uo;constructor
 .intro h;rcases kR x y with B|B|B
  .rw[if_pos B]at h; cases h
  .exact B
  .rw[if_neg (by rw[rN B]; simp),if_pos B]at h; cases h
 .rintro rfl;simp[kJ]
theorem wV(x y:gu):ltOf Tk x y=true↔FA x y:=by
 unfold ltOf Tk FA;rw[decide_eq_true_eq];by_cases h:gM x=gM y
 .rw[if_neg (by rw[Classical.not_not]; exact(uk ..).2 h),zG,h,kJ];simp
 .rw[if_pos (λe=>h ((uk ..).1 e)),zG];simp[h]
theorem Dz{c:gu}(O:FA a b)(B:FA b c):FA a c:=by
 rcases O with O|⟨O,U⟩
 .rcases B with B|⟨B,_⟩
  .exact Or.inl (oJ _ _ _ O B)
  .exact Or.inl (by rw[<-B]; exact O)
 .rcases B with B|⟨B,Y⟩
  .exact Or.inl (by rw[O]; exact B)
  .exact Or.inr ⟨O.trans B,oJ _ _ _ U Y⟩
theorem DD(a b:gu):FA a b\/(gM a=gM b/\a.name=b.name)\/FA b a:=by
 rcases kR .. with h|h|h
 .exact Or.inl (Or.inl h)
 .rcases kR .. with B|B|B
  .exact Or.inl (Or.inr ⟨h,B⟩)
  .exact Or.inr (Or.inl ⟨h,B⟩)
  .exact Or.inr (Or.inr (Or.inr ⟨h.symm,B⟩))
 .exact Or.inr (Or.inr (Or.inl h))
theorem Kg(a:gu):¬FA a a:=by
 unfold FA;simp[kJ]
theorem P8{c:gu}(h:gM a=gM b/\a.name=b.name)(B:FA a c):FA b c:=by
 unfold FA at *;rw[<-h.1,<-h.2];exact B
theorem Rr:SWO (ltOf Tk) where
 irrefl x:=by
  have:=Kg x;rw[<-wV]at this;simpa using this
 trans x y z h1 h2:=by rw[wV]at *; exact Dz h1 h2
 ntrans x y z h1 h2:=by
  cases B:ltOf Tk x z with
  |false=>rfl
  |true=>
   rw[wV]at B;have n1:¬FA x y:=by rw[<-wV,h1]; simp
   have n2:¬FA y z:=by rw[<-wV,h2]; simp
   rcases DD x y with h|h|h
   .exact absurd h n1
   .exact absurd (P8 h B) n2
   .exact absurd (Dz h B) n2
def kp(es:List gu):List Value:=es.flatMap np
theorem Cn(es:List gu)(x:gu):kp (es++[x])=kp es++np x:=by simp[kp]
theorem DW:∀(ws:List gu)(i c:Nat)(h:i<ws.length),c<5->(kp ws)[i*5+c]?=(np ws[i])[c]?:=by
 intro ws
 induction ws with
 |nil=>intro i c h; simp at h
 |cons a l B=>
  intro i c h O;have e:kp (a::l)=np a++kp l:=by simp[kp]
  rw[e]
  cases i with
  |zero=>rw[cx (by simp[np]; omega)]; simp
  |succ i=>
   rw[dg (by simp[np]; omega)];have U:(np a).length=5:=rfl;rw[U,show(i+1)*5+c-5=i*5+c by omega,B i c (by simpa using h) O];simp
theorem D1(x:gu):∀v∈np x,v.oneCell'=true:=by
 intro v B;simp[np]at B;rcases B with rfl|rfl|rfl|rfl|rfl<;>rfl
instance:Inhabited gu:=⟨⟨[],false,[],0,0⟩⟩
theorem Bh{e n m cap:Nat}{ws:List gu}(h:w.ownsRow base e 5 (.slice (some ⟨g,0,none⟩) m cap) n (kp ws))(hn:n=ws.length):HoldsK np 5 w g 0 ws.toArray:=by
 intro j hj;have O:=by simpa using hj
 have Y:j / 5<ws.length:=by omega
 have B:(kp ws)[j]?=some ((flatK np 5 ws.toArray)[j]!):=by
  rw[get_flatK _ _ _ _ (by simpa using O)];have:=DW ws _ (j % 5) Y (by omega);rw[show j / 5*5+j % 5=j by omega]at this;rw[this];have e1:ws.toArray[j / 5]! = ws[j / 5]:=by rw[getElem!_pos _ _ (by simpa using Y)]; simp
  rw[e1];have hc:j % 5<(np ws[j / 5]).length:=by simp[np]; omega
  rw[dd hc,getElem!_pos (np _) _ hc]
 rcases h.2 with⟨h0,_⟩|⟨g',aa,ab,he,_,hg,_,_,ac,U⟩
 .simp at h0
 .obtain⟨⟨rfl,_⟩,_,rfl⟩:=he;refine⟨?_,?_⟩
  .rw[gq hg];rw[<-U,dh,if_pos (by omega)]at B;simpa using B
  .simp[World.frozen?,hg]
theorem yE{k blk off m:Nat}{enc:gu->List Value}{d:Array gu}{os:Array Obj}(hb:base<=blk)(B:blk<w.heap.size):Below base w (gl enc k w blk off m d os):=by
 refine⟨rfl,rfl,rfl,?_,λj O=>?_⟩
 .unfold gl gd ge grow gc;simp[fZ]
 .unfold gl gd ge grow gc;simp[fZ];rw[Array.getElem?_append_left (by simp; omega),fJ,if_neg (by omega)]
theorem G8{k m:Nat}{enc:gu->List Value}{d:Array gu}{os:Array Obj}{B:Array Value}{e:dZ}{fr:Nat×Nat}(hb:w.heap[g]?=some (.cells B e fr)):∃cs,(gl enc k w g 0 m d os).heap[g]?=some (.cells cs e fr):=by
 have O:=(fH.1 hb).1;unfold gl gd;rw[heap_grow_old _ _ (by simpa using O)];simp[ge,gc,fZ,fJ,hb,onCells]
theorem N2(blk off size:Nat)(w:World):CmpLays prog 185 #[] np 5 Tk blk off size w:=by
 intro m os B _ x y;exact PX x y _
theorem LV(base:Nat)(au:Option Addr)(cu:Nat)(es:List gu)(w:World)(U:w.ownsRow base 237 5 (.slice au es.length cu) es.length (kp es))(ae:(es.map gu.name).Nodup)(hl:es.length<=1048576) :
  dX prog 184 #[.slice au es.length cu,.func (.func 185) #[] #[]] w λe w2=>e=.returned (.tuple #[])/\Below base w w2/\
   ∃L:List gu,L.Perm es/\jN L/\qV w2 (.slice au es.length cu) L:=by
 rcases U.2 with⟨he,hn⟩|⟨g,cap,ai,he,aa,hb,h1,h2,h3,h4⟩
 .have hG:es=[]:=dI.1 (by simpa using hn);subst hG;have B:=AnyF.slices_SortFunc_none Ib au cu (.func (.func 185) #[] #[]) w;change dX prog 184 _ _ _ at B;simp only[fL]at he;refine B.mono ?_;rintro e w2 ⟨rfl,rfl⟩;exact⟨rfl,fE _ _,[],g5 _,List.Pairwise.nil,au,cu,rfl,eu _,by rw[he.2.2]; exact eu _,λi h=>by simp at h⟩
 .simp only[fL]at he;obtain⟨rfl,_,rfl⟩:=he;have ab:g<w.heap.size:=(fH.1 hb).1
  have B:=AnyQ.slices_SortFunc Ib 5 isAgg237 sizeOf237 np (λ_=>rfl) D1 Tk Rr 185 #[] g 0 cu es.toArray w
   (enters_of func185 (by kernel_rfl) rfl) (N2 g 0 _ w) (Bh U rfl) ab (by simp; omega)
  change dX prog 184 _ _ _ at B;refine B.mono ?_;rintro e w2 ⟨rfl,d',nq,os,hp,hs,rfl⟩;have ac:d'.size=es.length:=by rw[hp.1]; simp
  have hH:HoldsK np 5 (gl np 5 w g 0 nq d' os) g 0 d':=by
   unfold gl;refine holdsK_grow _ _ _ _ _ _ _ ?_ (holdsK_putRowK _ _ _ _ _ _ _ (holdsK_ahead _ _ _ _ _ _ _ (Bh U rfl)) hp.1);unfold gd ge gc;simp[fZ];exact ab
  obtain⟨cs,af⟩:=G8 (enc:=np) (k:=5) (m:=nq) (d:=d') (os:=os) hb
  have iC:=by
   have e1:d'.extract 0 es.toArray.size=d':=by rw[<-hp.1]; simp
   have e2:es.toArray.extract 0 es.toArray.size=es.toArray:=by simp
   have p3:=hp.2.2;rw[e1,e2]at p3;exact p3
  have ag:jN d'.toList:=by
   have Y:=(iC.map _).nodup_iff.2 ae;unfold jN;rw[dG];intro i j hi hj ad;have ah:d'.toList.length=es.toArray.size:=by simpa using ac
   have h:=hs i j (eu _) ad (by omega);have gi:d'[i]! = d'.toList[i]:=by rw[getElem!_pos d' i _]; rfl
   have gj:d'[j]! = d'.toList[j]:=by rw[getElem!_pos d' j _]; rfl
   rw[gi,gj]at h;rcases DD _ _ with h'|h'|h'
   .exact h'
   .rw[List.Nodup,dP,dG]at Y;exact absurd h'.2 (Y i j hi hj ad)
   .rw[<-wV,h]at h';cases h'
  refine⟨rfl,yE aa ab,d'.toList,iC,ag,some _,cu,by rw[show d'.toList.length=es.length by simpa using ac],by rw[show d'.toList.length=es.length by simpa using ac]; exact h1,h2,λi hi=>?_⟩;have O:=by simpa using hi
  have g0:=(gm hH O (c:=0) (by decide)).1;have g1:=(gm hH O (c:=1) (by decide)).1;have g2:=(gm hH O (c:=2) (by decide)).1;have g3:=(gm hH O (c:=3) (by decide)).1;have g4:=(gm hH O (c:=4) (by decide)).1;have e2:d'[i]! = d'.toList[i]:=by rw[getElem!_pos d' i O]; rfl
  rw[e2]at g0 g1 g2 g3 g4;refine⟨g,0,rfl,g0,?_,?_,?_,?_,cs,(0,0),af⟩
  .exact g1
  .exact g2
  .exact g3
  .exact g4
end
section
open Go.RowKit Go.Maps Go.Sort
variable {u:Value} {w w':World}
theorem BZ{P:Program}(w:World){o:Oper}{a:Act}{K:Act->World->Prop}{Q:Exit->Act->World->Prop}(s x:Operand)(t:dZ)
  (ho:o.op=.call {callee:=.builtin .append,args:=#[s,x],argTypes:=#[t,t]})
  (base:Nat) (e:dZ) (i:TypeInfo) (z:Value) (size bytes:Nat) (ht:P.underlying t=some (.slice e)) (hi:P.info? e=some i) (hz:i.zero=some z)
  (O:i.size=size) (aa:i.bytes=bytes) (ab:z.cells.size=size) (ac:0<size)
  (v:Value) (n:Nat) (xs:List Value) (hs:a.eval s=v) (Y:w.ownsRow base e size v n xs)
  (y:Value) (m:Nat) (news:List Value) (hx:a.eval x=y) (hy:vv w size y m news) (h1:∀u∈news,u.oneCell'=true)
  (B:(n+m)*bytes<=140737488355328) (ad:n+m<=dW) (U:base<=w.heap.size)
  (h:∀v' w',w'.ownsRow base e size v' (n+m) (xs++news)->w.grownBy w' v.ownBlock->(v'.ownBlock=v.ownBlock\/(v'.ownBlock=some w.heap.size/\Below w.heap.size w w'))->K (a.put o.dst v') w'):fK P o a w K Q:=by
 obtain⟨v',w',hr,h2,h3,h4⟩:=rS (P:=P) w base t o.type e i z size bytes ht hi hz O aa ab ac v n xs Y y m news hy h1 B ad U;unfold fK ek;simp only[ho,eh,invoke,builtin,gg,gf,gh,dw,dv,dz,hs,hx,hr];exact h v' w' h2 h3 h4
theorem Oj:(prog.info? 237).map (λi=>(i.zero,i.size,i.bytes))=some (some (.agg #[.string ⟨#[]⟩,.string ⟨#[]⟩,.string ⟨#[]⟩,.int .i64 0,.int .i64 0]),5,64):=by kernel_rfl
theorem OQ{x y z v:Value}{t:dZ}{g:Nat}(O:g=w.heap.size):vv (w.alloc (.cells #[x,y,z,u,v] t)) 5 (.slice (some ⟨g,0,none⟩) 1 1) 1 [x,y,z,u,v]:=by
 subst O;refine⟨some _,1,rfl,et _,by unfold dW; omega,rfl,λj u B=>⟨w.heap.size,0,rfl,?_⟩⟩
 match j,B with
 |0,B=>simpa using B
 |1,B=>simpa using B
 |2,B=>simpa using B
 |3,B=>simpa using B
 |4,B=>simpa using B
 |j+5,B=>simp at B
theorem cell_grown{row:Option Nat}{k o:Nat}(O:w.grownBy w' row)(h:w.cell? ⟨k,o,none⟩=some u)(B:some k≠row):w'.cell? ⟨k,o,none⟩=some u:=by
 have hb:=O.block k (Sy h) B;simp only[fQ]at h⊢;rw[hb];exact h
theorem ow.T7{B r:Nat}{es O:List gu}(h:ow w B r es O)(hb:Below w.heap.size w w'):ow w' B r es O:=iq.kept (row:=none) h ⟨hb.os,hb.tape,hb.output,hb.size,λk U _=>hb.block k U⟩ (by simp) (by simp)
theorem JG(B:Nat)(es:List gu)(w:World)(hs:iu w B es)(hl:es.length<=1048576)(a0:∀e∈es,e.text.length<=1099511627776) :
  dX prog 133 #[.map (some B)] w λen w'=>∃v L,en=.returned v/\L.Perm (gD es)/\jN L/\qV w' v L/\Below w.heap.size w w':=by
 obtain⟨i0,hi,aI,aJ,aK⟩:=ed Oj;have a3:=hs.nodup;have HS:fD (iu _ _ _):=hs;have aL:fD ((es.map gu.name).Nodup):=a3;have aM:fD (∀e∈es,e.text.length<=1099511627776):=a0;have aY:=gT.lt hs;clear hs a3 a0;go_enter func133,ntmps133;go_wp2_with (first|(at_range; refine mR _ rfl _ rfl rfl HS.out ?_; intro w1 hrg0 hg0 aZ));go_frame;go_loopw [3] (λg wr=>∃(O ah:List gu),(O++ah).Perm es/\ow wr B w.heap.size es ah/\wr.ownsRow (w.heap.size+1) 237 5 g (gD O).length (kp (gD O))/\Below w.heap.size w wr/\w.heap.size+1<=wr.heap.size) (λ_ wr=>wr.rangeLeft B w.heap.size)
 case atStart=>exact⟨[],es,g5 _,hrg0,fN _ _ _ _,(fE _ _).grown hg0 (et _) (λk hk=>by cases hk),by omega⟩
 case round=>
  obtain⟨O,ah,iC,hr,aj,hb,hz⟩:=hrel;have HP:fD ((O++ah).Perm es):=iC;have HR:fD (ow _ _ _ _ _):=hr;obtain⟨ag,cg,rfl,ba⟩:=lG aj;have HO:fD (wr.ownsRow (w.heap.size+1) 237 5 (.slice ag (gD O).length cg) (gD O).length (kp (gD O))):=aj;have HB:fD (Below _ _ _):=hb
  have bc:(gD O).length<=es.length:=by
   have h1:=rl O;have h2:=iC.length_eq;rw[cc]at h2;omega
  clear iC hr hb aj;go_wp2_with (first|(at_next; refine nN _ rfl _ rfl w.heap.size ah rfl HR.out ?_ ?_))
  .intro h0
   have hE:O.Perm es:=by
    have:=HP.out;rw[h0,dp]at this;exact this
   have a4:=LV (w.heap.size+1) ag cg (gD O) wr HO.out (by
    have h1:(O.map gu.name).Nodup:=(hE.map _).nodup_iff.2 aL.out
    exact h1.sublist (dD.map _)) (by omega)
   have HE:fD ((gD O).Perm (gD es)):=yw hE;clear h0 hE;go_wp2_with fail;refine a4.mono ?_;rintro e2 w2 ⟨rfl,a5,L,a6,a7,a8⟩;have aN:fD (Below w.heap.size w w2):=HB.out.trans (a5.mono (by omega));have HL:fD (L.Perm (gD es)):=a6.trans HE.out;have aO:fD (jN L):=a7;have aP:fD (qV _ _ _):=a8;clear a4 a5 a6 a7 a8;go_wp2;go_ret;exact⟨_,L,rfl,HL.out,aO.out,aP.out,aN.out⟩
  .intro e ac w2 au al aq av aQ bd;have a9:=iq.lt al;have a':=gT.lt (iq.owns al);have aA:fD (Below w.heap.size w w2):=ox HB.out av (et _);have aB:fD (ow _ _ _ _ _):=al;have aC:fD (w2.rangeLeft B w.heap.size<wr.rangeLeft B w.heap.size):=aq;have aD:fD (ah.Perm (e::ac)):=au;have ab:fD (w2.ownsRow (w.heap.size+1) 237 5 (.slice ag (gD O).length cg) (gD O).length (kp (gD O))):=ku HO.out (λk hk=>av.block k (HO.out.lt k hk).2 (by have:=(HO.out.lt k hk).1; intro e; cases e; omega));have am:=yC O e;have aR:e.text.length<=1099511627776:=aM.out e (HP.out.mem_iff.1 (List.mem_append_right _ (au.mem_iff.2 (dN ..))));have aX:w.heap.size+1<=w2.heap.size:=by omega
   clear au al aq av aQ;obtain⟨nm,gn,tx,wt,tg⟩:=e
   cases gn with
   |true=>
    have aw:fD (gD (O++[⟨nm,true,tx,wt,tg⟩])=gD O):=by show _=_; rw[am]; simp
    clear am;go_wp2;go_roundw
    case rel=>
     exact⟨O++[⟨nm,true,tx,wt,tg⟩],ac,lL HP.out aD.out,aB.out.alloc _,by rw[aw.out]; exact ab.out.alloc _,aA.out.alloc (by omega) _,by simp; omega⟩
    case measure=>
     rw[lE a' a9];exact aC.out
   |false=>
    have aw:fD (gD (O++[⟨nm,false,tx,wt,tg⟩])=gD O++[⟨nm,false,tx,wt,tg⟩]):=by show _=_; rw[am]; simp
    clear am;go_wp2_with fail;rw[show wP ⟨nm,false,tx,wt,tg⟩=nm from rfl];obtain⟨wa,an⟩:∃wa,wa=w2.alloc (.cells #[.bool false,.string ⟨nm.toArray⟩,.string ⟨tx.toArray⟩,.int .i64 wt,.int .i64 tg] 111):=⟨_,rfl⟩;rw[<-an];obtain⟨k,hk⟩:∃k,k=w2.heap.size:=⟨_,rfl⟩;rw[<-hk];have ax:Below w2.heap.size w2 wa:=by rw[an]; exact(fE _ _).alloc (et _) _
    have ak:wa.heap[k]?=some (.cells #[.bool false,.string ⟨nm.toArray⟩,.string ⟨tx.toArray⟩,.int .i64 wt,.int .i64 tg] 111 (0,0)):=by rw[an,hk]; exact ej w2 _
    have hS:(λw':World=>w'.cell? ⟨k,1,none⟩=some (.string ⟨nm.toArray⟩)/\w'.cell? ⟨k,2,none⟩=some (.string ⟨tx.toArray⟩)/\w'.cell? ⟨k,3,none⟩=some (.int .i64 wt)/\w'.cell? ⟨k,4,none⟩=some (.int .i64 tg)) wa.drew:=⟨by show wa.cell? _=_; rw[gq ak]; rfl,by show wa.cell? _=_; rw[gq ak]; rfl,by show wa.cell? _=_; rw[gq ak]; rfl,by show wa.cell? _=_; rw[gq ak]; rfl⟩;have ay:=rb ⟨tx.toArray⟩ wa.drew (by show tx.toArray.size<=_; simpa using aR);change dX _ _ _ _ (λe w'=>e=.returned (.string ⟨(ir tx).toArray⟩)/\Below wa.heap.size wa.drew w')at ay;have aS:fD (k=w2.heap.size):=hk;clear an ak hk;refine dY (S:=λw'=>w'.cell? ⟨k,1,none⟩=some (.string ⟨nm.toArray⟩)/\w'.cell? ⟨k,2,none⟩=some (.string ⟨tx.toArray⟩)/\w'.cell? ⟨k,3,none⟩=some (.int .i64 wt)/\w'.cell? ⟨k,4,none⟩=some (.int .i64 tg)) (by kernel_rfl) ?_;refine j7 0 ?_ hS ?_<|j7 1 ?_ hS ?_<|j7 2 ?_ hS ?_<|j7 3 ?_ hS ?_<|j7 5 ?_ hS ?_<|j7 6 ?_ hS ?_ ?_
    any_goals(rintro w' ⟨s0,s1,s2,s3⟩; go_simp; first|done|with_reducible rfl)
    refine nY 4 λK' ad=>?_;unfold fK;go_simp;refine ay.mono ?_;rintro e w3 ⟨rfl,U⟩;have ae:(λw':World=>w'.cell? ⟨k,1,none⟩=some (.string ⟨nm.toArray⟩)/\w'.cell? ⟨k,2,none⟩=some (.string ⟨tx.toArray⟩)/\w'.cell? ⟨k,3,none⟩=some (.int .i64 wt)/\w'.cell? ⟨k,4,none⟩=some (.int .i64 tg)) w3:=⟨dV U hS.1,dV U hS.2.1,dV U hS.2.2.1,dV U hS.2.2.2⟩;refine ad _ _ ⟨ae,?_⟩;clear ad;refine j7 7 ?_ ae ?_ ?_;rotate_left
    .rintro w' ⟨s0,s1,s2,s3⟩; go_simp; first|done|with_reducible rfl
    refine nY 8 λK' ad=>?_;unfold fK;go_simp;obtain⟨w4,ao⟩:∃w4,w4=w3.alloc (.cells #[.string ⟨(ir tx).toArray⟩,.string ⟨nm.toArray⟩,.string ⟨tx.toArray⟩,.int .i64 wt,.int .i64 tg] 237):=⟨_,rfl⟩;rw[<-ao];have af:Below w3.heap.size w3 w4:=by rw[ao]; exact(fE _ _).alloc (et _) _
    have aE:vv w4 5 (.slice (some ⟨w3.heap.size,0,none⟩) 1 1) 1 (np ⟨nm,false,tx,wt,tg⟩):=by rw[ao]; exact OQ rfl
    have ai:(λw':World=>w'.cell? ⟨k,1,none⟩=some (.string ⟨nm.toArray⟩)/\w'.cell? ⟨k,2,none⟩=some (.string ⟨tx.toArray⟩)/\w'.cell? ⟨k,3,none⟩=some (.int .i64 wt)/\w'.cell? ⟨k,4,none⟩=some (.int .i64 tg)) w4:=⟨dV af ae.1,dV af ae.2.1,dV af ae.2.2.1,dV af ae.2.2.2⟩;refine ad _ _ ⟨ai,?_⟩;clear ad;have be:wa.heap.size<=w3.heap.size:=U.size;have bf:=af.size;have aT:=ax.size
    have aa:Below w2.heap.size w2 w4:=by
     have h1:Below wa.heap.size wa w3:=⟨U.os,U.tape,U.output,U.size,U.block⟩;exact(ax.trans (h1.mono aT)).trans (af.mono (by omega))
    have aF:w4.ownsRow (w.heap.size+1) 237 5 (.slice ag (gD O).length cg) (gD O).length (kp (gD O)):=ku ab.out (λj hj=>aa.block j (ab.out.lt j hj).2);have ar:Below w.heap.size w w4:=aA.out.trans (aa.mono (by omega));clear ao af U;refine nY 9 λK' ad=>?_;refine BZ _ _ _ 190 rfl (w.heap.size+1) 237 i0 _ 5 64 eZ hi aI aJ aK rfl (by decide) _ _ _ rfl aF _ 1 _ rfl aE (D1 _) (by omega) (by unfold dW; omega) (by omega) ?_;intro v5 w5 aG Y _;have ap:some k≠(Value.slice ag (gD O).length cg).ownBlock:=λe=>by have:=(ab.out.lt k e.symm).2; have:=aS.out; omega
    have az:(λw':World=>w'.cell? ⟨k,1,none⟩=some (.string ⟨nm.toArray⟩)/\w'.cell? ⟨k,2,none⟩=some (.string ⟨tx.toArray⟩)/\w'.cell? ⟨k,3,none⟩=some (.int .i64 wt)/\w'.cell? ⟨k,4,none⟩=some (.int .i64 tg)) w5:=⟨cell_grown Y ai.1 ap,cell_grown Y ai.2.1 ap,cell_grown Y ai.2.2.1 ap,cell_grown Y ai.2.2.2 ap⟩;refine ad _ _ ⟨az,?_⟩;clear ad;refine j7 10 ?_ az ?_ ?_;rotate_left
    .rintro w' ⟨s0,s1,s2,s3⟩; go_simp; first|done|with_reducible rfl
    refine ee (by kernel_rfl) ?_ _;have bg:=Y.size;have aU:fD (Below w.heap.size w w5):=ar.grown Y (by omega) (λb hb=>by have:=(ab.out.lt b hb).1; omega);have aH:ow w4 B w.heap.size es ac:=aB.out.T7 aa;have aV:fD (ow w5 B w.heap.size es ac):=iq.kept aH Y (λe=>by have:=(ab.out.lt B e.symm).1; omega) (λe=>by have:=(ab.out.lt _ e.symm).1; omega)
    have aW:fD (w5.ownsRow (w.heap.size+1) 237 5 v5 (gD (O++[⟨nm,false,tx,wt,tg⟩])).length (kp (gD (O++[⟨nm,false,tx,wt,tg⟩])))):=by
     show w5.ownsRow _ _ _ _ _ _;rw[aw.out,Cn,cc];exact aG
    have HL5:fD (w5.rangeLeft B w.heap.size<wr.rangeLeft B w.heap.size):=by
     show _<_;rw[iq.mB (Y.block B (by omega) (λe=>by have:=(ab.out.lt B e.symm).1; omega)) (Y.block w.heap.size (by omega) (λe=>by have:=(ab.out.lt _ e.symm).1; omega)),iq.mB (aa.block B a') (aa.block _ a9)];exact aC.out
    clear aG Y ar aF aH aE hS ae ai az ay ax aa;go_wp2;go_roundw
    case rel=>
     exact⟨_,_,_,_,_,_,_,_,_,_,_,_,_,_,_,_,_,_,_,⟨O++[⟨nm,false,tx,wt,tg⟩],ac,lL HP.out aD.out,aV.out,aW.out,aU.out,by omega⟩,rfl⟩
    case measure=>exact HL5.out
end
section
open Go.RowKit Go.Maps
theorem J0{es L:List gu}(O:(es.map gu.name).Nodup)(U:L.Perm (gD es))(hr:jN L):gZ es=uH es++(gS []++kD 26 0 L):=by
 have Y:=Rj 26 [] L hr (λe _=>dS)
 have B:=by
  have:((gD es).map _).Nodup:=O.sublist (dD.map _);exact(U.map _).nodup_iff.2 this
 have h2:jd L=(jd es).filter λe=>!e.gone:=by
  rw[rU,Iw B U];rfl
 rw[dF]at Y;rw[Y,h2];unfold gZ uH iL;rw[List.flatMap_map];simp
theorem QB(B:Nat)(es:List gu)(w:World)(hs:iu w B es)(O:qp es) :
  dX prog 91 #[.map (some B)] w λen w'=>en=.returned (.string ⟨(gZ es).toArray⟩)/\Below w.heap.size w w':=by
 have aq:=ub O
 have ar:es.length<=130:=by
  have h1:=O.gone;have h2:=O.there;have h3:=mq es;have h4:(gD es).length<=30:=h2;omega
 have ah:=O.nodup;have HS:fD (iu _ _ _):=hs;have ac:fD (qp _):=O
 have hG:=zV B es w hs (by omega) (by have:=O.gone; unfold lH; omega) (λe he hg=>by
  rcases O.each e he with h|h
  .rw[h.1]at hg; cases hg
  .have:=(jV h.2).2; omega)
 clear hs O;go_enter func91,ntmps91;go_wp2_with fail;refine hG.mono ?_;rintro e1 w1 ⟨v1,rfl,Y,U⟩;obtain⟨a1,c1,rfl⟩:=Y.form;have ai:fD (jh _ _ _ _):=Y;have aj:fD (Below _ _ _):=U;have ak:=U.size
 have hL:=JG B es w1 (gT.below HS.out U) (by omega) (λe he=>by
  rcases ac.out.each e he with h|h
  .have:=mD h.2.2.1; omega
  .rw[h.1]; simp)
 clear hG Y U;go_wp2_with fail;refine hL.mono ?_;rintro e2 w2 ⟨v2,L,rfl,aa,ad,al,ab⟩;have am:fD (Below w.heap.size w w2):=aj.out.trans (ab.mono ak);have ae:fD (jh w2 w.heap.size (.slice a1 (uH es).length c1) (uH es)):=ai.out.below ab;have au:=ab.size;have af:fD (gZ es=uH es++(gS []++kD 26 0 L)):=J0 ah aa ad
 have hN:=TM 26 w.heap.size _ (uH es) ⟨#[]⟩ [] _ L w2 ae.out al (by omega) (λe he=>⟨by
   have hm:=aa.mem_iff.1 he;unfold gD at hm;rw[dT]at hm;rcases ac.out.each e hm.1 with h|h
   .exact h
   .have:=hm.2;rw[h.1]at this
    simp at this,dS⟩) ad (by
   have h1:=aa.length_eq;have h2:=rl es
   omega) (by simp) (by simp) (by
   have h1:=congrArg dU af.out;rw[cc]at h1;change (uH es).length+(gS []++kD 26 0 L).length<=_
   omega) (eu _)
 change dX _ _ _ _ (Pc _ w2 _ _ (gS []++kD 26 0 L))at hN;go_wp2_with fail;refine hN.mono ?_;rintro e3 w3 ⟨v3,rfl,ag,an⟩;have ao:fD _:=an.low am.out ae.out (et _);rw[<-af.out]at ag;have ap:=JN ag e6 eD e9;go_wp2;go_ret;exact⟨rfl,ao.out⟩
end
section
open Go.RowKit Go.Maps
theorem xl{P:Program}(w:World){o:Oper}{a:Act}{K:Act->World->Prop}{Q:Exit->Act->World->Prop}(s x:Operand)(t:dZ)
  (ho:o.op=.call {callee:=.builtin .append,args:=#[s,x],argTypes:=#[t,t]})
  (base:Nat) (e:dZ) (i:TypeInfo) (z:Value) (bytes:Nat) (ht:P.underlying t=some (.slice e)) (hi:P.info? e=some i) (hz:i.zero=some z)
  (O:i.size=1) (aa:i.bytes=bytes) (ab:z.cells.size=1)
  (v:Value) (n:Nat) (xs:List Value) (hs:a.eval s=v) (Y:w.ownsRow base e 1 v n xs)
  (y:Value) (news:List Value) (hx:a.eval x=y) (hy:Rd w y news) (h1:∀u∈news,u.oneCell'=true)
  (B:(n+news.length)*bytes<=140737488355328) (ac:n+news.length<=dW) (U:base<=w.heap.size)
  (h:∀v' w',w'.ownsRow base e 1 v' (n+news.length) (xs++news)->w.grownBy w' v.ownBlock->(v'.ownBlock=v.ownBlock\/v'.ownBlock=some w.heap.size)->K (a.put o.dst v') w'):fK P o a w K Q:=by
 obtain⟨v',w',hr,h2,h3,h4⟩:=sR (P:=P) w base t o.type e i z bytes ht hi hz O aa ab v n xs Y y news hy h1 B ac U;unfold fK ek;simp only[ho,eh,invoke,builtin,gg,gf,gh,dw,dv,dz,hs,hx,hr];exact h v' w' h2 h3 h4
def kS(es:List gu):List Wd:=if 0<es.length then [gZ es]else []
theorem EZ(B:Nat)(es:List gu)(w:World)(hs:iu w B es)(U:0<es.length->qp es) :
  dX prog 63 #[.map (some B)] w λen w'=>∃v,en=.returned v/\Rd w' v (gr (kS es))/\Below w.heap.size w w':=by
 have O:=λ(ty:dZ)=>gT.len hs eB ty;rw[dj]at O;by_cases Y:0<es.length
 .have HE:fD (kS es=[gZ es]):=by show kS es=_; unfold kS; rw[if_pos Y]
  have hp:=QB B es w hs (U Y);go_enter func63,ntmps63;go_wp2_with fail;refine hp.mono ?_;rintro e w1 ⟨rfl,hb⟩;have HB:fD _:=hb;have hz:=hb.size;go_wp2;go_ret;refine⟨_,rfl,?_,HB.out.alloc hz _⟩;rw[HE.out];exact Rd.one lr
 .have HE:fD (kS es=[]):=by show kS es=_; unfold kS; rw[if_neg Y]
  go_wp2;go_ret;refine⟨_,rfl,?_,fE ..⟩;rw[HE.out];exact Rd.Km rfl (by omega)
end
section
open Go.RowKit Go.Maps
variable {ss':List (List gu)} {Bb b:Nat} {F:Nat->Prop} {v' vK vM:Value} {w:World}
theorem BU.lg{w2 w3:World}{buf:List gu}{ss:List (List gu)}{vS:Value}(hE:BU w F b buf ss Bb vS vM vK)(hF:∀k,F k->k<w.heap.size)(hb:Below w.heap.size w w2)
  (hg:gz (λk=>vS.ownBlock=some k) w2 w3) (B:w3.ownsRow 0 9 1 v' ss'.length (gr (ss'.map gZ))) (hv:∀k,v'.ownBlock=some k->vS.ownBlock=some k\/w2.heap.size<=k) :
  (w3.setCell ⟨b,1,none⟩ v').heap[b]?=some (.cells #[.map (some Bb),v',vM,vK] 90 (0,0))/\iu (w3.setCell ⟨b,1,none⟩ v') Bb buf/\(w3.setCell ⟨b,1,none⟩ v').ownsRow 0 9 1 v' ss'.length (gr (ss'.map gZ))/\
   gz F w (w3.setCell ⟨b,1,none⟩ v')/\(∀k,v'.ownBlock=some k->(F k\/w.heap.size<=k)/\k<w3.heap.size):=by
 have aa:w2.heap[b]?=some (.cells #[.map (some Bb),vS,vM,vK] 90 (0,0)):=by rw[hb.block b (hF b hE.fb)]; exact hE.blk
 have ad:=iQ aa;have ae:=er (hF Bb hE.fB) hb.size;have O:=iz hE.row (λk hk=>hb.block k (hF k (hE.nT k hk)));have U:=gT.stay hE.say (hb.block Bb (hF Bb hE.fB));have ab:w3.heap[b]?=some (.cells #[.map (some Bb),vS,vM,vK] 90 (0,0)):=by rw[hg.block b ad (sI aa O (by decide))]; exact aa
 have Y:=gT.stay U (hg.block Bb ae (λe=>sG O U e.symm));have ac:∀k,k≠b->(w3.setCell ⟨b,1,none⟩ v').heap[k]?=w3.heap[k]?:=λk hk=>fF _ _ _ _ (λe=>hk e);refine⟨by rw[heap_set ab]; rfl,gT.stay Y (ac Bb (λe=>gT.pX Y ab e)),iz B (λk hk=>ac k (λe=>sI ab B (by decide) (by rw[hk,e]))),?_,λk hk=>⟨?_,(B.lt k hk).2⟩⟩
 .exact((gz.jm hb).trans hg (λi _ hi=>hE.nT i hi)).then (nt hE.fb)
 .rcases hv k hk with h|h
  .exact Or.inl (hE.nT k h)
  .exact Or.inr (ew hb.size h)
def rR(ss:List (List gu))(l:List gu):List (List gu):=if 0<l.length then ss++[l]else ss
theorem JE(ss:List (List gu))(l:List gu):(rR ss l).length=ss.length+(gr (kS l)).length:=by
 unfold rR kS;split<;>simp[gr]
theorem Ik(ss:List (List gu))(l:List gu):gr ((rR ss l).map gZ)=gr (ss.map gZ)++gr (kS l):=by
 unfold rR kS;split<;>simp[gr]
theorem xO(es:List gu):(kS es).length<=1:=by unfold kS; split<;>simp
theorem gz.Mm{w':World}{o:Option Nat}(h:w.grownBy w' o):gz (λk=>o=some k) w w':=⟨h.os,h.tape,h.output,h.size,λk B O=>h.block k B (λe=>O e.symm)⟩
theorem Kt{w4:World}(fb:F b)(p1:w4.heap[b]?=some (.cells #[.map (some Bb),v',vM,vK] 90 (0,0)))
  (p3:w4.ownsRow 0 9 1 v' ss'.length (gr (ss'.map gZ))) (p4:gz F w w4) (p5:∀k,v'.ownBlock=some k->(F k\/w.heap.size<=k)/\k<w4.heap.size) (hi:Inv [] ss') :
  ∃F':Nat->Prop,vu vM vK ((w4.alloc (.map #[] 0)).setCell ⟨b,0,none⟩ (.map (some w4.heap.size))) F' b [] ss'/\(∀k,F' k->F k\/w.heap.size<=k)/\gz F w ((w4.alloc (.map #[] 0)).setCell ⟨b,0,none⟩ (.map (some w4.heap.size))):=by
 have O:Below _ w4 (w4.alloc (.map #[] 0)):=(fE ..).alloc (et _) _;have aa:iu _ _ []:=gT.made w4;have ab:(w4.alloc (.map #[] 0)).heap.size=w4.heap.size+1:=by simp
 generalize (w4.alloc _)=U at *;have ac:=iQ p1;have ad:U.heap[b]?=some (.cells #[.map (some Bb),v',vM,vK] 90 (0,0)):=by rw[O.block b ac]; exact p1
 have Y:∀k,k≠b->(U.setCell ⟨b,0,none⟩ (.map (some w4.heap.size))).heap[k]?=U.heap[k]?:=λk B=>fF _ _ _ _ (λe=>B e);have ae:(U.setCell ⟨b,0,none⟩ (.map (some w4.heap.size))).heap.size=U.heap.size:=by simp[fP]
 refine⟨λk=>(F k\/w.heap.size<=k)/\k<w4.heap.size+1,⟨λk B=>by rw[ae,ab]; exact B.2,w4.heap.size,v',?_⟩,λk B=>B.1,?_⟩
 .exact {
   blk:=by rw[heap_set ad]; rfl
   fb:=⟨Or.inl fb,by omega⟩,fB:=⟨Or.inr p4.size,by omega⟩,say:=gT.stay aa (Y _ (by omega)),row:=iz p3 (λk B=>by rw[Y k (λe=>sI p1 p3 (by decide) (by rw[B,e])),O.block k (p5 k B).2]),nT:=λk B=>⟨(p5 k B).1,by have:=(p5 k B).2; omega⟩
   inv:=hi}
 .exact(p4.then (gz.jm O)).then (nt fb)
theorem Tn(w:World)(F:Nat->Prop)(b:Nat)(buf:List gu)(ss:List (List gu))(hP:vu vM vK w F b buf ss) :
  dX prog 29 #[.pointer (some ⟨b,0,none⟩)] w λe w'=>e=.returned (.int .i64 (iU buf ss).1)/\
   ∃F':Nat->Prop,vu vM vK w' F' b (iU buf ss).2.1 (iU buf ss).2.2/\(∀k,F' k->F k\/w.heap.size<=k)/\gz F w w':=by
 have HP:fD (vu _ _ _ _ _ _ _):=hP;obtain⟨i9,a7,a8,a9,a'⟩:=ed yM;have aG:=@run_makeMap prog;obtain⟨hF,Bb,vS,U⟩:=hP;obtain⟨aS,cS,rfl,aH⟩:=gU U.row;have HE:fD (BU _ _ _ _ _ _ _ _ _):=U;have HF:fD (∀k,F k->k<w.heap.size):=hF;have aI:w.cell? ⟨b,0,none⟩=some (.map (some Bb)):=by rw[gq U.blk]; rfl
 have aA:w.cell? ⟨b,1,none⟩=some (.slice aS ss.length cS):=by rw[gq U.blk]; rfl
 have aJ:w.frozen? ⟨b,1,none⟩=false:=gP U.blk 1;have Y:=λ(ty:dZ)=>gT.len U.say eB ty;rw[dj]at Y;have h6:=U.inv.rz;have HI:fD (Inv (iU buf ss).2.1 (iU buf ss).2.2):=CC U.inv;have aK:=ud U.inv;have aB:=hF b U.fb;clear hF U;by_cases h0:buf.length=0
 .have HU:fD (iU buf ss=(5,buf,ss)):=by show iU _ _=_; unfold iU; rw[if_pos h0]
  rw[h0]at Y;clear h0;go_enter eP,eM;go_wp2;go_ret;refine⟨iP (by rw[HU.out]; rfl),F,?_,λk hk=>Or.inl hk,gz.refl _ _⟩;rw[HU.out];exact HP.out
 .have aC:((buf.length:Int)==0)=false:=beq_eq_false_iff_ne.2 (by omega);by_cases aa:6<=ss.length
  .have HU:fD (iU buf ss=(4,buf,ss)):=by show iU _ _=_; unfold iU; rw[if_neg h0,if_pos aa]
   have aw:(6:Int)<=(ss.length:Int):=by omega
   clear h0 aa;go_enter eP,eM;go_wp2;go_ret;refine⟨iP (by rw[HU.out]; rfl),F,?_,λk hk=>Or.inl hk,gz.refl _ _⟩;rw[HU.out];exact HP.out
  .have HU:fD (iU buf ss=(0,[],if 0<(iX buf ss).length then ss++[iX buf ss]else ss)):=by show iU _ _=_; unfold iU; rw[if_neg h0,if_neg aa]
   have aw:¬(6:Int)<=(ss.length:Int):=by omega
   have ai:fD (0<(iX buf ss).length->qp (iX buf ss)):=by
    intro hp;have hi:=HI.out;rw[HU.out]at hi;simp only[if_pos hp]at hi;exact hi.lg _ (by simp)
   clear h0;have aj:fD (iU buf ss=(0,[],rR ss (iX buf ss))):=HU.out;have ax:fD (Inv [] (rR ss (iX buf ss))):=by have:=HI.out; rw[aj.out]at this; exact this
   by_cases ak:ss.length=0
   case' pos=>
    have ae:fD (iX buf ss=gD buf):=by show iX _ _=_; unfold iX; rw[if_pos ak]
    have af:((ss.length:Int)==0)=true:=beq_iff_eq.2 (by omega);have ay:=tI Bb buf w HE.out.say (by omega) (λe he=>Dm HE.out.inv buf (by simp) e he);clear aa ak;go_enter eP,eM;go_wp2_with fail;refine ay.mono ?_;rintro e w1 ⟨C,rfl,hC,az,O⟩;have al:fD (Below w.heap.size w w1.drew):=⟨O.os,O.tape,O.output,O.size,O.block⟩;have aL:w1.cell? ⟨b,1,none⟩=some (.slice aS ss.length cS):=dV O aA;have am:=EZ C (iX buf ss) w1.drew (by rw[ae.out]; exact az) ai.out;clear ay az O
   case' neg=>
    have ae:fD (iX buf ss=buf):=by show iX _ _=_; unfold iX; rw[if_neg ak]
    have af:((ss.length:Int)==0)=false:=beq_eq_false_iff_ne.2 (by omega);have am:=EZ Bb (iX buf ss) w.drew (by rw[ae.out]; exact HE.out.say) ai.out;have al:fD (Below w.heap.size w w.drew):=⟨rfl,rfl,rfl,et _,λ_ _=>rfl⟩;clear aa;go_enter eP,eM
   all_goals
    go_wp2_with fail;clear Y aC aw af ae HU ai;generalize iX buf ss=X at *;refine dY (S:=λw'=>True) (by kernel_rfl) ?_;refine j7 0 ?_ trivial ?_<|j7 1 ?_ trivial ?_<|j7 2 ?_ trivial ?_<|j7 3 ?_ trivial ?_<|j7 5 ?_ trivial ?_ ?_
    any_goals(rintro w' _; go_simp; first|done|with_reducible rfl)
    refine eq (rs:=[4,6]) (by kernel_rfl) (by simp) ?_;intro i hi;simp only[dH,dE,or_false]at hi;rcases hi with rfl|rfl
    case' inl=>
     refine eg (by rfl) λK' B=>?_;rw[if_pos (by rfl)];unfold fK;go_simp;refine B _ _ ⟨trivial,?_⟩;clear B;refine nY 6 λK' B=>?_
    case' inr=>
     refine eg (by rfl) λK' B=>?_;rw[if_pos (by rfl)]
    all_goals
     unfold fK;go_simp;refine am.mono ?_;rintro e w2 ⟨v2,rfl,a0,a4⟩;have ab:Below w.heap.size w w2:=al.out.trans (a4.mono al.out.size);have aM:=ab.size;have ac:w2.heap[b]?=some (.cells #[.map (some Bb),.slice aS ss.length cS,vM,vK] 90 (0,0)):=by rw[ab.block b aB]; exact HE.out.blk
     have an:w2.ownsRow 0 9 1 (.slice aS ss.length cS) ss.length (gr (ss.map gZ)):=iz HE.out.row (λk hk=>ab.block k (HF.out k (HE.out.nT k hk)));have aN:w2.cell? ⟨b,1,none⟩=some (.slice aS ss.length cS):=by rw[gq ac]; rfl
     refine B _ _ ⟨trivial,?_⟩;clear B am a4
    case' inr=>
     refine nY 4 λK' B=>?_;unfold fK;go_simp;refine B _ _ ⟨trivial,?_⟩;clear B
    all_goals
     refine nY 7 λK' B=>?_;refine xl _ _ _ 31 rfl 0 9 i9 (.string ⟨#[]⟩) 16 e8 a7 a8 a9 a' rfl _ _ _ rfl an _ _ rfl a0 n4 ?c1 ?c2 (eu _) ?_
     case c1=>rw[gL]; have:=xO X; omega
     case c2=>rw[gL]; have:=xO X; unfold dW; omega
     intro v3 w3 ao ap a5;obtain⟨a3,c3,rfl,aO⟩:=gU ao;have aq:w3.heap[b]?=some (.cells #[.map (some Bb),.slice aS ss.length cS,vM,vK] 90 (0,0)):=by rw[ap.block b (iQ ac) (λe=>sI ac an (by decide) e.symm)]; exact ac
     refine B _ _ ⟨trivial,?_⟩;clear B
     have ad:w3.ownsRow 0 9 1 (.slice a3 (ss.length+(gr (kS X)).length) c3) (rR ss X).length (gr ((rR ss X).map gZ)):=by
      rw[Ik,JE];exact ao
     have ag:=HE.out.lg HF.out ab (gz.Mm ap) ad (λk hk=>by
      rcases a5 with h|h
      .exact Or.inl (h.symm.trans hk)
      .have aD:=h.symm.trans hk; cases aD; exact Or.inr (et _))
     refine j7 8 ?_ trivial ?_<|j7 9 ?_ trivial ?_ ?_
     any_goals(rintro w' _; go_simp; first|done|with_reducible rfl)
     have aE:w3.cell? ⟨b,1,none⟩=some (.slice aS ss.length cS):=by rw[gq aq]; rfl
     have aF:w3.frozen? ⟨b,1,none⟩=false:=gP aq 1;clear ao ap a5 ad aq an a0 ac ab;refine nY 10 λK' B=>?_;unfold fK;go_simp;refine B _ _ ⟨trivial,ee (by kernel_rfl) ?_ _⟩;clear B aE aF;obtain⟨w4,ar⟩:∃w4,w4=w3.setCell ⟨b,1,none⟩ (.slice a3 (ss.length+(gr (kS X)).length) c3):=⟨_,rfl⟩;have a6:w4.heap.size=w3.heap.size:=by rw[ar]; simp[fP]
     rw[<-ar]at ag⊢;obtain⟨p1,p2,p3,p4,p5⟩:=ag;rw[<-a6]at p5;have ah:=Kt HE.out.fb p1 p3 p4 p5 ax.out;have au:(w4.alloc (.map #[] 0)).heap[b]?=some (.cells #[.map (some Bb),.slice a3 (ss.length+(gr (kS X)).length) c3,vM,vK] 90 (0,0)):=by rw[fG _ _ _ (iQ p1)]; exact p1
     have aP:(w4.alloc (.map #[] 0)).cell? ⟨b,0,none⟩=some (.map (some Bb)):=by rw[gq au]; rfl
     have aQ:(w4.alloc (.map #[] 0)).frozen? ⟨b,0,none⟩=false:=gP au 0;have av:fD (∃F':Nat->Prop,vu vM vK ((w4.alloc (.map #[] 0)).setCell ⟨b,0,none⟩ (.map (some w4.heap.size))) F' b [] (rR ss X)/\(∀k,F' k->F k\/w.heap.size<=k)/\gz F w ((w4.alloc (.map #[] 0)).setCell ⟨b,0,none⟩ (.map (some w4.heap.size)))):=ah;clear ar a6 p1 p2 p3 p4 p5 ah au;go_wp2;go_ret;refine⟨iP (by rw[aj.out]; rfl),?_⟩;rw[aj.out];exact av.out
end
section
open Go.RowKit Go.Maps
theorem Va{w:World}{C D:Nat}{O lb:List gu}{t:dZ}{g:Nat}(U:g=w.heap.size)(Y:iu w C O)(h2:iu w D lb):Lk (w.alloc (.cells #[.map (some C),.map (some D)] t)) (.slice (some ⟨g,0,none⟩) 2 2) [C,D] [O,lb] where
 rd:=by
  subst U;refine⟨some ⟨w.heap.size,0,none⟩,2,rfl,et _,by unfold dW; omega,λj u B=>⟨w.heap.size,0,rfl,?_⟩⟩;rw[fO _ _ _ _ rfl]
  match j,B with
  |0,B=>simpa[zQ]using B
  |1,B=>simpa[zQ]using B
  |j+2,B=>simp at B
 len:=rfl
 each:=λi h h'=>by
  have hb:Below w.heap.size w (w.alloc (.cells #[.map (some C),.map (some D)] t)):=(fE _ _).alloc (et _) _
  match i,h,h' with
  |0,_,_=>exact gT.below Y hb
  |1,_,_=>exact gT.below h2 hb
  |i+2,h,_=>exact absurd h (by simp)
theorem Nl{w w4:World}{F:Nat->Prop}{b:Nat}{buf:List gu}{ss ss':List (List gu)}{Bb:Nat}{vS vM vK v':Value}(O:BU w F b buf ss Bb vS vM vK)(hF:∀k,F k->k<w.heap.size)
  (h:w4.heap[b]?=some (.cells #[.map (some Bb),v',vM,vK] 90 (0,0))/\iu w4 Bb buf/\w4.ownsRow 0 9 1 v' ss'.length (gr (ss'.map gZ))/\gz F w w4/\(∀k,v'.ownBlock=some k->(F k\/w.heap.size<=k)/\k<w4.heap.size)) (hi:Inv buf ss') :
  ∃F':Nat->Prop,vu vM vK w4 F' b buf ss'/\(∀k,F' k->F k\/w.heap.size<=k)/\gz F w w4:=by
 obtain⟨U,p2,p3,p4,Y⟩:=h;refine⟨λk=>(F k\/w.heap.size<=k)/\k<w4.heap.size,⟨λk B=>B.2,Bb,v',?_⟩,λk B=>B.1,p4⟩
 exact {
  blk:=U,fb:=⟨Or.inl O.fb,iQ U⟩,fB:=⟨Or.inl O.fB,er (hF Bb O.fB) p4.size⟩,say:=p2,row:=p3,nT:=λk B=>Y k B
  inv:=hi}
end
section
open Go.RowKit Go.Maps
theorem uK{P:Program}(w:World)(t ty elem:dZ)(g off k c:Nat)(z:Value)(B:Array Value)(T:dZ)(hu:P.underlying t=some (.slice elem))(hz:(zeroValue elem).run P w=.ok z w)(O:z.cells=#[z])(h1:z.oneCell'=true)
  (hg:w.heap[g]?=some (.cells B T (0,0))) (hk:0<k) (ac:off+k<=B.size) :
  ∃U:List Value,U.length=B.size/\(∀j,j<off->U[j]?=B[j]?)/\(fW #[t] ty #[.slice (some ⟨g,off,none⟩) k c]).run P w=.ok (.tuple #[]) (w.setRow g U.toArray):=by
 obtain⟨k',rfl⟩:∃k',k=k'+1:=⟨k-1,by omega⟩;have Y:(fU #[z] (k'+1)).toList.length=k'+1:=by simp[size_zeroCells]
 have aa:∀v∈(fU #[z] (k'+1)).toList,v.oneCell'=true:=by
  intro v hv;simp[fU,Nat.mod_one]at hv;rw[<-hv.2];exact h1
 have ab:=run_storeCells_at P g off T _ 0 B w hg (by omega) aa;refine⟨B.toList.take (off+0)++(fU #[z] (k'+1)).toList++B.toList.drop (off+0+(fU #[z] (k'+1)).toList.length),?_,?_,?_⟩
 .rw[cc,cc,Y];simp;omega
 .intro j hj;rw[dm,cx (by simp; omega),dh,if_pos (by omega)];simp
 .unfold fW;simp[run_underlying hu,hz,O,ab]
theorem rA{w:World}{g:Nat}{cs:Array Value}:gz (· = g) w (w.setRow g cs):=⟨rfl,rfl,rfl,by simp[World.setRow],λk _ B=>setRow_other w g k cs (λe=>B (by omega))⟩
theorem uD{w':World}{e m:Nat}{g cap:Nat}{U:List Value}{O:Array Value}(hm:m<=cap)(B:cap<=dW)(hy:U.length=m)(Y:w'.heap[g]?=some (.cells O e (0,0)))(hl:O.size=cap)(hc:∀j,j<m->O[j]?=U[j]?):w'.ownsRow 0 e 1 (.slice (some ⟨g,0,none⟩) m cap) m U:=by
 refine⟨by omega,Or.inr ⟨g,cap,O,rfl,eu _,Y,hm,B,by omega,?_⟩⟩;apply List.ext_getElem?;intro j;rw[dh];split
 .rw[fI];exact hc j (by omega)
 .rw[List.getElem?_eq_none (by omega)]
theorem yN{P:Program}(w:World)(t ty e:dZ)(i:TypeInfo)(ht:P.underlying t=some (.slice e))(hi:P.info? e=some i)(B:i.size=1)(g n c:Nat)(O:Array Value)(hg:w.heap[g]?=some (.cells O e (0,0)))(ab:O.size=c)
  (x:Value) (news:List Value) (hx:Rd w x news) (h1:∀u∈news,u.oneCell'=true) (U:n+news.length<=c) :
  ∃l':List Value,l'.length=c/\(∀j,j<n->l'[j]?=O[j]?)/\(∀j,j<news.length->l'[n+j]?=news[j]?)/\(fV #[t,t] ty #[.slice (some ⟨g,0,none⟩) n c,x]).run P w=.ok (.slice (some ⟨g,0,none⟩) (n+news.length) c) (w.setRow g l'.toArray):=by
 obtain⟨a,cap,rfl,hc,hm,ac⟩:=hx
 cases a with
 |none=>
  have hn:news=[]:=by
   cases news with
   |nil=>rfl
   |cons u us=>obtain⟨b,off,he,_⟩:=ac 0 u rfl; simp at he
  subst hn;refine⟨O.toList,by simpa using ab,λj _=>by simp,nofun,?_⟩;have:=na (P:=P) w t ty e i ht hi (some ⟨g,0,none⟩) n c cap (by omega);simp only[dF,ey];rw[this,ep w g O e _ hg]
 |some ad=>
  have Y:∀j u,news[j]?=some u->w.cell? (ad.add j)=some u:=by
   intro j u hj;obtain⟨b,off,he,aa⟩:=ac j u hj;simp only[fM]at he;subst he;rw[Addr.add_lit]; exact aa
  have hl:news.length=news.length*i.size:=by rw[B]; omega
  have ae:=run_append_room (P:=P) w t ty e i ht hi g n c O hg ad _ cap news hl Y h1 U (by rw[B]; omega);rw[B,Nat.mul_one]at ae;have mP:O.toList.length=c:=by simpa using ab
  refine⟨_,?_,?_,?_,ae⟩
  .simp only[cc,cp,di,mP];omega
  .intro j hj;rw[dm,cx (by rw[cp]; omega),dh,if_pos hj];simp
  .intro j hj;rw[dm,dg (by rw[cp]; omega),cp,ev (by omega),ex,cx hj]
theorem vp{P:Program}(w:World){ops:Array Oper}{rest:List Oper}{o:Oper}{a:Act}{Q:Exit->Act->World->Prop}(aa:o.guard=none)(s x:Operand)(t:dZ)
  (ho:o.op=.call {callee:=.builtin .append,args:=#[s,x],argTypes:=#[t,t]}) (e:dZ) (i:TypeInfo) (ht:P.underlying t=some (.slice e)) (hi:P.info? e=some i) (O:i.size=1) (g n c:Nat) (B:Array Value) (hg:w.heap[g]?=some (.cells B e (0,0))) (ab:B.size=c)
  (hs:a.eval s=.slice (some ⟨g,0,none⟩) n c) (y:Value) (news:List Value) (hx:a.eval x=y) (hy:Rd w y news) (h1:∀u∈news,u.oneCell'=true) (U:n+news.length<=c)
  (h:∀Y:List Value,Y.length=c->(∀j,j<n->Y[j]?=B[j]?)->(∀j,j<news.length->Y[n+j]?=news[j]?)->ei P ops Q rest (a.put o.dst (.slice (some ⟨g,0,none⟩) (n+news.length) c)) (w.setRow g Y.toArray)):ei P ops Q (o::rest) a w:=by
 refine eo aa λ_ hK=>?_;obtain⟨Y,h2,h3,h4,hr⟩:=yN (P:=P) w t o.type e i ht hi O g n c B hg ab y news hy h1 U;unfold fK ek;simp only[ho,eh,invoke,builtin,gg,gf,gh,dw,dv,dz,hs,hx,hr];exact hK _ _ (h Y h2 h3 h4)
theorem Hu(w:World)(g n cap:Nat)(xs:List Wd)(v:Value)(ps:List Wd)(aa:w.ownsRow 0 9 1 (.slice (some ⟨g,0,none⟩) xs.length cap) xs.length (gr xs))(hv:Rd w v (gr ps))(aF:ps.length<=1)(hn:n+2=xs.length)(au:xs.length<=6) :
  dX prog 74 #[.slice (some ⟨g,0,none⟩) xs.length cap,.int .i64 n,.int .i64 ((n:Int)+2),v] w λe w'=>∃v',e=.returned v'/\w'.ownsRow 0 9 1 v' (xs.take n++ps).length (gr (xs.take n++ps))/\gz (· = g) w w'/\∀k,v'.ownBlock=some k->k=g\/w.heap.size<=k:=by
 obtain⟨i9,aw,_,ax,_⟩:=ed yM;obtain⟨av,cv,rfl,ay,hmv,az⟩:=id hv;rw[gL]at ay⊢;rcases aa.2 with⟨he,_⟩|⟨g',aC,B,he,_,hg,a0,hcm,a3,af⟩
 .cases he
 simp only[fL,fM,go,and_true,true_and]at he;obtain⟨rfl,rfl⟩:=he
 have ag:∀j,j<n->B[j]?=(gr (xs.take n))[j]?:=by
  intro j hj;have h1:=congrArg (λl:List Value=>l[j]?) af;simp only[dh]at h1;rw[if_pos (by omega),fI]at h1;rw[h1];unfold gr;rw[dq,dq,dh,if_pos hj]
 obtain⟨L,hL⟩:∃L,L=xs.length:=⟨_,rfl⟩;rw[<-hL]at au hn a0⊢;have HV:fD (Rd w (.slice av ps.length cv) (gr ps)):=by have:=hv; rw[gL]at this; exact this
 have HG:fD (w.heap[g]?=some (.cells B 9 (0,0))):=hg;have ab:B.size=cap:=by omega
 have HC:fD (B.size=cap):=ab;have hj:IntKind.i64.wrap ((n:Int)+2)=(n:Int)+2:=by simp only[fR]; omega
 have aG:((n:Int)==(n:Int)+2)=false:=beq_eq_false_iff_ne.2 (by omega);have aH:(((n:Int)+2)==(L:Int))=true:=beq_iff_eq.2 (by omega);have aD:(n:Int)+2<=(cap:Int):=by omega
 have aI:¬cap=n:=by omega
 have O:fD (n+2=L):=hn;have ah:fD (L=xs.length):=hL;have a4:fD (∀j,j<n->B[j]?=(gr (xs.take n))[j]?):=ag;unfold dW at hcm hmv;clear hv aa az hg a3 af ag hL ab hn;go_enter func74,ntmps74;have ai:n+(gr ps).length<=cap:=by rw[gL]; omega
 go_wp2_with (first
  |(at_builtin; refine vp _ rfl _ _ 31 rfl 9 i9 e8 aw ax g n cap B HG.out HC.out rfl _ _ rfl HV.out n4 ai ?_))
 intro l1 aj ak ae;rw[gL]at ae⊢;obtain⟨w1,U⟩:∃w1,w1=w.setRow g l1.toArray:=⟨_,rfl⟩;rw[<-U];have al:fD (w1.heap[g]?=some (.cells l1.toArray 9 (0,0))):=by show _=_; rw[U]; exact ef w g _ _ _ _ HG.out
 have a5:fD (gz (· = g) w w1):=by show gz _ _ _; rw[U]; exact rA
 have a6:fD (∀j,j<n->l1[j]?=B[j]?):=ak;have a7:fD (∀j,j<ps.length->l1[n+j]?=(gr ps)[j]?):=ae;have am:fD (l1.length=cap):=aj;have aJ:((n+ps.length:Nat):Int)<(L:Int):=by have:=O.out; omega
 have aE:¬cap=n+ps.length:=by have:=O.out; omega
 clear aj ak ae U ai;have an:0<L-(n+ps.length):=by have:=O.out; omega
 have ac:n+ps.length+(L-(n+ps.length))<=l1.toArray.size:=by have:=O.out; have:=am.out; simp; omega
 obtain⟨l2,ao,ap,a8⟩:=uK (P:=prog) w1 31 0 9 g (n+ps.length) (L-(n+ps.length)) (cap-(n+ps.length)) (.string ⟨#[]⟩) l1.toArray 9 e8 (eA w1) rfl rfl al.out an ac;obtain⟨w2,Y⟩:∃w2,w2=w1.setRow g l2.toArray:=⟨_,rfl⟩;rw[<-Y]at a8;have a9:fD (w2.heap[g]?=some (.cells l2.toArray 9 (0,0))):=by show _=_; rw[Y]; exact ef w1 g _ _ _ _ al.out
 have a':fD (gz (· = g) w w2):=by show gz _ _ _; rw[Y]; exact a5.out.then rA
 have aA:fD (∀j,j<n+ps.length->l2[j]?=l1[j]?):=λj hj=>by have:=ap j hj; simpa using this
 have aB:fD (l2.length=cap):=by show _=_; rw[ao]; simpa using am.out
 clear ao ap Y an ac;go_wp2;go_ret;refine⟨_,rfl,?_,a'.out,λk hk=>Or.inl (by simp[fT]at hk; exact hk.symm)⟩
 have ad:(xs.take n++ps).length=n+ps.length:=by
  have:=ah.out;have:=O.out;rw[cc,cp];omega
 rw[ad];refine uD (by have:=O.out; omega) (by unfold dW; omega) (by rw[gL,ad]) a9.out (by simpa using aB.out) (λj hj=>?_);have e1:(gr (xs.take n++ps))[j]?=(gr (xs.take n)++gr ps)[j]?:=by rw[show gr (xs.take n++ps)=gr (xs.take n)++gr ps by simp[gr]]
 have aq:(gr (xs.take n)).length=n:=by
  have:=ah.out;have:=O.out;rw[gL,cp];omega
 rw[e1,dB,aA.out j hj];by_cases ar:j<n
 .rw[a6.out j ar,cx (by omega),a4.out j ar]
 .rw[dg (by omega),aq,<-a7.out _ (by omega),show n+(j-n)=j by omega]
end
section
open Go.RowKit Go.Maps
theorem uF{P:Program}(w:World)(t ty e:dZ)(ht:P.underlying t=some (.slice e))(hi:(P.info? e).map (·.size)=some 1)(g off dl dc c:Nat)(B:Array Value)(hg:w.heap[g]?=some (.cells B e (0,0)))(ab:B.size=c)
  (x:Value) (news:List Value) (hx:Rd w x news) (h1:∀u∈news,u.oneCell'=true) (hd:news.length<=dl) (ac:off+news.length<=c) :
  ∃l':List Value,l'.length=c/\(∀j,j<off\/off+news.length<=j->l'[j]?=B[j]?)/\(∀j,j<news.length->l'[off+j]?=news[j]?)/\(fX #[t,t] ty #[.slice (some ⟨g,off,none⟩) dl dc,x]).run P w=.ok (.int .i64 (news.length:Int)) (w.setRow g l'.toArray):=by
 obtain⟨a,cap,rfl,hc,hm,aa⟩:=hx;have mP:B.toList.length=c:=by simpa using ab
 cases a with
 |none=>
  have hn:news=[]:=by
   cases news with
   |nil=>rfl
   |cons u us=>obtain⟨b,off,he,_⟩:=aa 0 u rfl; simp at he
  subst hn;refine⟨B.toList,mP,λj _=>by simp,nofun,?_⟩;have:=run_copy_none (P:=P) w t t ty e (some ⟨g,off,none⟩) none dl dc 0 cap ht hi (by simp);simp only[dF];rw[this,ep w g B e _ hg];rfl
 |some ad=>
  have U:∀j u,news[j]?=some u->w.cell? (ad.add j)=some u:=by
   intro j u O;obtain⟨b,off,he,Y⟩:=aa j u O;simp only[fM]at he;subst he;rw[Addr.add_lit]; exact Y
  have ae:=run_copy_row _ w t t ty e g off dl dc ad _ cap B e news ht hi hg (ev hd).symm U (by omega) h1;refine⟨_,?_,?_,?_,ae⟩
  .simp only[cc,cp,di,mP];omega
  .intro j O;rcases O with O|O
   .rw[dm,cx (by rw[cp]; omega),dh,if_pos O];simp
   .rw[dg (by simp only[cc,cp,mP]; omega),dO];simp only[cc,cp,mP];rw[ev (by omega),show off+news.length+(j-(off+news.length))=j by omega];simp
  .intro j O;rw[dm,dg (by rw[cp]; omega),cp,ev (by omega),ex,cx O]
theorem VH:(prog.info? 9).map (·.size)=some 1:=by kernel_rfl
theorem He(w:World)(g n q cap:Nat)(xs:List Wd)(v:Value)(ps:List Wd)(ac:w.ownsRow 0 9 1 (.slice (some ⟨g,0,none⟩) xs.length cap) xs.length (gr xs))(hv:Rd w v (gr ps))(ba:ps.length<=1)(hn:xs.length=n+2+q)(hq:0<q)(a7:xs.length<=6) :
  dX prog 74 #[.slice (some ⟨g,0,none⟩) xs.length cap,.int .i64 n,.int .i64 ((n:Int)+2),v] w λe w'=>∃v',e=.returned v'/\w'.ownsRow 0 9 1 v' (xs.take n++(ps++xs.drop (n+2))).length (gr (xs.take n++(ps++xs.drop (n+2))))/\gz (· = g) w w'/\∀k,v'.ownBlock=some k->k=g\/w.heap.size<=k:=by
 obtain⟨av,cv,rfl,a8,hmv,a9⟩:=id hv;rw[gL]at a8⊢;rcases ac.2 with⟨he,_⟩|⟨g',aU,B,he,_,hg,a',hcm,aA,am⟩
 .cases he
 simp only[fL,fM,go,and_true,true_and]at he;obtain⟨rfl,rfl⟩:=he
 have an:∀j,j<xs.length->B[j]?=(gr xs)[j]?:=by
  intro j O;have h1:=congrArg (λl:List Value=>l[j]?) am;simp only[dh]at h1;rw[if_pos (by omega),fI]at h1;exact h1
 have af:fD (xs.length=n+2+q):=hn;have HV:fD (Rd w (.slice av ps.length cv) (gr ps)):=by have:=hv; rw[gL]at this; exact this
 have HG:fD (w.heap[g]?=some (.cells B 9 (0,0))):=hg;have ad:B.size=cap:=by omega
 have HC:fD (B.size=cap):=ad;have ao:fD (∀j,j<xs.length->B[j]?=(gr xs)[j]?):=an;rw[hn]at a7 a'⊢;have bc:((n:Int)==(n:Int)+2)=false:=beq_eq_false_iff_ne.2 (by omega);have bd:(((n:Int)+2)==((n+2+q:Nat):Int))=false:=beq_eq_false_iff_ne.2 (by omega);have aV:(((n:Int)+2)==(n:Int)+2+(q:Int))=false:=beq_eq_false_iff_ne.2 (by omega);have aW:(n:Int)+2<=(cap:Int):=by omega
 have be:¬cap=n:=by omega
 have aX:¬cap=n+2:=by omega
 unfold dW at hcm hmv;clear hv ac a9 hg aA am an ad hn;go_enter func74,ntmps74;go_wp2_with fail;go_quiet (fail);have ap:fD ((w.drewN nq).heap[g]?=some (.cells B 9 (0,0))):=HG.out;have aB:fD (Rd (w.drewN nq) (.slice av ps.length cv) (gr ps)):=HV.out;have aC:fD (gz (· = g) w (w.drewN nq)):=⟨rfl,rfl,rfl,et _,λ_ _ _=>rfl⟩;generalize w.drewN nq=wd at *;obtain⟨l1,aq,ag,ah,ai⟩:=uF (P:=prog) wd 31 3 9 e8 VH g n (n+ps.length+q-n) (cap-n) cap B ap.out HC.out (.slice av ps.length cv) (gr ps) aB.out n4 (by rw[gL]; omega) (by rw[gL]; omega);rw[gL]at ag ah ai;obtain⟨w1,U⟩:∃w1,w1=wd.setRow g l1.toArray:=⟨_,rfl⟩;rw[<-U]at ai;have aj:fD (w1.heap[g]?=some (.cells l1.toArray 9 (0,0))):=by show _=_; rw[U]; exact ef wd g _ _ _ _ ap.out
 have aD:fD (gz (· = g) w w1):=by show gz _ _ _; rw[U]; exact aC.out.then rA
 have ar:fD (∀j,j<n\/n+ps.length<=j->l1[j]?=B[j]?):=ag;have aE:fD (∀j,j<ps.length->l1[n+j]?=(gr ps)[j]?):=ah;have aF:fD (l1.length=cap):=aq;have aY:¬cap=n+ps.length:=by omega
 have bf:(n:Int)+(ps.length:Int)<=(n:Int)+2:=by omega
 clear aq ag ah U;go_wp2_with fail;clear ai;have aG:IntKind.i64.wrap ((n:Int)+(ps.length:Int))=(n:Int)+(ps.length:Int):=by simp only[fR]; omega
 have hA:(0:Int)<=(n:Int)+(ps.length:Int):=by omega
 have hB:(n:Int)+(ps.length:Int)<=(n:Int)+(ps.length:Int)+(q:Int):=by omega
 have hT:((n:Int)+(ps.length:Int)).toNat=n+ps.length:=by omega
 have aH:(0:Int)<=(n:Int)+2:=by omega
 have aI:(n:Int)+2<=(n:Int)+2+(q:Int):=by omega
 have aJ:((n:Int)+2).toNat=n+2:=by omega
 refine dY (S:=λw'=>True) (by kernel_rfl) ?_;refine j7 0 ?_ trivial ?_<|j7 1 ?_ trivial ?_<|j7 2 ?_ trivial ?_<|j7 3 ?_ trivial ?_<|j7 4 ?_ trivial ?_<|j7 5 ?_ trivial ?_<|j7 6 ?_ trivial ?_<|j7 7 ?_ trivial ?_<|j7 8 ?_ trivial ?_ ?_
 any_goals(rintro w' _; go_simp; first|done|with_reducible rfl)
 refine nY 9 λK' au=>?_;unfold fK;go_simp;have Y:(gr (xs.drop (n+2))).length=q:=by rw[gL,di,af.out]; omega
 have aw:Rd w1.drew (.slice (some ⟨g,n+2,none⟩) q (cap-(n+2))) (gr (xs.drop (n+2))):=by
  refine⟨some ⟨g,n+2,none⟩,cap-(n+2),by rw[Y],by rw[Y]; omega,by unfold dW; omega,λj u O=>⟨g,n+2,rfl,?_⟩⟩
  have bg:j<q:=by
   have:=(List.getElem?_eq_some_iff.1 O).1;omega
  show w1.cell? _=_;rw[gq aj.out];show l1.toArray[n+2+j]?=_;rw[dB,ar.out _ (Or.inr (by omega)),ao.out _ (by rw[af.out]; omega),<-O];unfold gr;rw[dq,dq,dO]
 obtain⟨l2,ax,ak,al,ay⟩:=uF (P:=prog) w1.drew 31 3 9 e8 VH g (n+ps.length) q (cap-(n+ps.length)) cap l1.toArray aj.out (by simpa using aF.out) _ _ aw n4 (by omega) (by omega);rw[ay];rw[Y]at ak al;obtain⟨w2,aa⟩:∃w2,w2=w1.drew.setRow g l2.toArray:=⟨_,rfl⟩;rw[<-aa];have az:fD (w2.heap[g]?=some (.cells l2.toArray 9 (0,0))):=by show _=_; rw[aa]; exact ef w1.drew g _ _ _ _ aj.out
 have aK:fD (gz (· = g) w w2):=by
  show gz _ _ _;rw[aa];have h1:gz (· = g) w1 w1.drew:=⟨rfl,rfl,rfl,et _,λ_ _ _=>rfl⟩;exact(aD.out.then h1).then rA
 have a0:fD (∀j,j<n+ps.length\/n+ps.length+q<=j->l2[j]?=l1[j]?):=λj O=>by have:=ak j O; simpa using this
 have aL:fD (∀j,j<q->l2[n+ps.length+j]?=(gr (xs.drop (n+2)))[j]?):=al;have a3:fD (l2.length=cap):=ax;clear ax ak al ay aa aw Y;refine au _ _ ⟨trivial,ee (by kernel_rfl) ?_ _⟩;clear au aG hA hB hT aH aI aJ;have aZ:¬cap=n+ps.length+q:=by omega
 obtain⟨l3,a4,a5,aM⟩:=uK (P:=prog) w2 31 0 9 g (n+ps.length+q) (n+2+q-(n+ps.length+q)) (cap-(n+ps.length+q)) (.string ⟨#[]⟩) l2.toArray 9 e8 (eA w2) rfl rfl az.out (by omega) (by have:=a3.out; simp; omega);obtain⟨w3,ab⟩:∃w3,w3=w2.setRow g l3.toArray:=⟨_,rfl⟩;rw[<-ab]at aM;have aN:fD (w3.heap[g]?=some (.cells l3.toArray 9 (0,0))):=by show _=_; rw[ab]; exact ef w2 g _ _ _ _ az.out
 have aO:fD (gz (· = g) w w3):=by show gz _ _ _; rw[ab]; exact aK.out.then rA
 have aP:fD (∀j,j<n+ps.length+q->l3[j]?=l2[j]?):=λj O=>by have:=a5 j O; simpa using this
 have aQ:fD (l3.length=cap):=by show _=_; rw[a4]; simpa using a3.out
 clear a4 a5 ab;go_wp2;go_ret;refine⟨_,rfl,?_,aO.out,λk hk=>Or.inl (by simp[fT]at hk; exact hk.symm)⟩;have bh:=af.out
 have ae:(xs.take n++(ps++xs.drop (n+2))).length=n+ps.length+q:=by
  rw[cc,cc,cp,di];omega
 have aR:(gr (xs.take n)).length=n:=by rw[gL,cp]; omega
 have aS:(gr ps).length=ps.length:=gL ps;rw[ae];refine uD (by omega) (by unfold dW; omega) (by rw[gL,ae]) aN.out (by simpa using aQ.out) (λj O=>?_);rw[show gr (xs.take n++(ps++xs.drop (n+2)))=gr (xs.take n)++(gr ps++gr (xs.drop (n+2))) by simp[gr],dB,aP.out j O];by_cases a6:j<n
 .rw[a0.out j (Or.inl (by omega)),ar.out j (Or.inl a6),ao.out j (by omega),cx (by omega)];unfold gr;rw[dq,dq,dh,if_pos a6]
 .rw[dg (by omega),aR];by_cases aT:j<n+ps.length
  .rw[a0.out j (Or.inl aT),cx (by omega),<-aE.out (j-n) (by omega),show n+(j-n)=j by omega]
  .rw[dg (by omega),aS,<-aL.out (j-n-ps.length) (by omega),show n+ps.length+(j-n-ps.length)=j by omega]
theorem II(w:World)(g n cap:Nat)(xs:List Wd)(v:Value)(ps:List Wd)(B:w.ownsRow 0 9 1 (.slice (some ⟨g,0,none⟩) xs.length cap) xs.length (gr xs))(Y:Rd w v (gr ps))(O:ps.length<=1)(hn:n+2<=xs.length)(U:xs.length<=6) :
  dX prog 74 #[.slice (some ⟨g,0,none⟩) xs.length cap,.int .i64 n,.int .i64 ((n:Int)+2),v] w λe w'=>∃v',e=.returned v'/\w'.ownsRow 0 9 1 v' (xs.take n++(ps++xs.drop (n+2))).length (gr (xs.take n++(ps++xs.drop (n+2))))/\gz (· = g) w w'/\∀k,v'.ownBlock=some k->k=g\/w.heap.size<=k:=by
 by_cases h:n+2=xs.length
 .have e:xs.drop (n+2)=[]:=dK (by omega);rw[e,dp];exact Hu w g n cap xs v ps B Y O h U
 .exact He w g n (xs.length-(n+2)) cap xs v ps B Y O (by omega) (by omega) U
end
section
open Go.RowKit Go.Maps
def qD(ss:List (List gu))(m:Nat)(l:List gu):List (List gu):=ss.take m++((if 0<l.length then [l]else [])++ss.drop (m+2))
theorem wI(ss:List (List gu))(m:Nat)(l:List gu):(qD ss m l).map gZ=(ss.map gZ).take m++(kS l++(ss.map gZ).drop (m+2)):=by
 unfold qD kS;split<;>simp
def aiQ(b g m cS:Nat)(x y:List UInt8)(n:Nat)(w':World):Prop:=w'.cell? ⟨b,1,none⟩=some (.slice (some ⟨g,0,none⟩) n cS)/\w'.cell? ⟨g,m,none⟩=some (.string ⟨x.toArray⟩)/\w'.cell? ⟨g,m+1,none⟩=some (.string ⟨y.toArray⟩)
theorem T0{vM vK:Value}(w:World)(F:Nat->Prop)(b:Nat)(buf:List gu)(ss:List (List gu))(n:Int)(hP:vu vM vK w F b buf ss) :
  dX prog 39 #[.pointer (some ⟨b,0,none⟩),.int .i64 n] w λe w'=>e=.returned (.int .i64 (iJ ss n).1)/\
   ∃F':Nat->Prop,vu vM vK w' F' b buf (iJ ss n).2/\(∀k,F' k->F k\/w.heap.size<=k)/\gz F w w':=by
 have HP:fD (vu _ _ _ _ _ _ _):=hP;obtain⟨hF,Bb,vS,hE⟩:=hP;obtain⟨aS,cS,rfl,bo⟩:=gU hE.row;have HF:fD (∀k,F k->k<w.heap.size):=hF;have aK:w.cell? ⟨b,1,none⟩=some (.slice aS ss.length cS):=by rw[gq hE.blk]; rfl
 have h6:=hE.inv.rz;have bc:=hF b hE.fb;have Y:fD (BU _ _ _ _ _ _ _ _ _):=hE;clear hF hE;by_cases h0:n<0
 .have HU:fD (iJ ss n=(6,ss)):=by show iJ _ _=_; unfold iJ; rw[if_pos (Or.inl h0)]
  go_enter fC,fu;go_wp2;go_ret;refine⟨iP (by rw[HU.out]; rfl),F,?_,λk hk=>Or.inl hk,gz.refl _ _⟩;rw[HU.out];exact HP.out
 .have bp:IntKind.i64.wrap ((ss.length:Int)-1)=(ss.length:Int)-1:=by simp only[fR]; omega
  by_cases h1:(ss.length:Int)-1<=n
  .have HU:fD (iJ ss n=(6,ss)):=by show iJ _ _=_; unfold iJ; rw[if_pos (Or.inr h1)]
   go_enter fC,fu;go_wp2;go_ret;refine⟨iP (by rw[HU.out]; rfl),F,?_,λk hk=>Or.inl hk,gz.refl _ _⟩;rw[HU.out];exact HP.out
  .obtain⟨m,rfl⟩:∃m:Nat,n=(m:Int):=⟨n.toNat,by omega⟩;have hm:m+1<ss.length:=by omega
   have ap:m<ss.length:=by omega
   obtain⟨g,rfl⟩:∃g,aS=some ⟨g,0,none⟩:=by
    rcases Y.out.row.2 with⟨he,_⟩|⟨g,cap,bq,he,_⟩
    .simp only[fL]at he; omega
    .simp only[fL]at he;exact⟨g,he.1⟩
   have aq:fD (l9 ss m=if m=0 then gD (gQ ss[m] ss[m+1])else gQ ss[m] ss[m+1]):=by
    show l9 _ _=_;unfold l9;rw[dk,dk,dd ap,dd hm];rfl
   have HU:fD (iJ ss (m:Int)=if 100<lH (l9 ss m)then(4,ss)else(0,ss.take m++((if 0<(l9 ss m).length then [l9 ss m]else [])++ss.drop (m+2)))):=by
    show iJ _ _=_;unfold iJ;rw[if_neg (by omega),Int.toNat_natCast,mq];rfl
   have bd:w.cell? ⟨g,m,none⟩=some (.string ⟨(gZ ss[m]).toArray⟩):=by
    obtain⟨b',off,e,hc⟩:=lJ Y.out.row m (.string ⟨(gZ ss[m]).toArray⟩) (by simp[gr,ap]);cases e;rw[e0]at hc;exact hc
   have be:w.cell? ⟨g,m+1,none⟩=some (.string ⟨(gZ ss[m+1]).toArray⟩):=by
    obtain⟨b',off,e,hc⟩:=lJ Y.out.row (m+1) (.string ⟨(gZ ss[m+1]).toArray⟩) (by simp[gr,hm]);cases e;rw[e0]at hc;exact hc
   have a6:fD (∀l∈[ss[m],ss[m+1]],∀e∈l,e.name.length<=dW):=by
    intro l hl e he;simp only[dH,dE,or_false]at hl;rcases hl with rfl|rfl
    .exact tu (Y.out.inv.lg _ (ch ap)) e he
    .exact tu (Y.out.inv.lg _ (ch hm)) e he
   have ar:fD (j6 [ss[m],ss[m+1]]=gQ ss[m] ss[m+1]):=by
    show _=_;unfold j6;simp only[List.foldl_cons,List.foldl_nil];rw[oT]
   have a7:fD (∀e∈gQ ss[m] ss[m+1],e.name.length<=dW):=by
    rw[<-ar.out];exact yF a6.out
   have ah:fD ((gQ ss[m] ss[m+1]).length<=1000):=by
    have h1:=pJ (Y.out.inv.lg _ (ch ap));have h2:=pJ (Y.out.inv.lg _ (ch hm));have h3:=wT [ss[m],ss[m+1]] 2 (by simp);simp only[List.take]at h3;rw[ar.out]at h3;have h4:kU [ss[m],ss[m+1]]<=1000:=by simp[kU]; omega
    show _<=_;omega
   have br:(0:Int)<=(m:Int):=by omega
   have bs:(m:Int)<(ss.length:Int):=by omega
   have bt:(m:Int)+1<(ss.length:Int):=by omega
   have bu:IntKind.i64.wrap ((m:Int)+1)=(m:Int)+1:=by simp only[fR]; omega
   have bv:IntKind.i64.wrap ((m:Int)+2)=(m:Int)+2:=by simp only[fR]; omega
   have bw:((m:Int)+1).toNat=m+1:=by omega
   have bx:(0:Int)<=(m:Int)+1:=by omega
   clear h0;go_enter fC,fu;go_wp2_with fail;have O:(aiQ b g m cS (gZ ss[m]) (gZ ss[m+1]) ss.length) w.drew:=⟨aK,bd,be⟩;refine dY (S:=aiQ b g m cS (gZ ss[m]) (gZ ss[m+1]) ss.length) (by kernel_rfl) ?_;refine j7 0 ?_ O ?_<|j7 1 ?_ O ?_<|j7 2 ?_ O ?_<|j7 3 ?_ O ?_<|j7 4 ?_ O ?_<|j7 5 ?_ O ?_<|j7 6 ?_ O ?_<|j7 8 ?_ O ?_<|j7 9 ?_ O ?_<|j7 10 ?_ O ?_<|j7 11 ?_ O ?_<|j7 12 ?_ O ?_<|j7 13 ?_ O ?_<|j7 14 ?_ O ?_<|j7 15 ?_ O ?_ ?_
   any_goals(rintro w' ⟨s0,s1,s2⟩; go_simp; first|done|with_reducible rfl)
   refine nY 7 λK' B=>?_;unfold fK;go_simp;refine(qU ss[m] w.drew (Y.out.inv.lg _ (ch _))).mono ?_;rintro e w1 ⟨C,rfl,hC,aL,U⟩;have a8:Below w.heap.size w w1:=⟨U.os,U.tape,U.output,U.size,U.block⟩;have aM:=a8.size;have aj:(aiQ b g m cS (gZ ss[m]) (gZ ss[m+1]) ss.length) w1:=⟨dV U O.1,dV U O.2.1,dV U O.2.2⟩;refine B _ _ ⟨aj,?_⟩;clear B U;refine nY 16 λK' B=>?_;unfold fK;go_simp;refine(qU ss[m+1] w1 (Y.out.inv.lg _ (ch _))).mono ?_;rintro e w2 ⟨D,rfl,hD,aN,ab⟩;have bf:=ab.size;have aO:Below w.heap.size w w2:=a8.trans (ab.mono aM);have ak:(aiQ b g m cS (gZ ss[m]) (gZ ss[m+1]) ss.length) w2:=⟨dV ab aj.1,dV ab aj.2.1,dV ab aj.2.2⟩;have a3:iu w2 C ss[m]:=gT.below aL ab;refine B _ _ ⟨ak,?_⟩;clear B ab aL;refine nY 17 λK' B=>?_;unfold fK;go_simp;have a9:=Va (t:=85) rfl a3 aN;obtain⟨w3,a'⟩:∃w3,w3=w2.alloc (.cells #[.map (some C),.map (some D)] 85):=⟨_,rfl⟩;rw[<-a']at a9⊢;have ae:Below w2.heap.size w2 w3:=by rw[a']; exact(fE _ _).alloc (et _) _
   have au:=ae.size;have aP:Below w.heap.size w w3:=aO.trans (ae.mono (by omega));have al:(aiQ b g m cS (gZ ss[m]) (gZ ss[m+1]) ss.length) w3:=⟨dV ae ak.1,dV ae ak.2.1,dV ae ak.2.2⟩;refine B _ _ ⟨al,?_⟩;clear B ae a';refine nY 18 λK' B=>?_;unfold fK;go_simp
   refine(Bf _ [C,D] [ss[m],ss[m+1]] w3 a9 (by
     have h1:=pJ (Y.out.inv.lg _ (ch (show m<ss.length by omega)));have h2:=pJ (Y.out.inv.lg _ (ch (show m+1<ss.length by omega)));simp[kU]
     omega) a6.out).mono ?_
   rintro e w4 ⟨M,rfl,hM,aA,af⟩;have bg:=af.size;have aB:Below w.heap.size w w4:=aP.trans (af.mono (by omega));have aC:(aiQ b g m cS (gZ ss[m]) (gZ ss[m+1]) ss.length) w4:=⟨dV af al.1,dV af al.2.1,dV af al.2.2⟩;refine B _ _ ⟨aC,?_⟩;clear B af;refine j7 19 ?_ aC ?_ ?_;rotate_left
   .rintro w' ⟨s0,s1,s2⟩; go_simp; first|done|with_reducible rfl
   refine ee (by kernel_rfl) ?_ _;rw[ar.out]at aA;have bh:w.heap.size<=w4.heap.size:=aB.size;have av:fD (iu _ _ _):=aA;have aw:fD (Below _ _ _):=aB;clear O aj ak al aC a9 aA a3 aN a8 aO aP aB hC hD aM bf au bg ar a6;generalize gQ ss[m] ss[m+1]=X at *;by_cases ax:m=0
   case' pos=>
    have a4:((m:Int)==0)=true:=beq_iff_eq.2 (by omega);have aD:fD (l9 ss m=gD X):=by show l9 _ _=_; rw[aq.out,if_pos ax]
    have aQ:=tI M _ w4 av.out (by have:=ah.out; omega) a7.out;clear ax aq;go_wp2_with fail;refine aQ.mono ?_;rintro e w4 ⟨M,rfl,hN,aR,aT⟩;have av:fD (iu _ _ _):=aR;have ah:fD ((gD X).length<=1000):=ew (rl _) ah.out;have aw:fD (Below w.heap.size w w4):=aw.out.trans (aT.mono bh);clear aQ aR aT a4 a7;generalize gD X=X at *
   case' neg=>
    have aD:fD (l9 ss m=X):=by show l9 _ _=_; rw[aq.out,if_neg ax]
    have a4:((m:Int)==0)=false:=beq_eq_false_iff_ne.2 (by omega);clear ax aq a7
   all_goals
    have aU:=CF M X w4 av.out (by have:=ah.out; omega);go_wp2_with fail;refine aU.mono ?_;rintro e w6 ⟨rfl,ay⟩;have bz:=ay.size;have aa:fD (Below w.heap.size w w6):=aw.out.trans (ay.mono aw.out.size);have bi:fD (iu w6 M X):=gT.below av.out ay;have bj:lH X<=1000:=ew (G3 _) ah.out;clear aU ay;by_cases ac:100<lH X
    .have ag:fD (iJ ss (m:Int)=(4,ss)):=by show iJ _ _=_; rw[HU.out,aD.out,if_pos ac]
     have am:(100:Int)<(lH X:Int):=by omega
     clear ac;go_wp2;go_ret;refine⟨iP (by rw[ag.out]; rfl),F,?_,λk hk=>Or.inl hk,gz.jm aa.out⟩;rw[ag.out];exact vu.below HP.out aa.out
    .have ag:fD (iJ ss (m:Int)=(0,qD ss m X)):=by show iJ _ _=_; rw[HU.out,aD.out,if_neg ac]; rfl
     have am:¬(100:Int)<(lH X:Int):=by omega
     have a5:fD (Inv buf (qD ss m X)):=by have:=D2 Y.out.inv (m:Int); rw[ag.out]at this; exact this
     have aV:fD (Below w.heap.size w w6.drew):=⟨aa.out.os,aa.out.tape,aa.out.output,aa.out.size,aa.out.block⟩;have b0:w6.cell? ⟨b,1,none⟩=some (.slice (some ⟨g,0,none⟩) ss.length cS):=dV aa.out aK
     have aW:=EZ M X w6.drew bi.out (λhp=>a5.out.lg _ (by
      unfold qD;rw[if_pos hp]
      simp))
     clear ac;go_wp2_with fail;clear am bj;refine dY (S:=λw'=>True) (by kernel_rfl) ?_;refine j7 0 ?_ trivial ?_<|j7 1 ?_ trivial ?_<|j7 2 ?_ trivial ?_<|j7 3 ?_ trivial ?_<|j7 5 ?_ trivial ?_<|j7 6 ?_ trivial ?_<|j7 7 ?_ trivial ?_<|j7 8 ?_ trivial ?_ ?_
     any_goals(rintro w' _; go_simp; first|done|with_reducible rfl)
     refine eq (rs:=[4,9]) (by kernel_rfl) (by simp) ?_;intro i hi;simp only[dH,dE,or_false]at hi;rcases hi with rfl|rfl
     case' inl=>
      refine eg (by rfl) λK' B=>?_;rw[if_pos (by rfl)];unfold fK;go_simp;refine B _ _ ⟨trivial,?_⟩;clear B;refine nY 9 λK' B=>?_
     case' inr=>
      refine eg (by rfl) λK' B=>?_;rw[if_pos (by rfl)]
     all_goals
      unfold fK;go_simp;refine aW.mono ?_;rintro e x1 ⟨v1,rfl,aX,aY⟩;have az:Below w.heap.size w x1:=aV.out.trans (aY.mono aV.out.size);have an:x1.heap[b]?=some (.cells #[.map (some Bb),.slice (some ⟨g,0,none⟩) ss.length cS,vM,vK] 90 (0,0)):=by rw[az.block b bc]; exact Y.out.blk
      have bk:x1.cell? ⟨b,1,none⟩=some (.slice (some ⟨g,0,none⟩) ss.length cS):=by rw[gq an]; rfl
      refine B _ _ ⟨trivial,?_⟩;clear B aW aY
     case' inr=>
      refine nY 4 λK' B=>?_;unfold fK;go_simp;refine B _ _ ⟨trivial,?_⟩;clear B
     all_goals
      have aE:x1.ownsRow 0 9 1 (.slice (some ⟨g,0,none⟩) (ss.map gZ).length cS) (ss.map gZ).length (gr (ss.map gZ)):=by
       rw[dj];exact iz Y.out.row (λk hk=>az.block k (HF.out k (Y.out.nT k hk)))
      have aF:=II x1 g m cS (ss.map gZ) v1 (kS X) aE aX (xO _) (by rw[dj]; omega) (by rw[dj]; omega);rw[dj]at aF;refine nY 10 λK' B=>?_;unfold fK;go_simp;refine aF.mono ?_;rintro e x2 ⟨v2,rfl,a0,aG,aZ⟩;obtain⟨ln,aH⟩:∃ln,ln=((ss.map gZ).take m++(kS X++(ss.map gZ).drop (m+2))).length:=⟨_,rfl⟩;rw[<-aH]at a0;have bl:fD (ln=((ss.map gZ).take m++(kS X++(ss.map gZ).drop (m+2))).length):=aH;clear aH;obtain⟨a2,c2,rfl,b1⟩:=gU a0;have aI:x2.heap[b]?=some (.cells #[.map (some Bb),.slice (some ⟨g,0,none⟩) ss.length cS,vM,vK] 90 (0,0)):=by rw[aG.block b (iQ an) (λe=>sI an aE (by decide) (by rw[e]; rfl))]; exact an
      refine B _ _ ⟨trivial,?_⟩;clear B aF
      have ao:x2.ownsRow 0 9 1 (.slice a2 ln c2) (qD ss m X).length (gr ((qD ss m X).map gZ)):=by
       rw[wI,<-dj (f:=gZ),wI,<-bl.out];exact a0
      have ad:=Y.out.lg HF.out az (aG.mono (λk hk=>by subst hk; rfl)) ao (λk hk=>by
       rcases aZ k hk with h|h
       .subst h; exact Or.inl rfl
       .exact Or.inr h)
      refine j7 11 ?_ trivial ?_<|j7 12 ?_ trivial ?_ ?_
      any_goals(rintro w' _; go_simp; first|done|with_reducible rfl)
      have bm:x2.cell? ⟨b,1,none⟩=some (.slice (some ⟨g,0,none⟩) ss.length cS):=by rw[gq aI]; rfl
      have bn:x2.frozen? ⟨b,1,none⟩=false:=gP aI 1;clear a0 aG aZ ao aI aE aX an az bk;refine nY 13 λK' B=>?_;unfold fK;go_simp;refine B _ _ ⟨trivial,ee (by kernel_rfl) ?_ _⟩;clear B bm bn;obtain⟨x3,aJ⟩:∃x3,x3=x2.setCell ⟨b,1,none⟩ (.slice a2 ln c2):=⟨_,rfl⟩;have au:x3.heap.size=x2.heap.size:=by rw[aJ]; simp[fP]
      rw[<-aJ]at ad⊢;rw[<-au]at ad;have ba:fD (∃F':Nat->Prop,vu vM vK x3 F' b buf (qD ss m X)/\(∀k,F' k->F k\/w.heap.size<=k)/\gz F w x3):=Nl Y.out HF.out ad a5.out;clear aJ au ad;go_wp2;go_ret;refine⟨iP (by rw[ag.out]; rfl),?_⟩;rw[ag.out];exact ba.out
end
section
open Go.RowKit Go.Maps
def TX(B:World->(Nat->Prop)->Nat->List gu->List (List gu)->Prop)(w:World)(F:Nat->Prop)(b:Nat)(code:Nat)(buf:List gu)(ss:List (List gu))(e:Ending)(w':World):Prop:=
 e=.returned (.int .i64 code)/\∃F':Nat->Prop,B w' F' b buf ss/\(∀k,F' k->F k\/w.heap.size<=k)/\gz F w w'
end
section
open Go.RowKit Go.Maps
variable {c:Array Value} {ss:List (List gu)} {ts:List (List Wd)} {buf:List gu} {kn:List Wd} {b n:Nat} {fr:Nat×Nat} {F' F1 F2:Nat->Prop} {e:dZ} {vK vS:Value} {w w':World}
def VB(O vS:Value)(w:World)(F:Nat->Prop)(b:Nat)(ts:List (List Wd)):Prop:=(∀k,F k->k<w.heap.size)/\∃B n vK kn,PW w F b O vS ts B n vK kn
theorem E6{vB:Value}(w:World)(F:Nat->Prop)(b:Nat)(ts:List (List Wd))(s:ByteArray)(hP:VB vB vS w F b ts)(hB:jP ts<=16777216)(hs:s.size<=dW) :
  dX prog 34 #[.pointer (some ⟨b,0,none⟩),.string s] w λe w'=>e=.returned (.int .i64 (vq ts s.data.toList).1)/\
   ∃F':Nat->Prop,VB vB vS w' F' b (vq ts s.data.toList).2/\(∀k,F' k->F k\/w.heap.size<=k)/\gz F w w':=by
 obtain⟨hF,B,n,vK,kn,hW⟩:=hP;by_cases h:il s.data.toList=true/\s.data.toList≠[]
 .have HO:fD (vq ts s.data.toList=if 60<(iN (ts++[kX (ir s.data.toList)])).length then(4,ts)else(0,ts++[kX (ir s.data.toList)])):=by
   show vq ts s.data.toList=_;unfold vq;rw[if_pos h]
  have hT:=sD s w hs;rw[decide_eq_true h]at hT;obtain⟨aj,ak⟩:=ya s h.1;have al:=xR s w.drew h.1;clear h hs;generalize kX (ir s.data.toList)=t at *;go_enter func34,ntmps34;go_wp2_with fail;refine hT.mono ?_;rintro e w' ⟨rfl,rfl⟩;clear hT;by_cases ac:60<(iN (ts++[t])).length
  .have ad:fD (vq ts s.data.toList=(4,ts)):=by show _=_; rw[HO.out,if_pos ac]
   have ae:dX prog 67 #[.string s] w.drew λe w1=>∃a c,e=.returned (.slice a t.length c)/\Below w.heap.size w w1/\
     dX prog 66 #[.pointer (some ⟨b,2,none⟩),.slice a t.length c] w1 λe w2=>e=.returned (.bool false)/\Below w.heap.size w w2:=by
    refine al.mono ?_;rintro e w1 ⟨v,rfl,aa,O⟩;have ab:w1.ownsRow w.heap.size 9 1 v t.length (gr t):=aa;have Y:Below w.heap.size w w1:=⟨O.os,O.tape,O.output,O.size,O.block⟩;clear aa O;obtain⟨a,c,rfl,_⟩:=gU ab;refine⟨a,c,rfl,Y,?_⟩;refine(Ls F b vB vS ts B n vK kn t w.heap.size _ w1 (λk U=>er (hF k U) Y.size) (hW.stay (λk U=>Y.block k (hF k U))) ab (λk U an=>by have:=(ab.lt k U).1; have:=hF k an; omega) aj ak hB).mono ?_;rintro e w2 (⟨_,rfl,af⟩|⟨hn,_⟩)
    .exact⟨rfl,Y.trans (af.mono Y.size)⟩
    .exact absurd ac hn
   clear al ac aj ak;go_wp2_with fail
   go_region_law (first
    |(go_simp
      go_at_call 67
      refine ae.mono ?_
      rintro e w1 ⟨a,c,rfl,Y,ag⟩)
    |(go_simp
      go_at_call 66
      refine ag.mono ?_
      rintro e w2 ⟨rfl,af⟩))
   all_goals
    go_wp2;go_ret;refine⟨iP (by rw[ad.out]; rfl),F,?_,λk U=>Or.inl U,gz.jm af⟩;rw[ad.out];exact⟨λk U=>er (hF k U) af.size,B,n,vK,kn,hW.stay (λk U=>af.block k (hF k U))⟩
  .have ad:fD (vq ts s.data.toList=(0,ts++[t])):=by show _=_; rw[HO.out,if_neg ac]
   have ae:dX prog 67 #[.string s] w.drew λe w1=>∃a c,e=.returned (.slice a t.length c)/\Below w.heap.size w w1/\
     dX prog 66 #[.pointer (some ⟨b,2,none⟩),.slice a t.length c] w1 λe w2=>e=.returned (.bool true)/\(∃F' n' ah ai,(∀k,F' k->k<w2.heap.size)/\(∀k,F' k->F k\/w.heap.size<=k)/\PW w2 F' b vB vS (ts++[t]) B n' ah ai)/\gz F w w2:=by
    refine al.mono ?_;rintro e w1 ⟨v,rfl,aa,O⟩;have ab:w1.ownsRow w.heap.size 9 1 v t.length (gr t):=aa;have Y:Below w.heap.size w w1:=⟨O.os,O.tape,O.output,O.size,O.block⟩;clear aa O;obtain⟨a,c,rfl,_⟩:=gU ab;refine⟨a,c,rfl,Y,?_⟩;have ap:w.heap.size<=w1.heap.size:=Y.size;refine(Ls F b vB vS ts B n vK kn t w.heap.size _ w1 (λk U=>er (hF k U) ap) (hW.stay (λk U=>Y.block k (hF k U))) ab (λk U an=>by have:=(ab.lt k U).1; have:=hF k an; omega) aj ak hB).mono ?_;rintro e w2 (⟨hy,_⟩|⟨_,rfl,⟨n',ah,ai,ao⟩,am⟩)
    .exact absurd hy ac
    .have au:=am.size;refine⟨rfl,⟨SM F w1 w2,n',ah,ai,?_,?_,ao⟩,?_⟩
     .rintro k (U|U)
      .have:=hF k U; omega
      .exact U.2
     .rintro k (U|U)
      .exact Or.inl U
      .exact Or.inr (by omega)
     .exact(gz.jm (F:=F) Y).trans am (λ_ _ h=>h)
   clear al ac aj ak;go_wp2_with fail
   go_region_law (first
    |(go_simp
      go_at_call 67
      refine ae.mono ?_
      rintro e w1 ⟨a,c,rfl,Y,ag⟩)
    |(go_simp
      go_at_call 66
      refine ag.mono ?_
      rintro e w2 ⟨rfl,⟨F',n',ah,ai,aq,ar,ao⟩,am⟩))
   all_goals
    go_wp2;go_ret;refine⟨iP (by rw[ad.out]; rfl),F',?_,ar,am⟩;rw[ad.out];exact⟨aq,B,n',ah,ai,ao⟩
 .have HO:fD (vq ts s.data.toList=(2,ts)):=by show vq ts s.data.toList=_; unfold vq; rw[if_neg h]
  have hT:=sD s w hs;rw[decide_eq_false h]at hT;go_enter func34,ntmps34;go_wp2_with fail;refine hT.mono ?_;rintro e w' ⟨rfl,rfl⟩;go_wp2;go_ret;refine⟨iP (by rw[HO.out]; rfl),F,?_,λk U=>Or.inl U,gz.refl _ _⟩;rw[HO.out];exact⟨hF,B,n,vK,kn,hW⟩
structure PJ(w:World)(F1 F2:Nat->Prop)(b:Nat)(buf:List gu)(ss:List (List gu))(ts:List (List Wd)):Prop where
 Uq:∀k,F1 k->k<w.heap.size
 Vv:∀k,F2 k->k<w.heap.size
 apart:∀k,F1 k->F2 k->k=b
 both:∃Bb vS B n vK kn,BU w F1 b buf ss Bb vS (.map (some B)) vK/\PW w F2 b (.map (some Bb)) vS ts B n vK kn
theorem PJ.below(h:PJ w F1 F2 b buf ss ts)(U:w.heap.size<=w'.heap.size)(hb:∀k,k<w.heap.size->w'.heap[k]?=w.heap[k]?):PJ w' F1 F2 b buf ss ts:=by
 obtain⟨Y,h2,h3,Bb,vS,B,n,vK,kn,h4,h5⟩:=h;exact⟨λk O=>er (Y k O) U,λk O=>er (h2 k O) U,h3,Bb,vS,B,n,vK,kn,h4.stay λk O=>hb k (Y k O),h5.stay λk O=>hb k (h2 k O)⟩
theorem TF{B:Nat}{f:List Wd->Nat}(h:iD w B n f)(hb:w.heap[b]?=some (.cells c e fr)):B≠b:=by
 rintro rfl;obtain⟨D,⟨es,clock,O,_⟩,_⟩:=h;rw[O]at hb;cases hb
theorem Ui{B:Nat}{es:List gu}(h:iu w B es)(hb:w.heap[b]?=some (.cells c e fr)):B≠b:=by
 rintro rfl;obtain⟨D,⟨es,clock,O,_⟩,_⟩:=h;rw[O]at hb;cases hb
theorem OT{base:Nat}{v:Value}{xs:List Value}(h:w.ownsRow base 9 1 v n xs)(hb:w.heap[b]?=some (.cells c 90 fr)):∀k,v.ownBlock=some k->k≠b:=by
 rintro k B rfl;rcases h.2 with⟨rfl,_⟩|⟨g,cap,O,rfl,_,U,_⟩
 .cases B
 .simp only[fT,fM]at B;subst B;rw[U]at hb;simp only[fM,Obj.cells.injEq]at hb;exact absurd hb.2.1 (by decide)
theorem PJ.entries{Y:List gu}{ss':List (List gu)}{Bb:Nat}{B:Nat}(h1:∀k,F1 k->k<w.heap.size)(h2:∀k,F2 k->k<w.heap.size)(h3:∀k,F1 k->F2 k->k=b)(h4:BU w F1 b buf ss Bb vS (.map (some B)) vK)(O:PW w F2 b (.map (some Bb)) vS ts B n vK kn)
  (hp:vu (.map (some B)) vK w' F' b Y ss') (hF:∀k,F' k->F1 k\/w.heap.size<=k) (aa:gz F1 w w'):PJ w' F' F2 b Y ss' ts:=by
 obtain⟨g1,ac,ad,g2⟩:=hp;have hz:=aa.size;have nH:∀k,F2 k->k≠b->w'.heap[k]?=w.heap[k]?:=λk U ae=>aa.block k (h2 k U) λhf=>ae (h3 k hf U);refine⟨g1,λk U=>er (h2 k U) hz,λk U ab=>?_,ac,ad,B,n,vK,kn,g2,⟨g2.blk,O.fb,O.fB,O.cnt.stay (nH B O.fB (TF O.cnt O.blk)),O.room,iz O.row λk U=>nH k (O.nT k U) (OT O.row O.blk k U),O.nT,O.perm,O.ok,O.rz⟩⟩;rcases hF k U with hf|hf
 .exact h3 k hf ab
 .exact absurd (h2 k ab) (by omega)
theorem PJ.words{Y:List (List Wd)}{Bb:Nat}{B:Nat}(h1:∀k,F1 k->k<w.heap.size)(h2:∀k,F2 k->k<w.heap.size)(h3:∀k,F1 k->F2 k->k=b)(O:BU w F1 b buf ss Bb vS (.map (some B)) vK)(h5:PW w F2 b (.map (some Bb)) vS ts B n vK kn)
  (hp:VB (.map (some Bb)) vS w' F' b Y) (hF:∀k,F' k->F2 k\/w.heap.size<=k) (aa:gz F2 w w'):PJ w' F1 F' b buf ss Y:=by
 obtain⟨g1,B',n',ab,ac,g2⟩:=hp;have hz:=aa.size;have nH:∀k,F1 k->k≠b->w'.heap[k]?=w.heap[k]?:=λk U ad=>aa.block k (h1 k U) λhf=>ad (h3 k U hf);refine⟨λk U=>er (h1 k U) hz,g1,λk U ae=>?_,Bb,vS,B',n',ab,ac,⟨g2.blk,O.fb,O.fB,gT.stay O.say (nH Bb O.fB (Ui O.say O.blk)),iz O.row λk U=>nH k (O.nT k U) (OT O.row O.blk k U),O.nT,O.inv⟩,g2⟩;rcases hF k ae with hf|hf
 .exact h3 k U hf
 .exact absurd (h1 k U) (by omega)
end
end Go.Proofs.YtocbogeoffeolaaGreatDoor
