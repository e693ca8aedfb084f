import Derived.Test.YtocbogeoffeolaaGreatDoorComAC
import Derived.Shelf.Strconv.Clone
import Derived.Shelf.Sort.Plain
import Derived.Shelf.Slices.In.SortNone
import Derived.Lib.AppendStr
import Derived.Sort.OwnSorted
import Derived.Laws.CopyOwn
set_option linter.all false
set_option maxHeartbeats 8000000
set_option maxRecDepth 1000000
open List renaming length_append->bx,getElem_mem->bz,length_take->ca,getElem?_append_left->cc,length_map->ch,getElem?_eq_getElem->cl,take_succ_eq_append_getElem->cm,getElem?_append_right->cp,getElem?_take->cx,length_drop->cB,getD_eq_getElem?_getD->dd,append_assoc->dm,mem_nil_iff->dr,mem_map->dt,append_nil->dw,getElem?_map->dB,mem_cons->dN,flatMap_cons->dS,mem_of_mem_drop->ee,flatMap_append->ef,map_cons->eg,map_toArray->ei,length_eq_zero_iff->ej,flatMap_nil->ek,take_of_length_le->eq,map_nil->er,getElem_cons_zero->et,getElem?_toArray->ev,take_succ_cons->ex,filter_sublist->ey,mem_filter->ez,length_nil->e0,pairwise_iff_getElem->e6,getElem_cons_succ->e8,drop_eq_nil_of_le->fa,take_append_drop->fd,drop_succ_cons->ff,mem_cons_self->fi,getElem?_drop->fk,pairwise_map->fm,take_prefix->fs,length_cons->ft,nil_prefix->fv,foldl_cons->f',foldl_nil->ga,length->gc,take->gd
open Go renaming cell_later->ge,maxLen->gg,Calls->gl,wp_region_held->gm,info_parts->go,wpAnyH_done->gt,wpOp_step->gv,setRow_heap->gz,wpAnyH_all->g5,TypeId->g6,resolve->g7,wpList->g8,heap_alloc_new->g9,execOp->ha,wpList_plain->hw,setRow_self->h7
open Nat renaming le_refl->h8,lt_of_lt_of_le->h9,zero_le->hI,min_eq_left->hJ,le_trans->hQ,add_sub_cancel_left->hV,add_zero->hX,zero_mul->hY,zero_add->hZ
open Go.Proofs.Tryz renaming underlying60->ie,underlying31->ip,underlying85->iv,underlying9->i6,zeroValue9->i7,underlying5->i8,underlying4->i',underlying3->jt,underlying0->j1,zeroValue5->j2,zeroValue4->j3,zeroValue3->j4,zeroValue0->j',ntmps38->ka,ntmps29->kb,ntmps25->kc,ntmps128->kd,func38->ke,func29->kf,func25->kj,underlying292->kk,underlying276->kl,underlying272->ko,underlying239->kr,underlying229->ks,underlying226->kt,underlying222->kv,underlying221->k0,underlying212->k3,underlying190->k4,underlying184->k5,underlying141->k6,zeroValue292->k7,zeroValue276->k8,zeroValue272->k9,zeroValue229->ld,zeroValue226->lf,zeroValue222->lk,zeroValue221->lo,zeroValue212->lp,zeroValue184->ls,zeroValue141->lv,sizeOf9->lw,sizeOf5->lx,sizeOf4->ly,sizeOf3->l0,sizeOf0->l4,ntmps39->lE,ntmps26->mb,func128->md,isAgg9->mi,isAgg5->mp,isAgg4->mr,isAgg3->ms,isAgg0->mv,func39->mx,func26->m0
open Go.RowKit renaming Hid->m1
open Go.Oper renaming wp->m2
open Go.RowKit.Below renaming refl->m3,heap_setCell->m4,heap_alloc->m5
open Array renaming getElem?_eq_some_iff->m6,getElem?_toList->m7,getElem?_modify->m8
open Go.Value.slice renaming injEq->m9
open Go.World renaming ownsRow_nil->m',cell?_alloc_at->nc,setCell->ne,cell?->nl
open Option.some renaming injEq->no
open Go.IntKind renaming wrap_i64->nr
open Go.Value renaming oneCell'->nv,ownBlock->nw
open Go.Builtin renaming zeroCells->n0,append_->n3,clear_->n4,copy_->n5
open Go.Op renaming bytesLess->n7
open Go.Sort renaming ahead->n8,alloc_eq_grow->n',mapBlock->nL,putRowK->nU,putRow->oa
open Go.Sem renaming run_pure->ob,run_bind->od
open Go.Result renaming andThen_ok->oi
open Go.Proofs renaming sortWorldK->oj
open Go.Sort.HoldsK renaming cell->ol
open Go.Addr.mk renaming injEq->om
open List.Pairwise renaming sublist->on,imp->oo
open List.Perm renaming refl->ot,eq_of_pairwise->ou
open Bool renaming false->f?,true->t?
open Go renaming Program->P?,Value->v?,World->w?
open Go.Ending renaming returned->e?
open Go.IntKind renaming i64->i?
open Go.Obj renaming cells->c?
open Go.Value renaming int->n?,pointer->p?,string->s?
open List renaming length->l?,toArray->a?
open Option renaming none->x?,some->y?
namespace Go.Proofs.YtocbogeoffeolaaGreatDoor
open Go.Proofs.Tryz
section
open Go.Shelf
def F7:Go.Shelf.Ren:=⟨fun|316=>90|n=>n,fun|9=>9|3=>3|4=>4|37=>60|0=>0|127=>187|5=>5|n=>n,fun|n=>n⟩
def Rt:Go.Proofs.LaysM.n316 prog F7:={
 mixed:=k!
 f316:=func90.trans (congrArg y? k!),t0:=j1,a0:=mv,z0:=l4,v0:=j',t3:=jt,a3:=ms,z3:=l0,v3:=j4,t4:=i',a4:=mr,z4:=ly,v4:=j3,t9:=i6,a9:=mi,z9:=lw,v9:=i7,t37:=ie,a37:=isAgg60,z37:=sizeOf60,v37:=zeroValue60,t127:=underlying187,a127:=isAgg187,z127:=sizeOf187,v127:=zeroValue187,t5:=i8,a5:=mp,z5:=lx,v5:=j2,i0:=k!
 i3:=k!
 i4:=k!
 i5:=k!
 i9:=k!
 i37:=k!
 i127:=by kernel_rfl}
def Hd:Go.Shelf.Ren:=⟨fun|190=>162|125=>125|258=>217|128=>172|129=>173|302=>243|303=>244|304=>245|305=>246|306=>247|307=>248|308=>249|309=>250|310=>251|333=>271|329=>219|330=>220|334=>272|335=>273|336=>175|344=>279|n=>n,fun|31=>31|9=>9|3=>3|46=>184|0=>0|51=>229|53=>141|4=>4|183=>222|182=>221|131=>226|5=>5|218=>272|222=>276|228=>292|229=>212|n=>n,fun|n=>n⟩
def yN:Go.Proofs.Lays.n190 prog Hd:={
 mixed:=k!
 f125:=func125.trans (congrArg y? k!),f128:=func172.trans (congrArg y? k!),f129:=func173.trans (congrArg y? k!),f190:=func162.trans (congrArg y? k!),f258:=func217.trans (congrArg y? k!),f302:=func243.trans (congrArg y? k!),f303:=func244.trans (congrArg y? k!),f304:=func245.trans (congrArg y? k!),f305:=func246.trans (congrArg y? k!),f306:=func247.trans (congrArg y? k!),f307:=func248.trans (congrArg y? k!),f308:=func249.trans (congrArg y? k!),f309:=func250.trans (congrArg y? k!),f310:=func251.trans (congrArg y? k!),f329:=func219.trans (congrArg y? k!),f330:=func220.trans (congrArg y? k!),f333:=func271.trans (congrArg y? k!),f334:=func272.trans (congrArg y? k!),f335:=func273.trans (congrArg y? k!),f336:=func175.trans (congrArg y? k!),f344:=func279.trans (congrArg y? k!),t0:=j1,a0:=mv,z0:=l4,v0:=j',t3:=jt,a3:=ms,z3:=l0,v3:=j4,t4:=i',a4:=mr,z4:=ly,v4:=j3,t5:=i8,a5:=mp,z5:=lx,v5:=j2,t9:=i6,a9:=mi,z9:=lw,v9:=i7,t31:=ip,a31:=isAgg31,z31:=sizeOf31,v31:=zeroValue31,t46:=k5,a46:=isAgg184,z46:=sizeOf184,v46:=ls,t51:=ks,a51:=isAgg229,z51:=sizeOf229,v51:=ld,t53:=k6,a53:=isAgg141,z53:=sizeOf141,v53:=lv,t131:=kt,a131:=isAgg226,z131:=sizeOf226,v131:=lf,t182:=k0,a182:=isAgg221,z182:=sizeOf221,v182:=lo,t183:=kv,a183:=isAgg222,z183:=sizeOf222,v183:=lk,t218:=ko,a218:=isAgg272,z218:=sizeOf272,v218:=k9,t222:=kl,a222:=isAgg276,z222:=sizeOf276,v222:=k8,t228:=kk,a228:=isAgg292,z228:=sizeOf292,v228:=k7,t229:=k3,a229:=isAgg212,z229:=sizeOf212
 v229:=lp}
def DT:Go.Shelf.Ren:=⟨fun|6=>184|15=>125|14=>227|28=>172|29=>173|20=>257|21=>258|22=>259|23=>260|24=>261|25=>262|26=>263|27=>264|46=>276|47=>219|48=>220|49=>277|50=>278|57=>280|n=>n,fun|22=>190|24=>237|25=>242|3=>3|39=>184|0=>0|53=>229|55=>141|4=>4|46=>222|45=>221|50=>226|5=>5|9=>9|66=>272|70=>276|76=>292|77=>212|n=>n,fun|n=>n⟩
def FB:Go.Proofs.SlLaysF0.n6 prog DT:={
 mixed:=k!
 f6:=⟨f184.name,d!,k? func184⟩,f14:=⟨f227.name,d!,k? func227⟩,f15:=func125.trans (congrArg y? k!),f20:=⟨f257.name,d!,k? func257⟩,f21:=⟨Tryz.f258.name,d!,k? func258⟩,f22:=⟨f259.name,d!,k? func259⟩,f23:=⟨f260.name,d!,k? func260⟩,f24:=⟨f261.name,d!,k? func261⟩,f25:=⟨f262.name,d!,k? func262⟩,f26:=⟨f263.name,d!,k? func263⟩,f27:=⟨f264.name,d!,k? func264⟩,f28:=func172.trans (congrArg y? k!),f29:=func173.trans (congrArg y? k!),f46:=⟨f276.name,d!,k? func276⟩,f47:=func219.trans (congrArg y? k!),f48:=func220.trans (congrArg y? k!),f49:=⟨f277.name,d!,k? func277⟩,f50:=⟨f278.name,d!,k? func278⟩,f57:=⟨f280.name,d!,k? func280⟩,t0:=j1,a0:=mv,z0:=l4,v0:=j',t3:=jt,a3:=ms,z3:=l0,v3:=j4,t4:=i',a4:=mr,z4:=ly,v4:=j3,t5:=i8,a5:=mp,z5:=lx,v5:=j2,t9:=i6,a9:=mi,z9:=lw,v9:=i7,t22:=k4,a22:=isAgg190,z22:=sizeOf190,v22:=zeroValue190,t25:=underlying242,a25:=isAgg242,z25:=sizeOf242,v25:=zeroValue242,t39:=k5,a39:=isAgg184,z39:=sizeOf184,v39:=ls,t45:=k0,a45:=isAgg221,z45:=sizeOf221,v45:=lo,t46:=kv,a46:=isAgg222,z46:=sizeOf222,v46:=lk,t50:=kt,a50:=isAgg226,z50:=sizeOf226,v50:=lf,t53:=ks,a53:=isAgg229,z53:=sizeOf229,v53:=ld,t55:=k6,a55:=isAgg141,z55:=sizeOf141,v55:=lv,t66:=ko,a66:=isAgg272,z66:=sizeOf272,v66:=k9,t70:=kl,a70:=isAgg276,z70:=sizeOf276,v70:=k8,t76:=kk,a76:=isAgg292,z76:=sizeOf292,v76:=k7,t77:=k3,a77:=isAgg212,z77:=sizeOf212
 v77:=lp}
end
section
open Go.RowKit Go.Maps
variable {ss:List (List dD)} {buf:List dD} {Bb b:Nat} {F:Nat->Prop} {vK vM vS:v?} {w w':w?}
def tA(s)(w)(O:s.size<=281474976710656) :
  gl prog 61 #[s? s] w λe w'=>e=e? (s? s)/\B? w w':=by
 have B:=Any.stringslite_Clone Rt s w O;go_enter func61,ntmps61;go_wp2_with fail;refine B.mono ?_;rintro e w1 ⟨rfl,hb⟩;have U:m1 _:=hb;go_wp2;go_ret;exact⟨q?,U⟩
def tN(vM vK:v?)(w:w?)(F:Nat->Prop)(b:Nat)(buf:List dD)(ss:List (List dD)):Prop:=(∀k,F k->k<w.1.size)/\∃Bb vS,Fb w F b buf ss Bb vS vM vK
def Fb.stay(h:Fb w F b buf ss Bb vS vM vK)(hb:∀k,F k->w'.1[k]?=w.1[k]?):Fb w' F b buf ss Bb vS vM vK where
 blk:=by rw[hb b h.fb];exact h.blk
 fb:=h.fb;fB:=h.fB;say:=dU.stay h.say (hb Bb h.fB);row:=dK h.row (λk B=>hb k (h.qc k B));qc:=h.qc;inv:=h.inv
def tN.below(h:tN vM vK w F b buf ss)(hb:B? w w'):tN vM vK w' F b buf ss:=by obtain⟨hF,Bb,vS,O⟩:=h;exact⟨λk B=>h9 (hF k B) hb.size,Bb,vS,O.stay (λk B=>hb.block k (hF k B))⟩
def Fb.buffer{B:List dD}(h:Fb w F b buf ss Bb vS vM vK)(hF:∀k,F k->k<w.1.size)(O:dp (· = Bb) w w')(W:eT w' Bb B)(Y:Inv B ss):Fb w' F b B ss Bb vS vM vK where
 blk:=by rw[O.block b (hF b h.fb) (λe=>dU.oU h.say h.blk e.symm)];exact h.blk
 fb:=h.fb;fB:=h.fB;say:=W;row:=dK h.row (λk U=>O.block k (hF k (h.qc k U)) (λe=>rn h.row h.say (by rw[U,e])));qc:=h.qc;inv:=Y
def KP(w):(zeroValue 111).run prog w=.ok (.agg #[.bool f?,s? ⟨#[]⟩,s? ⟨#[]⟩,n? i? 0,n? i? 0]) w:=by kernel_rfl
def EU{B es}(h:eT w B es)(x:Wd)(W:l? x<=gg):∃g a t n m,(Instr.lookup 85 (.map (y? B)) (s? ⟨a? x⟩) t?).run prog w=.ok (.tuple #[.agg #[.bool g,s? a,s? t,n? i? n,n? i? m],.bool (decide (x∈es.map dD.name))]) w:=by
 have hl:=(dU.look h i6 iv (KP w) x W).2
 have Y:((es.map kB).any λp=>p.1==x)=decide (x∈es.map dD.name):=by rw[Bool.eq_iff_iff,decide_eq_true_eq,List.any_eq_true,dt];constructor;rintro⟨p,hp,h⟩;obtain⟨e,O,rfl⟩:=dt.1 hp;exact⟨e,O,by simpa[kB]using h⟩;rintro⟨e,O,rfl⟩;exact⟨kB e,dt.2 ⟨e,O,q?⟩,by simp[kB]⟩
 rw[Y]at hl;unfold nS at hl
 cases U:(es.map kB).find? _ with
 |none=>rw[U]at hl;exact⟨_,_,_,_,_,hl⟩|some p=>rw[U]at hl;obtain⟨e,_,rfl⟩:=dt.1 (List.mem_of_find?_eq_some U);exact⟨_,_,_,_,_,hl⟩
def zN{l x}:iY l x=x?↔x ∉ l.map dD.name:=⟨xg,rj⟩
def QO(w)(F)(b)(buf)(ss)(name text)(dn dE)(hP:tN vM vK w F b buf ss)(hn:name.size<=gg)(ht:text.size<=gg) :
  gl prog 38 #[p? (y? ⟨b,0,x?⟩),s? name,s? text,n? i? dn,n? i? dE] w λe w'=>e=e? (n? i? (iG buf ss name.1.1 text.1.1 dn dE).1)/\
   tN vM vK w' F b (iG buf ss name.1.1 text.1.1 dn dE).2 ss/\dp F w w':=by
 have HP:m1 (tN vM vK w F b buf ss):=hP;have ab:=rZ name w hn;have ae:=AE text w ht;clear hP;by_cases B:fU name.1.1=t?
 .rw[B]at ab;by_cases U:eR text.1.1=t?/\text.1.1≠[]
  .rw[decide_eq_true U]at ae;by_cases ad:dn<0\/1000000<dn\/dE<0\/255<dE
   .have HU:m1 (iG buf ss name.1.1 text.1.1 dn dE=(3,buf)):=by show iG _ _ _ _ _ _=_;unfold iG;rw[if_pos B,if_pos U,if_pos ad]
    have a3:dn<0\/(0<=dn/\1000000<dn)\/(0<=dn/\dn<=1000000/\dE<0)\/(0<=dn/\dn<=1000000/\0<=dE/\255<dE):=o!;clear ad U B;obtain c1|⟨c1,c2⟩|⟨c1,c2,c3⟩|⟨c1,c2,c3,c4⟩:=a3
    all_goals
     go_enter ke,ka;go_wp2_with fail;refine ab.mono ?_;rintro e w' ⟨rfl,rfl⟩;go_wp2_with fail;refine ae.mono ?_;rintro e w' ⟨rfl,rfl⟩;go_wp2;go_ret;refine⟨dQ (by rw[HU.out];rfl),?_,dp.refl _ _⟩;rw[HU.out];exact HP
   have aA:0<=dn:=o!;have aB:dn<=1000000:=o!;have aC:0<=dE:=o!;have aD:dE<=255:=o!;obtain⟨hF,Bb,vS,hE⟩:=id HP;have HE:m1 (Fb w F b buf ss Bb vS vM vK):=hE;have HF:m1 (∀k,F k->k<w.1.size):=hF;have ah:=uG F b buf ss Bb vS vM vK w hE
   have HU:m1 (iG buf ss name.1.1 text.1.1 dn dE=if 30<=(dO ss buf).length/\iY (dO ss buf) name.1.1=x? then(4,buf)else(0,dM buf [⟨name.1.1,f?,text.1.1,dn,dE⟩])):=by show iG _ _ _ _ _ _=_;unfold iG;rw[if_pos B,if_pos U,if_neg ad]
   have HI:m1 (Inv (iG buf ss name.1.1 text.1.1 dn dE).2 ss):=K3 hE.inv _ _ _ _;have a':=(il B).2
   have a4:name.size<=281474976710656:=by have:l? name.1.1=name.size:=i!
                                          omega
   have a5:text.size<=281474976710656:=by have h1:=kZ U.1;have:l? text.1.1=text.size:=i!;omega
   have ar:l? name.1.1<=gg:=by unfold gg;omega
   clear ad U B hF hE;go_enter ke,ka;go_wp2_with fail;refine ab.mono ?_;rintro e w' ⟨rfl,rfl⟩;go_wp2_with fail;refine ae.mono ?_;rintro e w' ⟨rfl,rfl⟩;clear ab ae;go_wp2_with fail;refine ah.mono ?_;rintro e w1 ⟨C,rfl,hC,hs,af⟩;have au:=af.size;obtain⟨g,aa,tt,nn,mm,ai⟩:=EU hs name.1.1 ar;rw[<-bytes_eta name]at ai;have av:m1 (B? w w1):=af;have ak:=λ(ty:g6) (o:Obj)=>dU.len (dU.kept hs (World.grownBy_alloc w1 o x?) i!) iv ty;rw[ch]at ak;have ag:=zN (l:=dO ss buf) (x:=name.1.1);by_cases hk:name.1.1∈(dO ss buf).map dD.name
   case' pos=>
    rw[decide_eq_true hk]at ai;have ac:m1 (iG buf ss name.1.1 text.1.1 dn dE=(0,dM buf [⟨name.1.1,f?,text.1.1,dn,dE⟩])):=by show iG _ _ _ _ _ _=_;rw[HU.out,if_neg (λh=>ag.1 h.2 hk)]
    clear ag hk hs af ah HU
   case' neg=>
    rw[decide_eq_false hk]at ai;by_cases aw:30<=(dO ss buf).length
    .have ac:m1 (iG buf ss name.1.1 text.1.1 dn dE=(4,buf)):=by show iG _ _ _ _ _ _=_;rw[HU.out,if_pos ⟨aw,ag.2 hk⟩]
     have ax:(30:Int)<=((dO ss buf).length:Int):=o!;clear ag hk hs af ah HU;go_wp2;go_ret;have O:=av.alloc au (c? #[.bool g,s? aa,s? tt,n? i? nn,n? i? mm] 111);refine⟨dQ (by rw[ac.out];rfl),?_,dp.eB O⟩;rw[ac.out];exact tN.below HP O
    have ac:m1 (iG buf ss name.1.1 text.1.1 dn dE=(0,dM buf [⟨name.1.1,f?,text.1.1,dn,dE⟩])):=by show iG _ _ _ _ _ _=_;rw[HU.out,if_neg (λh=>aw h.1)]
    have ax:decide ((30:Int)<=((dO ss buf).length:Int))=f?:=decide_eq_false o!;clear ag hk hs af ah HU
   all_goals
    go_wp2_with fail;have O:=av.alloc au (c? #[.bool g,s? aa,s? tt,n? i? nn,n? i? mm] 111);clear ak ai;generalize w1.alloc (c? #[.bool g,s? aa,s? tt,n? i? nn,n? i? mm] 111)=w2 at O⊢
    have W:w2.drew.cell? ⟨b,0,x?⟩=y? (.map (y? Bb)):=by have:w2.cell? ⟨b,0,x?⟩=y? (.map (y? Bb)):=ge O (by rw[dq HE.blk];rfl);exact this
    have ay:m1 (B? w w2.drew):=⟨O.os,O.tape,O.output,O.size,O.block⟩;clear O;refine gm (S:=λw'=>w'.cell? ⟨b,0,x?⟩=y? (.map (y? Bb))) k! ?_;refine fV 0 ?_ W ?_<|fV 1 ?_ W ?_<|fV 2 ?_ W ?_<|fV 3 ?_ W ?_<|fV 4 ?_ W ?_<|fV 6 ?_ W ?_<|fV 8 ?_ W ?_<|fV 9 ?_ W ?_ ?_
    any_goals(rintro w' a6;go_simp;first|done|with_reducible rfl)
    refine kL 5 λK' Y=>?_;unfold m2;go_simp;refine(tA name w2.drew a4).mono ?_;rintro e w3 ⟨rfl,am⟩;have az:m1 (B? w w3):=ay.trans (am.mono ay.size);have a0:w3.cell? ⟨b,0,x?⟩=y? (.map (y? Bb)):=ge am W;clear am;refine Y _ _ ⟨a0,?_⟩;clear Y;refine kL 7 λK' Y=>?_;unfold m2;go_simp;refine(tA text w3 a5).mono ?_;rintro e w4 ⟨rfl,an⟩;have aj:m1 (B? w w4):=az.trans (an.mono az.size);have a1:w4.cell? ⟨b,0,x?⟩=y? (.map (y? Bb)):=ge an a0;clear an;refine Y _ _ ⟨a1,?_⟩;clear Y;refine fV 10 ?_ a1 ?_ ?_;rotate_left
    .rintro w' a6;go_simp;first|done|with_reducible rfl
    refine kL 11 λK' Y=>?_;unfold m2;go_simp;have ao:=SB Bb buf ⟨name.1.1,f?,text.1.1,dn,dE⟩ w4 (dU.below HE.say aj) q? (v! (nY HE.inv)) ar;rw[show AV ⟨name.1.1,f?,text.1.1,dn,dE⟩=.agg #[s? name,s? text,n? i? dn,n? i? dE] by unfold AV;simp only[<-bytes_eta]]at ao;refine ao.mono ?_;rintro e w5 ⟨rfl,q1,q2⟩;clear ao;have a2:Fb w4 F b buf ss Bb vS vM vK:=HE.stay (λk hk=>aj.block k (HF k hk));have ap:∀k,F k->k<w4.1.size:=λk hk=>h9 (HF k hk) aj.size
    have hi:Inv (dM buf [⟨name.1.1,f?,text.1.1,dn,dE⟩]) ss:=by have:=HI.out;rw[ac.out]at this;exact this
    have aq:=a2.buffer ap q2 q1 hi;have a7:m1 (Fb w5 F b (dM buf [⟨name.1.1,f?,text.1.1,dn,dE⟩]) ss Bb vS vM vK):=aq;have a8:m1 (dp F w w5):=(dp.eB aj).then (q2.mono (λk hk=>by subst hk;exact HE.fB));have a9:m1 (∀k,F k->k<w5.1.size):=λk hk=>h9 (ap k hk) q2.size;refine Y _ _ ⟨by rw[dq aq.blk];rfl,gt k! ?_ _⟩;clear Y q1 q2 a2 ap hi aq;go_wp2;go_ret;refine⟨dQ (by rw[ac.out];rfl),?_,a8⟩;rw[ac.out];exact⟨a9,Bb,vS,a7⟩
  rw[decide_eq_false U]at ae;have HU:m1 (iG buf ss name.1.1 text.1.1 dn dE=(2,buf)):=by show iG _ _ _ _ _ _=_;unfold iG;rw[if_pos B,if_neg U]
  clear U B;go_enter ke,ka;go_wp2_with fail;refine ab.mono ?_;rintro e w' ⟨rfl,rfl⟩;go_wp2_with fail;refine ae.mono ?_;rintro e w' ⟨rfl,rfl⟩;go_wp2;go_ret;refine⟨dQ (by rw[HU.out];rfl),?_,dp.refl _ _⟩;rw[HU.out];exact HP
 have al:fU name.1.1=f?:=by simpa using B
 rw[al]at ab;have HU:m1 (iG buf ss name.1.1 text.1.1 dn dE=(1,buf)):=by show iG _ _ _ _ _ _=_;unfold iG;rw[if_neg B]
 clear B al;go_enter ke,ka;go_wp2_with fail;refine ab.mono ?_;rintro e w' ⟨rfl,rfl⟩;go_wp2;go_ret;refine⟨dQ (by rw[HU.out];rfl),?_,dp.refl _ _⟩;rw[HU.out];exact HP
def Sr(w)(F)(b)(buf)(ss)(name)(hP:tN vM vK w F b buf ss)(hn:name.size<=gg) :
  gl prog 37 #[p? (y? ⟨b,0,x?⟩),s? name] w λe w'=>e=e? (n? i? (jG buf ss name.1.1).1)/\
   tN vM vK w' F b (jG buf ss name.1.1).2 ss/\dp F w w':=by
 have HP:m1 _:=hP;have ad:=rZ name w hn;clear hP;by_cases U:fU name.1.1=t?
 .rw[U]at ad;obtain⟨hF,Bb,vS,hE⟩:=id HP;have HE:m1 _:=hE;have HF:m1 _:=hF;have am:=uG F b buf ss Bb vS vM vK w hE
  have HU:m1 (jG buf ss name.1.1=if iY (dO ss buf) name.1.1=x? then(5,buf)else if 100<=kg buf then(4,buf)else(0,dM buf [⟨name.1.1,t?,[],0,0⟩])):=by show jG _ _ _=_;unfold jG;rw[if_pos U,kV];rfl
  have HI:m1 (Inv (jG buf ss name.1.1).2 ss):=Kl hE.inv _;have a5:=(il U).2
  have az:name.size<=281474976710656:=by have:l? name.1.1=name.size:=i!;omega
  have ar:l? name.1.1<=gg:=by unfold gg;omega
  clear U hF hE;go_enter func37,ntmps37;go_wp2_with fail;refine ad.mono ?_;rintro e w' ⟨rfl,rfl⟩;clear ad;go_wp2_with fail;refine am.mono ?_;rintro e w1 ⟨C,rfl,hC,hs,ai⟩;have au:=ai.size;obtain⟨g,aa,tt,nn,mm,aj⟩:=EU hs name.1.1 ar;rw[<-bytes_eta name]at aj;have ak:=zN (l:=dO ss buf) (x:=name.1.1);have W:m1 (B? w (w1.alloc (c? #[.bool g,s? aa,s? tt,n? i? nn,n? i? mm] 111))):=ai.alloc au _;by_cases Y:name.1.1∈(dO ss buf).map dD.name
  .rw[decide_eq_true Y]at aj;have an:m1 (jG buf ss name.1.1=if 100<=kg buf then(4,buf)else(0,dM buf [⟨name.1.1,t?,[],0,0⟩])):=by show jG _ _ _=_;rw[HU.out,if_neg (λh=>ak.1 h Y)]
   clear ak Y hs ai am HU;have ae:=W.out;obtain⟨w2,av⟩:∃w2,w1.alloc (c? #[.bool g,s? aa,s? tt,n? i? nn,n? i? mm] 111)=w2:=⟨_,q?⟩;rw[av]at ae;have a0:w2.cell? ⟨b,0,x?⟩=y? (.map (y? Bb)):=ge ae (by rw[dq HE.blk];rfl);have aw:=BI Bb buf w2 (dU.below HE.say ae) (v! (nY HE.inv));have ax:m1 _:=ae;clear W ae;go_wp2_with fail;refine aw.mono ?_;rintro e w3 ⟨rfl,ab⟩;have B:m1 (B? w w3):=ax.trans (ab.mono ax.size);clear aw ab av aj a0;by_cases af:100<=kg buf
   .have O:m1 (jG buf ss name.1.1=(4,buf)):=by show jG _ _ _=_;rw[an.out,if_pos af]
    have ag:(100:Int)<=(kg buf:Int):=o!;go_wp2;go_ret;refine⟨dQ (by rw[O.out];rfl),?_,dp.eB B⟩;rw[O.out];exact tN.below HP B
   have O:m1 (jG buf ss name.1.1=(0,dM buf [⟨name.1.1,t?,[],0,0⟩])):=by show jG _ _ _=_;rw[an.out,if_neg af]
   have ag:¬(100:Int)<=(kg buf:Int):=o!;clear an af au;go_wp2_with fail;clear ag;generalize w3=w2 at *
   have ac:w2.drew.cell? ⟨b,0,x?⟩=y? (.map (y? Bb)):=by have:w2.cell? ⟨b,0,x?⟩=y? (.map (y? Bb)):=ge B (by rw[dq HE.blk];rfl);exact this
   have W:m1 (B? w w2.drew):=⟨B.os,B.tape,B.output,B.size,B.block⟩;clear B;refine gm (S:=λw'=>w'.cell? ⟨b,0,x?⟩=y? (.map (y? Bb))) k! ?_;refine fV 0 ?_ ac ?_<|fV 1 ?_ ac ?_<|fV 2 ?_ ac ?_<|fV 3 ?_ ac ?_<|fV 4 ?_ ac ?_ ?_
   any_goals(rintro w' a6;go_simp;first|done|with_reducible rfl)
   refine kL 5 λK' ah=>?_;unfold m2;go_simp;refine(tA name w2.drew az).mono ?_;rintro e w3 ⟨rfl,ab⟩;have B:m1 (B? w w3):=W.trans (ab.mono W.size);have a1:w3.cell? ⟨b,0,x?⟩=y? (.map (y? Bb)):=ge ab ac;clear ab;refine ah _ _ ⟨a1,?_⟩;clear ah;refine kL 6 λK' ah=>?_;unfold m2;go_simp;have ao:=Ed Bb buf name.1.1 w3 (dU.below HE.say B) (v! (nY HE.inv)) ar;rw[<-bytes_eta name]at ao;refine ao.mono ?_;rintro e w5 ⟨rfl,q1,q2⟩;clear ao;have ay:Fb w3 F b buf ss Bb vS vM vK:=HE.stay (λk Y=>B.block k (HF k Y));have ap:∀k,F k->k<w3.1.size:=λk Y=>h9 (HF k Y) B.size
   have hi:Inv (dM buf [⟨name.1.1,t?,[],0,0⟩]) ss:=by have:=HI.out;rw[O.out]at this;exact this
   have aq:=ay.buffer ap q2 q1 hi;have a2:m1 _:=aq;have a3:m1 (dp F w w5):=(dp.eB B).then (q2.mono (λk Y=>by subst Y;exact HE.fB));have a4:m1 (∀k,F k->k<w5.1.size):=λk Y=>h9 (ap k Y) q2.size;refine ah _ _ ⟨by rw[dq aq.blk];rfl,gt k! ?_ _⟩;clear ah q1 q2 ay ap hi aq;go_wp2;go_ret;refine⟨dQ (by rw[O.out];rfl),?_,a3⟩;rw[O.out];exact⟨a4,Bb,vS,a2⟩
  rw[decide_eq_false Y]at aj;have O:m1 (jG buf ss name.1.1=(5,buf)):=by show jG _ _ _=_;rw[HU.out,if_pos (ak.2 Y)]
  clear ak Y hs ai am HU;go_wp2;go_ret;refine⟨dQ (by rw[O.out];rfl),?_,dp.eB W⟩;rw[O.out];exact tN.below HP W
 have al:fU name.1.1=f?:=by simpa using U
 rw[al]at ad;have HU:m1 (jG buf ss name.1.1=(1,buf)):=by show jG _ _ _=_;unfold jG;rw[if_neg U]
 clear U al;go_enter func37,ntmps37;go_wp2_with fail;refine ad.mono ?_;rintro e w' ⟨rfl,rfl⟩;go_wp2;go_ret;refine⟨dQ (by rw[HU.out];rfl),?_,dp.refl _ _⟩;rw[HU.out];exact HP
def MT(w)(F)(b)(buf)(ss)(O:tN vM vK w F b buf ss) :
  gl prog 30 #[p? (y? ⟨b,0,x?⟩)] w λe w'=>e=e? (n? i? ss.length)/\w=w':=by
 obtain⟨hF,Bb,vS,B⟩:=O;obtain⟨Y,cS,rfl,U⟩:=dH B.row;have W:=dq B.blk 1;clear B;go_enter func30,ntmps30;go_wp2;go_ret;exact⟨q?,q?⟩
def iZ(ss:List (List dD))(n:Int):Wd×Nat:=if n<0\/(l? ss:Int)<=n then([],6)else(eh (ss.getD n.toNat []),0)
def V7(w)(F)(b)(buf)(ss)(n)(hP:tN vM vK w F b buf ss) :
  gl prog 26 #[p? (y? ⟨b,0,x?⟩),n? i? n] w λe w'=>e=e? (.tuple #[s? ⟨(iZ ss n).1.toArray⟩,n? i? (iZ ss n).2])/\w=w':=by
 obtain⟨hF,Bb,vS,B⟩:=hP;obtain⟨aS,cS,rfl,aa⟩:=dH B.row;have ab:=dq B.blk 1;have h6:=B.inv.yW
 have HR:m1 (∀j(Y:j<l? ss),∃bb off,aS=y? ⟨bb,off,x?⟩/\w.cell? ⟨bb,off+j,x?⟩=y? (s? ⟨(eh ss[j]).toArray⟩)):=by intro j Y;obtain⟨a',c',he,_,_,hr⟩:=Rd.eL B.row;simp only[m9]at he;obtain⟨rfl,_,rfl⟩:=he;exact hr j _ (by simp[dy,Y])
 clear B;by_cases h0:n<0
 .have O:m1 (iZ ss n=([],6)):=by show iZ _ _=_;unfold iZ;rw[if_pos (Or.inl h0)]
  go_enter m0,mb;go_wp2;go_ret2;rw[O.out];exact⟨q?,q?⟩
 have U:0<=n:=o!;by_cases h1:(l? ss:Int)<=n
 .have O:m1 (iZ ss n=([],6)):=by show iZ _ _=_;unfold iZ;rw[if_pos (Or.inr h1)]
  go_enter m0,mb;go_wp2;go_ret2;rw[O.out];exact⟨q?,q?⟩
 obtain⟨m,rfl⟩:∃m:Nat,n=(m:Int):=⟨n.toNat,o!⟩;have hm:m<l? ss:=o!;have ac:(m:Int)<(l? ss:Int):=o!
 have O:m1 (iZ ss (m:Int)=(eh ss[m],0)):=by show iZ _ _=_;unfold iZ;rw[if_neg o!,Int.toNat_natCast,dd,cl hm];rfl
 obtain⟨bb,off,rfl,W⟩:=HR.out m hm;clear h0 U h1;go_enter m0,mb;go_wp2;go_ret2;rw[O.out];exact⟨q?,q?⟩
variable {base:Nat} {v v' x:v?} {l:Wd}
def AN{P}(w)(base)(t u ty e)(i)(ht:P.underlying t=y? (.slice e))(hu:P.underlying u=y? .string)(hi:P.info? e=y? i)(hz:i.zero=y? (n? .u8 0))
  (B:i.size=1) (ab:i.bytes=1) (v) (n) (xs) (O:w.ownsRow base e 1 v n xs) (hn:0<n) (s) (hb:(n+s.size)*1<=140737488355328) (U:base<=w.1.size) :
  ∃v' w',(n3 #[t,u] ty #[v,s? s]).run P w=.ok v' w'/\w'.ownsRow base e 1 v' (n+s.size) (xs++eO s.1.1)/\w.grownBy w' v.ownBlock/\(v'.ownBlock=v.ownBlock\/v'.ownBlock=y? w.1.size):=by
 obtain⟨v',w',W,h2,h3,_⟩:=Lib.run_append_own_string (P:=P) w base t u ty e i ht hu hi hz B ab v n xs O s (by unfold gg;omega) o! U;refine⟨v',w',W,h2,h3,?_⟩;obtain⟨rfl,rfl⟩|⟨g,c,cur,rfl,ad,hg,ae,af,ag,ac⟩:=O.2
 omega;by_cases Y:n+s.size<=c;have aa:=Lib.run_append_room_string (P:=P) w t u ty e i ht hu hi B g n c cur hg s Y o!;rw[aa]at W;simp only[Result.ok.injEq]at W;exact Or.inl (by rw[<-W.1];rfl);have holds:=O.cells (g:=g) rfl;have aa:=Lib.run_append_grow_string (P:=P) w t u ty e i _ ht hu hi hz _ n c xs (by rw[B];exact O.1) holds s o! o! (by rw[ab];exact growslice_fits o! hb);rw[aa]at W;simp only[Result.ok.injEq]at W;exact Or.inr (by rw[<-W.1];rfl)
def vC{P}(w){ops rest o a Q}(W:o.guard=x?)(sl x)(t u)
  (ho:o.op=.call {callee:=.builtin .append,args:=#[sl,x],argTypes:=#[t,u]})
  (base) (e) (i) (ht:P.underlying t=y? (.slice e)) (hu:P.underlying u=y? .string) (hi:P.info? e=y? i) (hz:i.zero=y? (n? .u8 0))
  (B:i.size=1) (Y:i.bytes=1) (v) (n) (xs) (hs:a.eval sl=v) (U:w.ownsRow base e 1 v n xs) (hn:0<n) (s) (hx:a.eval x=s? s) (hb:(n+s.size)*1<=140737488355328) (O:base<=w.1.size)
  (h:∀v' w',w'.ownsRow base e 1 v' (n+s.size) (xs++eO s.1.1)->w.grownBy w' v.ownBlock->(v'.ownBlock=v.ownBlock\/v'.ownBlock=y? w.1.size)->g8 P ops Q rest (a.put o.dst v') w'):g8 P ops Q (o::rest) a w:=by
 refine hw W λ_ hK=>?_;obtain⟨v',w',hr,h2,h3,h4⟩:=AN (P:=P) w base t u o.type e i ht hu hi hz B Y v n xs U hn s hb O;unfold m2 ha;simp only[ho,g7,invoke,builtin,od,ob,oi,ei,eg,er,hs,hx,hr];exact hK _ _ (h v' w' h2 h3 h4)
def gP(w:w?)(base:Nat)(v:v?)(l:Wd):Prop:=w.ownsRow base 5 1 v l.length (eO l)
def fg(w w':w?)(v v':v?):Prop:=dp (λk=>v.ownBlock=y? k) w w'/\∀k,v'.ownBlock=y? k->v.ownBlock=y? k\/w.1.size<=k
def fg.trans{a b c u}(h:fg a b u v)(k:fg b c v x):fg a c u x:=by
 refine⟨h.1.trans k.1 (λi O U=>?_),λi O=>?_⟩;obtain B|B:=h.2 i U
 exact B;omega;obtain B|B:=k.2 i O
 exact h.2 i B;exact Or.inr (hQ h.1.size B)
def fg.below(h:B? w w')(v):fg w w' v v:=⟨dp.eB h,λ_ h=>Or.inl h⟩
def fg.of{o}(B:(w.alloc o).grownBy w' v.ownBlock)(U:v'.ownBlock=v.ownBlock\/v'.ownBlock=y? (w.1.size+1)):fg w w' v v':=by
 have W:=B.size;simp at W;refine⟨⟨B.os,B.tape,B.output,o!,λk O Y=>?_⟩,λk O=>?_⟩;rw[B.block k j! (λe=>Y e.symm),m5 _ _ _ O];obtain h|h:=U
 exact Or.inl (by rw[<-h];exact O);rw[h]at O;simp at O;exact Or.inr o!
def fg.WC(B:w.grownBy w' v.ownBlock)(U:v'.ownBlock=v.ownBlock\/v'.ownBlock=y? w.1.size):fg w w' v v':=by
 refine⟨⟨B.os,B.tape,B.output,B.size,λk O W=>B.block k O (λe=>W e.symm)⟩,λk O=>?_⟩;obtain h|h:=U
 exact Or.inl (by rw[<-h];exact O);rw[h]at O;simp at O;exact Or.inr o!
def QB(base:Nat)(w:w?)(v:v?)(l new:Wd)(e:Ending)(w':w?):Prop:=∃v',e=e? v'/\gP w' base v' (l++new)/\fg w w' v v'
def gP.below(h:gP w base v l)(hb:B? w w'):gP w' base v l:=dK h (λk B=>hb.block k (h.lt k B).2)
def jb(a b:Wd):eO (a++b)=eO a++eO b:=by simp[eO]
def lc(base)(v)(l)(s)(w)(h:gP w base v l)(hl:l? l<=1099511627776)(hs:s.size<=1099511627776)(ae:base<=w.1.size) :
  gl prog 177 #[v,s? s] w (QB base w v l (dI s.1.1)):=by
 obtain⟨i0,hi,W,Y,aa⟩:=go BV;obtain⟨a,c,rfl,hc⟩:=dH h;have HO:m1 _:=h;clear h;go_enter func177,ntmps177
 go_wp2_with (first
  |(at_builtin;refine dW _ q? _ _ 60 q? base 5 i0 (n? .u8 0) 1 ie hi W Y aa q? _ _ _ q? (HO.alloc _) _ [n? .u8 ((s.size:Int) % 256)] q? (Rd.one iC) (by simp[nv]) ?c1 ?c2 ?c3 ?_))
 case c1=>simp;omega
 case c2=>unfold gg;simp;omega
 case c3=>simp;omega
 intro v1 w1 B ab ac
 have hO1:gP w1 base v1 (l++[u8 s.size]):=by unfold gP;rw[jb,kQ,bx];exact B
 have ad:m1 (fg w w1 (.slice a l.length c) v1):=fg.of ab ac
 have O:w1.ownsRow base 5 1 v1 (l? l+1) (eO (l++[u8 s.size])):=by unfold gP at hO1;rw[bx]at hO1;exact hO1
 obtain⟨a1,c1,rfl,al⟩:=dH O;have af:m1 _:=O;have ak:=ad.1.size;clear B ab ac hO1 O
 go_wp2_with (first
  |(at_builtin;refine vC _ q? _ _ 60 9 q? base 5 i0 ie i6 hi W Y aa _ _ _ q? af ?d1 s q? ?d2 ?d3 ?_))
 case d1=>omega
 case d2=>omega
 case d3=>omega
 intro v2 w2 U ag ah
 have ai:m1 (gP w2 base v2 (l++dI s.1.1)):=by show gP _ _ _ _;unfold gP dI;have e:l++u8 s.1.1.length::s.1.1=(l++[u8 s.size])++s.1.1:=i!;rw[e,jb,bx];have e3:(l++[u8 s.size]).length=l? l+1:=i!;rw[e3];exact U
 have aj:m1 _:=ad.trans (fg.WC ag ah);go_wp2;go_ret;exact⟨v2,q?,ai,aj⟩
def Rd.three{y z t}:Rd (w.alloc (c? #[x,y,z] t)) (.slice (y? ⟨w.1.size,0,x?⟩) 3 3) [x,y,z]:=by
 refine⟨y? _,3,q?,h8 _,by unfold gg;omega,λj u B=>⟨w.1.size,0,q?,?_⟩⟩;match j,B with
 |0,B=>simpa using B|1,B=>simpa using B|2,B=>simpa using B|j+3,B=>simp at B
def qA(base)(v)(l)(n)(w)(h:gP w base v l)(hl:l? l<=1099511627776)(ae:0<=n)(hn:n<=1000000)(W:base<=w.1.size) :
  gl prog 178 #[v,n? i? n] w (QB base w v l (gh n)):=by
 obtain⟨i0,hi,Y,aa,ab⟩:=go BV;obtain⟨a,c,rfl,hc⟩:=dH h;have HO:m1 _:=h;clear h;go_enter func178,ntmps178
 go_wp2_with (first
  |(at_builtin;refine dW _ q? _ _ 60 q? base 5 i0 (n? .u8 0) 1 ie hi Y aa ab q? _ _ _ q? (HO.alloc _) _ [n? .u8 (n / 65536),n? .u8 (n / 256 % 256),n? .u8 (n % 256)] q? Rd.three (by simp[nv]) ?c1 ?c2 ?c3 ?_))
 case c1=>simp;omega
 case c2=>unfold gg;simp;omega
 case c3=>simp;omega
 intro v1 w1 B O U
 have ac:m1 (gP w1 base v1 (l++gh n)):=by
  show gP _ _ _ _;unfold gP;rw[jb,bx]
  have e:eO (gh n)=[n? .u8 (n / 65536),n? .u8 (n / 256 % 256),n? .u8 (n % 256)]:=by obtain⟨m,rfl⟩:∃m:Nat,n=(m:Int):=⟨n.toNat,o!⟩;rw[xm m o!];simp only[eO,eg,er];rw[uk _ o!,uk _ o!,uk _ o!];simp
  rw[e];exact B
 have ad:m1 (fg w w1 (.slice a l.length c) v1):=fg.of O U;clear B O U;go_wp2;go_ret;exact⟨v1,q?,ac,ad⟩
def gP.form(h:gP w base v l):∃a c,v=.slice a l.length c:=by obtain⟨a,c,e,_⟩:=dH h;exact⟨a,c,e⟩
def yC(base)(v)(l)(e)(w)(h:gP w base v l)(hl:l? l<=549755813888)(ai:Ai e)(a6:base<=w.1.size) :
  gl prog 181 #[v,AV e] w (QB base w v l (kC e)):=by
 obtain⟨i0,hi,a7,a8,a9⟩:=go BV;obtain⟨nm,gn,tx,wt,tg⟩:=e;have h1:=(il ai.2.1).2;have h2:=kZ ai.2.2.1;obtain⟨_,_,_,_,h3,h4,h5,h6⟩:=ai;simp only at h1 h2 h3 h4 h5 h6;obtain⟨a,c,rfl⟩:=h.form;obtain⟨w0,aj⟩:∃w0,w.alloc (c? #[s? ⟨a? nm⟩,s? ⟨a? tx⟩,n? i? wt,n? i? tg] 96)=w0:=⟨_,q?⟩;have ab:Below w.1.size w w0:=by rw[<-aj];exact(m3 _ _).alloc (h8 _) _
 have aU:=ab.size;have ak:w0.1[w.1.size]?=y? (c? #[s? ⟨a? nm⟩,s? ⟨a? tx⟩,n? i? wt,n? i? tg] 96 (0,0)):=by rw[<-aj];exact g9 w _
 have B:∀W:w?,W.1[w.1.size]?=y? (c? #[s? ⟨a? nm⟩,s? ⟨a? tx⟩,n? i? wt,n? i? tg] 96 (0,0))->W.cell? ⟨w.1.size,0,x?⟩=y? (s? ⟨a? nm⟩)/\W.cell? ⟨w.1.size,1,x?⟩=y? (s? ⟨a? tx⟩)/\W.cell? ⟨w.1.size,2,x?⟩=y? (n? i? wt)/\W.cell? ⟨w.1.size,3,x?⟩=y? (n? i? tg):=by intro W hW;exact⟨by rw[dq hW];rfl,by rw[dq hW];rfl,by rw[dq hW];rfl,by rw[dq hW];rfl⟩
 have HC:m1 _:=B;obtain⟨d0,_,_,_⟩:=B w0 ak;have al:=h.below ab;have a':(⟨a? nm⟩:ByteArray).size<=1099511627776:=by show nm.toArray.size<=_;simp;omega
 have aA:(⟨a? tx⟩:ByteArray).size<=1099511627776:=by show tx.toArray.size<=_;simp;omega
 have av:=lc base _ l ⟨a? nm⟩ w0 al o! a' o!;have aB:m1 (fg w w0 (.slice a l.length c) (.slice a l.length c)):=fg.below ab _;have am:m1 _:=ak;have aw:∀(W:w?)(v:v?)(k:Wd),gP W base v k->W.1[w.1.size]?=y? (c? #[s? ⟨a? nm⟩,s? ⟨a? tx⟩,n? i? wt,n? i? tg] 96 (0,0))->v.ownBlock≠y? w.1.size:=λW v k ho hh=>gD hh ho d!;have an:m1 _:=aw;have aC:m1 _:=al;clear h ab ak B aw al;unfold AV;go_enter func181,ntmps181;go_wp2_with fail;refine av.mono ?_;rintro e1 w1 ⟨v1,rfl,O,ac⟩;obtain⟨L1,ad⟩:∃L1,L1=l++dI nm:=⟨_,q?⟩;have aY:l? L1<=l? l+30:=by rw[ad];simp[dI];omega
 have aD:m1 _:=ad;change gP w1 base v1 (l++dI nm)at O;rw[<-ad]at O;have ao:w1.1[w.1.size]?=y? (c? #[s? ⟨a? nm⟩,s? ⟨a? tx⟩,n? i? wt,n? i? tg] 96 (0,0)):=by rw[ac.1.block _ (eG am.out) (an.out w0 _ _ aC.out am.out)];exact am
 have aE:m1 (fg w w1 (.slice a l.length c) v1):=aB.trans ac;obtain⟨a1,c1,rfl⟩:=O.form;have ax:m1 _:=O;have ap:m1 _:=ao;obtain⟨aF,aG,aH,aI⟩:=HC.out w1 ao;have aV:=ac.1.size;clear av O ac ao ad;clear aj d0;have ay:=lc base _ L1 ⟨a? tx⟩ w1 ax o! aA o!;go_wp2_with fail;refine ay.mono ?_;rintro e2 w2 ⟨v2,rfl,U,ae⟩;obtain⟨L2,af⟩:∃L2,L2=L1++dI tx:=⟨_,q?⟩;have aZ:l? L2<=l? L1+30:=by rw[af];simp[dI];omega
 have aJ:m1 _:=af;change gP w2 base v2 (L1++dI tx)at U;rw[<-af]at U;have aq:w2.1[w.1.size]?=y? (c? #[s? ⟨a? nm⟩,s? ⟨a? tx⟩,n? i? wt,n? i? tg] 96 (0,0)):=by rw[ae.1.block _ (eG ap.out) (an.out w1 _ _ ax.out ap.out)];exact ap
 have aK:m1 (fg w w2 (.slice a l.length c) v2):=aE.trans ae;obtain⟨a2,c2,rfl⟩:=U.form;have az:m1 _:=U;have ar:m1 _:=aq;obtain⟨aL,aM,aN,aO⟩:=HC.out w2 aq;have aW:=ae.1.size;clear ay U ae aq af;have a0:=qA base _ L2 wt w2 az o! h3 h4 o!;clear aF aG aH aI;go_wp2_with fail;refine a0.mono ?_;rintro e3 w3 ⟨v3,rfl,Y,ag⟩;obtain⟨L3,ah⟩:∃L3,L3=L2++gh wt:=⟨_,q?⟩;have ba:l? L3<=l? L2+30:=by rw[ah];simp[gh]
 have aP:m1 _:=ah;change gP w3 base v3 (L2++gh wt)at Y;rw[<-ah]at Y;have au:w3.1[w.1.size]?=y? (c? #[s? ⟨a? nm⟩,s? ⟨a? tx⟩,n? i? wt,n? i? tg] 96 (0,0)):=by rw[ag.1.block _ (eG ar.out) (an.out w2 _ _ az.out ar.out)];exact ar
 have aQ:m1 (fg w w3 (.slice a l.length c) v3):=aK.trans ag;obtain⟨a3,c3,rfl⟩:=Y.form;have aR:m1 _:=Y;have bc:m1 _:=au;obtain⟨bd,be,bf,bg⟩:=HC.out w3 au;have aX:=ag.1.size;clear a0 Y ag au ah;clear aL aM aN aO
 go_wp2_with (first
  |(at_builtin;refine dW _ q? _ _ 60 q? base 5 i0 (n? .u8 0) 1 ie hi a7 a8 a9 q? _ _ _ q? (aR.alloc _) _ [n? .u8 tg] q? (Rd.one iC) (by simp[nv]) ?c1 ?c2 ?c3 ?_))
 case c1=>simp;omega
 case c2=>unfold gg;simp;omega
 case c3=>simp;omega
 intro v4 w4 aa a4 a5
 have aS:m1 (gP w4 base v4 (l++kC ⟨nm,gn,tx,wt,tg⟩)):=by
  show gP _ _ _ _;have e:l++kC ⟨nm,gn,tx,wt,tg⟩=L3++[u8 tg]:=by rw[aP.out,aJ.out,aD.out];simp[kC]
  rw[e];unfold gP;rw[jb,kQ,bx,(o!:tg % 256=tg)];exact aa
 have aT:m1 (fg w w4 (.slice a l.length c) v4):=aQ.trans (fg.of a4 a5);clear aa a4 a5;go_wp2;go_ret;exact⟨v4,q?,aS,aT⟩
variable {L:List dD} {n o:Nat} {a:Wd}
structure uQ(w:w?)(b o:Nat)(e:dD):Prop where
 path:w.cell? ⟨b,o,none⟩=some (.string ⟨(dC e).toArray⟩)
 name:w.cell? ⟨b,o+1,none⟩=some (.string ⟨a? e.name⟩)
 text:w.cell? ⟨b,o+2,none⟩=some (.string ⟨a? e.text⟩)
 dn:w.cell? ⟨b,o+3,none⟩=some (.int .i64 e.dn)
 dE:w.cell? ⟨b,o+4,none⟩=some (.int .i64 e.dE)
 blk:∃cs fz,w.1[b]?=some (.cells cs 237 fz)
def pQ(w:w?)(v:v?)(L:List dD):Prop:=∃a cap,v=.slice a L.length cap/\l? L<=cap/\cap<=gg/\∀i(h:i<l? L),∃b off,a=y? ⟨b,off,x?⟩/\uQ w b (off+i*5) L[i]
def uQ.stay{e}(h:uQ w b o e)(hb:w'.1[b]?=w.1[b]?):uQ w' b o e:=by
 have B:∀(o:Nat)(u:v?),w.cell? ⟨b,o,x?⟩=y? u->w'.cell? ⟨b,o,x?⟩=y? u:=λo u O=>by simp only[nl]at O⊢;rw[hb];exact O
 exact⟨B _ _ h.path,B _ _ h.name,B _ _ h.text,B _ _ h.dn,B _ _ h.dE,by rw[hb];exact h.blk⟩
def uQ.lt{e}(h:uQ w b o e):b<w.1.size:=by obtain⟨cs,fz,B⟩:=h.blk;exact(m6.1 B).1
def pQ.below(h:pQ w v L)(hb:B? w w'):pQ w' v L:=by obtain⟨a,cap,O,U,W,Y⟩:=h;refine⟨a,cap,O,U,W,λi hi=>?_⟩;obtain⟨b,off,e1,B⟩:=Y i hi;exact⟨b,off,e1,B.stay (hb.block b B.lt)⟩
def pQ.wrote{u u' base l}(h:pQ w v L)(O:gP w base u l)(U:fg w w' u u'):pQ w' v L:=by obtain⟨a,cap,W,Y,h3,h4⟩:=h;refine⟨a,cap,W,Y,h3,λi hi=>?_⟩;obtain⟨b,off,e1,B⟩:=h4 i hi;refine⟨b,off,e1,B.stay (U.1.block b B.lt (λe=>?_))⟩;obtain⟨cs,fz,hh⟩:=B.blk;exact gD hh O d! e
def Er(v)(L)(w)(h:pQ w v L) :
  gl prog 179 #[v] w λe w'=>e=e? (n? i? (fI L))/\B? w w':=by
 obtain⟨a,cap,rfl,Y,hm,U⟩:=h;have W:m1 _:=U;unfold gg at hm;clear U;go_enter func179,ntmps179;go_wp2;go_loopw [3,8] (λg i wr=>∃k:Nat,k<=l? L/\i=n? i? k/\g=n? i? (fI (L.take k))/\B? w wr) (λ_ i _=>l? L-(intOf i).toNat)
 case atStart=>exact⟨0,hI _,q?,q?,m3 _ _⟩
 case round=>
  obtain⟨k,hk,rfl,rfl,hb⟩:=hrel;have HB:m1 _:=hb;have hz:=hb.size;clear hb;by_cases B:k<l? L
  .obtain⟨b,off,rfl,O⟩:=W.out k B;have q0:=ge HB O.path;have q1:=ge HB O.name;have q2:=ge HB O.text;have q3:=ge HB O.dn;have q4:=ge HB O.dE
   have HE:m1 (fI (L.take (k+1))=max (fI (L.take k)) L[k].dn):=by show _=_;rw[cm B,kT,lM,show fI []=0 from rfl];have:=me (L.take k);omega
   go_wp2;go_roundw
   case rel=>exact⟨k+1,o!,by go_num,by rw[HE.out],HB.alloc hz _⟩
   case measure=>simp[intOf];omega
  have HE:m1 (L.take k=L):=eq o!;go_wp2;go_ret;exact⟨dQ (by rw[HE.out]),HB⟩
def SI(L)(d):jP L d<=l? L:=by exact(List.takeWhile_sublist _).length_le
def GA{d k}(B:k<=l? L)(O:∀j(h:j<k),(dC (L[j]'o!)).length=d)(U:∀h:k<l? L,(dC L[k]).length≠d):jP L d=k:=by exact ng _ _ k B (λj W=>by simpa using O j W) (λh=>by simpa using U h)
def yl(v)(L)(d:Nat)(w)(h:pQ w v L) :
  gl prog 180 #[v,n? i? d] w λe w'=>e=e? (n? i? (jP L d))/\B? w w':=by
 obtain⟨a,cap,rfl,hc,hm,hr⟩:=h;have HR:m1 _:=hr;unfold gg at hm;clear hr;go_enter func180,ntmps180;go_wp2;go_loopw [5] (λi wr=>∃k:Nat,k<=l? L/\i=n? i? k/\(∀j(h:j<k)(h':j<l? L),(dC L[j]).length=d)/\B? w wr) (λi _=>l? L-(intOf i).toNat)
 case atStart=>exact⟨0,hI _,q?,λj h=>o!,m3 _ _⟩
 case round=>
  obtain⟨k,hk,rfl,fl,hb⟩:=hrel;have U:m1 _:=hb;have W:m1 _:=fl;clear hb fl;by_cases O:k<l? L
  .obtain⟨b,off,rfl,hL⟩:=HR.out k O;have q0:=ge U hL.path;have aa:(k:Int)<(l? L:Int):=o!;clear hL;by_cases B:(dC L[k]).length=d
   .have HD:m1 _:=B;have Y:(((dC L[k]).length:Int)==(d:Int))=t?:=beq_iff_eq.2 o!;clear B;go_wp2;go_roundw
    case rel=>exact⟨k+1,o!,by go_num,λj h h'=>by
     by_cases e:j=k;subst e;exact HD
     exact W j o! h',U⟩
    case measure=>simp[intOf];omega
   have HE:m1 (jP L d=k):=GA hk (λj h=>W.out j h o!) (λ_=>B);have Y:(((dC L[k]).length:Int)==d)=f?:=beq_eq_false_iff_ne.2 o!;go_wp2;go_ret;exact⟨dQ (by rw[HE.out]),U⟩
  have HE:m1 _:=GA hk (λj h=>W.out j h _) (λh=>absurd h O);go_wp2;go_ret;exact⟨dQ (by rw[HE.out]),U⟩
def yJ{B:Type}{L:List B}(h:L≠[]):0<l? L:=List.length_pos_iff.2 h
def zT{b:Wd}(h1:n<=l? a)(U:a.take n=b.take n)(W:n=l? a\/n=l? b\/a.getD n 0≠b.getD n 0):(ui a b).length=n:=by
 have Y:=tq a b _ (fs ..) (by rw[U];exact fs ..);have hl:=Y.length_le;rw[ca]at hl;have O:=sY a b;have hb:=rk a b;obtain B|aa:=Nat.lt_or_ge n _
 have e1:=qy O n B;have e2:=qy hb n B;have:=O.length_le;have:=hb.length_le;obtain h|h|h:=W
 omega;omega;exact absurd (e1.trans e2.symm) h;omega
def NG{b:Wd}(O:n<l? a)(U:n<l? b)(W:a.take n=b.take n)(B:a.getD n 0=b.getD n 0):a.take (n+1)=b.take (n+1):=by rw[cm O,cm U,W];rw[dd,cl O,dd,cl U]at B;simp only[Option.getD_some]at B;rw[B]
def O0(h:L≠[]):iX L=ui (dC (L[0]'(yJ h))) (dC (L[l? L-1]'(v! (yJ h)))):=by
 cases L with
 |nil=>exact absurd q? h|cons e C=>unfold iX;simp only[et];rw[List.getLast_eq_getElem]
def Hz(v)(L)(w)(h:pQ w v L)(Y:L≠[])(U:∀e∈L,(dC e).length<=24) :
  gl prog 183 #[v] w λe w'=>e=e? (n? i? (iX L).length)/\B? w w':=by
 obtain⟨a,cap,rfl,hc,hm,hr⟩:=h;unfold gg at hm;have O:=yJ Y;obtain⟨b,off,rfl,h0⟩:=hr 0 O;obtain⟨b',ak,e',h1⟩:=hr (l? L-1) o!;simp only[no,om,and_true]at e';obtain⟨rfl,rfl⟩:=e';have HC:m1 (iX L=ui (dC (L[0]'O)) (dC (L[l? L-1]'o!))):=O0 Y;have hA:(dC (L[0]'O)).length<=24:=U _ (bz _);have hB:(dC (L[l? L-1]'o!)).length<=24:=U _ (bz _);have c0:=h0.path;have c1:=h1.path;rw[hY,hX]at c0;obtain⟨m,ac⟩:∃m,l? L=m+1:=⟨l? L-1,o!⟩;have W:l? L-1=m:=o!;rw[show off+(l? L-1)*5=off+m*5 by rw[W]]at c1;clear h0 h1 hr U;generalize ad:dC (L[0]'O)=A at *;generalize ae:dC (L[l? L-1]'o!)=B at *;clear ad ae Y W O;rw[ac]at hc⊢;have am:IntKind.i64.wrap (((m+1:Nat):Int)-1)=(m:Int):=by simp only[nr];omega
 have al:IntKind.i64.wrap ((m:Int)+1-1)=(m:Int):=by simp only[nr];omega
 have i0:(0:Int)<(m:Int)+1:=o!;have i1:(m:Int)<(m:Int)+1:=o!;have i2:(0:Int)<=(m:Int):=o!;have an:(⟨a? A⟩:ByteArray).size=l? A:=by show A.toArray.size=_;simp
 have ao:(⟨a? B⟩:ByteArray).size=l? B:=by show B.toArray.size=_;simp
 have af:m1 (∀(n:Nat)(h:n<(⟨a? A⟩:ByteArray).size),(⟨a? A⟩:ByteArray)[n]=A.getD n 0):=λn h=>(jr ⟨a? A⟩ n h).symm;have ag:m1 (∀(n:Nat)(h:n<(⟨a? B⟩:ByteArray).size),(⟨a? B⟩:ByteArray)[n]=B.getD n 0):=λn h=>(jr ⟨a? B⟩ n h).symm;generalize (⟨a? A⟩:ByteArray)=bA at *;generalize (⟨a? B⟩:ByteArray)=bB at *;go_enter func183,ntmps183;go_wp2_with fail;go_quiet (fail);go_wp2;go_loopw [5] (λi wr=>∃n:Nat,n<=l? A/\n<=l? B/\i=n? i? n/\A.take n=B.take n/\B? w wr) (λi _=>l? A-(intOf i).toNat)
 case atStart=>exact⟨0,hI _,hI _,q?,i!,jn (m3 _ _) _⟩
 case round=>
  obtain⟨n,aa,ap,rfl,ab,hb⟩:=hrel;have HB:m1 _:=hb;have HE:m1 _:=ab;clear hb ab;by_cases h1:n<l? A
  .have ah:(n:Int)<(l? A:Int):=o!;by_cases h2:n<l? B
   .have ai:(n:Int)<(l? B:Int):=o!;have gA:=af.out n o!;have gB:=ag.out n o!;by_cases h3:A.getD n 0=B.getD n 0
    .have HT:m1 (A.take (n+1)=B.take (n+1)):=NG h1 h2 HE h3;have aj:(((bA[n]'o!).toNat:Int)==((bB[n]'o!).toNat:Int))=t?:=beq_iff_eq.2 (by rw[gA,gB,h3]);clear h3 gA gB;go_wp2_with fail;go_quiet (fail);go_wp2;go_roundw
     case rel=>exact⟨n+1,o!,o!,by go_num,HT,jn HB _⟩
     case measure=>simp[intOf];omega
    have HT:m1 ((iX L).length=n):=by show _=_;rw[HC.out];exact zT aa HE (Or.inr (Or.inr h3))
    have aj:(((bA[n]'o!).toNat:Int)==((bB[n]'o!).toNat:Int))=f?:=beq_eq_false_iff_ne.2 (by
     rw[gA,gB];intro hh
     exact h3 (UInt8.toNat_inj.1 o!))
    clear h3 gA gB;go_wp2_with fail;go_quiet (fail);go_wp2;go_ret;exact⟨dQ (by rw[HT.out]),jn HB _⟩
   have HT:m1 ((iX L).length=n):=by show _=_;rw[HC.out];exact zT aa HE (Or.inr (Or.inl o!))
   have ai:decide ((n:Int)<(l? B:Int))=f?:=decide_eq_false o!;go_wp2_with fail;go_quiet (fail);go_wp2;go_ret;exact⟨dQ (by rw[HT.out]),jn HB _⟩
  have HT:m1 ((iX L).length=n):=by show _=_;rw[HC.out];exact zT aa HE (Or.inl o!)
  have ah:decide ((n:Int)<(l? A:Int))=f?:=decide_eq_false o!;go_wp2_with fail;go_quiet (fail);go_wp2;go_ret;exact⟨dQ (by rw[HT.out]),jn HB _⟩
variable {Cs:List (List dD)}
def Lw(d)(e)(l):∃g B,runs d (e::l)=(e::g)::B:=by unfold runs;split;exact⟨[],[],q?⟩;exact⟨[],_,q?⟩;split;exact⟨_,_,q?⟩;exact⟨[],_,q?⟩
def Q'(d):∀(X:List dD)(j),j<l? X->(∀i,i<j->∀(W:i+1<l? X),fH d (X[i]'o!)=fH d X[i+1])->(∀h:j+1<l? X,fH d (X[j]'o!)≠fH d X[j+1])->
  runs d X=X.take (j+1)::runs d (X.drop (j+1)):=by
 intro X;induction X with
 |nil=>intro j h;simp at h|cons e l ih=>
  intro j hj Y hn
  cases j with
  |zero=>
   cases l with
   |nil=>simp[runs]|cons x l'=>obtain⟨g,gs,hg⟩:=Lw d x l';have B:=hn i!;simp only[et,e8]at B;simp only[ex,List.take_zero,ff,List.drop_zero];rw[runs,hg];simp only;rw[if_neg B]
  |succ j=>
   have O:=by simpa using hj
   have h1:=ih j O (λi h W=>by have:=Y (i+1) o! (u! W);simpa using this) (λh=>by have:=hn (u! h);simpa using this)
   cases l with
   |nil=>simp at O|cons x l'=>have U:=Y 0 o! i!;simp only[et,e8]at U;rw[ex,ff,runs,h1,ex];simp only;rw[if_pos U]
def AH{d st k}(O:st<=k)(hk:k<l? L)(U:∀i,st<=i->i<k->∀(B:i+1<l? L),fH d (L[i]'o!)=fH d L[i+1])(W:∀h:k+1<l? L,fH d (L[k]'o!)≠fH d L[k+1]) :
  runs d (L.drop st)=(L.drop st).take (k+1-st)::runs d (L.drop (k+1)):=by
 have h:=Q' d (L.drop st) (k-st) j! (λi hi B=>by
  have:=U (st+i) o! o! o!
  simpa[Nat.add_assoc]using this) (λB=>by
  rw[cB]at B;have:=W o!;have e:st+(k-st)=k:=o!;have Y:st+(k-st+1)=k+1:=o!
  simpa[e,Y]using this)
 rw[h,List.drop_drop,(o!:st+(k-st+1)=k+1),(o!:k-st+1=k+1-st)]
def pQ.sub{b off n cap}(h:pQ w (.slice (y? ⟨b,off,x?⟩) n cap) L)(s t)(W:s<=t)(ht:t<=l? L):pQ w (.slice (y? ⟨b,off+s*5,x?⟩) (t-s) (cap-s)) ((L.drop s).take (t-s)):=by obtain⟨a,c,e,h1,h2,Y⟩:=h;obtain⟨rfl,_,rfl⟩:=e;have B:((L.drop s).take (t-s)).length=t-s:=j!;refine⟨y? _,cap-s,by rw[B],o!,o!,λi O=>?_⟩;rw[B]at O;obtain⟨b',U,e',hL⟩:=Y ..;obtain⟨rfl,rfl⟩:=e';refine⟨b,off+s*5,q?,?_⟩;have e2:((L.drop s).take _)[i]'(by rw[B];exact O)=L[s+i]'o!:=i!;rw[e2,(o!:off+s*5+i*5=off+(s+i)*5)];exact hL
def mn(w:w?)(v:v?)(Cs:List (List dD)):Prop:=∃vs:List v?,w.ownsRow 0 190 1 v Cs.length vs/\Zip (pQ w) vs Cs
def mn.below(h:mn w v Cs)(hb:B? w w'):mn w' v Cs:=by obtain⟨vs,B,O⟩:=h;exact⟨vs,dK B (λk U=>hb.block k (B.lt k U).2),O.mono (λu l W=>W.below hb)⟩
def mn.wrote{u u' base l}(h:mn w v Cs)(O:gP w base u l)(U:fg w w' u u'):mn w' v Cs:=by obtain⟨vs,B,Y⟩:=h;exact⟨vs,dK B (λk W=>U.1.block k (B.lt k W).2 (λe=>fP B O d! k W e)),Y.mono (λu l hu=>hu.wrote O U)⟩
def Ue:(prog.info? 190).map (λi=>(i.zero,i.size,i.bytes))=y? (y? (.slice x? 0 0),1,24):=by kernel_rfl
def ND(v)(L)(d)(w)(h:pQ w v L)(hk:∀e∈L,d<(dC e).length)(av:∀e∈L,(dC e).length<=24)(hl:l? L<=1048576) :
  gl prog 182 #[v,n? i? d] w λe w'=>∃v',e=e? v'/\mn w' v' (runs d L)/\B? w w':=by
 obtain⟨i0,hi,aw,ax,ay⟩:=go Ue;obtain⟨a,cap,rfl,hc,hm,hr⟩:=id h;have HL:m1 (pQ w (.slice a L.length cap) L):=h;have HR:m1 (∀i(h:i<l? L),∃b off,a=y? ⟨b,off,x?⟩/\uQ w b (off+i*5) L[i]):=hr;have HK:m1 (∀e∈L,d<(dC e).length):=hk;have az:m1 (∀e∈L,(dC e).length<=24):=av;unfold gg at hm;clear hr h hk av;go_enter func182,ntmps182;go_wp2;go_loopw [5,6,11] (λv s i wr=>∃(k st:Nat)(U:List (List dD))(vs:List v?),k<=l? L/\st<=k/\i=n? i? k/\s=n? i? st/\l? U<=k/\wr.ownsRow w.1.size 190 1 v U.length vs/\Zip (pQ w) vs U/\runs d L=U++runs d (L.drop st)/\(∀i(h:st<=i)(h2:i<k)(h':i+1<l? L),fH d (L[i]'o!)=fH d L[i+1])/\(k=l? L->st=k)/\B? w wr) (λ_ _ i _=>l? L-(intOf i).toNat)
 case atStart=>exact⟨0,0,[],[],hI _,h8 _,q?,q?,h8 _,m' _ _ _ _,Zip.nil _,i!,λi h h2=>o!,λ_=>rfl,m3 _ _⟩
 case round=>
  obtain⟨k,st,U,vs,aI,a0,rfl,rfl,aJ,Y,ak,aa,ab,ac,hb⟩:=hrel;have HB:m1 (B? w wr):=hb;have HO:m1 (wr.ownsRow w.1.size 190 1 _ U.length vs):=Y;have HZ:m1 (Zip (pQ w) vs U):=ak;have ag:m1 (runs d L=U++runs d (L.drop st)):=aa;have HS:m1 (∀i(h:st<=i)(h2:i<k)(h':i+1<l? L),fH d (L[i]'o!)=fH d L[i+1]):=ab;obtain⟨aP,cP,rfl,aK⟩:=dH Y;have hz:=hb.size;clear hb Y ak aa ab;by_cases ad:k<l? L
  .obtain⟨b,off,rfl,hL⟩:=HR.out k ad;have q0:=ge HB hL.path;have a':(k:Int)<(l? L:Int):=o!;have a1:m1 (pQ w (.slice (y? ⟨b,off+st*5,x?⟩) (k+1-st) (cap-st)) ((L.drop st).take (k+1-st))):=HL.sub st (k+1) o! o!;have aL:=HK.out _ (bz ad);clear hL ac;by_cases ae:k+1=l? L
   .have a4:(((k:Int)+1)==(l? L:Int))=t?:=beq_iff_eq.2 o!;have HC:m1 (runs d (L.drop st)=(L.drop st).take (k+1-st)::runs d (L.drop (k+1))):=AH a0 ad (λi h h2 h'=>HS.out i h h2 h') (λh=>o!);have a2:st<cap:=o!;have ah:(k:Int)+1<=(cap:Int):=o!;clear ae;go_wp2_with fail;go_quiet (fail);have af:m1 ((wr.drewN nq).ownsRow w.1.size 190 1 (.slice aP U.length cP) U.length vs):=HO.out;have am:m1 (B? w (wr.drewN nq)):=jn HB nq;have an:w.1.size<=(wr.drewN nq).1.size:=hz;clear HO;generalize wr.drewN nq=wd at *
    go_wp2_with (first
     |(at_builtin;refine fE _ q? _ _ 239 q? w.1.size 190 i0 (.slice x? 0 0) 24 kr hi aw ax ay q? _ _ _ q? (af.alloc _) ⟨wd.1.size,0,x?⟩ _ q? iC q? ?c1 ?c2 ?c3 ?_))
    case c1=>omega
    case c2=>unfold gg;omega
    case c3=>first|omega|(simp;omega)
    intro v' w1 B O _
    have ao:m1 (w1.ownsRow w.1.size 190 1 v' (U++[(L.drop st).take (k+1-st)]).length (vs++[.slice (y? ⟨b,off+st*5,x?⟩) (k+1-st) (cap-st)])):=by show w1.ownsRow _ _ _ _ _ _;rw[bx];exact B
    have ap:m1 (B? w w1):=(am.alloc an _).grown O j! (λb hb=>(af.lt b hb).1);have aq:m1 (Zip (pQ w) (vs++[.slice (y? ⟨b,off+st*5,x?⟩) (k+1-st) (cap-st)]) (U++[(L.drop st).take (k+1-st)])):=HZ.append (Zip.one a1);clear B O;go_wp2;go_roundw
    case rel=>refine⟨k+1,k+1,_,_,o!,h8 _,by go_num,by go_num,j!,ao,aq,?_,λi h h2=>o!,λ_=>rfl,ap⟩;rw[ag.out,HC.out];simp
    case measure=>simp[intOf];omega
   have a4:(((k:Int)+1)==(l? L:Int))=f?:=beq_eq_false_iff_ne.2 o!;have ah:k+1<l? L:=o!;have aA:(k:Int)+1<(l? L:Int):=o!;obtain⟨b',aB,e',a3⟩:=HR.out (k+1) ah;simp only[no,om,and_true]at e';obtain⟨rfl,rfl⟩:=e';have q1:=ge HB a3.path;have aC:=HK.out _ (bz ah);have aD:=az.out _ (bz ad);have aE:=az.out _ (bz ah);have a5:(⟨(dC L[k]).toArray⟩:ByteArray).size=(dC L[k]).length:=by show(dC L[k]).toArray.size=_;simp
   have a6:(⟨(dC L[k+1]).toArray⟩:ByteArray).size=(dC L[k+1]).length:=by show(dC L[k+1]).toArray.size=_;simp
   have gA:∀h:d<(⟨(dC L[k]).toArray⟩:ByteArray).size,(⟨(dC L[k]).toArray⟩:ByteArray)[d]=fH d L[k]:=λh=>(jr ⟨(dC L[k]).toArray⟩ d h).symm;have gB:∀h:d<(⟨(dC L[k+1]).toArray⟩:ByteArray).size,(⟨(dC L[k+1]).toArray⟩:ByteArray)[d]=fH d L[k+1]:=λh=>(jr ⟨(dC L[k+1]).toArray⟩ d h).symm;generalize (⟨(dC L[k]).toArray⟩:ByteArray)=bA at *;generalize (⟨(dC L[k+1]).toArray⟩:ByteArray)=bB at *;have ar:d<bA.size:=o!;have au:d<bB.size:=o!;have aF:(d:Int)<(bA.size:Int):=o!;have aG:(d:Int)<(bB.size:Int):=o!;have ai:=gA ar;have aj:=gB au;have aM:IntKind.i64.wrap ((k:Int)+1)=((k+1:Nat):Int):=by simp only[nr];omega
   have aH:((k+1:Nat):Int)<(l? L:Int):=o!;have a2:st<cap:=o!;have aN:(k:Int)+1<=(cap:Int):=o!;clear a3 a5 a6 ae gA gB;by_cases W:fH d L[k]=fH d L[k+1]
   .have a7:(((bA[d]'ar).toNat:Int) != ((bB[d]'au).toNat:Int))=f?:=by rw[ai,aj,W];simp
    have a8:m1 (fH d L[k]=fH d L[k+1]):=W;clear W ai aj;go_wp2_with fail;go_quiet (fail);go_wp2;go_roundw
    case rel=>refine⟨k+1,st,U,vs,o!,o!,by go_num,q?,o!,HO,HZ,ag,λi h h2 h'=>?_,λh=>o!,jn HB _⟩;by_cases e:i=k;subst e;exact a8;exact HS i h o! h'
    case measure=>simp[intOf];omega
   have a7:(((bA[d]'ar).toNat:Int) != ((bB[d]'au).toNat:Int))=t?:=by rw[ai,aj,bne_iff_ne];intro hh;exact W (UInt8.toNat_inj.1 o!)
   have HC:m1 (runs d (L.drop st)=(L.drop st).take (k+1-st)::runs d (L.drop (k+1))):=AH a0 ad (λi h h2 h'=>HS.out i h h2 h') (λ_=>W);clear W ai aj;go_wp2_with fail;go_quiet (fail);have af:m1 ((wr.drewN nq).ownsRow w.1.size 190 1 (.slice aP U.length cP) U.length vs):=HO.out;have am:m1 (B? w (wr.drewN nq)):=jn HB nq;have an:w.1.size<=(wr.drewN nq).1.size:=hz;clear HO;generalize wr.drewN nq=wd at *
   go_wp2_with (first
    |(at_builtin;refine fE _ q? _ _ 239 q? w.1.size 190 i0 (.slice x? 0 0) 24 kr hi aw ax ay q? _ _ _ q? (af.alloc _) ⟨wd.1.size,0,x?⟩ _ q? iC q? ?c1 ?c2 ?c3 ?_))
   case c1=>omega
   case c2=>unfold gg;omega
   case c3=>first|omega|(simp;omega)
   intro v' w1 B O _
   have ao:m1 (w1.ownsRow w.1.size 190 1 v' (U++[(L.drop st).take (k+1-st)]).length (vs++[.slice (y? ⟨b,off+st*5,x?⟩) (k+1-st) (cap-st)])):=by show w1.ownsRow _ _ _ _ _ _;rw[bx];exact B
   have ap:m1 (B? w w1):=(am.alloc an _).grown O j! (λb hb=>(af.lt b hb).1);have aq:m1 (Zip (pQ w) (vs++[.slice (y? ⟨b,off+st*5,x?⟩) (k+1-st) (cap-st)]) (U++[(L.drop st).take (k+1-st)])):=HZ.append (Zip.one a1);clear B O;go_wp2;go_roundw
   case rel=>refine⟨k+1,k+1,_,_,o!,h8 _,by go_num,by go_num,j!,ao,aq,?_,λi h h2=>o!,λ_=>rfl,ap⟩;rw[ag.out,HC.out];simp
   case measure=>simp[intOf];omega
  have al:k=l? L:=o!;have a9:=ac al
  have HE:m1 (runs d L=U):=by show _=_;rw[ag.out,a9,al,List.drop_length];simp[runs]
  clear ac;go_wp2;go_ret;refine⟨_,q?,?_,HB⟩;rw[HE.out];exact⟨vs,fj HO (hI _),HZ.mono (λu l hu=>hu.below HB)⟩
variable {a:Option Addr} {p:Wd}
def Wu(f:Nat):Prop:=∀(base:Nat)(v:v?)(l:Wd)(label:ByteArray)(p:Wd)(B:v?)(L:List dD)(w:w?),gP w base v l->pQ w B L->base<=w.1.size->(∀e∈L,Ai e/\p <+: dC e)->iq L->l? L<=255->l? p<=24->25<=f+l? p->
  l.length+(dI label.1.1++iH f p.length L).length<=549755813888->label.size<=1099511627776->
  gl prog 132 #[v,s? label,n? i? p.length,B] w (QB base w v l (dI label.1.1++iH f p.length L))
def pQ.tail{cap}(h:pQ w (.slice a n cap) L)(k)(U:k<=l? L):pQ w (.slice (a.map λx=>x.add (k*5)) (l? L-k) (cap-k)) (L.drop k):=by obtain⟨W,Y,e,h1,h2,B⟩:=h;simp only[m9]at e;refine⟨_,cap-k,by rw[cB],by rw[cB];omega,o!,λi hi=>?_⟩;obtain⟨b,off,e,O⟩:=B ..;refine⟨b,off+k*5,by simp only[Option.map_some,Addr.add];split<;>simp_all,?_⟩;rw[List.getElem_drop,(o!:off+k*5+i*5=off+(k+i)*5)];exact O
def pQ.UJ{c k}(h:pQ w (.slice a n c) L)(B:c=k)(U:k<=l? L):pQ w (.slice a (l? L-k) 0) (L.drop k):=by obtain⟨W,Y,e,h1,h2,h3⟩:=h;simp only[m9]at e;have O:L.drop k=[]:=fa o!;rw[O];exact⟨a,0,j!,h8 _,hI _,nofun⟩
def WE{hn C}(hL:iq L)(hp:∀e∈L,p <+: dC e)(hS:∀e∈L.drop hn,dC e≠p)(hC:C∈runs p.length (L.drop hn)) :
  C≠[]/\iq C/\(∀e∈C,e∈L/\iX C <+: dC e)/\p <+: iX C/\l? p<(iX C).length/\l? C<=l? L:=by
 obtain⟨hs,r1,r2,r3,r4,r5,r6⟩:=Bg p _ (on (List.drop_sublist hn L) hL) (λe W=>⟨hp e (ee W),hS e W⟩);rw[r1]at hC;obtain⟨x,Y,rfl⟩:=dt.1 hC;have B:=(r3 x Y).1;have aa:=P9 _ B (r5 x Y)
 have O:p++[x.1] <+: iX x.2:=by rw[<-aa];refine(nZ B).2 _ (λs hs=>?_);obtain⟨e,W,rfl⟩:=dt.1 hs;exact(r3 x Y).2 e W
 have U:x.2.Sublist (L.drop hn):=by rw[<-r4];exact List.sublist_flatten_of_mem (dt.2 ⟨x,Y,q?⟩)
 refine⟨B,r5 x Y,λe W=>⟨ee (U.subset W),?_⟩,(List.prefix_append ..).trans O,?_,?_⟩;rw[<-aa];exact(nZ B).1 _ (dt.2 ⟨e,W,q?⟩);have:=O.length_le;simp at this;omega;have h1:=U.length_le;rw[cB]at h1;omega
def NZ{s:Wd}(h:p <+: s)(B:s≠p):l? p<l? s:=by have O:=h.length_le;by_cases e:l? p=l? s;exact absurd (h.eq_of_length e).symm B;omega
def PV(d):∀L,(runs d L).length<=l? L:=by
 intro L;induction L with
 |nil=>simp[runs]|cons e l B=>
  unfold runs;split;simp
  next h=>rw[h]at B;simp at B⊢;omega
  next h=>
  rw[h]at B;split;simp at B⊢;omega;simp at B⊢;omega
def Fc(f d)(L):iH (f+1) d L=gh (fI L)++(u8 (jP L d)::((L.take (jP L d)).flatMap kC++(u8 (runs d (L.drop (jP L d))).length::(runs d (L.drop (jP L d))).flatMap λC=>dI ((iX C).drop d)++iH f (iX C).length C))):=rfl
def Un:∀f,Wu f:=by
 intro f;induction f with
 |zero=>intro base v l label p vL L w _ _ _ _ _ _ cg ci;omega|succ f ih=>
  intro base v l label p vL L w hO hL aU aV b4 cE cg ci aK b5;obtain⟨i0,hi,b6,b8,b9⟩:=go BV;obtain⟨a,c,rfl⟩:=hO.form;obtain⟨aL,cL,rfl,cQ,hmL,cj⟩:=id hL;have ck:m1 (Wu f):=ih;have af:m1 (∀e∈L,Ai e/\p <+: dC e):=aV;have b':m1 (iq L):=b4;have bA:m1 (pQ w (.slice aL L.length cL) L):=hL;have bB:m1 (gP w base (.slice a l.length c) l):=hO;obtain⟨N,hN⟩:∃N,N=l++(dI label.1.1++iH (f+1) p.length L):=⟨_,q?⟩;have HN:m1 (N=l++(dI label.1.1++iH (f+1) p.length L)):=hN;have cR:l? N<=549755813888:=by rw[hN,bx];exact aK
  have cn:0<=fI L:=me L;have cq:fI L<=1000000:=Ky (λe he=>(aV e he).1.2.2.2.2.2.1);have aW:=SI L p.length;have bD:=lc base _ l label w hO (by have:=congrArg gc hN;simp at this;omega) b5 aU;unfold gg at hmL;clear ih aV b4 hL hO aK hN cj;go_enter func132,ntmps132;go_wp2_with fail;refine bD.mono ?_;rintro e1 w1 ⟨v1,rfl,ay,az⟩;obtain⟨L1,aX⟩:∃L1,L1=l++dI label.1.1:=⟨_,q?⟩;have bE:m1 (L1=l++dI label.1.1):=aX;rw[<-aX]at ay;have ai:m1 (pQ w1 (.slice aL L.length cL) L):=bA.wrote bB az;have bF:m1 (fg w w1 (.slice a l.length c) v1):=az;obtain⟨a1,c1,rfl⟩:=ay.form;have bG:m1 (gP w1 base (.slice a1 L1.length c1) L1):=ay;have cF:=az.1.size;have hG:=Er _ L w1 ai;clear bD ay az aX bA bB;go_wp2_with fail;refine hG.mono ?_;rintro e2 w2 ⟨rfl,aj⟩;have aY:m1 (gP w2 base (.slice a1 L1.length c1) L1):=bG.below aj;have aM:m1 (pQ w2 (.slice aL L.length cL) L):=ai.below aj;have bH:m1 (fg w w2 (.slice a l.length c) (.slice a1 L1.length c1)):=bF.trans (fg.below aj _);have cG:=aj.size;have cS:l? L1<=l? N:=by rw[HN.out,bE.out];simp
  have bI:=qA base _ L1 (fI L) w2 aY o! cn cq o!;clear hG aj bG ai bF;go_wp2_with fail;refine bI.mono ?_;rintro e3 w3 ⟨v3,rfl,a0,a2⟩;obtain⟨L3,aZ⟩:∃L3,L3=L1++gh (fI L):=⟨_,q?⟩;have cr:m1 (L3=L1++gh (fI L)):=aZ;rw[<-aZ]at a0;have ak:m1 (pQ w3 (.slice aL L.length cL) L):=aM.wrote aY a2;have bJ:m1 (fg w w3 (.slice a l.length c) v3):=bH.trans a2;obtain⟨a3,c3,rfl⟩:=a0.form;have bK:m1 (gP w3 base (.slice a3 L3.length c3) L3):=a0;have cH:=a2.1.size;have hC:=yl _ L p.length w3 ak;clear bI a0 a2 aZ aY aM bH;go_wp2_with fail;refine hC.mono ?_;rintro e4 w4 ⟨rfl,al⟩;have ba:m1 (gP w4 base (.slice a3 L3.length c3) L3):=bK.below al;have aN:m1 (pQ w4 (.slice aL L.length cL) L):=ak.below al;have bL:m1 (fg w w4 (.slice a l.length c) (.slice a3 L3.length c3)):=bJ.trans (fg.below al _);have cI:=al.size;obtain⟨W,a4⟩:∃W,jP L p.length=W:=⟨_,q?⟩;have HH:m1 (jP L p.length=W):=a4;rw[a4]at aW⊢;obtain⟨Cs,bc⟩:∃Cs,Cs=runs p.length (L.drop W):=⟨_,q?⟩;have bd:m1 (Cs=runs p.length (L.drop W)):=bc
  have bM:m1 (N=L3++[u8 W]++((L.take W).flatMap kC++(u8 Cs.length::Cs.flatMap λC=>dI ((iX C).drop p.length)++iH f (iX C).length C))):=by show _=_;rw[HN.out,cr.out,bE.out,Fc,bc,a4];simp
  clear bc;have cU:l? L3+1<=l? N:=by rw[bM.out];simp
  clear hC al bK ak bJ a4
  go_wp2_with (first
   |(at_builtin;refine dW _ q? _ _ 60 q? base 5 i0 (n? .u8 0) 1 ie hi b6 b8 b9 q? _ _ _ q? (ba.alloc _) _ [n? .u8 (W:Int)] q? (Rd.one iC) (by simp[nv]) ?c1 ?c2 ?c3 ?_))
  case c1=>simp;omega
  case c2=>unfold gg;simp;omega
  case c3=>simp;omega
  intro v5 w5 am be bf;obtain⟨L5,a'⟩:∃L5,L5=L3++[u8 W]:=⟨_,q?⟩;have cV:m1 (L5=L3++[u8 W]):=a'
  have bg:m1 (N=L5++((L.take W).flatMap kC++(u8 Cs.length::Cs.flatMap λC=>dI ((iX C).drop p.length)++iH f (iX C).length C))):=by show _=_;rw[bM.out,<-a']
  have HO5:m1 (gP w5 base v5 L5):=by show gP _ _ _ _;unfold gP;rw[a',jb,kQ,bx,(o!:(W:Int) % 256=W)];exact am
  have HW5:m1 (fg w w5 (.slice a l.length c) v5):=bL.trans (fg.of be bf);have HLv5:m1 (pQ w5 (.slice aL L.length cL) L):=aN.wrote ba (fg.of be bf);obtain⟨a5,c5,rfl⟩:=HO5.form;have cJ:=HW5.1.size;clear am be bf a' ba aN bL;go_wp2_with fail;go_loopw [0,35] (λu i wr=>∃k:Nat,k<=W/\i=n? i? k/\gP wr base u (L5++(L.take k).flatMap kC)/\fg w wr (.slice a l.length c) u/\pQ wr (.slice aL L.length cL) L) (λ_ i _=>W-(intOf i).toNat)
  case atStart=>exact⟨0,hI _,q?,u! HO5.out,HW5,HLv5⟩
  case round=>
   obtain⟨k,hk,rfl,aA,bh,aO⟩:=hrel;obtain⟨Y,bi⟩:∃Y,Y=L5++(L.take k).flatMap kC:=⟨_,q?⟩;have aB:m1 (Y=L5++(L.take k).flatMap kC):=bi;rw[<-bi]at aA;obtain⟨a6,c6,rfl⟩:=aA.form;have bj:m1 (gP wr base (.slice a6 Y.length c6) Y):=aA;have bk:m1 (fg w wr (.slice a l.length c) (.slice a6 Y.length c6)):=bh;have ac:m1 (pQ wr (.slice aL L.length cL) L):=aO;have cK:=bh.1.size;clear aA bh aO bi HO5 HW5 HLv5;by_cases aD:k<W
   .obtain⟨_,_,e',_,_,hr⟩:=ac.out;simp only[m9,true_and]at e';obtain⟨rfl,rfl⟩:=e';obtain⟨b,off,rfl,aa⟩:=hr k o!;have q0:=aa.path;have q1:=aa.name;have q2:=aa.text;have q3:=aa.dn;have q4:=aa.dE;clear aa hr;obtain⟨wa,bl⟩:∃wa,wr.alloc (c? #[s? ⟨(dC L[k]).toArray⟩,s? ⟨L[k].name.toArray⟩,s? ⟨L[k].text.toArray⟩,n? i? L[k].dn,n? i? L[k].dE] 237)=wa:=⟨_,q?⟩;have an:B? wr wa:=by rw[<-bl];exact(m3 _ _).alloc (h8 _) _
    have ct:m1 (wr.alloc (c? #[s? ⟨(dC L[k]).toArray⟩,s? ⟨L[k].name.toArray⟩,s? ⟨L[k].text.toArray⟩,n? i? L[k].dn,n? i? L[k].dE] 237)=wa):=bl;have bN:m1 (gP wa base (.slice a6 Y.length c6) Y):=bj.below an;have cu:m1 (fg w wa (.slice a l.length c) (.slice a6 Y.length c6)):=bk.trans (fg.below an _);have bO:m1 (pQ wa (.slice (y? ⟨b,off,x?⟩) L.length cL) L):=ac.below an;have cW:=an.size;have HT:m1 (L.take (k+1)=L.take k++[L[k]]):=cm o!
    have cv:l? Y<=l? N:=by
     have e:L.take W=L.take k++(L.take W).drop k:=by
      conv=>lhs;rw[<-fd k (L.take W)]
      rw[List.take_take,hJ hk]
     rw[bg.out,aB.out,e];simp
    have hA:=yC base _ Y L[k] wa bN o! (af _ (bz _)).1 o!;unfold AV at hA;clear an bl;go_wp2_with fail;rw[ct.out];refine hA.mono ?_;rintro e7 w7 ⟨v7,rfl,bP,bm⟩;have ao:m1 (gP w7 base v7 (Y++kC L[k])):=bP;have aE:m1 (fg w w7 (.slice a l.length c) v7):=cu.trans bm;have bQ:m1 (pQ w7 (.slice (y? ⟨b,off,x?⟩) L.length cL) L):=bO.wrote bN bm;clear hA bP bm q0 q1 q2 q3 q4;go_wp2;go_roundw
    case rel=>
     refine⟨k+1,o!,by go_num,?_,aE,bQ⟩;have e:L5++(L.take (k+1)).flatMap kC=Y++kC L[k]:=by rw[HT.out,aB.out,ef,dm];simp only[dS,ek,dw]
     rw[e];exact ao
    case measure=>simp[intOf];omega
   have cw:k=W:=o!;subst cw
   have HS:m1 (∀e∈L.drop k,dC e≠p):=by have:=(Az b' (λe he=>(af e he).2)).2;rw[HH.out]at this;exact this
   have ap:m1 (∀e∈L,(dC e).length<=24):=λe he=>(rE (af e he).1).1;have bR:m1 (∀(aT:Option Addr)(cT:Nat),pQ wr (.slice aT (l? L-k) cT) (L.drop k)->gl prog 182 #[.slice aT (l? L-k) cT,n? i? p.length] wr λe w'=>∃v',e=e? v'/\mn w' v' (runs p.length (L.drop k))/\B? wr w'):=λaT cT h=>ND _ (L.drop k) p.length wr h (λe he=>NZ (af e (ee he)).2 (HS e he)) (λe he=>ap.out e (ee he)) (by rw[cB];omega);go_wp2_with fail
   all_goals(
    refine(bR _ _ (by first|exact ac.tail k aW|exact ac.UJ o! aW)).mono ?_;rintro e7 w7 ⟨v7,rfl,aF,aG⟩;rw[<-bd.out]at aF;obtain⟨vs,aq,ad⟩:=id aF;obtain⟨a7,c7,rfl,cX⟩:=dH aq;have bS:m1 (mn w7 (.slice a7 Cs.length c7) Cs):=aF;have ao:m1 (gP w7 base (.slice a6 Y.length c6) Y):=bj.below aG;have aE:m1 (fg w w7 (.slice a l.length c) (.slice a6 Y.length c6)):=bk.trans (fg.below aG _);have cM:=aG.size
    have cY:l? Cs<=255:=by rw[bd.out];have:=PV p.length (L.drop k);rw[cB]at this;omega
    have cv:l? Y+1<=l? N:=by rw[bg.out,aB.out];simp;omega
    clear bR aF aq ad aG bj bk ac
    go_wp2_with (first
     |(at_builtin;refine dW _ q? _ _ 60 q? base 5 i0 (n? .u8 0) 1 ie hi b6 b8 b9 q? _ _ _ q? (ao.alloc _) _ [n? .u8 (l? Cs:Int)] q? (Rd.one iC) (by simp[nv]) ?c1 ?c2 ?c3 ?_))
    case c1=>simp;omega
    case c2=>unfold gg;simp;omega
    case c3=>simp;omega
    intro v8 w8 ar bn bo;obtain⟨L8,aH⟩:∃L8,L8=Y++[u8 Cs.length]:=⟨_,q?⟩;have cZ:m1 (L8=Y++[u8 Cs.length]):=aH
    have bT:m1 (N=L8++Cs.flatMap λC=>dI ((iX C).drop p.length)++iH f (iX C).length C):=by show _=_;rw[bg.out,aH,aB.out];simp
    have HO8:m1 (gP w8 base v8 L8):=by show gP _ _ _ _;unfold gP;rw[aH,jb,kQ,bx,(o!:(l? Cs:Int) % 256=l? Cs)];exact ar
    have HW8:m1 (fg w w8 (.slice a l.length c) v8):=aE.trans (fg.of bn bo);have HP8:m1 (mn w8 (.slice a7 Cs.length c7) Cs):=bS.wrote ao (fg.of bn bo);obtain⟨a8,c8,rfl⟩:=HO8.form;have cN:=HW8.1.size;clear ar bn bo aH ao bS aE;go_wp2_with fail;go_loopw [0,57] (λu i wx=>∃k:Nat,k<=l? Cs/\i=n? i? k/\gP wx base u (L8++(Cs.take k).flatMap λC=>dI ((iX C).drop p.length)++iH f (iX C).length C)/\fg w wx (.slice a l.length c) u/\mn wx (.slice a7 Cs.length c7) Cs) (λ_ i _=>l? Cs-(intOf i).toNat)
    case atStart=>exact⟨0,hI _,q?,u! HO8.out,HW8,HP8⟩
    case round=>
     obtain⟨j,hj,rfl,aI,bp,bU⟩:=hrel;obtain⟨L9,bq⟩:∃L9,L9=L8++(Cs.take j).flatMap λC=>dI ((iX C).drop p.length)++iH f (iX C).length C:=⟨_,q?⟩;have br:m1 (L9=L8++(Cs.take j).flatMap λC=>dI ((iX C).drop p.length)++iH f (iX C).length C):=bq;rw[<-bq]at aI;obtain⟨a9,c9,rfl⟩:=aI.form;have bs:m1 (gP wr base (.slice a9 L9.length c9) L9):=aI;have bt:m1 (fg w wr (.slice a l.length c) (.slice a9 L9.length c9)):=bp;have bu:m1 (mn wr (.slice a7 Cs.length c7) Cs):=bU;have cO:=bp.1.size;clear aI bp bU bq HO8 HW8 HP8;by_cases aD:j<l? Cs
     .obtain⟨vs,aq,ad⟩:=id bu;have bv:j<l? vs:=by rw[ad.1];exact aD
      obtain⟨b7,o7,rfl,au⟩:=fy aq j vs[j] (cl bv)
      have bw:m1 (pQ wr vs[j] Cs[j]):=by obtain⟨u,bV,cy⟩:=ad.2 j aD;rw[cl bv]at bV;cases bV;exact cy
      have HT:m1 (Cs.take (j+1)=Cs.take j++[Cs[j]]):=cm aD;obtain⟨b0,aP,O,aQ,cP,da⟩:=WE (C:=Cs[j]) b' (λe he=>(af e he).2) HS (by rw[<-bd.out];exact bz _)
      have db:l? L9+(dI ((iX Cs[j]).drop p.length)++iH f (iX Cs[j]).length Cs[j]).length<=l? N:=by
       have e:Cs=Cs.take (j+1)++Cs.drop (j+1):=(fd _ _).symm;rw[HT.out]at e;rw[bT.out,br.out];conv=>rhs;rw[e]
       simp only[ef,dS,ek,bx,dw];omega
      obtain⟨aC,cC,eC,dc,de,bW⟩:=id bw;have av:m1 (pQ wr (.slice aC Cs[j].length cC) Cs[j]):=by have h:=bw.out;rw[eC]at h;exact h
      rw[eC]at au;have B:=yJ b0;obtain⟨bC,oC,rfl,aa⟩:=bW 0 B;have q0:=aa.path;rw[hY,hX]at q0;clear aa bW bw ad aq eC bv;have aJ:(iX Cs[j]).length<=24:=hQ (O _ (bz B)).2.length_le (rE (af _ (O _ (bz B)).1).1).1;have ag:m1 (∀e∈Cs[j],e∈L/\iX Cs[j] <+: dC e):=O;have df:(iX Cs[j]).length<=(dC Cs[j][0]).length:=(O _ (bz B)).2.length_le;have cz:(dC Cs[j][0]).length<=24:=ap.out _ (O _ (bz B)).1;have c':m1 (iq Cs[j]):=aP;have dg:m1 (p <+: iX Cs[j]):=aQ;have bX:=Hz _ Cs[j] wr av b0 (λe he=>ap.out e (O e he).1);have dh:(⟨(dC Cs[j][0]).toArray⟩:ByteArray).size=(dC Cs[j][0]).length:=by show(dC Cs[j][0]).toArray.size=_;simp
      clear O aP aQ b0;go_wp2_with fail;refine bX.mono ?_;rintro di aw ⟨rfl,U⟩;have cA:=ge U q0;have aR:m1 (gP aw base (.slice a9 L9.length c9) L9):=bs.below U;have b1:m1 (pQ aw (.slice (y? ⟨bC,oC,x?⟩) Cs[j].length cC) Cs[j]):=av.below U;have bY:m1 (mn aw (.slice (y? ⟨b7,o7,x?⟩) Cs.length c7) Cs):=bu.below U;have bZ:m1 (fg w aw (.slice a l.length c) (.slice a9 L9.length c9)):=bt.trans (fg.below U _);have cD:=U.size;clear bX U bs av bu bt q0 au;obtain⟨ae,ah⟩:∃ae,(⟨(dC Cs[j][0]).toArray⟩:ByteArray).extract p.length (iX Cs[j]).length=ae:=⟨_,q?⟩
      have ab:ae.1.1=(iX Cs[j]).drop p.length:=by have h:=(ag _ (bz B)).2;rw[<-ah,(o!:(iX Cs[j]).length=l? p+((iX Cs[j]).length-l? p)),Ds];show(((dC Cs[j][0]).drop p.length).take _)=_;rw[<-List.drop_take,<-List.prefix_iff_eq_take.1 h]
      have cb:m1 ((⟨(dC Cs[j][0]).toArray⟩:ByteArray).extract p.length (iX Cs[j]).length=ae):=ah
      have b2:ae.size<=1099511627776:=by have:ae.size=l? ae.1.1:=i!;rw[this,ab];simp;omega
      have hR:=ck.out base _ L9 ae (iX Cs[j]) _ Cs[j] aw aR b1 o! (λe he=>⟨(af e (ag e he).1).1,(ag e he).2⟩) c' o! aJ o! (by rw[ab];omega) b2;rw[ab]at hR;clear ah ab;go_wp2_with fail;rw[cb.out];refine hR.mono ?_;rintro dj b3 ⟨v11,rfl,aS,ax⟩;have cd:m1 (gP b3 base v11 (L9++(dI ((iX Cs[j]).drop p.length)++iH f (iX Cs[j]).length Cs[j]))):=aS;have ce:m1 (fg w b3 (.slice a l.length c) v11):=bZ.trans ax;have cf:m1 (mn b3 (.slice (y? ⟨b7,o7,x?⟩) Cs.length c7) Cs):=bY.wrote aR ax;clear hR aS ax cA;go_wp2;go_roundw
      case rel=>
       refine⟨j+1,o!,by go_num,?_,ce,cf⟩
       have e:(L8++(Cs.take (j+1)).flatMap λC=>dI ((iX C).drop p.length)++iH f (iX C).length C)=L9++(dI ((iX Cs[j]).drop p.length)++iH f (iX Cs[j]).length Cs[j]):=by rw[HT.out,br.out,ef,dm];simp only[dS,ek,dw]
       rw[e];exact cd
      case measure=>simp[intOf];omega
     have HE:m1 (L9=l++(dI label.1.1++iH (f+1) p.length L)):=by show _=_;rw[<-HN.out,bT.out,br.out,eq o!]
     go_wp2;go_ret;refine⟨_,q?,?_,bt⟩;rw[<-HE.out]
     exact bs)
def fx(es:List dD):List Wd:=(es.filter λe=>e.gone).map dD.name
def Ii(l)(e:dD):fx (l++[e])=fx l++(if e.gone then [e.name]else []):=by unfold fx;cases h:e.gone<;>simp[h]
def Om(l):(fx l).length<=l? l:=by unfold fx;rw[ch];exact List.length_filter_le ..
def qU{l m}(h:l.Perm m):(fx l).Perm (fx m):=(h.filter _).map _
def Dh{B es}(O:(es.map dD.name).Nodup)(h:B.Perm es):(fx B).mergeSort (λx y=>decide (x<=y))=fx (eK es):=by
 have Y:((fx B).mergeSort (λx y=>decide (x<=y))).Perm _:=(List.mergeSort_perm ..).trans (qU (h.trans (gX es).symm));refine ou (le:=λa b=>a<=b) (λa b _ _ U W=>List.le_antisymm U W) ?_ ?_ Y
 have:=List.pairwise_mergeSort (le:=λx y=>decide (x<=y)) (by
  intro a b c U W;simp only[decide_eq_true_eq]at *
  exact List.le_trans U W) (by
  intro a b;simp only[Bool.or_eq_true,decide_eq_true_eq]
  exact List.le_total a b) (fx B)
 exact this.imp (λh=>by simpa using h);unfold fx;rw[fm];refine oo ?_ (on ey (oq es O));intro a b hab;unfold uS at hab;rw[bytesLess_eq,decide_eq_true_eq]at hab;exact List.le_of_lt hab
def Ms(base)(a)(c)(G:List Wd)(w)(U:w.ownsRow base 9 1 (.slice a G.length c) G.length (dy G))(hl:l? G<=1099511627776) :
  gl prog 162 #[.slice a G.length c] w λe w'=>e=e? (.tuple #[])/\w'.ownsRow base 9 1 (.slice a G.length c) G.length (dy (G.mergeSort λx y=>decide (x<=y)))/\Below base w w':=by
 obtain⟨Y,hn⟩|⟨g,cap,cur,Y,W,hb,h1,h2,h3,h4⟩:=U.2
 have hG:=ej.1 (u! hn);subst hG;have B:=Any.slices_Sort_string_none yN a c w;refine B.mono ?_;rintro e w' ⟨rfl,rfl⟩;exact⟨q?,u! U,m3 ..⟩;obtain⟨rfl,_,rfl⟩:=Y;have B:=Any.slices_Sort_string yN g 0 c G w (holds_of_block hb (by simpa[dy]using h4)) (m6.1 hb).1 o!;refine B.mono ?_;rintro e w' ⟨rfl,n,os,rfl⟩;refine⟨q?,?_,?_⟩;exact ownsRow_sorted i! W hb h1 h2 h3;have O:=grownBy_sorted (w:=w) (g:=g) (n:=n) (os:=os) (G.mergeSort λx y=>decide (x<=y)).toArray;exact⟨O.os,O.tape,O.output,O.size,λk hk=>O.block k (h9 hk (v! ((m6.1 hb).1))) (by intro e;cases e;omega)⟩
def xN{w:w?}{v t g}(B:g=w.1.size):(w.alloc (c? #[v] t)).cell? ⟨g,0,x?⟩=y? v:=by subst B;exact iC
def NC:∀S:List Wd,(∀x∈S,l? x<=255)->(S.flatMap dI).length<=l? S*256:=by
 intro S;induction S with
 |nil=>simp|cons x S B=>
  intro h;have U:=B (λy O=>h y (List.mem_cons_of_mem _ O));have W:=h x (fi ..);rw[dS,bx,ft];have:(dI x).length=l? x+1:=by simp[dI]
  omega
def fg.low{w0 w w' v base l}(h:fg w w' v v')(hb:B? w0 w)(B:gP w base v l)(U:w0.1.size<=base):B? w0 w':=by refine hb.trans ⟨h.1.os,h.1.tape,h.1.output,h.1.size,λk O=>h.1.block k (h9 O hb.size) (λe=>?_)⟩;have:=(B.lt k e).1;omega
def rS(es:List dD):Wd:=u8 (fx (eK es)).length::(fx (eK es)).flatMap dI
def zR(B)(es)(w)(hs:eT w B es)(hl:es.length<1099511627776)(hg:kg es<=255)(a1:∀e∈es,e.gone=t?->e.name.length<=255) :
  gl prog 131 #[.slice x? 0 0,.map (y? B)] w λen w'=>∃v,en=.returned v/\gP w' w.1.size v (rS es)/\Below w.1.size w w':=by
 obtain⟨i0,hi,aK,aL,aM⟩:=go BV;obtain⟨i9,aN,aO,aP,aQ⟩:=go Cl;have a2:=hs.nodup;have HS:m1 (eT w B es):=hs;have aR:m1 ((es.map dD.name).Nodup):=a2;have aS:m1 (∀e∈es,e.gone=t?->e.name.length<=255):=a1;have bf:=dU.lt hs;clear hs a2 a1;go_enter func131,ntmps131;go_wp2_with (first|(at_range;refine l8 _ rfl _ rfl rfl HS.out ?_;intro w1 hrg0 hg0 bh));go_frame;go_loopw [5] (λg wr=>∃(O aa:List dD),(O++aa).Perm es/\mS wr B w.1.size es aa/\wr.ownsRow (w.1.size+1) 9 1 g (fx O).length (dy (fx O))/\Below w.1.size w wr/\w.1.size+1<=wr.1.size) (λ_ wr=>wr.rangeLeft B w.1.size)
 case atStart=>exact⟨[],es,ot _,hrg0,m' _ _ _ _,(m3 _ _).grown hg0 (h8 _) (λk hk=>by cases hk),o!⟩
 case round=>
  obtain⟨O,aa,fA,hr,ad,hb,hz⟩:=hrel;have HP:m1 ((O++aa).Perm es):=fA;have HR:m1 (mS wr B w.1.size es aa):=hr;obtain⟨ag,cg,rfl,aT⟩:=dH ad;have HO:m1 (wr.ownsRow (w.1.size+1) 9 1 (.slice ag (fx O).length cg) (fx O).length (dy (fx O))):=ad;have HB:m1 (Below w.1.size w wr):=hb
  have aU:(fx O).length<=es.length:=by have h1:=Om O;have h2:=fA.length_eq;rw[bx]at h2;omega
  clear fA hr hb ad;go_wp2_with (first|(at_next;refine lY _ q? _ q? w.1.size aa q? HR.out ?_ ?_))
  .intro h0
   have hE:O.Perm es:=by have:=HP.out;rw[h0,dw]at this;exact this
   obtain⟨S,hS⟩:∃S,S=fx (eK es):=⟨_,q?⟩;have ap:=Ms (w.1.size+1) ag cg (fx O) wr HO.out o!;rw[Dh aR.out hE,<-hS]at ap;have aq:m1 (S.length=(fx O).length):=by show _=_;rw[hS];exact(qU (hE.trans (gX es).symm)).length_eq.symm
   have bi:S.length<=255:=by
    rw[hS];have h1:=(qU (gX es)).length_eq;have h2:(fx es).length=kg es:=by simp[fx,kg]
    omega
   have a5:m1 (∀x∈S,x.length<=255):=by intro x hx;rw[hS]at hx;have hx2:=(qU (gX es)).mem_iff.1 hx;unfold fx at hx2;obtain⟨e,he,rfl⟩:=dt.1 hx2;rw[ez]at he;exact aS.out e he.1 (by simpa using he.2)
   have aV:m1 (S=fx (eK es)):=hS;clear h0 hE hS;go_wp2_with fail;refine ap.mono ?_;rintro e2 w2 ⟨rfl,ar,au⟩;have a6:=au.size;have af:m1 (Below w.1.size w w2):=HB.out.trans (au.mono o!);have aW:(fx O).length<=255:=by have:=aq.out;omega
   rw[<-aq.out]at ar⊢;have ae:m1 (w2.ownsRow (w.1.size+1) 9 1 (.slice ag S.length cg) S.length (dy S)):=ar;have a7:m1 (w2.ownsRow w.1.size 5 1 (.slice x? 0 0) 0 []):=m' _ _ _ _;clear ap ar au HO HR aW aU;clear aT aq
   go_wp2_with (first
    |(at_builtin;refine dW _ q? _ _ 60 q? w.1.size 5 i0 (.int .u8 0) 1 ie hi aK aL aM q? _ _ _ q? (a7.out.alloc _) _ [.int .u8 (S.length:Int)] q? (Rd.one iC) (by simp[nv]) ?c1 ?c2 ?c3 ?_))
   case c1=>simp
   case c2=>unfold gg;simp
   case c3=>simp;omega
   intro v3 w3 U W a8
   have HO3:m1 (gP w3 w.1.size v3 [u8 S.length]):=by show gP _ _ _ _;unfold gP;rw[kQ,(o!:(S.length:Int) % 256=S.length)];simpa using U
   have ac:fg w2 w3 (.slice x? 0 0) v3:=fg.of W a8;have ah:Below w2.1.size w2 w3:=⟨ac.1.os,ac.1.tape,ac.1.output,ac.1.size,λk hk=>ac.1.block k hk (by simp[nw])⟩;have HB3:m1 (Below w.1.size w w3):=af.out.trans (ah.mono o!);have HG3:m1 (w3.ownsRow (w.1.size+1) 9 1 (.slice ag S.length cg) S.length (dy S)):=dK ae.out (λk hk=>ah.block k (ae.out.lt k hk).2);obtain⟨a3,c3,rfl⟩:=HO3.out.form;have bj:=ah.size;clear U W a8 ac ah a7 ae af
   have aX:m1 (∀k,k<=S.length->(u8 S.length::(S.take k).flatMap dI).length<=65536):=by intro k hk;have h1:=NC (S.take k) (λx hx=>a5.out x (List.mem_of_mem_take hx));rw[ca,hJ hk]at h1;rw[ft];omega
   go_wp2_with fail;go_loopw [0,33] (λu i wx=>∃k:Nat,k<=S.length/\i=.int i? k/\gP wx w.1.size u (u8 S.length::(S.take k).flatMap dI)/\wx.ownsRow (w.1.size+1) 9 1 (.slice ag S.length cg) S.length (dy S)/\Below w.1.size w wx) (λ_ i _=>S.length-(intOf i).toNat)
   case atStart=>exact⟨0,hI _,q?,by simpa using HO3.out,HG3.out,HB3.out⟩
   case round=>
    obtain⟨k,hk,rfl,ai,a9,av⟩:=hrel;obtain⟨L4,aj⟩:∃L4,L4=u8 S.length::(S.take k).flatMap dI:=⟨_,q?⟩;have a':m1 (L4=u8 S.length::(S.take k).flatMap dI):=aj;have bk:L4.length<=65536:=by rw[aj];exact aX.out k hk
    rw[<-aj]at ai;obtain⟨a4,c4,rfl⟩:=ai.form;have ak:m1 (gP wr w.1.size (.slice a4 L4.length c4) L4):=ai;have al:m1 (wr.ownsRow (w.1.size+1) 9 1 (.slice ag S.length cg) S.length (dy S)):=a9;have aA:m1 (Below w.1.size w wr):=av;have aY:=av.size;clear ai a9 av aj HO3 HG3 HB3;by_cases aw:k<S.length
    .obtain⟨bg,og,rfl,ax⟩:=fy al.out k _ (lK S k aw);have hx:=a5.out _ (bz aw);have HT:m1 (S.take (k+1)=S.take k++[S[k]]):=cm aw;have hA:=lc w.1.size _ L4 ⟨S[k].toArray⟩ wr ak.out o! (by show S[k].toArray.size<=_;simp;omega) aY;go_wp2_with fail;refine hA.mono ?_;rintro e5 w5 ⟨v5,rfl,aB,ay⟩;have aZ:m1 (gP w5 w.1.size v5 (L4++dI S[k])):=aB;have ba:m1 (Below w.1.size w w5):=ay.low aA.out ak.out (h8 _);have bc:m1 (w5.ownsRow (w.1.size+1) 9 1 (.slice (y? ⟨bg,og,x?⟩) S.length cg) S.length (dy S)):=dK al.out (λj hj=>ay.1.block j (al.out.lt j hj).2 (λe=>fP al.out ak.out d! j hj e));clear hA aB ay ax;go_wp2;go_roundw
     case rel=>
      refine⟨_,_,_,_,_,_,_,_,_,_,⟨k+1,o!,by go_num,?_,bc.out,ba.out⟩,q?⟩
      have e:(u8 S.length::(S.take (k+1)).flatMap dI)=L4++dI S[k]:=by rw[HT.out,a'.out,ef,List.cons_append];simp only[dS,ek,dw]
      rw[e];exact aZ.out
     case measure=>simp[intOf];omega
    have HE:m1 (L4=rS es):=by show _=_;unfold rS;rw[a'.out,eq o!,aV.out]
    go_wp2;go_ret;refine⟨_,q?,?_,aA.out⟩;rw[<-HE.out];exact ak.out
  intro e Y w2 aC am ao az bd bl;have aD:=eS.lt am;have aE:=dU.lt (eS.owns am);have aF:m1 (Below w.1.size w w2):=mT HB.out az (h8 _);have aG:m1 (mS w2 B w.1.size es Y):=am;have aH:m1 (w2.rangeLeft B w.1.size<wr.rangeLeft B w.1.size):=ao;have aI:m1 (aa.Perm (e::Y)):=aC;have ab:m1 (w2.ownsRow (w.1.size+1) 9 1 (.slice ag (fx O).length cg) (fx O).length (dy (fx O))):=dK HO.out (λk hk=>az.block k (HO.out.lt k hk).2 (by have:=(HO.out.lt k hk).1;intro e;cases e;omega));have an:=Ii O e;have a6:w.1.size+1<=w2.1.size:=o!;clear aC am ao az bd;obtain⟨nm,gn,tx,wt,tg⟩:=e
  cases gn with
  |false=>
   have a0:m1 (fx (O++[⟨nm,f?,tx,wt,tg⟩])=fx O):=by show _=_;rw[an];simp
   clear an;go_wp2;go_roundw
   case rel=>exact⟨O++[⟨nm,f?,tx,wt,tg⟩],Y,kw HP.out aI.out,aG.out.alloc _,by rw[a0.out];exact ab.out.alloc _,aF.out.alloc o! _,j!⟩
   case measure=>rw[jW aE aD];exact aH.out
  |true=>
   have a0:m1 (fx (O++[⟨nm,t?,tx,wt,tg⟩])=fx O++[nm]):=by show _=_;rw[an];simp
   clear an
   go_wp2_with (first
     |(at_builtin;refine fE _ q? _ _ 31 q? (w.1.size+1) 9 i9 (.string ⟨#[]⟩) 16 ip aN aO aP aQ q? _ _ _ q? ((ab.out.alloc _).alloc _) ⟨w2.1.size+1,0,x?⟩ _ q? (xN i!) q? ?c1 ?c2 ?c3 ?_))
   case c1=>omega
   case c2=>unfold gg;omega
   case c3=>first|omega|(simp;omega)
   intro v3 w3 U W _;have aJ:Below w.1.size w w3:=((aF.out.alloc o! _).alloc j! _).grown W j! (λb hb=>by have:=(ab.out.lt b hb).1;omega);have af:m1 (Below w.1.size w w3):=aJ;have bm:w2.1.size<=w3.1.size:=by have:=W.size;simp at this;omega
   have be:m1 (mS w3 B w.1.size es Y):=eS.kept ((aG.out.alloc _).alloc _) W (λe=>by have:=(ab.out.lt B e.symm).1;omega) (λe=>by have:=(ab.out.lt _ e.symm).1;omega)
   have ae:m1 (w3.ownsRow (w.1.size+1) 9 1 v3 (fx (O++[⟨nm,t?,tx,wt,tg⟩])).length (dy (fx (O++[⟨nm,t?,tx,wt,tg⟩])))):=by show w3.ownsRow _ _ _ _ _ _;rw[a0.out,nX];rw[bx];exact U
   have HL2:m1 (w3.rangeLeft B w.1.size<wr.rangeLeft B w.1.size):=by show _<_;rw[eS.lj (W.block B j! (λe=>by have:=(ab.out.lt B e.symm).1;omega)) (W.block w.1.size j! (λe=>by have:=(ab.out.lt _ e.symm).1;omega)),jW j! j!,jW aE aD];exact aH.out
   clear U W aJ;go_wp2;go_roundw
   case rel=>exact⟨O++[⟨nm,t?,tx,wt,tg⟩],Y,kw HP.out aI.out,be.out,ae.out,af.out,o!⟩
   case measure=>exact HL2.out
open Go.Sort
def tO(x y:Wd):Int:=if n7 x y=t? then -1 else if n7 y x=t? then 1 else 0
def Cm(x)(w):gl prog 175 #[s? x] w λe w'=>e=e? (.bool f?)/\w=w':=by go_wp2;go_ret;exact⟨q?,q?⟩
def rA(x y:Wd)(w):gl prog 128 #[s? ⟨a? x⟩,s? ⟨a? y⟩] w λe w'=>e=e? (n? i? (tO x y))/\w=w':=by
 have W:=Cm ⟨a? x⟩ w;have Y:=Cm ⟨a? y⟩ w;unfold tO;by_cases U:n7 x y=t?
 .rw[if_pos U];go_enter md,kd;go_wp2_with fail;refine W.mono ?_;rintro e w' ⟨rfl,rfl⟩;go_wp2_with fail;refine Y.mono ?_;rintro e w' ⟨rfl,rfl⟩;go_wp2;go_ret;exact⟨q?,q?⟩
 rw[if_neg U];have B:n7 x y=f?:=by simpa using U
 clear U;by_cases O:n7 y x=t?
 .rw[if_pos O];have aa:(x==y)=f?:=beq_eq_false_iff_ne.2 (λe=>by subst e;rw[B]at O;cases O);clear O;go_enter md,kd;go_wp2_with fail;refine W.mono ?_;rintro e w' ⟨rfl,rfl⟩;go_wp2_with fail;refine Y.mono ?_;rintro e w' ⟨rfl,rfl⟩;go_wp2;go_ret;exact⟨q?,q?⟩
 obtain rfl:x=y:=by
  obtain h|h|h:=jZ x y
  rw[B]at h;cases h;exact h;exact absurd h O
 go_enter md,kd;go_wp2_with fail;refine W.mono ?_;rintro e w' ⟨rfl,rfl⟩;go_wp2_with fail;refine Y.mono ?_;rintro e w' ⟨rfl,rfl⟩;go_wp2;go_ret;exact⟨q?,q?⟩
def lP(e:dD):List v?:=[s? ⟨(dC e).toArray⟩,s? ⟨a? e.name⟩,s? ⟨a? e.text⟩,n? i? e.dn,n? i? e.dE]
def T0(x y:dD):Int:=if tO (dC x) (dC y)≠0 then tO (dC x) (dC y)else tO x.name y.name
def Ot(x y)(w):gl prog 185 #[.agg #[s? ⟨(dC x).toArray⟩,s? ⟨a? x.name⟩,s? ⟨a? x.text⟩,n? i? x.dn,n? i? x.dE],.agg #[s? ⟨(dC y).toArray⟩,s? ⟨a? y.name⟩,s? ⟨a? y.text⟩,n? i? y.dn,n? i? y.dE]] w λe w'=>e=e? (n? i? (T0 x y))/\∃k os,w'=grow (w.drewN k) os:=by
 have h1:=λW=>rA (dC x) (dC y) W;have h2:=λW=>rA x.name y.name W;unfold T0;obtain⟨z,hz⟩:∃z,z=tO (dC x) (dC y):=⟨_,q?⟩;obtain⟨t,ht⟩:∃t,t=tO x.name y.name:=⟨_,q?⟩;rw[<-hz]at h1⊢;rw[<-ht]at h2⊢;obtain⟨QM,aa⟩:∃QM,QM=if z≠0 then z else t:=⟨_,q?⟩
 rw[<-aa]
 have ad:∀(g:Nat)(W:w?),W.cell? ⟨g,0,x?⟩=y? (n? i? z)->W.cell? ⟨g,1,x?⟩=y? (n? i? t)->gl prog 126 #[.slice (y? ⟨g,0,x?⟩) 2 2] W λe w'=>e=e? (n? i? QM)/\W=w':=λg W k1 k2=>by rw[aa];exact SM z t g W k1 k2
 clear hz ht aa;generalize dC x=kx at *;generalize dC y=ky at *;obtain⟨nx,_,tx,wx,gx⟩:=x;obtain⟨ny,_,ty,wy,gy⟩:=y;simp only at h2⊢;obtain⟨Y,ab⟩:∃Y,Y=(w.alloc (c? #[s? ⟨a? kx⟩,s? ⟨a? nx⟩,s? ⟨a? tx⟩,n? i? wx,n? i? gx] 237)).alloc (c? #[s? ⟨a? ky⟩,s? ⟨a? ny⟩,s? ⟨a? ty⟩,n? i? wy,n? i? gy] 237):=⟨_,q?⟩
 have hA:∀j,Y.cell? ⟨w.1.size,j,x?⟩=(#[Value.string ⟨a? kx⟩,s? ⟨a? nx⟩,s? ⟨a? tx⟩,n? i? wx,n? i? gx]:Array v?)[j]?:=λj=>by rw[ab,World.cell?_alloc_past _ _ _ i!,nc _ _ _ _ rfl]
 have ac:∀j,Y.cell? ⟨w.1.size+1,j,x?⟩=(#[Value.string ⟨a? ky⟩,s? ⟨a? ny⟩,s? ⟨a? ty⟩,n? i? wy,n? i? gy]:Array v?)[j]?:=λj=>by rw[ab,nc _ _ _ _ i!]
 have ae:∃os,Y=grow w os:=⟨_,by rw[ab,n',n',grow_grow]⟩;have a0:Y.cell? ⟨w.1.size,0,x?⟩=y? (s? ⟨a? kx⟩):=hA 0;have a1:Y.cell? ⟨w.1.size,1,x?⟩=y? (s? ⟨a? nx⟩):=hA 1;have b0:Y.cell? ⟨w.1.size+1,0,x?⟩=y? (s? ⟨a? ky⟩):=ac 0;have b1:Y.cell? ⟨w.1.size+1,1,x?⟩=y? (s? ⟨a? ny⟩):=ac 1;clear hA ac;go_enter func185,ntmps185;go_wp2_with fail;rw[<-ab];clear ab;have O:(λw':w?=>w'.cell? ⟨w.1.size,0,x?⟩=y? (s? ⟨a? kx⟩)/\w'.cell? ⟨w.1.size,1,x?⟩=y? (s? ⟨a? nx⟩)/\w'.cell? ⟨w.1.size+1,0,x?⟩=y? (s? ⟨a? ky⟩)/\w'.cell? ⟨w.1.size+1,1,x?⟩=y? (s? ⟨a? ny⟩)) Y.drew:=⟨a0,a1,b0,b1⟩;clear a0 a1 b0 b1;refine gm (S:=λw'=>w'.cell? ⟨w.1.size,0,x?⟩=y? (s? ⟨a? kx⟩)/\w'.cell? ⟨w.1.size,1,x?⟩=y? (s? ⟨a? nx⟩)/\w'.cell? ⟨w.1.size+1,0,x?⟩=y? (s? ⟨a? ky⟩)/\w'.cell? ⟨w.1.size+1,1,x?⟩=y? (s? ⟨a? ny⟩)) k! ?_;refine fV 0 ?_ O ?_<|fV 1 ?_ O ?_<|fV 2 ?_ O ?_<|fV 3 ?_ O ?_<|fV 5 ?_ O ?_<|fV 6 ?_ O ?_<|fV 7 ?_ O ?_<|fV 8 ?_ O ?_<|fV 9 ?_ O ?_<|fV 10 ?_ O ?_ ?_
 any_goals(rintro w' ⟨s0,s1,s2,s3⟩;go_simp;first|done|with_reducible rfl)
 refine kL 4 λK' U=>?_;unfold m2;go_simp;refine(h1 _).mono ?_;rintro e w' ⟨rfl,rfl⟩;refine U _ _ ⟨O,?_⟩;clear U;refine kL 11 λK' U=>?_;unfold m2;go_simp;refine(h2 _).mono ?_;rintro e w' ⟨rfl,rfl⟩;refine U _ _ ⟨O,?_⟩;clear U;refine kL 12 λK' U=>?_;unfold m2;go_simp
 have B:B? Y (Y.alloc (c? #[n? i? z,n? i? t] 3)).drew:=by have h:B? Y (Y.alloc (c? #[n? i? z,n? i? t] 3)):=(m3 _ _).alloc (h8 _) _;exact⟨h.os,h.tape,h.output,h.size,h.block⟩
 refine U _ _ ⟨⟨ge B O.1,ge B O.2.1,ge B O.2.2.1,ge B O.2.2.2⟩,?_⟩;clear U;refine kL 13 λK' U=>?_;unfold m2;go_simp;refine(ad Y.1.size (Y.alloc (c? #[n? i? z,n? i? t] 3)).drew (T1 (w:=Y) l!).1 (T1 (w:=Y) l!).2).mono ?_;rintro e w' ⟨rfl,rfl⟩;refine U _ _ ⟨⟨ge B O.1,ge B O.2.1,ge B O.2.2.1,ge B O.2.2.2⟩,?_⟩;clear U;have af:(λw':w?=>w'.cell? ⟨w.1.size,0,x?⟩=y? (s? ⟨a? kx⟩)/\w'.cell? ⟨w.1.size,1,x?⟩=y? (s? ⟨a? nx⟩)/\w'.cell? ⟨w.1.size+1,0,x?⟩=y? (s? ⟨a? ky⟩)/\w'.cell? ⟨w.1.size+1,1,x?⟩=y? (s? ⟨a? ny⟩)) (Y.alloc (c? #[n? i? z,n? i? t] 3)).drew:=⟨ge B O.1,ge B O.2.1,ge B O.2.2.1,ge B O.2.2.2⟩;refine fV 14 ?_ af ?_ ?_;rotate_left
 .rintro w' ⟨s0,s1,s2,s3⟩;go_simp;first|done|with_reducible rfl
 refine gt k! ?_ _;go_wp2;go_ret;obtain⟨os,rfl⟩:=ae;exact⟨q?,1,_,by rw[n',grow_grow];rfl⟩
variable {a b:dD} {g:Nat}
def yR(x y):tO x y<0↔n7 x y=t?:=by unfold tO;by_cases B:n7 x y=t?;simp[B];by_cases O:n7 y x=t?;simp[B,O];simp[B,O]
def tw(x y):tO x y=0↔x=y:=by
 unfold tO;constructor;intro h;obtain B|B|B:=jZ x y
 rw[if_pos B]at h;cases h;exact B;rw[if_neg (by rw[ta B];simp),if_pos B]at h;cases h;rintro rfl;simp[jH]
def wZ(x y):ltOf T0 x y=t?↔Ex x y:=by unfold ltOf T0 Ex;rw[decide_eq_true_eq];by_cases h:dC x=dC y;rw[if_neg (by rw[Classical.not_not];exact(tw ..).2 h),yR,h,jH];simp;rw[if_pos (λe=>h ((tw ..).1 e)),yR];simp[h]
def C9{c}(O:Ex a b)(B:Ex b c):Ex a c:=by
 obtain O|⟨O,U⟩:=O
 obtain B|⟨B,_⟩:=B
 exact Or.inl (nB _ _ _ O B);exact Or.inl (by rw[<-B];exact O);obtain B|⟨B,W⟩:=B
 exact Or.inl (by rw[O];exact B);exact Or.inr ⟨O.trans B,nB _ _ _ U W⟩
def CS(a b):Ex a b\/(dC a=dC b/\a.name=b.name)\/Ex b a:=by
 obtain h|h|h:=jZ ..
 exact Or.inl (Or.inl h);obtain B|B|B:=jZ ..
 exact Or.inl (Or.inr ⟨h,B⟩);exact Or.inr (Or.inl ⟨h,B⟩);exact Or.inr (Or.inr (Or.inr ⟨h.symm,B⟩));exact Or.inr (Or.inr (Or.inl h))
def Iz(a):¬Ex a a:=by unfold Ex;simp[jH]
def Qv{c}(h:dC a=dC b/\a.name=b.name)(B:Ex a c):Ex b c:=by unfold Ex at *;rw[<-h.1,<-h.2];exact B
def SP:SWO (ltOf T0) where
 irrefl x:=by have:=Iz x;rw[<-wZ]at this;simpa using this
 trans x y z h1 h2:=by rw[wZ]at *;exact C9 h1 h2
 ntrans x y z h1 h2:=by
  cases B:ltOf T0 x z with
  |false=>rfl|true=>
   rw[wZ]at B;have n1:¬Ex x y:=by rw[<-wZ,h1];simp
   have n2:¬Ex y z:=by rw[<-wZ,h2];simp
   obtain h|h|h:=CS x y
   exact absurd h n1;exact absurd (Qv h B) n2;exact absurd (C9 h B) n2
def iO(es:List dD):List v?:=es.flatMap lP
def B5(es)(x):iO (es++[x])=iO es++lP x:=by simp[iO]
def CX:∀(B)(i c)(h),c<5->(iO B)[i*5+c]?=(lP B[i])[c]?:=by
 intro B;induction B with
 |nil=>intro i c h;simp at h|cons a l O=>
  intro i c h U;have e:iO (a::l)=lP a++iO l:=by simp[iO]
  rw[e]
  cases i with
  |zero=>rw[cc (by simp[lP];omega)];simp|succ i=>rw[cp (by simp[lP];omega)];have W:(lP a).length=5:=rfl;rw[W,(o!:(i+1)*5+c-5=i*5+c),O i c (u! h) U];simp
def BP(x):∀v∈lP x,v.oneCell'=t?:=by intro v B;simp[lP]at B;obtain rfl|rfl|rfl|rfl|rfl:=B<;>rfl
instance:Inhabited dD:=⟨⟨[],f?,[],0,0⟩⟩
def zQ{e n m cap:Nat}{B}(h:w.ownsRow base e 5 (.slice (y? ⟨g,0,x?⟩) m cap) n (iO B))(hn:n=l? B):HoldsK lP 5 w g 0 B.toArray:=by
 intro j hj;have U:=by simpa using hj
 have Y:j / 5<l? B:=o!
 have O:(iO B)[j]?=y? ((flatK lP 5 B.toArray)[j]!):=by
  rw[get_flatK _ _ _ _ (u! U)];have:=CX B _ (j % 5) Y o!;rw[(o!:j / 5*5+j % 5=j)]at this;rw[this];have e1:B.toArray[j / 5]! = B[j / 5]:=by rw[getElem!_pos _ _ (u! Y)];simp
  rw[e1];have hc:j % 5<(lP B[j / 5]).length:=by simp[lP];omega
  rw[cl hc,getElem!_pos (lP _) _ hc]
 obtain⟨h0,_⟩|⟨g',aa,cur,he,_,hg,_,_,ab,W⟩:=h.2
 simp at h0;obtain⟨⟨rfl,_⟩,_,rfl⟩:=he;refine⟨?_,?_⟩;rw[dq hg];rw[<-W,cx,if_pos o!]at O;simpa using O;simp[World.frozen?,hg]
def xJ{k blk off m enc}{d:Array dD}{os}(hb:base<=blk)(B:blk<w.1.size):Below base w (oj enc k w blk off m d os):=by refine⟨q?,q?,q?,?_,λj O=>?_⟩;unfold oj nU oa grow nL;simp[n8];unfold oj nU oa grow nL;simp[n8];rw[Array.getElem?_append_left j!,m8,if_neg o!]
def FU{k m enc}{d:Array dD}{os cur e fr}(hb:w.1[g]?=y? (c? cur e fr)):∃cs,(oj enc k w g 0 m d os).1[g]?=y? (c? cs e fr):=by have B:=(m6.1 hb).1;unfold oj nU;rw[heap_grow_old _ _ (u! B)];simp[oa,nL,n8,m8,hb,onCells]
def Ll(blk off size)(w):CmpLays prog 185 #[] lP 5 T0 blk off size w:=by intro m os B _ x y;exact Ot x y _
def MR(base)(au)(cu)(es)(w)(U:w.ownsRow base 237 5 (.slice au es.length cu) es.length (iO es))(ad:(es.map dD.name).Nodup)(hl:l? es<=1048576) :
  gl prog 184 #[.slice au es.length cu,.func (.func 185) #[] #[]] w λe w2=>e=e? (.tuple #[])/\Below base w w2/\
   ∃L,L.Perm es/\iq L/\pQ w2 (.slice au es.length cu) L:=by
 obtain⟨he,hn⟩|⟨g,cap,cur,he,Y,hb,h1,h2,h3,h4⟩:=U.2
 have hG:es=[]:=ej.1 (u! hn);subst hG;have B:=AnyF.slices_SortFunc_none FB au cu (.func (.func 185) #[] #[]) w;change gl prog 184 _ _ _ at B;simp only[m9]at he;refine B.mono ?_;rintro e w2 ⟨rfl,rfl⟩;exact⟨q?,m3 _ _,[],ot _,List.Pairwise.nil,au,cu,q?,hI _,by rw[he.2.2];exact hI _,λi h=>by simp at h⟩;simp only[m9]at he;obtain⟨rfl,_,rfl⟩:=he;have aa:g<w.1.size:=(m6.1 hb).1
 have B:=AnyQ.slices_SortFunc FB 5 isAgg237 sizeOf237 lP (λ_=>rfl) BP T0 SP 185 #[] g 0 cu es.toArray w
  (enters_of func185 k! q?) (Ll g 0 _ w) (zQ U q?) aa j!
 change gl prog 184 _ _ _ at B;refine B.mono ?_;rintro e w2 ⟨rfl,d',nq,os,hp,hs,rfl⟩;have ab:d'.size=l? es:=by rw[hp.1];simp
 have hH:HoldsK lP 5 (oj lP 5 w g 0 nq d' os) g 0 d':=by unfold oj;refine holdsK_grow _ _ _ _ _ _ _ ?_ (holdsK_putRowK _ _ _ _ _ _ _ (holdsK_ahead _ _ _ _ _ _ _ (zQ U q?)) hp.1);unfold nU oa nL;simp[n8];exact aa
 obtain⟨cs,ae⟩:=FU (enc:=lP) (k:=5) (m:=nq) (d:=d') (os:=os) hb
 have fA:=by
  have e1:d'.extract 0 es.toArray.size=d':=by rw[<-hp.1];simp
  have e2:es.toArray.extract 0 es.toArray.size=es.toArray:=i!;have p3:=hp.2.2;rw[e1,e2]at p3;exact p3
 have af:iq d'.toList:=by
  have W:=(fA.map _).nodup_iff.2 ad;unfold iq;rw[e6];intro i j hi hj ac;have ag:l? d'.toList=es.toArray.size:=by simpa using ab
  have h:=hs i j (hI _) ac o!;have gi:d'[i]! = d'.toList[i]:=by rw[getElem!_pos d' i _];rfl
  have gj:d'[j]! = d'.toList[j]:=by rw[getElem!_pos d' j _];rfl
  rw[gi,gj]at h;obtain h'|h'|h':=CS _ _
  exact h';rw[List.Nodup,fm,e6]at W;exact absurd h'.2 (W i j hi hj ac);rw[<-wZ,h]at h';cases h'
 refine⟨q?,xJ Y aa,d'.toList,fA,af,y? _,cu,by rw[show d'.toList.length=es.length by simpa using ab],by rw[show d'.toList.length=es.length by simpa using ab];exact h1,h2,λi hi=>?_⟩;have O:=by simpa using hi
 have g0:=(ol hH O (c:=0) d!).1;have g1:=(ol hH O (c:=1) d!).1;have g2:=(ol hH O (c:=2) d!).1;have g3:=(ol hH O (c:=3) d!).1;have g4:=(ol hH O (c:=4) d!).1;have e2:d'[i]! = d'.toList[i]:=by rw[getElem!_pos d' i O];rfl
 rw[e2]at g0 g1 g2 g3 g4;refine⟨g,0,q?,g0,?_,?_,?_,?_,cs,(0,0),ae⟩;exact g1;exact g2;exact g3;exact g4
variable {u:v?}
def Bt{P}(w){o a K Q}(s x)(t)
  (ho:o.op=.call {callee:=.builtin .append,args:=#[s,x],argTypes:=#[t,t]})
  (base) (e) (i) (z) (size bytes) (ht:P.underlying t=y? (.slice e)) (hi:P.info? e=y? i) (hz:i.zero=y? z)
  (O:i.size=size) (Y:i.bytes=bytes) (aa:z.cells.size=size) (ab:0<size)
  (v) (n) (xs) (hs:a.eval s=v) (W:w.ownsRow base e size v n xs)
  (y) (m) (news) (hx:a.eval x=y) (hy:iu w size y m news) (h1:∀u∈news,u.oneCell'=t?)
  (B:(n+m)*bytes<=140737488355328) (ac:n+m<=gg) (U:base<=w.1.size)
  (h:∀v' w',w'.ownsRow base e size v' (n+m) (xs++news)->w.grownBy w' v.ownBlock->(v'.ownBlock=v.ownBlock\/(v'.ownBlock=y? w.1.size/\Below w.1.size w w'))->K (a.put o.dst v') w'):m2 P o a w K Q:=by
 obtain⟨v',w',hr,h2,h3,h4⟩:=rI (P:=P) w base t o.type e i z size bytes ht hi hz O Y aa ab v n xs W y m news hy h1 B ac U;unfold m2 ha;simp only[ho,g7,invoke,builtin,od,ob,oi,ei,eg,er,hs,hx,hr];exact h v' w' h2 h3 h4
def Qj:(prog.info? 237).map (λi=>(i.zero,i.size,i.bytes))=y? (y? (.agg #[s? ⟨#[]⟩,s? ⟨#[]⟩,s? ⟨#[]⟩,n? i? 0,n? i? 0]),5,64):=by kernel_rfl
def Qg{x y z v t g}(O:g=w.1.size):iu (w.alloc (c? #[x,y,z,u,v] t)) 5 (.slice (y? ⟨g,0,x?⟩) 1 1) 1 [x,y,z,u,v]:=by
 subst O;refine⟨y? _,1,q?,h8 _,by unfold gg;omega,q?,λj u B=>⟨w.1.size,0,q?,?_⟩⟩;match j,B with
 |0,B=>simpa using B|1,B=>simpa using B|2,B=>simpa using B|3,B=>simpa using B|4,B=>simpa using B|j+5,B=>simp at B
def cell_grown{row k o}(O:w.grownBy w' row)(h:w.cell? ⟨k,o,x?⟩=y? u)(B:y? k≠row):w'.cell? ⟨k,o,x?⟩=y? u:=by have hb:=O.block k (SN h) B;simp only[nl]at h⊢;rw[hb];exact h
def mS.Ua{B r es rst}(h:mS w B r es rst)(hb:B? w w'):mS w' B r es rst:=eS.kept (row:=x?) h ⟨hb.os,hb.tape,hb.output,hb.size,λk O _=>hb.block k O⟩ i! i!
def J3(B)(es)(w)(hs:eT w B es)(hl:es.length<=1048576)(az:∀e∈es,e.text.length<=1099511627776) :
  gl prog 133 #[.map (y? B)] w λen w'=>∃v L,en=.returned v/\L.Perm (du es)/\iq L/\pQ w' v L/\B? w w':=by
 obtain⟨i0,hi,aF,aG,aH⟩:=go Qj;have a0:=hs.nodup;have HS:m1 (eT w B es):=hs;have aI:m1 ((es.map dD.name).Nodup):=a0;have aJ:m1 (∀e∈es,e.text.length<=1099511627776):=az;have aV:=dU.lt hs;clear hs a0 az;go_enter func133,ntmps133;go_wp2_with (first|(at_range;refine l8 _ rfl _ rfl rfl HS.out ?_;intro w1 hrg0 hg0 aW));go_frame;go_loopw [3] (λg wr=>∃(O ad:List dD),(O++ad).Perm es/\mS wr B w.1.size es ad/\wr.ownsRow (w.1.size+1) 237 5 g (du O).length (iO (du O))/\B? w wr/\w.1.size+1<=wr.1.size) (λ_ wr=>wr.rangeLeft B w.1.size)
 case atStart=>exact⟨[],es,ot _,hrg0,m' _ _ _ _,(m3 _ _).grown hg0 (h8 _) (λk hk=>by cases hk),o!⟩
 case round=>
  obtain⟨O,ad,fA,hr,ai,hb,hz⟩:=hrel;have HP:m1 ((O++ad).Perm es):=fA;have HR:m1 (mS wr B w.1.size es ad):=hr;obtain⟨ag,cg,rfl,aX⟩:=dL ai;have HO:m1 (wr.ownsRow (w.1.size+1) 237 5 (.slice ag (du O).length cg) (du O).length (iO (du O))):=ai;have HB:m1 (B? w wr):=hb
  have aY:(du O).length<=es.length:=by have h1:=qo O;have h2:=fA.length_eq;rw[bx]at h2;omega
  clear fA hr hb ai;go_wp2_with (first|(at_next;refine lY _ q? _ q? w.1.size ad q? HR.out ?_ ?_))
  .intro h0
   have hE:O.Perm es:=by have:=HP.out;rw[h0,dw]at this;exact this
   have a1:=MR (w.1.size+1) ag cg (du O) wr HO.out (by
    have h1:(O.map dD.name).Nodup:=(hE.map _).nodup_iff.2 aI.out
    exact h1.sublist (ey.map _)) o!
   have HE:m1 ((du O).Perm (du es)):=ye hE;clear h0 hE;go_wp2_with fail;refine a1.mono ?_;rintro e2 w2 ⟨rfl,a2,L,a3,a4,a5⟩;have aK:m1 (B? w w2):=HB.out.trans (a2.mono o!);have HL:m1 (L.Perm (du es)):=a3.trans HE.out;have aL:m1 (iq L):=a4;have aM:m1 (pQ w2 (.slice ag (du O).length cg) L):=a5;clear a1 a2 a3 a4 a5;go_wp2;go_ret;exact⟨_,L,q?,HL.out,aL.out,aM.out,aK.out⟩
  intro e Y w2 ar ak ap au aN aZ;have a6:=eS.lt ak;have a7:=dU.lt (eS.owns ak);have a8:m1 (B? w w2):=mT HB.out au (h8 _);have a9:m1 (mS w2 B w.1.size es Y):=ak;have a':m1 (w2.rangeLeft B w.1.size<wr.rangeLeft B w.1.size):=ap;have aA:m1 (ad.Perm (e::Y)):=ar;have ab:m1 (w2.ownsRow (w.1.size+1) 237 5 (.slice ag (du O).length cg) (du O).length (iO (du O))):=dG HO.out (λk hk=>au.block k (HO.out.lt k hk).2 (by have:=(HO.out.lt k hk).1;intro e;cases e;omega));have al:=yi O e;have aO:e.text.length<=1099511627776:=aJ.out e (HP.out.mem_iff.1 (List.mem_append_right _ (ar.mem_iff.2 (fi ..))));have aU:w.1.size+1<=w2.1.size:=o!;clear ar ak ap au aN;obtain⟨nm,gn,tx,wt,tg⟩:=e
  cases gn with
  |true=>
   have av:m1 (du (O++[⟨nm,t?,tx,wt,tg⟩])=du O):=by show _=_;rw[al];simp
   clear al;go_wp2;go_roundw
   case rel=>exact⟨O++[⟨nm,t?,tx,wt,tg⟩],Y,kw HP.out aA.out,a9.out.alloc _,by rw[av.out];exact ab.out.alloc _,a8.out.alloc o! _,j!⟩
   case measure=>rw[jW a7 a6];exact a'.out
  |false=>
   have av:m1 (du (O++[⟨nm,f?,tx,wt,tg⟩])=du O++[⟨nm,f?,tx,wt,tg⟩]):=by show _=_;rw[al];simp
   clear al;go_wp2_with fail;rw[show yy ⟨nm,f?,tx,wt,tg⟩=nm from rfl];obtain⟨wa,am⟩:∃wa,wa=w2.alloc (.cells #[.bool f?,.string ⟨a? nm⟩,.string ⟨a? tx⟩,.int i? wt,.int i? tg] 111):=⟨_,q?⟩;rw[<-am];obtain⟨k,hk⟩:∃k,k=w2.1.size:=⟨_,q?⟩;rw[<-hk];have aw:B? w2 wa:=by rw[am];exact(m3 _ _).alloc (h8 _) _
   have aj:wa.1[k]?=y? (.cells #[.bool f?,.string ⟨a? nm⟩,.string ⟨a? tx⟩,.int i? wt,.int i? tg] 111 (0,0)):=by rw[am,hk];exact g9 w2 _
   have hS:(λw':w?=>w'.cell? ⟨k,1,x?⟩=y? (.string ⟨a? nm⟩)/\w'.cell? ⟨k,2,x?⟩=y? (.string ⟨a? tx⟩)/\w'.cell? ⟨k,3,x?⟩=y? (.int i? wt)/\w'.cell? ⟨k,4,x?⟩=y? (.int i? tg)) wa.drew:=⟨by show wa.cell? _=_;rw[dq aj];rfl,by show wa.cell? _=_;rw[dq aj];rfl,by show wa.cell? _=_;rw[dq aj];rfl,by show wa.cell? _=_;rw[dq aj];rfl⟩;have ax:=tr ⟨a? tx⟩ wa.drew (by show tx.toArray.size<=_;simpa using aO);change gl _ _ _ _ (λe w'=>e=.returned (.string ⟨(eA tx).toArray⟩)/\Below wa.1.size wa.drew w')at ax;have aP:m1 (k=w2.1.size):=hk;clear am aj hk;refine gm (S:=λw'=>w'.cell? ⟨k,1,x?⟩=y? (.string ⟨a? nm⟩)/\w'.cell? ⟨k,2,x?⟩=y? (.string ⟨a? tx⟩)/\w'.cell? ⟨k,3,x?⟩=y? (.int i? wt)/\w'.cell? ⟨k,4,x?⟩=y? (.int i? tg)) k! ?_;refine fV 0 ?_ hS ?_<|fV 1 ?_ hS ?_<|fV 2 ?_ hS ?_<|fV 3 ?_ hS ?_<|fV 5 ?_ hS ?_<|fV 6 ?_ hS ?_ ?_
   any_goals(rintro w' ⟨s0,s1,s2,s3⟩;go_simp;first|done|with_reducible rfl)
   refine kL 4 λK' ac=>?_;unfold m2;go_simp;refine ax.mono ?_;rintro e w3 ⟨rfl,U⟩;have ae:(λw':w?=>w'.cell? ⟨k,1,x?⟩=y? (.string ⟨a? nm⟩)/\w'.cell? ⟨k,2,x?⟩=y? (.string ⟨a? tx⟩)/\w'.cell? ⟨k,3,x?⟩=y? (.int i? wt)/\w'.cell? ⟨k,4,x?⟩=y? (.int i? tg)) w3:=⟨ge U hS.1,ge U hS.2.1,ge U hS.2.2.1,ge U hS.2.2.2⟩;refine ac _ _ ⟨ae,?_⟩;clear ac;refine fV 7 ?_ ae ?_ ?_;rotate_left
   .rintro w' ⟨s0,s1,s2,s3⟩;go_simp;first|done|with_reducible rfl
   refine kL 8 λK' ac=>?_;unfold m2;go_simp;obtain⟨w4,an⟩:∃w4,w4=w3.alloc (.cells #[.string ⟨(eA tx).toArray⟩,.string ⟨a? nm⟩,.string ⟨a? tx⟩,.int i? wt,.int i? tg] 237):=⟨_,q?⟩;rw[<-an];have af:B? w3 w4:=by rw[an];exact(m3 _ _).alloc (h8 _) _
   have aB:iu w4 5 (.slice (y? ⟨w3.1.size,0,x?⟩) 1 1) 1 (lP ⟨nm,f?,tx,wt,tg⟩):=by rw[an];exact Qg rfl
   have ah:(λw':w?=>w'.cell? ⟨k,1,x?⟩=y? (.string ⟨a? nm⟩)/\w'.cell? ⟨k,2,x?⟩=y? (.string ⟨a? tx⟩)/\w'.cell? ⟨k,3,x?⟩=y? (.int i? wt)/\w'.cell? ⟨k,4,x?⟩=y? (.int i? tg)) w4:=⟨ge af ae.1,ge af ae.2.1,ge af ae.2.2.1,ge af ae.2.2.2⟩;refine ac _ _ ⟨ah,?_⟩;clear ac;have ba:wa.1.size<=w3.1.size:=U.size;have bc:=af.size;have aQ:=aw.size
   have aa:B? w2 w4:=by have h1:B? wa w3:=⟨U.os,U.tape,U.output,U.size,U.block⟩;exact(aw.trans (h1.mono aQ)).trans (af.mono o!)
   have aC:w4.ownsRow (w.1.size+1) 237 5 (.slice ag (du O).length cg) (du O).length (iO (du O)):=dG ab.out (λj hj=>aa.block j (ab.out.lt j hj).2);have aq:B? w w4:=a8.out.trans (aa.mono o!);clear an af U;refine kL 9 λK' ac=>?_;refine Bt _ _ _ 190 q? (w.1.size+1) 237 i0 _ 5 64 k4 hi aF aG aH q? d! _ _ _ q? aC _ 1 _ q? aB (BP _) o! (by unfold gg;omega) o! ?_;intro v5 w5 aD W _;have ao:y? k≠(Value.slice ag (du O).length cg).ownBlock:=λe=>by have:=(ab.out.lt k e.symm).2;have:=aP.out;omega
   have ay:(λw':w?=>w'.cell? ⟨k,1,x?⟩=y? (.string ⟨a? nm⟩)/\w'.cell? ⟨k,2,x?⟩=y? (.string ⟨a? tx⟩)/\w'.cell? ⟨k,3,x?⟩=y? (.int i? wt)/\w'.cell? ⟨k,4,x?⟩=y? (.int i? tg)) w5:=⟨cell_grown W ah.1 ao,cell_grown W ah.2.1 ao,cell_grown W ah.2.2.1 ao,cell_grown W ah.2.2.2 ao⟩;refine ac _ _ ⟨ay,?_⟩;clear ac;refine fV 10 ?_ ay ?_ ?_;rotate_left
   .rintro w' ⟨s0,s1,s2,s3⟩;go_simp;first|done|with_reducible rfl
   refine gt k! ?_ _;have bd:=W.size;have aR:m1 (B? w w5):=aq.grown W o! (λb hb=>by have:=(ab.out.lt b hb).1;omega);have aE:mS w4 B w.1.size es Y:=a9.out.Ua aa;have aS:m1 (mS w5 B w.1.size es Y):=eS.kept aE W (λe=>by have:=(ab.out.lt B e.symm).1;omega) (λe=>by have:=(ab.out.lt _ e.symm).1;omega)
   have aT:m1 (w5.ownsRow (w.1.size+1) 237 5 v5 (du (O++[⟨nm,f?,tx,wt,tg⟩])).length (iO (du (O++[⟨nm,f?,tx,wt,tg⟩])))):=by show w5.ownsRow _ _ _ _ _ _;rw[av.out,B5,bx];exact aD
   have HL5:m1 (w5.rangeLeft B w.1.size<wr.rangeLeft B w.1.size):=by show _<_;rw[eS.lj (W.block B o! (λe=>by have:=(ab.out.lt B e.symm).1;omega)) (W.block w.1.size o! (λe=>by have:=(ab.out.lt _ e.symm).1;omega)),eS.lj (aa.block B a7) (aa.block _ a6)];exact a'.out
   clear aD W aq aC aE aB hS ae ah ay ax aw aa;go_wp2;go_roundw
   case rel=>exact⟨_,_,_,_,_,_,_,_,_,_,_,_,_,_,_,_,_,_,_,⟨O++[⟨nm,f?,tx,wt,tg⟩],Y,kw HP.out aA.out,aS.out,aT.out,aR.out,o!⟩,q?⟩
   case measure=>exact HL5.out
end
section
open Go.RowKit Go.Maps
def JY{es L}(O:(es.map dD.name).Nodup)(U:L.Perm (du es))(Y:iq L):eh es=rS es++(dI []++iH 26 0 L):=by
 have W:=Sq 26 [] L Y (λe _=>fv)
 have B:=by have:((du es).map _).Nodup:=O.sublist (ey.map _);exact(U.map _).nodup_iff.2 this
 have h2:eK L=(eK es).filter λe=>!e.gone:=by rw[ma,FA B U];rfl
 rw[e0]at W;rw[W,h2];unfold eh rS fx;rw[List.flatMap_map];simp
def Od(B)(es)(w)(hs:eT w B es)(O:lm es) :
  gl prog 91 #[.map (y? B)] w λen w'=>en=e? (s? ⟨(eh es).toArray⟩)/\B? w w':=by
 have ap:=qN O
 have aq:l? es<=130:=by have h1:=O.gone;have h2:=O.there;have h3:=kV es;have h4:(du es).length<=30:=h2;omega
 have ag:=O.nodup;have HS:m1 (eT w B es):=hs;have ab:m1 (lm es):=O
 have hG:=zR B es w hs o! (by have:=O.gone;unfold kg;omega) (λe he hg=>by
  obtain h|h:=O.each e he
  rw[h.1]at hg;cases hg
  have:=(il h.2).2;omega)
 clear hs O;go_enter func91,ntmps91;go_wp2_with fail;refine hG.mono ?_;rintro e1 w1 ⟨v1,rfl,W,U⟩;obtain⟨a1,c1,rfl⟩:=W.form;have ah:m1 (gP w1 w.1.size (.slice a1 (rS es).length c1) (rS es)):=W;have ai:m1 (B? w w1):=U;have aj:=U.size
 have hL:=J3 B es w1 (dU.below HS U) o! (λe he=>by
  obtain h|h:=ab.each e he
  have:=kZ h.2.2.1;omega
  rw[h.1];simp)
 clear hG W U;go_wp2_with fail;refine hL.mono ?_;rintro e2 w2 ⟨v2,L,rfl,Y,ac,ak,aa⟩;have al:m1 (B? w w2):=ai.trans (aa.mono aj);have ad:m1 (gP w2 w.1.size (.slice a1 (rS es).length c1) (rS es)):=ah.below aa;have ar:=aa.size;have ae:m1 (eh es=rS es++(dI []++iH 26 0 L)):=JY ag Y ac
 have hN:=Un 26 w.1.size _ (rS es) ⟨#[]⟩ [] _ L w2 ad ak o! (λe he=>⟨by
   have hm:=Y.mem_iff.1 he;unfold du at hm;rw[ez]at hm;obtain h|h:=ab.each e hm.1
   exact h
   .have:=hm.2;rw[h.1]at this
    simp at this,fv⟩) ac (by
   have h1:=Y.length_eq;have h2:=qo es
   omega) i! i! (by
   have h1:=congrArg gc ae;rw[bx]at h1;change (rS es).length+(dI []++iH 26 0 L).length<=_
   omega) (hI _)
 change gl _ _ _ _ (QB _ w2 _ _ (dI []++iH 26 0 L))at hN;go_wp2_with fail;refine hN.mono ?_;rintro e3 w3 ⟨v3,rfl,af,am⟩;have an:m1 _:=am.low al ad (h8 _);rw[<-ae.out]at af;have ao:=uB af ie i8 i6;go_wp2;go_ret;exact⟨q?,an⟩
def qx{P}(w){o a K Q}(s x)(t)
  (ho:o.op=.call {callee:=.builtin .append,args:=#[s,x],argTypes:=#[t,t]})
  (base) (e) (i) (z) (bytes) (ht:P.underlying t=y? (.slice e)) (hi:P.info? e=y? i) (hz:i.zero=y? z)
  (O:i.size=1) (Y:i.bytes=bytes) (aa:z.cells.size=1)
  (v) (n) (xs) (hs:a.eval s=v) (W:w.ownsRow base e 1 v n xs)
  (y) (news) (hx:a.eval x=y) (hy:Rd w y news) (h1:∀u∈news,u.oneCell'=t?)
  (B:(n+l? news)*bytes<=140737488355328) (ab:n+l? news<=gg) (U:base<=w.1.size)
  (h:∀v' w',w'.ownsRow base e 1 v' (n+l? news) (xs++news)->w.grownBy w' v.ownBlock->(v'.ownBlock=v.ownBlock\/v'.ownBlock=y? w.1.size)->K (a.put o.dst v') w'):m2 P o a w K Q:=by
 obtain⟨v',w',hr,h2,h3,h4⟩:=nK (P:=P) w base t o.type e i z bytes ht hi hz O Y aa v n xs W y news hy h1 B ab U;unfold m2 ha;simp only[ho,g7,invoke,builtin,od,ob,oi,ei,eg,er,hs,hx,hr];exact h v' w' h2 h3 h4
def jD(es:List dD):List Wd:=if 0<es.length then [eh es]else []
def Ec(B)(es)(w)(hs:eT w B es)(U:0<l? es->lm es) :
  gl prog 63 #[.map (y? B)] w λen w'=>∃v,en=e? v/\Rd w' v (dy (jD es))/\B? w w':=by
 have O:=λ(ty:g6)=>dU.len hs iv ty;rw[ch]at O;by_cases W:0<l? es
 .have Y:m1 (jD es=[eh es]):=by show jD es=_;unfold jD;rw[if_pos W]
  have hp:=Od B es w hs (U W);go_enter func63,ntmps63;go_wp2_with fail;refine hp.mono ?_;rintro e w1 ⟨rfl,hb⟩;have HB:m1 _:=hb;have hz:=hb.size;go_wp2;go_ret;refine⟨_,q?,?_,HB.alloc hz _⟩;rw[Y.out];exact Rd.one iC
 have Y:m1 (jD es=[]):=by show jD es=_;unfold jD;rw[if_neg W]
 go_wp2;go_ret;refine⟨_,q?,?_,m3 ..⟩;rw[Y.out];exact Rd.TQ q? o!
def ON(w:w?)(X:Option (List dD))(e:Ending)(w':w?):Prop:=match X with
 |some l=>∃B,e=e? (.tuple #[.map (y? B),.bool t?])/\w.1.size<=B/\eT w' B l|none=>e=e? (.tuple #[.map x?,.bool f?])
def Hf(S)(w)(hS:S.size<=gg) :
  gl prog 57 #[s? S] w λe w'=>B? w w'/\ON w (gf S.1.1) e w':=by
 unfold gg at hS;have Y:l? S.1.1=S.size:=i!;by_cases h4:4000<S.size
 .have U:m1 (gf S.1.1=x?):=by show gf _=_;rw[wM,if_pos o!]
  have aa:(4000:Int)<(S.size:Int):=o!;clear h4 Y;go_enter func57,ntmps57;go_wp2;go_ret2;refine⟨m3 _ _,?_⟩;rw[U.out];exact rfl
 have hU:gf S.1.1=(nR S.1.1).map λx=>x.1++x.2:=by rw[wM,if_neg o!]
 have aa:=o!;have hu:=Ap S w o!;have U:m1 _:=hU;go_enter func57,ntmps57;go_wp2_with fail;refine hu.mono ?_;rintro e w1 ⟨hb,ho⟩;have HB:m1 _:=hb
 cases W:nR _ with
 |none=>
  rw[W]at ho;unfold VC at ho;have O:m1 (gf S.1.1=x?):=by rw[U.out,W];rfl
  go_wp2;go_ret2;refine⟨HB,?_⟩;rw[O.out];exact rfl
 |some x=>
  rw[W]at ho;obtain⟨B,rfl,hB,hm⟩:=ho;have O:m1 (gf S.1.1=y? (x.1++x.2)):=by rw[U.out,W];rfl
  have HM:m1 _:=hm;go_wp2;go_ret2;refine⟨HB,?_⟩;rw[O.out];exact⟨B,q?,hB,HM⟩
variable {ss':List (List dD)} {Bb b:Nat} {F:Nat->Prop} {v' vK vM:v?} {w:w?}
def Fb.kM{w2 w3 buf ss vS}(Y:Fb w F b buf ss Bb vS vM vK)(hF:∀k,F k->k<w.1.size)(hb:B? w w2)
  (hg:dp (λk=>vS.ownBlock=y? k) w2 w3) (B:w3.ownsRow 0 9 1 v' ss'.length (dy (ss'.map eh))) (hv:∀k,v'.ownBlock=y? k->vS.ownBlock=y? k\/w2.1.size<=k) :
  (w3.setCell ⟨b,1,x?⟩ v').1[b]?=y? (c? #[.map (y? Bb),v',vM,vK] 90 (0,0))/\eT (w3.setCell ⟨b,1,x?⟩ v') Bb buf/\(w3.setCell ⟨b,1,x?⟩ v').ownsRow 0 9 1 v' ss'.length (dy (ss'.map eh))/\
   dp F w (w3.setCell ⟨b,1,x?⟩ v')/\(∀k,v'.ownBlock=y? k->(F k\/w.1.size<=k)/\k<w3.1.size):=by
 have aa:w2.1[b]?=y? (c? #[.map (y? Bb),vS,vM,vK] 90 (0,0)):=by rw[hb.block b (hF b Y.fb)];exact Y.blk
 have ad:=eG aa;have ae:=h9 (hF Bb Y.fB) hb.size;have O:=dK Y.row (λk hk=>hb.block k (hF k (Y.qc k hk)));have U:=dU.stay Y.say (hb.block Bb (hF Bb Y.fB));have ab:w3.1[b]?=y? (c? #[.map (y? Bb),vS,vM,vK] 90 (0,0)):=by rw[hg.block b ad (gD aa O d!)];exact aa
 have W:=dU.stay U (hg.block Bb ae (λe=>rn O U e.symm));have ac:∀k,k≠b->(w3.setCell ⟨b,1,x?⟩ v').1[k]?=w3.1[k]?:=λk hk=>m4 _ _ _ _ (λe=>hk e);refine⟨by rw[heap_set ab];rfl,dU.stay W (ac Bb (λe=>dU.oU W ab e)),dK B (λk hk=>ac k (λe=>gD ab B d! (by rw[hk,e]))),?_,λk hk=>⟨?_,(B.lt k hk).2⟩⟩;exact((dp.eB hb).trans hg (λi _ hi=>Y.qc i hi)).then (jd Y.fb);obtain h|h:=hv k hk
 exact Or.inl (Y.qc k h);exact Or.inr (hQ hb.size h)
def rq(ss:List (List dD))(l:List dD):List (List dD):=if 0<l.length then ss++[l]else ss
def J4(ss)(l):(rq ss l).length=l? ss+(dy (jD l)).length:=by unfold rq jD;split<;>simp[dy]
def Gp(ss)(l):dy ((rq ss l).map eh)=dy (ss.map eh)++dy (jD l):=by unfold rq jD;split<;>simp[dy]
def xc(es):(jD es).length<=1:=by unfold jD;split<;>simp
def dp.Cn{w' o}(h:w.grownBy w' o):dp (λk=>o=y? k) w w':=⟨h.os,h.tape,h.output,h.size,λk B O=>h.block k B (λe=>O e.symm)⟩
def Ia{w4}(fb:F b)(Y:w4.1[b]?=y? (c? #[.map (y? Bb),v',vM,vK] 90 (0,0)))
  (p3:w4.ownsRow 0 9 1 v' ss'.length (dy (ss'.map eh))) (p4:dp F w w4) (p5:∀k,v'.ownBlock=y? k->(F k\/w.1.size<=k)/\k<w4.1.size) (hi:Inv [] ss') :
  ∃F',tN vM vK ((w4.alloc (.map #[] 0)).setCell ⟨b,0,x?⟩ (.map (y? w4.1.size))) F' b [] ss'/\(∀k,F' k->F k\/w.1.size<=k)/\dp F w ((w4.alloc (.map #[] 0)).setCell ⟨b,0,x?⟩ (.map (y? w4.1.size))):=by
 have O:Below _ w4 (w4.alloc (.map #[] 0)):=(m3 ..).alloc (h8 _) _;have aa:eT _ _ []:=dU.made w4;have ab:(w4.alloc (.map #[] 0)).1.size=w4.1.size+1:=i!;generalize (w4.alloc _)=U at *;have ac:=eG Y;have ad:U.1[b]?=y? (c? #[.map (y? Bb),v',vM,vK] 90 (0,0)):=by rw[O.block b ac];exact Y
 have W:∀k,k≠b->(U.setCell ⟨b,0,x?⟩ (.map (y? w4.1.size))).1[k]?=U.1[k]?:=λk B=>m4 _ _ _ _ (λe=>B e);have ae:(U.setCell ⟨b,0,x?⟩ (.map (y? w4.1.size))).1.size=U.1.size:=by simp[ne]
 refine⟨λk=>(F k\/w.1.size<=k)/\k<w4.1.size+1,⟨λk B=>by rw[ae,ab];exact B.2,w4.1.size,v',?_⟩,λk B=>B.1,?_⟩
 exact {
  blk:=by rw[heap_set ad];rfl
  fb:=⟨Or.inl fb,o!⟩,fB:=⟨Or.inr p4.size,o!⟩,say:=dU.stay aa (W _ o!),row:=dK p3 (λk B=>by rw[W k (λe=>gD Y p3 d! (by rw[B,e])),O.block k (p5 k B).2]),qc:=λk B=>⟨(p5 k B).1,by have:=(p5 k B).2;omega⟩
  inv:=hi}
 exact(p4.then (dp.eB O)).then (jd fb)
def TH(w)(F)(b)(buf)(ss)(hP:tN vM vK w F b buf ss) :
  gl prog 29 #[p? (y? ⟨b,0,x?⟩)] w λe w'=>e=e? (n? i? (eQ buf ss).1)/\
   ∃F',tN vM vK w' F' b (eQ buf ss).2.1 (eQ buf ss).2.2/\(∀k,F' k->F k\/w.1.size<=k)/\dp F w w':=by
 have HP:m1 _:=hP;obtain⟨i9,a2,a4,a5,a6⟩:=go Cl;have aC:=@run_makeMap prog;obtain⟨hF,Bb,vS,hE⟩:=hP;obtain⟨aS,cS,rfl,aD⟩:=dH hE.row;have HE:m1 _:=hE;have HF:m1 _:=hF;have a7:=dq hE.blk;have aE:=dP hE.blk 1;have U:=λ(ty:g6)=>dU.len hE.say iv ty;rw[ch]at U;have h6:=hE.inv.yW;have HI:m1 (Inv (eQ buf ss).2.1 (eQ buf ss).2.2):=CK hE.inv;have aF:=nY hE.inv;have a8:=hF b hE.fb;clear hF hE;by_cases h0:l? buf=0
 .have HU:m1 (eQ buf ss=(5,buf,ss)):=by show eQ _ _=_;unfold eQ;rw[if_pos h0]
  rw[h0]at U;clear h0;go_enter kf,kb;go_wp2;go_ret;refine⟨dQ (by rw[HU.out];rfl),F,?_,λk hk=>Or.inl hk,dp.refl _ _⟩;rw[HU.out];exact HP
 have a9:((l? buf:Int)==0)=f?:=beq_eq_false_iff_ne.2 o!;by_cases W:6<=l? ss
 .have HU:m1 (eQ buf ss=(4,buf,ss)):=by show eQ _ _=_;unfold eQ;rw[if_neg h0,if_pos W]
  have au:(6:Int)<=(l? ss:Int):=o!;clear h0 W;go_enter kf,kb;go_wp2;go_ret;refine⟨dQ (by rw[HU.out];rfl),F,?_,λk hk=>Or.inl hk,dp.refl _ _⟩;rw[HU.out];exact HP
 have HU:m1 (eQ buf ss=(0,[],if 0<(fQ buf ss).length then ss++[fQ buf ss]else ss)):=by show eQ _ _=_;unfold eQ;rw[if_neg h0,if_neg W]
 have au:¬(6:Int)<=(l? ss:Int):=o!
 have ag:m1 (0<(fQ buf ss).length->lm (fQ buf ss)):=by intro hp;have hi:=HI.out;rw[HU.out]at hi;simp only[if_pos hp]at hi;exact hi.kM _ i!
 clear h0;have ah:m1 (eQ buf ss=(0,[],rq ss (fQ buf ss))):=HU.out;have av:m1 (Inv [] (rq ss (fQ buf ss))):=by have:=HI.out;rw[ah.out]at this;exact this
 by_cases ai:l? ss=0
 case' pos=>
  have ac:m1 (fQ buf ss=du buf):=by show fQ _ _=_;unfold fQ;rw[if_pos ai]
  have ad:((l? ss:Int)==0)=t?:=beq_iff_eq.2 o!;have aw:=pN Bb buf w HE.say o! (λe he=>xi HE.inv buf i! e he);clear W ai;go_enter kf,kb;go_wp2_with fail;refine aw.mono ?_;rintro e w1 ⟨C,rfl,hC,ax,O⟩;have aj:m1 (B? w w1.drew):=⟨O.os,O.tape,O.output,O.size,O.block⟩;have aG:w1.cell? ⟨b,1,x?⟩=y? (.slice aS ss.length cS):=ge O (a7 1);have ak:=Ec C (fQ buf ss) w1.drew (by rw[ac.out];exact ax) ag;clear aw ax O
 case' neg=>
  have ac:m1 (fQ buf ss=buf):=by show fQ _ _=_;unfold fQ;rw[if_neg ai]
  have ad:((l? ss:Int)==0)=f?:=beq_eq_false_iff_ne.2 o!;have ak:=Ec Bb (fQ buf ss) w.drew (by rw[ac.out];exact HE.say) ag;have aj:m1 (B? w w.drew):=⟨q?,q?,q?,h8 _,λ_ _=>rfl⟩;clear W;go_enter kf,kb
 all_goals
  go_wp2_with fail;clear U a9 au ad ac HU ag;generalize fQ buf ss=X at *;refine gm (S:=λw'=>True) k! ?_;refine fV 0 ?_ trivial ?_<|fV 1 ?_ trivial ?_<|fV 2 ?_ trivial ?_<|fV 3 ?_ trivial ?_<|fV 5 ?_ trivial ?_ ?_
  any_goals(rintro w' _;go_simp;first|done|with_reducible rfl)
  refine g5 (rs:=[4,6]) k! i! ?_;intro i hi;simp only[dN,dr,or_false]at hi;obtain rfl|rfl:=hi
  case' inl=>refine gv l! λK' B=>?_;rw[if_pos l!];unfold m2;go_simp;refine B _ _ ⟨t!,?_⟩;clear B;refine kL 6 λK' B=>?_
  case' inr=>refine gv l! λK' B=>?_;rw[if_pos l!]
  all_goals
   unfold m2;go_simp;refine ak.mono ?_;rintro e w2 ⟨v2,rfl,ay,az⟩;have Y:B? w w2:=aj.trans (az.mono aj.size);have aH:=Y.size;have aa:w2.1[b]?=y? (c? #[.map (y? Bb),.slice aS ss.length cS,vM,vK] 90 (0,0)):=by rw[Y.block b a8];exact HE.blk
   have al:w2.ownsRow 0 9 1 (.slice aS ss.length cS) ss.length (dy (ss.map eh)):=dK HE.row (λk hk=>Y.block k (HF k (HE.qc k hk)));have aI:=dq aa 1;refine B _ _ ⟨t!,?_⟩;clear B ak az
  case' inr=>refine kL 4 λK' B=>?_;unfold m2;go_simp;refine B _ _ ⟨t!,?_⟩;clear B
  all_goals
   refine kL 7 λK' B=>?_;refine qx _ _ _ 31 q? 0 9 i9 (s? ⟨#[]⟩) 16 ip a2 a4 a5 a6 q? _ _ _ q? al _ _ q? ay nE ?c1 ?c2 (hI _) ?_
   case c1=>rw[dZ];have:=xc X;omega
   case c2=>rw[dZ];have:=xc X;unfold gg;omega
   intro v3 w3 am an a0;obtain⟨a3,c3,rfl,aJ⟩:=dH am;have ao:w3.1[b]?=y? (c? #[.map (y? Bb),.slice aS ss.length cS,vM,vK] 90 (0,0)):=by rw[an.block b (eG aa) (λe=>gD aa al d! e.symm)];exact aa
   refine B _ _ ⟨t!,?_⟩;clear B
   have ab:w3.ownsRow 0 9 1 (.slice a3 (l? ss+(dy (jD X)).length) c3) (rq ss X).length (dy ((rq ss X).map eh)):=by rw[Gp,J4];exact am
   have ae:=HE.kM HF Y (dp.Cn an) ab (λk hk=>by
    obtain h|h:=a0
    exact Or.inl (h.symm.trans hk)
    have a':=h.symm.trans hk;cases a';exact Or.inr (h8 _))
   refine fV 8 ?_ trivial ?_<|fV 9 ?_ trivial ?_ ?_
   any_goals(rintro w' _;go_simp;first|done|with_reducible rfl)
   have aA:=dq ao 1;have aB:=dP ao 1;clear am an a0 ab ao al ay aa Y;refine kL 10 λK' B=>?_;unfold m2;go_simp;refine B _ _ ⟨t!,gt k! ?_ _⟩;clear B aA aB;obtain⟨w4,ap⟩:∃w4,w4=w3.setCell ⟨b,1,x?⟩ (.slice a3 (l? ss+(dy (jD X)).length) c3):=⟨_,q?⟩;have a1:w4.1.size=w3.1.size:=by rw[ap];simp[ne]
   rw[<-ap]at ae⊢;obtain⟨p1,p2,p3,p4,p5⟩:=ae;rw[<-a1]at p5;have af:=Ia HE.fb p1 p3 p4 p5 av;have aq:(w4.alloc (.map #[] 0)).1[b]?=y? (c? #[.map (y? Bb),.slice a3 (l? ss+(dy (jD X)).length) c3,vM,vK] 90 (0,0)):=by rw[m5 _ _ _ (eG p1)];exact p1
   have aK:=dq aq 0;have aL:=dP aq 0;have ar:m1 (∃F':Nat->Prop,tN vM vK ((w4.alloc (.map #[] 0)).setCell ⟨b,0,x?⟩ (.map (y? w4.1.size))) F' b [] (rq ss X)/\(∀k,F' k->F k\/w.1.size<=k)/\dp F w ((w4.alloc (.map #[] 0)).setCell ⟨b,0,x?⟩ (.map (y? w4.1.size)))):=af;clear ap a1 p1 p2 p3 p4 p5 af aq;go_wp2;go_ret;refine⟨dQ (by rw[ah.out];rfl),?_⟩;rw[ah.out];exact ar
variable {ss:List (List dD)} {buf:List dD}
def Tp{C D la lb t g}(O:g=w.1.size)(U:eT w C la)(W:eT w D lb):Kx (w.alloc (c? #[.map (y? C),.map (y? D)] t)) (.slice (y? ⟨g,0,x?⟩) 2 2) [C,D] [la,lb] where
 rd:=by
  subst O;refine⟨y? ⟨w.1.size,0,x?⟩,2,q?,h8 _,by unfold gg;omega,λj u B=>⟨w.1.size,0,q?,?_⟩⟩;rw[nc _ _ _ _ rfl];match j,B with
  |0,B=>simpa[AK]using B|1,B=>simpa[AK]using B|j+2,B=>simp at B
 len:=rfl
 each:=λi h Y=>by
  have hb:B? w (w.alloc (c? #[.map (y? C),.map (y? D)] t)):=(m3 _ _).alloc (h8 _) _;match i,h,Y with
  |0,_,_=>exact dU.below U hb|1,_,_=>exact dU.below W hb|i+2,h,_=>exact absurd h i!
def Cr{w4 F b vS}(O:Fb w F b buf ss Bb vS vM vK)(hF:∀k,F k->k<w.1.size)
  (h:w4.1[b]?=y? (c? #[.map (y? Bb),v',vM,vK] 90 (0,0))/\eT w4 Bb buf/\w4.ownsRow 0 9 1 v' ss'.length (dy (ss'.map eh))/\dp F w w4/\(∀k,v'.ownBlock=y? k->(F k\/w.1.size<=k)/\k<w4.1.size)) (Y:Inv buf ss') :
  ∃U,tN vM vK w4 U b buf ss'/\(∀k,U k->F k\/w.1.size<=k)/\dp F w w4:=by
 obtain⟨W,p2,p3,p4,p5⟩:=h;refine⟨λk=>(F k\/w.1.size<=k)/\k<w4.1.size,⟨λk B=>B.2,Bb,v',?_⟩,λk B=>B.1,p4⟩
 exact {
  blk:=W,fb:=⟨Or.inl O.fb,eG W⟩,fB:=⟨Or.inl O.fB,h9 (hF Bb O.fB) p4.size⟩,say:=p2,row:=p3,qc:=λk B=>p5 k B
  inv:=Y}
def xB(h:Inv buf ss):∀e∈dO ss buf,l? e.name<=gg:=by intro e B;rw[iy]at B;exact pI (xi h) e (ez.1 B).1
def Hw(ss)(l):du (fY [dO ss [],l])=dO (ss++[l]) []:=by
 have e:fY [dO ss [],l]=dM (dO ss []) l:=by unfold fY;simp only[f',ga];rw[sI]
 rw[e,iy,iy,oV,fo,oD,fo,fo,oD]
def Vw(w)(F)(b)(buf)(ss)(B)(hP:tN vM vK w F b buf ss)(hs:B.size<=gg) :
  gl prog 25 #[p? (y? ⟨b,0,x?⟩),s? B] w λe w'=>e=e? (n? i? (gr buf ss B.1.1).1)/\
   ∃F',tN vM vK w' F' b buf (gr buf ss B.1.1).2/\(∀k,F' k->F k\/w.1.size<=k)/\dp F w w':=by
 have HP:m1 _:=hP;obtain⟨i9,aP,aQ,aR,aT⟩:=go Cl;obtain⟨hF,Bb,vS,hE⟩:=hP;obtain⟨aS,cS,rfl,bf⟩:=dH hE.row;have HE:m1 _:=hE;have HF:m1 _:=hF;have ah:=dq hE.blk;have h6:=hE.inv.yW;have HI:m1 (Inv buf (gr buf ss B.1.1).2):=G8 hE.inv _;have bg:=nY hE.inv;have az:=hF b hE.fb;have aa:=Hf B w hs;clear hF hE
 cases hu:gf B.1.1 with
 |none=>
  have HU:m1 (gr buf ss B.1.1=(7,ss)):=by show gr _ _ _=_;unfold gr;rw[hu]
  rw[hu]at aa;clear hu;go_enter kj,kc;go_wp2_with fail;refine aa.mono ?_;rintro e w1 ⟨U,ho1⟩;unfold ON at ho1;subst ho1;have ab:m1 _:=U;clear U aa;go_wp2;go_ret;refine⟨dQ (by rw[HU.out];rfl),F,?_,λk hk=>Or.inl hk,dp.eB ab⟩;rw[HU.out];exact tN.below HP ab
 |some l=>
  have a9:m1 (eh l=B.1.1):=(sU hu).2;have ak:m1 (lm l):=(sU hu).1;have HU:m1 (gr buf ss B.1.1=if 0<buf.length then(3,ss)else if 6<l? ss+1\/30<(dO (ss++[l]) []).length then(4,ss)else(0,ss++[l])):=by show gr _ _ _=_;unfold gr;rw[hu]
  have aU:B.size<=281474976710656:=by have h1:=qN ak;rw[a9.out]at h1;have:l? B.1.1=B.size:=i!;omega
  rw[hu]at aa;clear hu;by_cases ai:0<l? buf
  .have W:m1 (gr buf ss B.1.1=(3,ss)):=by show gr _ _ _=_;rw[HU.out,if_pos ai]
   have ad:(0:Int)<(l? buf:Int):=o!;clear ai;go_enter kj,kc;go_wp2_with fail;refine aa.mono ?_;rintro e w1 ⟨U,ho1⟩;unfold ON at ho1;obtain⟨D,rfl,hD,aj⟩:=ho1;have ab:m1 _:=U;have av:=ge U (ah 0);have ae:=λ(ty:g6)=>dU.len (dU.below HE.say U) iv ty;rw[ch]at ae;clear U aa aj;go_wp2;go_ret;refine⟨dQ (by rw[W.out];rfl),F,?_,λk hk=>Or.inl hk,dp.eB ab⟩;rw[W.out];exact tN.below HP ab
  have a0:buf=[]:=ej.1 o!;by_cases aV:6<=l? ss
  .have W:m1 (gr buf ss B.1.1=(4,ss)):=by show gr _ _ _=_;rw[HU.out,if_neg ai,if_pos (Or.inl o!)]
   have a':(6:Int)<=(l? ss:Int):=o!;have ad:l? buf=0:=o!;clear ai aV a0;go_enter kj,kc;go_wp2_with fail;refine aa.mono ?_;rintro e w1 ⟨U,ho1⟩;unfold ON at ho1;obtain⟨D,rfl,hD,aj⟩:=ho1;have ab:m1 _:=U;have av:=ge U (ah 0);have aA:=ge U (ah 1);have ae:=λ(ty:g6)=>dU.len (dU.below HE.say U) iv ty;rw[ch,ad]at ae;clear U aa aj ad;go_wp2;go_ret;refine⟨dQ (by rw[W.out];rfl),F,?_,λk hk=>Or.inl hk,dp.eB ab⟩;rw[W.out];exact tN.below HP ab
  have aW:m1 (du (fY [dO ss buf,l])=dO (ss++[l]) []):=by show _=_;rw[a0];exact Hw ss l
  have a':¬(6:Int)<=(l? ss:Int):=o!;have ad:l? buf=0:=o!
  have a1:m1 (gr buf ss B.1.1=if 30<(du (fY [dO ss buf,l])).length then(4,ss)else(0,ss++[l])):=by show gr _ _ _=_;rw[HU.out,if_neg ai,aW.out];by_cases h:30<(dO (ss++[l]) []).length;rw[if_pos (Or.inr h),if_pos h];rw[if_neg (by rintro(h'|h');omega;exact h h'),if_neg h]
  clear ai a0;go_enter kj,kc;go_wp2_with fail;refine aa.mono ?_;rintro e w1 ⟨U,ho1⟩;unfold ON at ho1;obtain⟨D,rfl,hD,aj⟩:=ho1;have aX:=U.size;have ab:m1 _:=U;have av:=ge U (ah 0);have aA:=ge U (ah 1);have ae:=λ(ty:g6)=>dU.len (dU.below HE.say U) iv ty;rw[ch,ad]at ae;have aY:m1 _:=aj;have aB:=uG F b buf ss Bb _ vM vK w1 (HE.stay (λk hk=>U.block k (HF k hk)));have bh:(dO ss buf).length<=30:=HE.inv.all;clear U aa aj;go_wp2_with fail;refine aB.mono ?_;rintro e w2 ⟨C,rfl,hC,aC,ac⟩;have bi:=ac.size;have aZ:m1 (B? w w2):=ab.trans (ac.mono aX)
  have aD:=uA _ [C,D] [dO ss buf,l] _ (Tp (t:=85) q? aC (dU.below aY ac)) (by
    have:=kq ak;simp[gF]
    omega) (by
    intro x hx e he;simp only[dN,dr,or_false]at hx;obtain rfl|rfl:=hx
    exact xB HE.inv e he
    exact nt ak e he)
  clear aB ac aC ae ad;go_wp2_with fail;refine aD.mono ?_;rintro e w3 ⟨M,rfl,hM,aE,a2⟩;have bj:w2.1.size<=w3.1.size:=by have:=a2.size;simp at this;omega
  have ba:m1 (B? w w3):=(aZ.alloc o! _).trans (a2.mono j!)
  have aF:=pN M _ w3 aE (by
    have h1:=tB [dO ss buf,l] 2 i!;have:=kq ak;simp only[gd]at h1;have h2:gF [dO ss buf,l]<=1000:=by simp[gF];omega
    omega) (pI (by
    intro x hx e he;simp only[dN,dr,or_false]at hx;obtain rfl|rfl:=hx
    exact xB HE.inv e he
    exact nt ak e he))
  clear aD a2 aE;go_wp2_with fail;refine aF.mono ?_;rintro e w4 ⟨N,rfl,hN,aG,a3⟩;have bk:=a3.size;have af:m1 (B? w w4):=ba.trans (a3.mono o!);have al:=λ(ty:g6)=>dU.len aG iv ty;rw[ch]at al;clear aF a3 aG;by_cases ap:30<(du (fY [dO ss buf,l])).length
  .have W:m1 (gr buf ss B.1.1=(4,ss)):=by show gr _ _ _=_;rw[a1.out,if_pos ap]
   have aw:(30:Int)<((du (fY [dO ss buf,l])).length:Int):=o!;clear ap;go_wp2;go_ret;refine⟨dQ (by rw[W.out];rfl),F,?_,λk hk=>Or.inl hk,dp.eB af⟩;rw[W.out];exact tN.below HP af
  have W:m1 (gr buf ss B.1.1=(0,ss++[l])):=by show gr _ _ _=_;rw[a1.out,if_neg ap]
  have aw:¬(30:Int)<((du (fY [dO ss buf,l])).length:Int):=o!;have aH:m1 (Inv buf (ss++[l])):=by have:=HI.out;rw[W.out]at this;exact this
  have aq:m1 (B? w w4.drew):=⟨af.os,af.tape,af.output,af.size,af.block⟩;have lg:=tA B w4.drew aU;have bl:w4.cell? ⟨b,1,x?⟩=y? (.slice aS ss.length cS):=ge af (ah 1);clear ap a1 HU;go_wp2_with fail;clear aw al a';refine gm (S:=λw'=>True) k! ?_;refine fV 0 ?_ trivial ?_<|fV 1 ?_ trivial ?_<|fV 2 ?_ trivial ?_<|fV 3 ?_ trivial ?_<|fV 5 ?_ trivial ?_ ?_
  any_goals(rintro w' _;go_simp;first|done|with_reducible rfl)
  refine g5 (rs:=[4,6]) k! i! ?_;intro i hi;simp only[dN,dr,or_false]at hi;obtain rfl|rfl:=hi
  case' inl=>
   refine gv l! λK' O=>?_;rw[if_pos l!];unfold m2;go_simp;refine O _ _ ⟨t!,?_⟩;clear O;refine kL 6 λK' O=>?_;unfold m2;go_simp;refine lg.mono ?_;rintro e x2 ⟨rfl,ac⟩;have Y:B? w x2:=aq.trans (ac.mono aq.size);have ax:=Y.size;have ar:x2.1[b]?=y? (c? #[.map (y? Bb),.slice aS ss.length cS,vM,vK] 90 (0,0)):=by rw[Y.block b az];exact HE.blk
   have aI:=dq ar 1;refine O _ _ ⟨t!,?_⟩;clear O lg ac;refine kL 7 λK' O=>?_;unfold m2;go_simp
  case' inr=>
   refine gv l! λK' O=>?_;rw[if_pos l!];unfold m2;go_simp;refine lg.mono ?_;rintro e x2 ⟨rfl,ac⟩;have Y:B? w x2:=aq.trans (ac.mono aq.size);have ax:=Y.size;have ar:x2.1[b]?=y? (c? #[.map (y? Bb),.slice aS ss.length cS,vM,vK] 90 (0,0)):=by rw[Y.block b az];exact HE.blk
   have aI:=dq ar 1;refine O _ _ ⟨t!,?_⟩;clear O lg ac;refine g5 (rs:=[4,7]) k! i! ?_;intro i hi;simp only[dN,dr,or_false]at hi;obtain rfl|rfl:=hi
   case' inl=>refine gv l! λK' O=>?_;rw[if_pos l!];unfold m2;go_simp;refine O _ _ ⟨t!,?_⟩;clear O;refine kL 7 λK' O=>?_;unfold m2;go_simp
   case' inr=>refine gv l! λK' O=>?_;rw[if_pos l!];unfold m2;go_simp
  all_goals
   obtain⟨x3,au⟩:∃x3,x3=x2.alloc (c? #[s? B] 9):=⟨_,q?⟩;rw[<-au];have ay:B? x2 x3:=by rw[au];exact(m3 _ _).alloc (h8 _) _
   have aJ:Rd x3 (.slice (y? ⟨x2.1.size,0,x?⟩) 1 1) (dy [B.1.1]):=by rw[au,show dy [B.1.1]=[s? B]from rfl];exact Rd.one iC
   have ag:B? w x3:=Y.trans (ay.mono ax);have am:x3.1[b]?=y? (c? #[.map (y? Bb),.slice aS ss.length cS,vM,vK] 90 (0,0)):=by rw[ag.block b az];exact HE.blk
   have a5:x3.ownsRow 0 9 1 (.slice aS ss.length cS) ss.length (dy (ss.map eh)):=dK HE.row (λk hk=>ag.block k (HF k (HE.qc k hk)));have aK:=dq am 1;refine O _ _ ⟨t!,?_⟩;clear O au ay
  refine kL 4 λK' O=>?_;unfold m2;go_simp;refine O _ _ ⟨t!,?_⟩;clear O
  all_goals
   refine kL 8 λK' O=>?_;refine qx _ _ _ 31 q? 0 9 i9 (s? ⟨#[]⟩) 16 ip aP aQ aR aT q? _ _ _ q? a5 _ _ q? aJ nE (by rw[dZ];simp;omega) (by rw[dZ];unfold gg;simp;omega) (hI _) ?_;intro v4 x4 a6 a7 aL;obtain⟨a4,c4,rfl,bm⟩:=dH a6;have a8:x4.1[b]?=y? (c? #[.map (y? Bb),.slice aS ss.length cS,vM,vK] 90 (0,0)):=by rw[a7.block b (eG am) (λe=>gD am a5 d! e.symm)];exact am
   refine O _ _ ⟨t!,?_⟩;clear O
   have an:x4.ownsRow 0 9 1 (.slice a4 (l? ss+(dy [B.1.1]).length) c4) (ss++[l]).length (dy ((ss++[l]).map eh)):=by rw[List.map_append,bx,show dy (ss.map eh++[l].map eh)=dy (ss.map eh)++dy [B.1.1] by simp[dy,a9.out]];exact a6
   have ao:=HE.kM HF ag (dp.Cn a7) an (λk hk=>by
    obtain h|h:=aL
    exact Or.inl (h.symm.trans hk)
    have bc:=h.symm.trans hk;cases bc;exact Or.inr (h8 _))
   refine fV 9 ?_ trivial ?_<|fV 10 ?_ trivial ?_ ?_
   any_goals(rintro w' _;go_simp;first|done|with_reducible rfl)
   have bd:=dq a8 1;have be:=dP a8 1;clear a6 a7 aL an a8 a5 aJ am aK ag Y ar aI;refine kL 11 λK' O=>?_;unfold m2;go_simp;refine O _ _ ⟨t!,gt k! ?_ _⟩;clear O bd be;obtain⟨x5,aM⟩:∃x5,x5=x4.setCell ⟨b,1,x?⟩ (.slice a4 (l? ss+(dy [B.1.1]).length) c4):=⟨_,q?⟩;have aN:x5.1.size=x4.1.size:=by rw[aM];simp[ne]
   rw[<-aM]at ao⊢;rw[<-aN]at ao;have aO:m1 (∃F':Nat->Prop,tN vM vK x5 F' b buf (ss++[l])/\(∀k,F' k->F k\/w.1.size<=k)/\dp F w x5):=Cr HE HF ao aH;go_wp2;go_ret;refine⟨dQ (by rw[W.out];rfl),?_⟩;rw[W.out];exact aO
def ue{P}(w)(t ty elem)(g off k c)(z)(cur)(T)(hu:P.underlying t=y? (.slice elem))(hz:(zeroValue elem).run P w=.ok z w)(B:z.cells=#[z])(h1:z.oneCell'=t?)
  (hg:w.1[g]?=y? (c? cur T (0,0))) (hk:0<k) (aa:off+k<=cur.size) :
  ∃O,l? O=cur.size/\(∀j,j<off->O[j]?=cur[j]?)/\(n4 #[t] ty #[.slice (y? ⟨g,off,x?⟩) k c]).run P w=.ok (.tuple #[]) (w.setRow g O.toArray):=by
 obtain⟨k',rfl⟩:∃k',k=k'+1:=⟨k-1,o!⟩;have U:(n0 #[z] (k'+1)).toList.length=k'+1:=by simp[size_zeroCells]
 have W:∀v∈(n0 #[z] (k'+1)).toList,v.oneCell'=t?:=by intro v hv;simp[n0,Nat.mod_one]at hv;rw[<-hv.2];exact h1
 have Y:=run_storeCells_at P g off T _ 0 cur w hg o! W;refine⟨cur.toList.take (off+0)++(n0 #[z] (k'+1)).toList++cur.toList.drop (off+0+(n0 #[z] (k'+1)).toList.length),?_,?_,?_⟩;rw[bx,bx,U];simp;omega;intro j hj;rw[dm,cc j!,cx,if_pos o!];simp;unfold n4;simp[run_underlying hu,hz,B,Y]
def qh{w g}{cs:Array v?}:dp (· = g) w (w.setRow g cs):=⟨q?,q?,q?,by simp[World.setRow],λk _ B=>setRow_other w g k cs (λe=>B o!)⟩
def ug{w':w?}{e m:Nat}{g cap ys l'}(hm:m<=cap)(B:cap<=gg)(W:l? ys=m)(O:w'.1[g]?=y? (c? l' e (0,0)))(Y:l'.size=cap)(U:∀j,j<m->l'[j]?=ys[j]?):w'.ownsRow 0 e 1 (.slice (y? ⟨g,0,x?⟩) m cap) m ys:=by refine⟨o!,Or.inr ⟨g,cap,l',q?,hI _,O,hm,B,o!,?_⟩⟩;apply List.ext_getElem?;intro j;rw[cx];split;rw[m7];exact U j o!;rw[List.getElem?_eq_none o!]
def yp{P}(w)(t ty e)(i)(ht:P.underlying t=y? (.slice e))(hi:P.info? e=y? i)(B:i.size=1)(g n c)(cur)(hg:w.1[g]?=y? (c? cur e (0,0)))(Y:cur.size=c)
  (x) (news) (hx:Rd w x news) (h1:∀u∈news,u.oneCell'=t?) (O:n+l? news<=c) :
  ∃l',l? l'=c/\(∀j,j<n->l'[j]?=cur[j]?)/\(∀j,j<l? news->l'[n+j]?=news[j]?)/\(n3 #[t,t] ty #[.slice (y? ⟨g,0,x?⟩) n c,x]).run P w=.ok (.slice (y? ⟨g,0,x?⟩) (n+l? news) c) (w.setRow g l'.toArray):=by
 obtain⟨a,cap,rfl,hc,hm,aa⟩:=hx
 cases a with
 |none=>
  have hn:news=[]:=by
   cases news with
   |nil=>rfl|cons u us=>obtain⟨b,off,he,_⟩:=aa 0 u rfl;simp at he
  subst hn;refine⟨cur.toList,u! Y,λj _=>i!,nofun,?_⟩;have:=jY (P:=P) w t ty e i ht hi (y? ⟨g,0,x?⟩) n c cap o!;simp only[e0,hX];rw[this,h7 w g cur e _ hg]
 |some ad=>
  have U:∀j u,news[j]?=y? u->w.cell? (ad.add j)=y? u:=by intro j u hj;obtain⟨b,off,he,W⟩:=aa j u hj;simp only[no]at he;subst he;rw[Addr.add_lit];exact W
  have hl:l? news=l? news*i.size:=by rw[B];omega
  have ab:=run_append_room (P:=P) w t ty e i ht hi g n c cur hg ad _ cap news hl U h1 O (by rw[B];omega);rw[B,Nat.mul_one]at ab;have lg:l? cur.toList=c:=by simpa using Y
  refine⟨_,?_,?_,?_,ab⟩;simp only[bx,ca,cB,lg];omega;intro j hj;rw[dm,cc (by rw[ca];omega),cx,if_pos hj];simp;intro j hj;rw[dm,cp (by rw[ca];omega),ca,hJ o!,hV,cc hj]
def uo{P}(w){ops rest}{o:Oper}{a:Act}{Q}(W:o.guard=x?)(s x)(t)
  (ho:o.op=.call {callee:=.builtin .append,args:=#[s,x],argTypes:=#[t,t]}) (e) (i) (ht:P.underlying t=y? (.slice e)) (hi:P.info? e=y? i) (B:i.size=1) (g n c) (cur) (hg:w.1[g]?=y? (c? cur e (0,0))) (Y:cur.size=c)
  (hs:a.eval s=.slice (y? ⟨g,0,x?⟩) n c) (y) (news) (hx:a.eval x=y) (hy:Rd w y news) (h1:∀u∈news,u.oneCell'=t?) (O:n+l? news<=c)
  (h:∀U,l? U=c->(∀j,j<n->U[j]?=cur[j]?)->(∀j,j<l? news->U[n+j]?=news[j]?)->g8 P ops Q rest (a.put o.dst (.slice (y? ⟨g,0,x?⟩) (n+l? news) c)) (w.setRow g U.toArray)):g8 P ops Q (o::rest) a w:=by
 refine hw W λ_ hK=>?_;obtain⟨U,h2,h3,h4,hr⟩:=yp (P:=P) w t o.type e i ht hi B g n c cur hg Y y news hy h1 O;unfold m2 ha;simp only[ho,g7,invoke,builtin,od,ob,oi,ei,eg,er,hs,hx,hr];exact hK _ _ (h U h2 h3 h4)
def GI(w:w?)(g n cap)(xs:List Wd)(v)(ps:List Wd)(W:w.ownsRow 0 9 1 (.slice (y? ⟨g,0,x?⟩) xs.length cap) xs.length (dy xs))(hv:Rd w v (dy ps))(aB:l? ps<=1)(hn:n+2=l? xs)(aq:l? xs<=6) :
  gl prog 74 #[.slice (y? ⟨g,0,x?⟩) xs.length cap,n? i? n,n? i? ((n:Int)+2),v] w λe w'=>∃v',e=e? v'/\w'.ownsRow 0 9 1 v' (xs.take n++ps).length (dy (xs.take n++ps))/\dp (· = g) w w'/\∀k,v'.ownBlock=y? k->k=g\/w.1.size<=k:=by
 obtain⟨i9,ar,_,au,_⟩:=go Cl;obtain⟨av,cv,rfl,aw,hmv,ax⟩:=id hv;rw[dZ]at aw⊢;obtain⟨he,_⟩|⟨g',a9,cur,he,_,hg,ay,hcm,az,ad⟩:=W.2
 .cases he
 simp only[m9,no,om,and_true,true_and]at he;obtain⟨rfl,rfl⟩:=he
 have ae:∀j,j<n->cur[j]?=(dy (xs.take n))[j]?:=by intro j hj;have h1:=congrArg (λl:List v?=>l[j]?) ad;simp only[cx]at h1;rw[if_pos o!,m7]at h1;rw[h1];unfold dy;rw[dB,dB,cx,if_pos hj]
 obtain⟨L,hL⟩:∃L,L=l? xs:=⟨_,q?⟩;rw[<-hL]at aq hn ay⊢;have HV:m1 (Rd w (.slice av ps.length cv) (dy ps)):=by have:=hv;rw[dZ]at this;exact this
 have HG:m1 _:=hg;have Y:cur.size=cap:=o!;have HC:m1 _:=Y;have hj:IntKind.i64.wrap ((n:Int)+2)=(n:Int)+2:=by simp only[nr];omega
 have aC:((n:Int)==(n:Int)+2)=f?:=beq_eq_false_iff_ne.2 o!;have aD:(((n:Int)+2)==(L:Int))=t?:=beq_iff_eq.2 o!;have a':(n:Int)+2<=(cap:Int):=o!;have aE:¬cap=n:=o!;have B:m1 _:=hn;have af:m1 _:=hL;have a0:m1 _:=ae;unfold gg at hcm hmv;clear hv W ax hg az ad ae hL Y hn;go_enter func74,ntmps74;have ag:n+(dy ps).length<=cap:=by rw[dZ];omega
 go_wp2_with (first
  |(at_builtin;refine uo _ q? _ _ 31 q? 9 i9 ip ar au g n cap cur HG HC q? _ _ q? HV nE ag ?_))
 intro l1 ah ai ac;rw[dZ]at ac⊢;obtain⟨w1,O⟩:∃w1,w1=w.setRow g l1.toArray:=⟨_,q?⟩;rw[<-O];have aj:m1 (w1.1[g]?=y? (c? l1.toArray 9 (0,0))):=by show _=_;rw[O];exact gz w g _ _ _ _ HG
 have a1:m1 (dp (· = g) w w1):=by show dp _ _ _;rw[O];exact qh
 have a2:m1 _:=ai;have a3:m1 _:=ac;have ak:m1 _:=ah;have aF:((n+l? ps:Nat):Int)<(L:Int):=by have:=B.out;omega
 have aA:¬cap=n+l? ps:=by have:=B.out;omega
 clear ah ai ac O ag;have al:0<L-(n+l? ps):=by have:=B.out;omega
 have aa:n+l? ps+(L-(n+l? ps))<=l1.toArray.size:=by have:=B.out;have:=ak.out;simp;omega
 obtain⟨l2,am,an,a4⟩:=ue (P:=prog) w1 31 0 9 g (n+l? ps) (L-(n+l? ps)) (cap-(n+l? ps)) (s? ⟨#[]⟩) l1.toArray 9 ip (i7 w1) q? q? aj al aa;obtain⟨w2,U⟩:∃w2,w2=w1.setRow g l2.toArray:=⟨_,q?⟩;rw[<-U]at a4;have a5:m1 (w2.1[g]?=y? (c? l2.toArray 9 (0,0))):=by show _=_;rw[U];exact gz w1 g _ _ _ _ aj
 have a6:m1 (dp (· = g) w w2):=by show dp _ _ _;rw[U];exact a1.then qh
 have a7:m1 (∀j,j<n+l? ps->l2[j]?=l1[j]?):=λj hj=>by have:=an j hj;simpa using this
 have a8:m1 (l? l2=cap):=by show _=_;rw[am];simpa using ak.out
 clear am an U al aa;go_wp2;go_ret;refine⟨_,q?,?_,a6,λk hk=>Or.inl (by simp[nw]at hk;exact hk.symm)⟩
 have ab:(xs.take n++ps).length=n+l? ps:=by have:=af.out;have:=B.out;rw[bx,ca];omega
 rw[ab];refine ug (v! B.out) (by unfold gg;omega) (by rw[dZ,ab]) a5 (u! a8.out) (λj hj=>?_);have e1:(dy (xs.take n++ps))[j]?=(dy (xs.take n)++dy ps)[j]?:=by rw[show dy (xs.take n++ps)=dy (xs.take n)++dy ps by simp[dy]]
 have ao:(dy (xs.take n)).length=n:=by have:=af.out;have:=B.out;rw[dZ,ca];omega
 rw[e1,ev,a7.out j hj];by_cases ap:j<n;rw[a2.out j ap,cc o!,a0.out j ap];rw[cp o!,ao,<-a3.out _ o!,(o!:n+(j-n)=j)]
def uf{P:P?}(w)(t ty e)(ht:P.underlying t=y? (.slice e))(hi:(P.info? e).map (·.size)=y? 1)(g off dl dc c)(cur)(hg:w.1[g]?=y? (c? cur e (0,0)))(aa:cur.size=c)
  (x) (news) (hx:Rd w x news) (h1:∀u∈news,u.oneCell'=t?) (hd:l? news<=dl) (ab:off+l? news<=c) :
  ∃Y,l? Y=c/\(∀j,j<off\/off+l? news<=j->Y[j]?=cur[j]?)/\(∀j,j<l? news->Y[off+j]?=news[j]?)/\(n5 #[t,t] ty #[.slice (y? ⟨g,off,x?⟩) dl dc,x]).run P w=.ok (n? i? (l? news)) (w.setRow g Y.toArray):=by
 obtain⟨a,cap,rfl,hc,hm,W⟩:=hx;have lg:l? cur.toList=c:=by simpa using aa
 cases a with
 |none=>
  have hn:news=[]:=by
   cases news with
   |nil=>rfl|cons u us=>obtain⟨b,off,he,_⟩:=W 0 u rfl;simp at he
  subst hn;refine⟨cur.toList,lg,λj _=>i!,nofun,?_⟩;have:=run_copy_none (P:=P) w t t ty e (y? ⟨g,off,x?⟩) x? dl dc 0 cap ht hi i!;simp only[e0];rw[this,h7 w g cur e _ hg];rfl
 |some ad=>
  have O:∀j u,news[j]?=y? u->w.cell? (ad.add j)=y? u:=by intro j u B;obtain⟨b,off,he,U⟩:=W j u B;simp only[no]at he;subst he;rw[Addr.add_lit];exact U
  have ac:=run_copy_row _ w t t ty e g off dl dc ad _ cap cur e news ht hi hg (hJ hd).symm O o! h1;refine⟨_,?_,?_,?_,ac⟩;simp only[bx,ca,cB,lg];omega;intro j B;obtain B|B:=B
  rw[dm,cc (by rw[ca];omega),cx,if_pos B];simp;rw[cp (by simp only[bx,ca,lg];omega),fk];simp only[bx,ca,lg];rw[hJ o!,(o!:off+l? news+(j-(off+l? news))=j)];simp;intro j B;rw[dm,cp (by rw[ca];omega),ca,hJ o!,hV,cc B]
def W3:(prog.info? 9).map (·.size)=y? 1:=by kernel_rfl
def FW(w:w?)(g n q cap)(xs:List Wd)(v)(ps:List Wd)(aa:w.ownsRow 0 9 1 (.slice (y? ⟨g,0,x?⟩) xs.length cap) xs.length (dy xs))(hv:Rd w v (dy ps))(aW:l? ps<=1)(hn:l? xs=n+2+q)(hq:0<q)(a3:l? xs<=6) :
  gl prog 74 #[.slice (y? ⟨g,0,x?⟩) xs.length cap,n? i? n,n? i? ((n:Int)+2),v] w λe w'=>∃v',e=e? v'/\w'.ownsRow 0 9 1 v' (xs.take n++(ps++xs.drop (n+2))).length (dy (xs.take n++(ps++xs.drop (n+2))))/\dp (· = g) w w'/\∀k,v'.ownBlock=y? k->k=g\/w.1.size<=k:=by
 obtain⟨av,cv,rfl,a4,hmv,a5⟩:=id hv;rw[dZ]at a4⊢;obtain⟨he,_⟩|⟨g',aQ,cur,he,_,hg,a6,hcm,a7,ak⟩:=aa.2
 .cases he
 simp only[m9,no,om,and_true,true_and]at he;obtain⟨rfl,rfl⟩:=he
 have al:∀j,j<l? xs->cur[j]?=(dy xs)[j]?:=by intro j B;have h1:=congrArg (λl:List v?=>l[j]?) ak;simp only[cx]at h1;rw[if_pos o!,m7]at h1;exact h1
 have ad:m1 _:=hn;have HV:m1 (Rd w (.slice av ps.length cv) (dy ps)):=by have:=hv;rw[dZ]at this;exact this
 have HG:m1 _:=hg;have ab:cur.size=cap:=o!;have HC:m1 _:=ab;have am:m1 _:=al;rw[hn]at a3 a6⊢;have aX:((n:Int)==(n:Int)+2)=f?:=beq_eq_false_iff_ne.2 o!;have aY:(((n:Int)+2)==((n+2+q:Nat):Int))=f?:=beq_eq_false_iff_ne.2 o!;have aR:(((n:Int)+2)==(n:Int)+2+(q:Int))=f?:=beq_eq_false_iff_ne.2 o!;have aS:(n:Int)+2<=(cap:Int):=o!;have aZ:¬cap=n:=o!;have aT:¬cap=n+2:=o!;unfold gg at hcm hmv;clear hv aa a5 hg a7 ak al ab hn;go_enter func74,ntmps74;go_wp2_with fail;go_quiet (fail);have an:m1 ((w.drewN nq).1[g]?=y? (c? cur 9 (0,0))):=HG.out;have a8:m1 (Rd (w.drewN nq) (.slice av ps.length cv) (dy ps)):=HV.out;have a9:m1 (dp (· = g) w (w.drewN nq)):=⟨q?,q?,q?,h8 _,λ_ _ _=>rfl⟩;generalize w.drewN nq=wd at *;obtain⟨l1,ao,ae,af,ag⟩:=uf (P:=prog) wd 31 3 9 ip W3 g n (n+l? ps+q-n) (cap-n) cap cur an HC (.slice av ps.length cv) (dy ps) a8 nE (by rw[dZ];omega) (by rw[dZ];omega);rw[dZ]at ae af ag;obtain⟨w1,O⟩:∃w1,w1=wd.setRow g l1.toArray:=⟨_,q?⟩;rw[<-O]at ag;have ah:m1 (w1.1[g]?=y? (c? l1.toArray 9 (0,0))):=by show _=_;rw[O];exact gz wd g _ _ _ _ an
 have a':m1 (dp (· = g) w w1):=by show dp _ _ _;rw[O];exact a9.then qh
 have ap:m1 _:=ae;have aA:m1 _:=af;have aB:m1 _:=ao;have aU:¬cap=n+l? ps:=o!;have ba:(n:Int)+(l? ps:Int)<=(n:Int)+2:=o!;clear ao ae af O;go_wp2_with fail;clear ag;have aC:IntKind.i64.wrap ((n:Int)+(l? ps:Int))=(n:Int)+(l? ps:Int):=by simp only[nr];omega
 have hA:(0:Int)<=(n:Int)+(l? ps:Int):=o!;have hB:(n:Int)+(l? ps:Int)<=(n:Int)+(l? ps:Int)+(q:Int):=o!;have hT:((n:Int)+(l? ps:Int)).toNat=n+l? ps:=o!;have aD:(0:Int)<=(n:Int)+2:=o!;have aE:(n:Int)+2<=(n:Int)+2+(q:Int):=o!;have aF:((n:Int)+2).toNat=n+2:=o!;refine gm (S:=λw'=>True) k! ?_;refine fV 0 ?_ trivial ?_<|fV 1 ?_ trivial ?_<|fV 2 ?_ trivial ?_<|fV 3 ?_ trivial ?_<|fV 4 ?_ trivial ?_<|fV 5 ?_ trivial ?_<|fV 6 ?_ trivial ?_<|fV 7 ?_ trivial ?_<|fV 8 ?_ trivial ?_ ?_
 any_goals(rintro w' _;go_simp;first|done|with_reducible rfl)
 refine kL 9 λK' aq=>?_;unfold m2;go_simp;have U:(dy (xs.drop (n+2))).length=q:=by rw[dZ,cB,ad.out];omega
 have ar:Rd w1.drew (.slice (y? ⟨g,n+2,x?⟩) q (cap-(n+2))) (dy (xs.drop (n+2))):=by
  refine⟨y? ⟨g,n+2,x?⟩,cap-(n+2),by rw[U],by rw[U];omega,by unfold gg;omega,λj u B=>⟨g,n+2,q?,?_⟩⟩
  have bc:j<q:=by have:=(List.getElem?_eq_some_iff.1 B).1;omega
  show w1.cell? _=_;rw[dq ah.out];show l1.toArray[n+2+j]?=_;rw[ev,ap.out _ (Or.inr o!),am.out _ (by rw[ad.out];omega),<-B];unfold dy;rw[dB,dB,fk]
 obtain⟨l2,au,ai,aj,aw⟩:=uf (P:=prog) w1.drew 31 3 9 ip W3 g (n+l? ps) q (cap-(n+l? ps)) cap l1.toArray ah (u! aB.out) _ _ ar nE o! o!;rw[aw];rw[U]at ai aj;obtain⟨w2,W⟩:∃w2,w2=w1.drew.setRow g l2.toArray:=⟨_,q?⟩;rw[<-W];have ax:m1 (w2.1[g]?=y? (c? l2.toArray 9 (0,0))):=by show _=_;rw[W];exact gz w1.drew g _ _ _ _ ah
 have aG:m1 (dp (· = g) w w2):=by show dp _ _ _;rw[W];have h1:dp (· = g) w1 w1.drew:=⟨q?,q?,q?,h8 _,λ_ _ _=>rfl⟩;exact(a'.then h1).then qh
 have ay:m1 (∀j,j<n+l? ps\/n+l? ps+q<=j->l2[j]?=l1[j]?):=λj B=>by have:=ai j B;simpa using this
 have aH:m1 _:=aj;have az:m1 _:=au;clear au ai aj aw W ar U;refine aq _ _ ⟨t!,gt k! ?_ _⟩;clear aq aC hA hB hT aD aE aF;have aV:¬cap=n+l? ps+q:=o!;obtain⟨l3,a0,a1,aI⟩:=ue (P:=prog) w2 31 0 9 g (n+l? ps+q) (n+2+q-(n+l? ps+q)) (cap-(n+l? ps+q)) (s? ⟨#[]⟩) l2.toArray 9 ip (i7 w2) q? q? ax o! (by have:=az.out;simp;omega);obtain⟨w3,Y⟩:∃w3,w3=w2.setRow g l3.toArray:=⟨_,q?⟩;rw[<-Y]at aI;have aJ:m1 (w3.1[g]?=y? (c? l3.toArray 9 (0,0))):=by show _=_;rw[Y];exact gz w2 g _ _ _ _ ax
 have aK:m1 (dp (· = g) w w3):=by show dp _ _ _;rw[Y];exact aG.then qh
 have aL:m1 (∀j,j<n+l? ps+q->l3[j]?=l2[j]?):=λj B=>by have:=a1 j B;simpa using this
 have aM:m1 (l? l3=cap):=by show _=_;rw[a0];simpa using az.out
 clear a0 a1 Y;go_wp2;go_ret;refine⟨_,q?,?_,aK,λk hk=>Or.inl (by simp[nw]at hk;exact hk.symm)⟩;have bd:=ad.out
 have ac:(xs.take n++(ps++xs.drop (n+2))).length=n+l? ps+q:=by rw[bx,bx,ca,cB];omega
 have aN:(dy (xs.take n)).length=n:=by rw[dZ,ca];omega
 have aO:(dy ps).length=l? ps:=dZ ps;rw[ac];refine ug o! (by unfold gg;omega) (by rw[dZ,ac]) aJ (u! aM.out) (λj B=>?_);rw[show dy (xs.take n++(ps++xs.drop (n+2)))=dy (xs.take n)++(dy ps++dy (xs.drop (n+2))) by simp[dy],ev,aL.out j B];by_cases a2:j<n;rw[ay.out j (Or.inl o!),ap.out j (Or.inl a2),am.out j o!,cc o!];unfold dy;rw[dB,dB,cx,if_pos a2];rw[cp o!,aN];by_cases aP:j<n+l? ps;rw[ay.out j (Or.inl aP),cc o!,<-aA.out (j-n) o!,(o!:n+(j-n)=j)];rw[cp o!,aO,<-aH.out (j-n-l? ps) o!,(o!:n+l? ps+(j-n-l? ps)=j)]
def Fo(w:w?)(g n cap)(xs:List Wd)(v)(ps:List Wd)(B:w.ownsRow 0 9 1 (.slice (y? ⟨g,0,x?⟩) xs.length cap) xs.length (dy xs))(W:Rd w v (dy ps))(O:l? ps<=1)(Y:n+2<=l? xs)(U:l? xs<=6) :
  gl prog 74 #[.slice (y? ⟨g,0,x?⟩) xs.length cap,n? i? n,n? i? ((n:Int)+2),v] w λe w'=>∃v',e=e? v'/\w'.ownsRow 0 9 1 v' (xs.take n++(ps++xs.drop (n+2))).length (dy (xs.take n++(ps++xs.drop (n+2))))/\dp (· = g) w w'/\∀k,v'.ownBlock=y? k->k=g\/w.1.size<=k:=by
 by_cases h:n+2=l? xs;have e:xs.drop (n+2)=[]:=fa o!;rw[e,dw];exact GI w g n cap xs v ps B W O h U;exact FW w g n (l? xs-(n+2)) cap xs v ps B W O o! o! U
def pR(ss:List (List dD))(m:Nat)(l:List dD):List (List dD):=ss.take m++((if 0<l.length then [l]else [])++ss.drop (m+2))
def vW(ss)(m)(l):(pR ss m l).map eh=(ss.map eh).take m++(jD l++(ss.map eh).drop (m+2)):=by unfold pR jD;split<;>simp
def UC(b g m B:Nat)(x y:Wd)(n:Nat)(w':w?):Prop:=w'.cell? ⟨b,1,x?⟩=y? (.slice (y? ⟨g,0,x?⟩) n B)/\w'.cell? ⟨g,m,x?⟩=y? (s? ⟨a? x⟩)/\w'.cell? ⟨g,m+1,x?⟩=y? (s? ⟨a? y⟩)
def U6(w)(F)(b)(buf)(ss)(n)(hP:tN vM vK w F b buf ss) :
  gl prog 39 #[p? (y? ⟨b,0,x?⟩),n? i? n] w λe w'=>e=e? (n? i? (fD ss n).1)/\
   ∃F',tN vM vK w' F' b buf (fD ss n).2/\(∀k,F' k->F k\/w.1.size<=k)/\dp F w w':=by
 have HP:m1 _:=hP;obtain⟨hF,Bb,vS,hE⟩:=hP;obtain⟨aS,cS,rfl,bl⟩:=dH hE.row;have HF:m1 _:=hF;have aH:=dq hE.blk 1;have h6:=hE.inv.yW;have aY:=hF b hE.fb;have W:m1 _:=hE;clear hF hE;by_cases h0:n<0
 .have HU:m1 (fD ss n=(6,ss)):=by show fD _ _=_;unfold fD;rw[if_pos (Or.inl h0)]
  go_enter mx,lE;go_wp2;go_ret;refine⟨dQ (by rw[HU.out];rfl),F,?_,λk hk=>Or.inl hk,dp.refl _ _⟩;rw[HU.out];exact HP
 have bm:IntKind.i64.wrap ((l? ss:Int)-1)=(l? ss:Int)-1:=by simp only[nr];omega
 by_cases h1:(l? ss:Int)-1<=n
 .have HU:m1 (fD ss n=(6,ss)):=by show fD _ _=_;unfold fD;rw[if_pos (Or.inr h1)]
  go_enter mx,lE;go_wp2;go_ret;refine⟨dQ (by rw[HU.out];rfl),F,?_,λk hk=>Or.inl hk,dp.refl _ _⟩;rw[HU.out];exact HP
 obtain⟨m,rfl⟩:∃m:Nat,n=(m:Int):=⟨n.toNat,o!⟩;have hm:m+1<l? ss:=o!;have an:m<l? ss:=o!
 obtain⟨g,rfl⟩:∃g,aS=y? ⟨g,0,x?⟩:=by
  obtain⟨he,_⟩|⟨g,cap,cur,he,_⟩:=W.row.2
  simp only[m9]at he;omega;simp only[m9]at he;exact⟨g,he.1⟩
 have ao:m1 (ja ss m=if m=0 then du (dM ss[m] ss[m+1])else dM ss[m] ss[m+1]):=by show ja _ _=_;unfold ja;rw[dd,dd,cl an,cl hm];rfl
 have HU:m1 (fD ss (m:Int)=if 100<kg (ja ss m)then(4,ss)else(0,ss.take m++((if 0<(ja ss m).length then [ja ss m]else [])++ss.drop (m+2)))):=by show fD _ _=_;unfold fD;rw[if_neg o!,Int.toNat_natCast,kV];rfl
 have aZ:w.cell? ⟨g,m,x?⟩=y? (s? ⟨(eh ss[m]).toArray⟩):=by obtain⟨b',off,e,hc⟩:=fy W.row m (s? ⟨(eh ss[m]).toArray⟩) (by simp[dy,an]);cases e;rw[hZ]at hc;exact hc
 have ba:w.cell? ⟨g,m+1,x?⟩=y? (s? ⟨(eh ss[m+1]).toArray⟩):=by obtain⟨b',off,e,hc⟩:=fy W.row (m+1) (s? ⟨(eh ss[m+1]).toArray⟩) (by simp[dy,hm]);cases e;rw[hZ]at hc;exact hc
 have a3:m1 (∀l∈[ss[m],ss[m+1]],∀e∈l,l? e.name<=gg):=by
  intro l hl e he;simp only[dN,dr,or_false]at hl;obtain rfl|rfl:=hl
  exact nt (W.inv.kM _ (bz an)) e he;exact nt (W.inv.kM _ (bz hm)) e he
 have ap:m1 (fY [ss[m],ss[m+1]]=dM ss[m] ss[m+1]):=by show _=_;unfold fY;simp only[f',ga];rw[sI]
 have a4:m1 (∀e∈dM ss[m] ss[m+1],l? e.name<=gg):=by rw[<-ap.out];exact pI a3
 have ag:m1 ((dM ss[m] ss[m+1]).length<=1000):=by
  have h1:=kq (W.inv.kM _ (bz an));have h2:=kq (W.inv.kM _ (bz hm));have h3:=tB [ss[m],ss[m+1]] 2 i!;simp only[gd]at h3;rw[ap.out]at h3;have h4:gF [ss[m],ss[m+1]]<=1000:=by simp[gF];omega
  show _<=_;omega
 have bn:(0:Int)<=(m:Int):=o!;have bo:(m:Int)<(l? ss:Int):=o!;have bp:(m:Int)+1<(l? ss:Int):=o!;have bq:IntKind.i64.wrap ((m:Int)+1)=(m:Int)+1:=by simp only[nr];omega
 have br:IntKind.i64.wrap ((m:Int)+2)=(m:Int)+2:=by simp only[nr];omega
 have bs:((m:Int)+1).toNat=m+1:=o!;have bt:(0:Int)<=(m:Int)+1:=o!;clear h0;go_enter mx,lE;go_wp2_with fail;have O:(UC b g m cS (eh ss[m]) (eh ss[m+1]) ss.length) w.drew:=⟨aH,aZ,ba⟩;refine gm (S:=UC b g m cS (eh ss[m]) (eh ss[m+1]) ss.length) k! ?_;refine fV 0 ?_ O ?_<|fV 1 ?_ O ?_<|fV 2 ?_ O ?_<|fV 3 ?_ O ?_<|fV 4 ?_ O ?_<|fV 5 ?_ O ?_<|fV 6 ?_ O ?_<|fV 8 ?_ O ?_<|fV 9 ?_ O ?_<|fV 10 ?_ O ?_<|fV 11 ?_ O ?_<|fV 12 ?_ O ?_<|fV 13 ?_ O ?_<|fV 14 ?_ O ?_<|fV 15 ?_ O ?_ ?_
 any_goals(rintro w' ⟨s0,s1,s2⟩;go_simp;first|done|with_reducible rfl)
 refine kL 7 λK' B=>?_;unfold m2;go_simp;refine(pU ss[m] w.drew (W.inv.kM _ (bz _))).mono ?_;rintro e w1 ⟨C,rfl,hC,aI,U⟩;have a5:B? w w1:=⟨U.os,U.tape,U.output,U.size,U.block⟩;have aJ:=a5.size;have ah:(UC b g m cS (eh ss[m]) (eh ss[m+1]) ss.length) w1:=⟨ge U O.1,ge U O.2.1,ge U O.2.2⟩;refine B _ _ ⟨ah,?_⟩;clear B U;refine kL 16 λK' B=>?_;unfold m2;go_simp;refine(pU ss[m+1] w1 (W.inv.kM _ (bz _))).mono ?_;rintro e w2 ⟨D,rfl,hD,aK,aa⟩;have bc:=aa.size;have aL:B? w w2:=a5.trans (aa.mono aJ);have ai:(UC b g m cS (eh ss[m]) (eh ss[m+1]) ss.length) w2:=⟨ge aa ah.1,ge aa ah.2.1,ge aa ah.2.2⟩;have az:eT w2 C ss[m]:=dU.below aI aa;refine B _ _ ⟨ai,?_⟩;clear B aa aI;refine kL 17 λK' B=>?_;unfold m2;go_simp;have a6:=Tp (t:=85) q? az aK;obtain⟨w3,a7⟩:∃w3,w3=w2.alloc (c? #[.map (y? C),.map (y? D)] 85):=⟨_,q?⟩;rw[<-a7]at a6⊢;have ad:B? w2 w3:=by rw[a7];exact(m3 _ _).alloc (h8 _) _
 have aq:=ad.size;have aM:B? w w3:=aL.trans (ad.mono o!);have aj:(UC b g m cS (eh ss[m]) (eh ss[m+1]) ss.length) w3:=⟨ge ad ai.1,ge ad ai.2.1,ge ad ai.2.2⟩;refine B _ _ ⟨aj,?_⟩;clear B ad a7;refine kL 18 λK' B=>?_;unfold m2;go_simp
 refine(uA _ [C,D] [ss[m],ss[m+1]] w3 a6 (by
   have h1:=kq (W.inv.kM _ (bz (o!:m<l? ss)));have h2:=kq (W.inv.kM _ (bz (o!:m+1<l? ss)));simp[gF]
   omega) a3).mono ?_
 rintro e w4 ⟨M,rfl,hM,a8,ae⟩;have bd:=ae.size;have a9:B? w w4:=aM.trans (ae.mono o!);have a':(UC b g m cS (eh ss[m]) (eh ss[m+1]) ss.length) w4:=⟨ge ae aj.1,ge ae aj.2.1,ge ae aj.2.2⟩;refine B _ _ ⟨a',?_⟩;clear B ae;refine fV 19 ?_ a' ?_ ?_;rotate_left
 .rintro w' ⟨s0,s1,s2⟩;go_simp;first|done|with_reducible rfl
 refine gt k! ?_ _;rw[ap.out]at a8;have be:w.1.size<=w4.1.size:=a9.size;have ar:m1 _:=a8;have au:m1 _:=a9;clear O ah ai aj a' a6 a8 az aK a5 aL aM a9 hC hD aJ bc aq bd ap a3;generalize dM ss[m] ss[m+1]=X at *;by_cases av:m=0
 case' pos=>
  have a0:((m:Int)==0)=t?:=beq_iff_eq.2 o!;have aA:m1 (ja ss m=du X):=by show ja _ _=_;rw[ao.out,if_pos av]
  have aN:=pN M _ w4 ar (v! ag.out) a4;clear av ao;go_wp2_with fail;refine aN.mono ?_;rintro e w4 ⟨M,rfl,hN,aO,aP⟩;have ar:m1 _:=aO;have ag:m1 ((du X).length<=1000):=hQ (qo _) ag;have au:m1 (B? w w4):=au.trans (aP.mono be);clear aN aO aP a0 a4;generalize du X=X at *
 case' neg=>
  have aA:m1 (ja ss m=X):=by show ja _ _=_;rw[ao.out,if_neg av]
  have a0:((m:Int)==0)=f?:=beq_eq_false_iff_ne.2 o!;clear av ao a4
 all_goals
  have aQ:=BI M X w4 ar (v! ag.out);go_wp2_with fail;refine aQ.mono ?_;rintro e w6 ⟨rfl,aw⟩;have bu:=aw.size;have Y:m1 (B? w w6):=au.trans (aw.mono au.size);have bf:m1 (eT w6 M X):=dU.below ar aw;have bg:kg X<=1000:=hQ (EB _) ag;clear aQ aw;by_cases ab:100<kg X
  .have af:m1 (fD ss (m:Int)=(4,ss)):=by show fD _ _=_;rw[HU.out,aA.out,if_pos ab]
   have ak:(100:Int)<(kg X:Int):=o!;clear ab;go_wp2;go_ret;refine⟨dQ (by rw[af.out];rfl),F,?_,λk hk=>Or.inl hk,dp.eB Y⟩;rw[af.out];exact tN.below HP Y
  have af:m1 (fD ss (m:Int)=(0,pR ss m X)):=by show fD _ _=_;rw[HU.out,aA.out,if_neg ab];rfl
  have ak:¬(100:Int)<(kg X:Int):=o!;have a1:m1 (Inv buf (pR ss m X)):=by have:=C4 W.inv (m:Int);rw[af.out]at this;exact this
  have aR:m1 (B? w w6.drew):=⟨Y.os,Y.tape,Y.output,Y.size,Y.block⟩;have bv:w6.cell? ⟨b,1,x?⟩=y? (.slice (y? ⟨g,0,x?⟩) ss.length cS):=ge Y aH
  have aT:=Ec M X w6.drew bf (λhp=>a1.kM _ (by
   unfold pR;rw[if_pos hp]
   simp))
  clear ab;go_wp2_with fail;clear ak bg;refine gm (S:=λw'=>True) k! ?_;refine fV 0 ?_ trivial ?_<|fV 1 ?_ trivial ?_<|fV 2 ?_ trivial ?_<|fV 3 ?_ trivial ?_<|fV 5 ?_ trivial ?_<|fV 6 ?_ trivial ?_<|fV 7 ?_ trivial ?_<|fV 8 ?_ trivial ?_ ?_
  any_goals(rintro w' _;go_simp;first|done|with_reducible rfl)
  refine g5 (rs:=[4,9]) k! i! ?_;intro i hi;simp only[dN,dr,or_false]at hi;obtain rfl|rfl:=hi
  case' inl=>refine gv l! λK' B=>?_;rw[if_pos l!];unfold m2;go_simp;refine B _ _ ⟨t!,?_⟩;clear B;refine kL 9 λK' B=>?_
  case' inr=>refine gv l! λK' B=>?_;rw[if_pos l!]
  all_goals
   unfold m2;go_simp;refine aT.mono ?_;rintro e x1 ⟨v1,rfl,aU,aV⟩;have ax:B? w x1:=aR.trans (aV.mono aR.size);have al:x1.1[b]?=y? (c? #[.map (y? Bb),.slice (y? ⟨g,0,x?⟩) ss.length cS,vM,vK] 90 (0,0)):=by rw[ax.block b aY];exact W.blk
   have bh:=dq al 1;refine B _ _ ⟨t!,?_⟩;clear B aT aV
  case' inr=>refine kL 4 λK' B=>?_;unfold m2;go_simp;refine B _ _ ⟨t!,?_⟩;clear B
  all_goals
   have aB:x1.ownsRow 0 9 1 (.slice (y? ⟨g,0,x?⟩) (ss.map eh).length cS) (ss.map eh).length (dy (ss.map eh)):=by rw[ch];exact dK W.row (λk hk=>ax.block k (HF k (W.qc k hk)))
   have aC:=Fo x1 g m cS (ss.map eh) v1 (jD X) aB aU (xc _) (by rw[ch];omega) (by rw[ch];omega);rw[ch]at aC;refine kL 10 λK' B=>?_;unfold m2;go_simp;refine aC.mono ?_;rintro e x2 ⟨v2,rfl,ay,aD,aW⟩;obtain⟨ln,aE⟩:∃ln,ln=((ss.map eh).take m++(jD X++(ss.map eh).drop (m+2))).length:=⟨_,q?⟩;rw[<-aE]at ay;have bi:m1 _:=aE;clear aE;obtain⟨a2,c2,rfl,bw⟩:=dH ay;have aF:x2.1[b]?=y? (c? #[.map (y? Bb),.slice (y? ⟨g,0,x?⟩) ss.length cS,vM,vK] 90 (0,0)):=by rw[aD.block b (eG al) (λe=>gD al aB d! (by rw[e];rfl))];exact al
   refine B _ _ ⟨t!,?_⟩;clear B aC
   have am:x2.ownsRow 0 9 1 (.slice a2 ln c2) (pR ss m X).length (dy ((pR ss m X).map eh)):=by rw[vW,<-ch (f:=eh),vW,<-bi.out];exact ay
   have ac:=W.kM HF ax (aD.mono (λk hk=>by subst hk;rfl)) am (λk hk=>by
    obtain h|h:=aW k hk
    subst h;exact Or.inl rfl
    exact Or.inr h)
   refine fV 11 ?_ trivial ?_<|fV 12 ?_ trivial ?_ ?_
   any_goals(rintro w' _;go_simp;first|done|with_reducible rfl)
   have bj:=dq aF 1;have bk:=dP aF 1;clear ay aD aW am aF aB aU al ax bh;refine kL 13 λK' B=>?_;unfold m2;go_simp;refine B _ _ ⟨t!,gt k! ?_ _⟩;clear B bj bk;obtain⟨x3,aG⟩:∃x3,x3=x2.setCell ⟨b,1,x?⟩ (.slice a2 ln c2):=⟨_,q?⟩;have aq:x3.1.size=x2.1.size:=by rw[aG];simp[ne]
   rw[<-aG]at ac⊢;rw[<-aq]at ac;have aX:m1 (∃F':Nat->Prop,tN vM vK x3 F' b buf (pR ss m X)/\(∀k,F' k->F k\/w.1.size<=k)/\dp F w x3):=Cr W HF ac a1;clear aG aq ac;go_wp2;go_ret;refine⟨dQ (by rw[af.out];rfl),?_⟩;rw[af.out];exact aX
def Ur(O:w?->(Nat->Prop)->Nat->List dD->List (List dD)->Prop)(w:w?)(F:Nat->Prop)(b:Nat)(code:Nat)(buf:List dD)(ss:List (List dD))(e:Ending)(w':w?):Prop:=
 e=e? (n? i? code)/\∃B:Nat->Prop,O w' B b buf ss/\(∀k,B k->F k\/w.1.size<=k)/\dp F w w'
end
section
open Go.RowKit Go.Maps
variable {c:Array v?} {ss:List (List dD)} {ts:List (List Wd)} {buf:List dD} {b n:Nat} {fr:Nat×Nat} {F1 F2:Nat->Prop} {w w':w?}
structure PJ(w:w?)(F1 F2:Nat->Prop)(b:Nat)(buf:List dD)(ss:List (List dD))(ts:List (List Wd)):Prop where
 Wr:∀k,F1 k->k<w.1.size
 VN:∀k,F2 k->k<w.1.size
 apart:∀k,F1 k->F2 k->k=b
 both:∃Bb vS B n vK kn,Fb w F1 b buf ss Bb vS (.map (some B)) vK/\PW w F2 b (.map (some Bb)) vS ts B n vK kn
def PJ.below(h:PJ w F1 F2 b buf ss ts)(U:w.1.size<=w'.1.size)(hb:∀k,k<w.1.size->w'.1[k]?=w.1[k]?):PJ w' F1 F2 b buf ss ts:=by obtain⟨W,Y,h3,Bb,vS,B,n,vK,kn,h4,h5⟩:=h;exact⟨λk O=>h9 (W k O) U,λk O=>h9 (Y k O) U,h3,Bb,vS,B,n,vK,kn,h4.stay λk O=>hb k (W k O),h5.stay λk O=>hb k (Y k O)⟩
def U7{B f e}(h:mu w B n f)(hb:w.1[b]?=y? (c? c e fr)):B≠b:=by rintro rfl;obtain⟨D,⟨es,clock,O,_⟩,_⟩:=h;rw[O]at hb;cases hb
def UA{base v xs}(h:w.ownsRow base 9 1 v n xs)(hb:w.1[b]?=y? (c? c 90 fr)):∀k,v.ownBlock=y? k->k≠b:=by
 rintro k B rfl;obtain⟨rfl,_⟩|⟨g,cap,cur,rfl,_,O,_⟩:=h.2
 cases B;simp only[nw,no]at B;subst B;rw[O]at hb;simp only[no,Obj.cells.injEq]at hb;exact absurd hb.2.1 d!
def PJ.entries{F' buf' ss' Bb vS B vK kn}(h1:∀k,F1 k->k<w.1.size)(h2:∀k,F2 k->k<w.1.size)(h3:∀k,F1 k->F2 k->k=b)(h4:Fb w F1 b buf ss Bb vS (.map (y? B)) vK)(O:PW w F2 b (.map (y? Bb)) vS ts B n vK kn)
  (hp:tN (.map (y? B)) vK w' F' b buf' ss') (hF:∀k,F' k->F1 k\/w.1.size<=k) (W:dp F1 w w'):PJ w' F' F2 b buf' ss' ts:=by
 obtain⟨g1,aa,ab,g2⟩:=hp;have hz:=W.size;have nF:∀k,F2 k->k≠b->w'.1[k]?=w.1[k]?:=λk U ac=>W.block k (h2 k U) λhf=>ac (h3 k hf U);refine⟨g1,λk U=>h9 (h2 k U) hz,λk U Y=>?_,aa,ab,B,n,vK,kn,g2,⟨g2.blk,O.fb,O.fB,O.cnt.stay (nF B O.fB (U7 O.cnt O.blk)),O.room,dK O.row λk U=>nF k (O.qc k U) (UA O.row O.blk k U),O.qc,O.perm,O.ok,O.yW⟩⟩;obtain hf|hf:=hF k U
 exact h3 k hf Y;exact absurd (h2 k Y) o!
end
