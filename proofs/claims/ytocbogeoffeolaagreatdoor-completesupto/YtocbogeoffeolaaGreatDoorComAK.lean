import Derived.Test.YtocbogeoffeolaaGreatDoorComAJ
import Derived.Test.YtocbogeoffeolaaGreatDoorCards
import Derived.Test.YtocbogeoffeolaaGreatDoorTie
import Derived.Conc.LeavingOf
import Derived.Deep.DeepHandedRow
import Derived.Lib.LaidTab
import Derived.LaidMore
import Derived.Stop.LaidErr
set_option linter.all false
set_option maxHeartbeats 8000000
set_option maxRecDepth 1000000
open List renaming map_map->bp,mem_map->bq,getElem_mem->br,getElem?_eq_none->bs,map_append->bt,getElem?_eq_getElem->bu,mem_filter->bv,mem_append->bw,length_set->b0,length_append->b1,map_congr_left->b2,mem_cons_self->b3,getD_eq_getElem?_getD->b4,filter_filter->b6,pairwise_map->b7,filter_congr->b8,ext_getElem?->b9,map_cons->bA,getElem_set->bB,take_of_length_le->bC,length_map->bD,mem_cons->bE,mem_singleton->bF,getElem?_take->bG,take_succ_eq_append_getElem->bH,filter_map->bI,Nodup->bJ,pairwise_iff_getElem->bK,mem_append_right->bL,mem_of_mem_take->bM,mem_cons_of_mem->bN,filter_sublist->bO,filter_append->bP,nodup_append->bQ,getElem?_map->bR,length_take->bS,length_cons->bT,nodup_cons->bU,append_nil->bV,mem_range->bW,map->bX,range->bY
open Array renaming getElem?_eq_some_iff->bZ,getElem?_eq_getElem->cb,getElem_ofFn->cc,getElem?_toList->cd,getElem?_mapIdx->ce,replicate->cf,set!_eq_setIfInBounds->ck,getElem?_eq_none->cn,getElem?_modify->cq,sizeOf_getElem->cr,ofFn->ct,getElem_map->cv,ext->cw
open Nat renaming le_refl->cx,lt_of_lt_of_le->cy,le_trans->cz,zero_le->c5,mul_le_mul_right->c6,zero_add->c7,mod_one->cA
open Classical renaming choose_spec->cC,propDecidable->cD,choose->cE,not_not->cF,axiomOfChoice->cG
open Go renaming maxLen->cH,Calls->cI,goexitEntry->cJ,FuncId->cK,cell_later->cL,TypeId->cM,yielded->cN,results->cO,info_parts->cP
open Go.World renaming cell?->cQ,ownsRow_nil->cR
open Go.Region renaming ready->cS,wanted->cT
open Go.RowKit renaming Hid->cU,run_makeMap->cV
open Option.some renaming injEq->cW,inj->cX
open Go.RowKit.Below renaming refl->cY,heap_setCell->cZ,heap_alloc->da
open Go.Region.linearise renaming go->db
open Go.Value renaming ownBlock->dc,okWide->de
open Go.Value.slice renaming injEq->df
open Prod renaming fst->dg,snd->dh
open Int renaming eq_ofNat_of_zero_le->di,not_lt->dj
open List.Perm renaming refl->dl,append->dr
open Go.Sort renaming putCells->dt,flatK->dw,size_flatK->dB
open Go renaming undef->dN
open And renaming intro->A?
open Bool renaming false->f?,true->t?
open Go renaming Program->P?,Value->v?,World->w?
open Go.Ending renaming returned->e?
open Go.IntKind renaming i64->i?
open Go.Item renaming inRegion->r?
open Go.Obj renaming cells->c?
open Go.Value renaming int->n?,pointer->p?,string->s?
open List renaming length->l?,toArray->a?
open Option renaming none->x?,some->y?
namespace Go.Proofs.YtocbogeoffeolaaGreatDoor
open Go.Proofs.Tryz
section
open Go.RowKit
variable {cs cs':Array v?} {f:Nat×Nat} {e e':cM} {F:v?->Prop} {w:w?}
def lq(F:v?->Prop)(w:w?)(v:v?):Prop:=∀g cs e f,v.ownBlock=y? g->w.1[g]?=y? (c? cs e f)->∀u∈cs.toList,F u
def Ix(F)(w)(n c):lq F w (.slice x? n c):=nofun
def lq.stay{w':w?}{v}(h:lq F w v)(U:∀g,v.ownBlock=y? g->w'.1[g]?=w.1[g]?):lq F w' v:=λg cs e f O Y=>h g cs e f O (by rw[<-U g O];exact Y)
def tW{zc k u}(h:u∈(Builtin.zeroCells zc k).toList):u∈zc.toList:=by
 unfold Builtin.zeroCells at h;simp at h;obtain⟨i,O,rfl⟩:=h
 have U:0<zc.size:=by
  obtain h|h:=Nat.eq_zero_or_pos zc.size
  rw[h]at O;simp at O;exact h
 have hm:i % zc.size<zc.size:=Nat.mod_lt _ U;rw[getElem!_pos zc _ hm];simp
def KH(h:(w.drew.alloc (c? cs e)).1[w.1.size]?=y? (c? cs' e' f)):cs'=cs:=by have O:(w.1.push _)[w.1.size]?=y? _:=h;simp at O;exact O.1.symm
def Im{g cur f'}(O:w.1[g]?=y? (c? cur e f))(h:(w.setRow g cs).1[g]?=y? (c? cs' e' f')):cs'=cs:=by unfold World.setRow at h;simp only[cq,if_true,O,Option.map_some,cW,Obj.cells.injEq]at h;exact h.1.symm
def Iu{P base t ty i}{z:v?}{size bytes}(ht:P.underlying t=y? (.slice e))(hi:P.info? e=y? i)(hz:i.zero=y? z)
  (U:i.size=size) (ak:i.bytes=bytes) (au:z.cells.size=size) (ap:0<size)
  {v} {n} {xs} (ab:w.ownsRow base e size v n xs)
  {x} {m} {news} (hx:iu w size x m news) (h1:∀u∈news,u.oneCell'=t?)
  (aa:(n+m)*bytes<=140737488355328) (al:n+m<=cH) (aq:0<m) {v'} {w'} (hr:(Builtin.append_ #[t,t] ty #[v,x]).run P w=.ok v' w')
  (hF:lq F w v) (hN:∀u∈news,F u) (hZ:∀u∈z.cells.toList,F u):lq F w' v':=by
 obtain⟨a,cap,rfl,hc,hm,hl,am⟩:=hx;have an:0<l? news:=by rw[hl];exact Nat.mul_pos aq ap
 obtain⟨b,off,ha,_⟩:=am 0 _ (bu an);subst ha
 have Y:∀j u,news[j]?=y? u->w.cell? ((⟨b,off,x?⟩:Addr).add j)=y? u:=by intro j u hj;obtain⟨b',ar,he,ah⟩:=am j u hj;obtain⟨rfl,rfl,_⟩:=he;rw[Addr.add_lit];exact ah
 have ag:l? news=m*i.size:=by rw[U];exact hl
 obtain⟨rfl,rfl⟩|⟨g,c,cur,rfl,av,hg,aw,ax,ai,aj⟩:=ab.2
 have ac:=run_append_nil (P:=P) w t ty e i z ht hi hz _ m cap news ag Y o! (by simp only[cH]at al;omega) (by rw[ak];simp only[c7]at aa;omega);rw[ac]at hr;obtain⟨rfl,rfl⟩:=hr;intro g cs e' f hg ai u O;simp only[dc,cW]at hg;subst hg;have:=KH ai;subst this;simp at O;obtain O|O:=O
 exact hN u O;exact hZ u (tW (u! O));by_cases ad:n+m<=c;have ao:n*i.size+l? news<=cur.size:=by rw[ag,ai,U,<-Nat.add_mul];exact c6 _ ad
 have ac:=run_append_room (P:=P) w t ty e i ht hi g n c cur hg _ m cap news ag Y h1 ad ao;rw[ac]at hr;obtain⟨rfl,rfl⟩:=hr;intro g' cs e' f ae af u O;simp only[dc,cW]at ae;subst ae;have:=Im hg af;subst this;simp at O;obtain O|O|O:=O
 exact hF g cur e _ q? hg u (bM O);exact hN u O;exact hF g cur e _ q? hg u (List.mem_of_mem_drop O);have holds:=ab.cells (g:=g) rfl;have ac:=run_append_grow (P:=P) w t ty e i z ht hi hz _ n c xs (by rw[U];exact ab.1) holds _ m cap news ag Y o! (by simp only[cH]at al;omega) (by rw[ak];exact growslice_fits o! aa);rw[ac]at hr;obtain⟨rfl,rfl⟩:=hr;intro g' cs e' f ae af u O;simp only[dc,cW]at ae;subst ae;have:=KH af;subst this;simp at O;obtain O|O|O:=O
 rw[<-aj]at O;exact hF g cur e _ q? hg u (bM O);exact hN u O;exact hZ u (tW (u! O))
def wX{P}(w){ops rest o a Q}(af:o.guard=x?)(s x)(t)
  (ho:o.op=.call {callee:=.builtin .append,args:=#[s,x],argTypes:=#[t,t]})
  (base) (e) (i) (z) (size bytes) (ht:P.underlying t=y? (.slice e)) (hi:P.info? e=y? i) (hz:i.zero=y? z)
  (U:i.size=size) (ab:i.bytes=bytes) (ac:z.cells.size=size) (ad:0<size)
  (v) (n) (xs) (hs:a.eval s=v) (Y:w.ownsRow base e size v n xs)
  (y) (m) (news) (hx:a.eval x=y) (hy:iu w size y m news) (h1:∀u∈news,u.oneCell'=t?)
  (O:(n+m)*bytes<=140737488355328) (ae:n+m<=cH) (aa:base<=w.1.size) (ag:0<m) (hF:lq F w v) (hN:∀u∈news,F u) (hZ:∀u∈z.cells.toList,F u)
  (h:∀v' w',w'.ownsRow base e size v' (n+m) (xs++news)->w.grownBy w' v.ownBlock->lq F w' v'->wpList P ops Q rest (a.put o.dst v') w'):wpList P ops Q (o::rest) a w:=by
 refine wpList_plain af λ_ hK=>?_;obtain⟨v',w',hr,h2,h3,h4⟩:=rI (P:=P) w base t o.type e i z size bytes ht hi hz U ab ac ad v n xs Y y m news hy h1 O ae aa;have h5:=Iu ht hi hz U ab ac ad Y hy h1 O ae ag hr hF hN hZ;unfold Oper.wp execOp;simp only[ho,resolve,invoke,builtin,Sem.run_bind,Sem.run_pure,Result.andThen_ok,List.map_toArray,bA,List.map_nil,hs,hx,hr];exact hK _ _ (h v' w' h2 h3 h5)
open Go.Maps
def Nl:(prog.info? 96).map (λi=>(i.zero,i.size,i.bytes))=y? (y? (.agg #[s? ⟨#[]⟩,s? ⟨#[]⟩,n? i? 0,n? i? 0]),4,48):=by kernel_rfl
def qS{O:Type}{vis rst rst' es}{e:O}(h:(vis++rst).Perm es)(U:rst.Perm (e::rst')):((vis++[e])++rst').Perm es:=by refine List.Perm.trans ?_ h;rw[List.append_assoc];exact(dl vis).append U.symm
def yG{w:w?}{base e size n:Nat}{v xs}(h:w.ownsRow base e size v n xs)(o):(w.alloc o).ownsRow base e size v n xs:=dG h (λk O=>by rw[jL _ _ (h.lt k O).2])
def C0(x):∀v∈nN x,Flat v:=by
 intro v O;simp[nN]at O;obtain rfl|rfl|rfl|rfl:=O
 exact .string _;exact .string _;exact .int ..;exact .int ..
def Nk:∀u∈(Value.agg #[s? ⟨#[]⟩,s? ⟨#[]⟩,n? i? 0,n? i? 0]).cells.toList,Flat u:=by
 intro v O;simp[Value.cells]at O;obtain rfl|rfl:=O
 exact .string _;exact .int ..
def Ps{w:w?}{b e t}(hb:b=w.1.size):iu (w.alloc (c? #[s? ⟨a? e.name⟩,s? ⟨a? e.text⟩,n? i? e.dn,n? i? e.dE] t)) 4 (.slice (y? ⟨b,0,x?⟩) 1 1) 1 (nN e):=by
 refine⟨y? _,1,q?,cx _,by unfold cH;omega,q?,λj u O=>⟨b,0,q?,?_⟩⟩;rw[World.cell?_alloc_at _ _ _ _ hb];match j,O with
 |0,O=>simpa[nN]using O|1,O=>simpa[nN]using O|2,O=>simpa[nN]using O|3,O=>simpa[nN]using O|j+4,O=>simp[nN]at O
def Dv(B)(ms)(w)(hs:J0 w B ms)(hl:ms.length<=1048576)(aC:∀m∈ms,m.yv<=1000/\m.name.length<=cH) :
  cI prog 81 #[.map (y? B)] w λen w'=>∃v U,en=.returned v/\List.Perm U ms/\w'.ownsRow w.1.size 96 4 v (eE ms U).length (jj (eE ms U))/\B? w w'/\lq Flat w' v:=by
 obtain⟨i0,hi,aO,aP,aQ⟩:=cP Nl;have bg:=@cV prog;have HS:cU (J0 w B ms):=hs;have a5:cU (∀m∈ms,m.yv<=1000/\m.name.length<=cH):=aC;have bh:=hs.lt;obtain⟨w0,ay⟩:∃w0,w.alloc (.map #[] 0)=w0:=⟨_,q?⟩;have a3:w0.1.size=w.1.size+1:=by rw[<-ay];simp
 have hb0:B? w w0:=by rw[<-ay];exact(cY _ _).alloc (cx _) _
 have hM0:dU prog 9 w0 w.1.size []:=by rw[<-ay];exact dU.made w
 have aD:cU (J0 w0 B ms):=jT.below hs hb0;clear hs aC;go_enter func81,ntmps81;go_wp2_with (first|(at_range;refine tX _ rfl _ rfl rfl aD.out ?_;intro w1 hrg0 hg0 am));rw[a3]at hrg0 am⊢;clear ay;go_frame;go_loopw [4] (λ_ wr=>∃(U ab:List qe)(nl:List (Wd×v?)),(U++ab).Perm ms/\mR wr B (w.1.size+1) ms ab/\dU prog 9 wr w.1.size nl/\nl.length<=U.length/\(∀x,nS nl x (.int i? 0)=.int i? (fp U x:Nat))/\B? w wr/\w.1.size+2<=wr.1.size) (λ_ wr=>wr.rangeLeft B (w.1.size+1))
 case atStart=>exact⟨[],ms,[],dl _,hrg0,dU.kept hM0 hg0 i!,cx _,λ_=>rfl,hb0.grown hg0 hb0.size (λk hk=>by cases hk),o!⟩
 case round=>
  obtain⟨U,ab,nl,fA,hr,hm,aR,aE,hb,hz⟩:=hrel;have HP:cU ((U++ab).Perm ms):=fA;have HR:cU (mR wr B (w.1.size+1) ms ab):=hr;have HM:cU (dU prog 9 wr w.1.size nl):=hm;have az:cU (∀x,nS nl x (.int i? 0)=.int i? (fp U x:Nat)):=aE;have HB:cU (B? w wr):=hb
  have aF:U.length<=ms.length:=by have h2:=fA.length_eq;rw[b1]at h2;omega
  clear fA hr hb hm aE aD hM0 hb0 a3 hrg0 hg0 am;go_wp2_with (first|(at_next;refine vz _ q? _ q? (w.1.size+1) ab q? HR.out ?_ ?_))
  .intro h0
   have hE:U.Perm ms:=by have:=HP.out;rw[h0,bV]at this;exact this
   have aS:cU (∀x,nS nl x (.int i? 0)=.int i? (fp ms x:Nat)):=by intro x;rw[az.out x,xP hE]
   have aG:cU (J0 wr B ms):=gZ.owns HR.out;clear h0 hE HP HR az;go_wp2_with (first|(at_range;refine tX _ q? _ q? q? aG.out ?_;intro w1 hrg0 hg0 am));have aH:w.1.size+3<=w1.1.size:=o!;have aI:wr.1.size<w1.1.size:=o!;have HB1:cU (B? w w1):=HB.out.grown hg0 HB.out.size (λk hk=>by cases hk);have HM1:cU (dU prog 9 w1 w.1.size nl):=dU.kept HM.out hg0 i!;have HR1:cU (mR w1 B wr.1.size ms ms):=hrg0;obtain⟨r,hr⟩:∃r,r=wr.1.size:=⟨_,q?⟩;rw[<-hr]at HR1 aI hz am⊢;have bi:w.1.size+2<=r:=hz;clear hrg0 hg0 aG HM HB aR aF hz HS;clear hr;generalize wr=wo at *;go_frame;go_loopw [6] (λg wr=>∃(U ab:List qe),(U++ab).Perm ms/\mR wr B r ms ab/\dU prog 9 wr w.1.size nl/\wr.ownsRow (r+1) 96 4 g (eE ms U).length (jj (eE ms U))/\B? w wr/\r+1<=wr.1.size/\lq Flat wr g) (λ_ wr=>wr.rangeLeft B r)
   case atStart=>exact⟨[],ms,dl _,HR1.out,HM1.out,cR _ _ _ _,HB1.out,o!,Ix _ _ _ _⟩
   case round=>
    obtain⟨O,aj,fA,hr,hm,an,hb,hz,aJ⟩:=hrel;have HP:cU ((O++aj).Perm ms):=fA;have HR:cU (mR wr B r ms aj):=hr;have HM:cU (dU prog 9 wr w.1.size nl):=hm;obtain⟨ag,cg,rfl,bj⟩:=dL an;have HO:cU (wr.ownsRow (r+1) 96 4 (.slice ag (eE ms O).length cg) (eE ms O).length (jj (eE ms O))):=an;have HB:cU (B? w wr):=hb;have HF:cU (lq Flat wr (.slice ag (eE ms O).length cg)):=aJ;clear aJ
    have aF:(eE ms O).length<=ms.length:=by have h1:=CJ ms O;have h2:=fA.length_eq;rw[b1]at h2;omega
    clear fA hr hb hm an HR1 HM1 HB1 am aH aI;go_wp2_with (first|(at_next;refine vz _ q? _ q? r aj q? HR.out ?_ ?_))
    .intro h0
     have hE:O.Perm ms:=by have:=HP.out;rw[h0,bV]at this;exact this
     have HE:cU _:=hE;clear h0 hE HP HR;go_wp2;go_ret;exact⟨_,O,q?,HE.out,fj HO.out o!,HB.out,HF.out⟩
    intro m Y w2 ai ac ae ad a6 ao;have ap:=gZ.lt ac;have aq:=jT.lt (gZ.owns ac);have HB1:cU (B? w w2):=mT HB.out ad o!;have HR1:cU (mR w2 B r ms Y):=ac;have HM1:cU (dU prog 9 w2 w.1.size nl):=dU.stay HM.out (ad.block _ o! j!);have a7:cU (w2.rangeLeft B r<wr.rangeLeft B r):=ae;have ar:cU (aj.Perm (m::Y)):=ai;have a8:cU (w2.ownsRow (r+1) 96 4 (.slice ag (eE ms O).length cg) (eE ms O).length (jj (eE ms O))):=dG HO.out (λk hk=>ad.block k (HO.out.lt k hk).2 (by have:=(HO.out.lt k hk).1;intro e;cases e;omega));have aT:cU (lq Flat w2 (.slice ag (eE ms O).length cg)):=HF.out.stay (λk hk=>ad.block k (HO.out.lt k hk).2 (by have:=(HO.out.lt k hk).1;intro e;cases e;omega));have aK:r+1<=w2.1.size:=o!;have au:=a5.out m (HP.out.mem_iff.1 (bL _ (ai.mem_iff.2 (b3 ..))));have av:cU _:=Gt ms O m;have a0:cU _:=au;have bk:fp ms m.name<=1000:=wI ms m.name (λm hm=>(a5.out m hm).1);clear ai ac ae ad a6 au HR HM HB HO;obtain⟨sg,at',nm,wd,n2,tx,wt,tg⟩:=m;simp only[qe.val,QK]at ao⊢;obtain⟨wa,af⟩:∃wa,wa=((w2.alloc (.cells #[.int i? (sg:Int),.int i? (at':Int)] 170)).alloc (.cells #[.int i? (sg:Int),.int i? (at':Int),.string ⟨a? nm⟩,.bool wd,.string ⟨a? n2⟩,.string ⟨a? tx⟩,.int i? wt,.int i? tg] 172)):=⟨_,q?⟩;have aa:B? w2 wa:=by rw[af];exact(((cY _ _).alloc (cx _) _).alloc i! _)
    have bl:wa.1.size=w2.1.size+2:=by rw[af];simp
    have a1:cU (mR wa B r ms Y):=gZ.stay HR1.out (aa.block B aq) (aa.block _ ap);have a2:cU (dU prog 9 wa w.1.size nl):=dU.below HM1.out aa;have ak:cU (wa.ownsRow (r+1) 96 4 (.slice ag (eE ms O).length cg) (eE ms O).length (jj (eE ms O))):=dG a8.out (λk hk=>aa.block k (a8.out.lt k hk).2);have a9:cU (lq Flat wa (.slice ag (eE ms O).length cg)):=aT.out.stay (λk hk=>aa.block k (a8.out.lt k hk).2);have a':cU (B? w wa):=HB1.out.trans (aa.mono o!)
    have HLa:cU (wa.rangeLeft B r<wr.rangeLeft B r):=by show _<_;rw[eS.lj (aa.block B aq) (aa.block _ ap)];exact a7.out
    cases wd with
    |false=>
     have ah:cU (eE ms (O++[⟨sg,at',nm,f?,n2,tx,wt,tg⟩])=eE ms O):=by show _=_;rw[av.out];simp
     clear aa;go_wp2;rw[<-af];go_roundw
     case rel=>exact⟨O++[⟨sg,at',nm,f?,n2,tx,wt,tg⟩],Y,qS HP.out ar.out,a1.out,a2.out,by rw[ah.out];exact ak.out,a'.out,o!,a9.out⟩
     case measure=>exact HLa.out
    |true=>
     have al:=(a2.out.look (z:=.int i? 0) underlying9 underlying179 k! nm a0.out.2).1;rw[aS.out nm,af]at al;by_cases hq:sg=fp ms nm
     .have ah:cU (eE ms (O++[⟨sg,at',nm,t?,n2,tx,wt,tg⟩])=eE ms O++[⟨n2,f?,tx,wt,tg⟩]):=by show _=_;rw[av.out];simp[hq,qe.Cc]
      rw[<-hq]at al;clear aa hq
      go_wp2_with (first
       |(at_builtin;rw[<-af];refine wX (F:=Flat) _ rfl _ _ 82 rfl (r+1) 96 i0 _ 4 48 underlying82 hi aO aP aQ rfl d! _ _ _ rfl (yG ak.out _) _ 1 _ rfl (Ps (e:=⟨n2,f?,tx,wt,tg⟩) o!) (Gq _) ?c1 ?c2 ?c3 d! (a9.out.stay (λk hk=>jL _ _ (ak.out.lt k hk).2)) (C0 _) Nk ?_))
      case c1=>omega
      case c2=>unfold cH;omega
      case c3=>first|omega|(simp;omega)
      intro v3 w3 aw ax a4;rw[<-af]at ax;have bf:wa.1.size<=w3.1.size:=by have:=ax.size;simp at this;omega
      have hold:∀j,j<wa.1.size->j<r+1->w3.1[j]?=wa.1[j]?:=λj hj bm=>by rw[ax.block j j! (λe=>by have:=(ak.out.lt j e.symm).1;omega),jL _ _ hj]
      have aL:B<wa.1.size:=jT.lt (gZ.owns a1.out);have aU:cU (mR w3 B r ms Y):=gZ.stay a1.out (hold B aL o!) (hold r o! o!);have aV:cU (dU prog 9 w3 w.1.size nl):=dU.stay a2.out (hold _ o! o!)
      have aW:cU (w3.ownsRow (r+1) 96 4 v3 (eE ms (O++[⟨sg,at',nm,t?,n2,tx,wt,tg⟩])).length (jj (eE ms (O++[⟨sg,at',nm,t?,n2,tx,wt,tg⟩])))):=by show w3.ownsRow _ _ _ _ _ _;rw[ah.out,Hv,b1];exact aw
      have aX:cU (B? w w3):=(a'.out.alloc o! _).grown ax j! (λb hb=>by have:=(ak.out.lt b hb).1;omega)
      have HL3:cU (w3.rangeLeft B r<wr.rangeLeft B r):=by show _<_;rw[eS.lj (hold B aL o!) (hold r o! o!)];exact HLa.out
      have aY:cU (lq Flat w3 v3):=a4;clear a4 aw ax hold al ao af;go_wp2;go_roundw
      case rel=>exact⟨O++[⟨sg,at',nm,t?,n2,tx,wt,tg⟩],Y,qS HP.out ar.out,aU.out,aV.out,aW.out,aX.out,o!,aY.out⟩
      case measure=>exact HL3.out
     have ah:cU (eE ms (O++[⟨sg,at',nm,t?,n2,tx,wt,tg⟩])=eE ms O):=by show _=_;rw[av.out];simp[hq]
     have bn:¬((sg:Int)=(fp ms nm:Int)):=o!;clear aa;go_wp2;rw[<-af];go_roundw
     case rel=>exact⟨O++[⟨sg,at',nm,t?,n2,tx,wt,tg⟩],Y,qS HP.out ar.out,a1.out,a2.out,by rw[ah.out];exact ak.out,a'.out,o!,a9.out⟩
     case measure=>exact HLa.out
  intro m Y w2 ai ac ae ad a6 ao;have ap:=gZ.lt ac;have aq:=jT.lt (gZ.owns ac);have HB1:cU (B? w w2):=mT HB.out ad o!;have HR1:cU (mR w2 B (w.1.size+1) ms Y):=ac;have HM1:cU (dU prog 9 w2 w.1.size nl):=dU.stay HM.out (ad.block _ o! i!);have a7:cU (w2.rangeLeft B (w.1.size+1)<wr.rangeLeft B (w.1.size+1)):=ae;have ar:cU (ab.Perm (m::Y)):=ai;have aK:w.1.size+2<=w2.1.size:=o!;have au:=a5.out m (HP.out.mem_iff.1 (bL _ (ai.mem_iff.2 (b3 ..))));have aM:=Hl U m;have av:cU _:=aM;have a0:cU _:=au;clear ai ac ae ad a6 aM au;obtain⟨sg,at',nm,wd,n2,tx,wt,tg⟩:=m;simp only[qe.val,QK]at ao⊢
  have aA:cU (dU prog 9 ((w2.alloc (.cells #[.int i? (sg:Int),.int i? (at':Int)] 170)).alloc (.cells #[.int i? (sg:Int),.int i? (at':Int),.string ⟨a? nm⟩,.bool wd,.string ⟨a? n2⟩,.string ⟨a? tx⟩,.int i? wt,.int i? tg] 172)) w.1.size nl):=
   dU.below HM1.out (((cY _ _).alloc (cx _) _).alloc i! _)
  have al:=(aA.out.look (z:=.int i? 0) underlying9 underlying179 k! nm a0.out.2).1;rw[az.out nm]at al;go_wp2_with (first|(at_mapUpdate;refine kS _ q? _ _ _ 179 q? 3 underlying9 underlying179 q? aA.out ?c1 nm a0.out.2 q? _ q? ?_))
  case c1=>unfold cH;omega
  intro w5 aN aB bo;have aZ:cU _:=aN;have aa:B? w2 ((w2.alloc (.cells #[.int i? (sg:Int),.int i? (at':Int)] 170)).alloc (.cells #[.int i? (sg:Int),.int i? (at':Int),.string ⟨a? nm⟩,.bool wd,.string ⟨a? n2⟩,.string ⟨a? tx⟩,.int i? wt,.int i? tg] 172)):=(((cY _ _).alloc (cx _) _).alloc i! _);have hold:∀j,j<w2.1.size->j≠w.1.size->w5.1[j]?=w2.1[j]?:=λj hj ba=>(aB.block j j! (by simp;exact λe=>ba e)).trans (aa.block j hj);have bc:cU (mR w5 B (w.1.size+1) ms Y):=gZ.stay HR1.out (hold B aq o!) (hold _ ap o!)
  have HL5:cU (w5.rangeLeft B (w.1.size+1)<wr.rangeLeft B (w.1.size+1)):=by show _<_;rw[eS.lj (hold B aq o!) (hold _ ap o!)];exact a7.out
  have bd:cU (B? w w5):=by show Below _ _ _;refine(HB1.out.trans (aa.mono o!)).grown aB j! (λb hb=>?_);cases hb;exact cx _
  have be:w.1.size+2<=w5.1.size:=o!;clear al aB aN hold aa aA ao;go_wp2;go_roundw
  case rel=>refine⟨U++[⟨sg,at',nm,wd,n2,tx,wt,tg⟩],Y,_,qS HP.out ar.out,bc.out,aZ.out,?_,λx=>?_,bd.out,be⟩;have:=QF nl nm (.int i? (max (fp U nm:Int) (sg:Int)));rw[b1,List.length_singleton];omega;rw[LL,av.out x,az.out x];by_cases e:x=nm;subst e;rw[if_pos q?,if_pos rfl];simp;omega;rw[if_neg e,if_neg (λh=>e h.symm)]
  case measure=>exact HL5.out
end
section
open Go.RowKit Go.Sort D
variable {F cur:Array v?}
def Rv(x y):Dt x y<0↔x<y:=by unfold Dt;split;exact⟨λ_=>a!,λ_=>o!⟩;split<;>constructor<;>intro h<;>omega
def Cf(x y):Dt x y=0↔x=y:=by unfold Dt;split;constructor<;>intro h<;>omega;split<;>constructor<;>intro h<;>omega
def Uw(x y):ltOf Vp x y=t?↔eU x y=t?:=by unfold ltOf Vp eU;rw[decide_eq_true_eq];by_cases h:x.dn=y.dn;rw[if_pos h,if_neg (by rw[cF];exact(Cf ..).2 h.symm)];by_cases O:dC x=dC y;rw[if_pos O,if_neg (by rw[cF];exact(tw ..).2 O),yR];rw[if_neg O,if_pos (λe=>O ((tw ..).1 e)),yR];rw[if_neg h,if_pos (λe=>h ((Cf ..).1 e).symm),Rv];simp
def Cd(x y):eU x y=t?\/(x.dn=y.dn/\dC x=dC y/\x.name=y.name)\/eU y x=t?:=by
 unfold eU;by_cases h:x.dn=y.dn;rw[if_pos h,if_pos h.symm];by_cases U:dC x=dC y;rw[if_pos U,if_pos U.symm];obtain O|O|O:=jZ ..
 exact .inl O;exact .inr (.inl ⟨h,U,O⟩);exact .inr (.inr O);rw[if_neg U,if_neg (λe=>U e.symm)];obtain O|O|O:=jZ ..
 exact .inl O;exact absurd O U;exact .inr (.inr O);rw[if_neg h,if_neg (λe=>h e.symm)];simp only[decide_eq_true_eq];omega
def Jn{x y z}(h:x.dn=y.dn/\dC x=dC y/\x.name=y.name)(O:eU x z=t?):eU y z=t?:=by unfold eU at *;rw[<-h.1,<-h.2.1,<-h.2.2];exact O
def vR(e:dD):dD:={e with text:=e.text.take 1048576}
def Dr{e}(h:l? e.text<=1048576):vR e=e:=by unfold vR;rw[bC h]
def Ge(e):(vR e).text.length<=1048576:=by show(e.text.take _).length<=_;rw[bS];omega
def U8(x y:dD):Int:=Vp (vR x) (vR y)
def xp(e:dD):List v?:=nN (vR e)
def xl(x y):ltOf U8 x y=t?↔eU (vR x) (vR y)=t?:=Uw ..
def SL:SWO (ltOf U8) where
 irrefl x:=by
  cases h:ltOf U8 x x with
  |false=>rfl|true=>rw[xl,vQ]at h;cases h
 trans x y z h1 h2:=by rw[xl]at *;exact pM h1 h2
 ntrans x y z h1 h2:=by
  cases O:ltOf U8 x z with
  |false=>rfl|true=>
   rw[xl]at O;have n1:¬eU (vR x) (vR y)=t?:=by rw[<-xl,h1];simp
   have n2:¬eU (vR y) (vR z)=t?:=by rw[<-xl,h2];simp
   obtain h|h|h:=Cd (vR x) (vR y)
   exact absurd h n1;exact absurd (Jn h O) n2;exact absurd (pM h O) n2
def OO(blk off size)(w):CmpLays prog 84 #[] xp 4 U8 blk off size w:=by intro m os O _ x y;refine(EM _ _ _ (Ge x) (Ge y)).mono ?_;rintro e w' ⟨rfl,h⟩;exact⟨q?,PL h⟩
def PF(x):∀v∈xp x,v.oneCell'=t?:=Gq _
def wC(es):(jj es).length=l? es*4:=by
 induction es with
 |nil=>rfl|cons a l O=>
  have e:jj (a::l)=nN a++jj l:=by simp[jj]
  rw[e];simp[nN];omega
def zn(es:List dD)(h:∀e∈es,l? e.text<=1048576):(dw xp 4 es.toArray).toList=jj es:=by
 apply b9;intro j;by_cases Y:j<l? es*4;have hs:j<(dw xp 4 es.toArray).size:=by simpa using Y
 have U:j / 4<l? es:=o!;have e1:es.toArray[j / 4]! = es[j / 4]:=by rw[getElem!_pos _ _ (u! U)];simp
 have g:=get_flatK xp 4 es.toArray j (u! Y);rw[e1]at g;have O:=Dr (h _ (br U));unfold xp at g;rw[O]at g;have:=BQ es _ (j % 4) U o!;rw[(o!:j / 4*4+j % 4=j)]at this;rw[this];have O:j % 4<(nN es[j / 4]).length:=by simp[nN];omega
 rw[getElem!_pos (nN _) _ O,getElem!_pos _ j hs]at g;rw[bu O,<-g,cd,cb hs];rfl;rw[bs j!,bs (by rw[wC];omega)]
def LW{w}{base e n m cap g:Nat}{O:List dD}(h:w.ownsRow base e 4 (.slice (y? ⟨g,0,x?⟩) m cap) n (jj O))(hn:n=l? O)(hb:∀e∈O,l? e.text<=1048576):HoldsK xp 4 w g 0 O.toArray:=by
 subst hn;intro j hj;rw[dB]at hj;have hs:j<(dw xp 4 O.toArray).size:=by simpa using hj
 have U:(jj O)[j]?=y? ((dw xp 4 O.toArray)[j]!):=by rw[<-zn O hb,getElem!_pos _ j hs,cd,cb hs]
 obtain⟨h0,_⟩|⟨g',aa,cur,he,_,hg,_,_,ab,Y⟩:=h.2
 simp at h0;obtain⟨⟨rfl,_⟩,_,rfl⟩:=he;refine⟨?_,?_⟩;rw[dq hg];rw[<-Y,bG,if_pos o!]at U;simpa using U;simp[World.frozen?,hg]
def Qa(h:F.size<=cur.size):(dt id 0 F cur).toList.take F.size=F.toList:=by apply b9;intro j;by_cases O:j<F.size;rw[bG,cd];unfold dt;rw[ce,cb o!];simp only[Option.map_some,c5,c7,true_and,O,if_true,Nat.sub_zero,id];rw[getElem!_pos F j O,cd,cb O];rw[bs j!,bs j!]
def Rw{u}(h:u∈(dt id 0 F cur).toList):u∈F.toList\/u∈cur.toList:=by unfold dt at h;simp at h;obtain⟨i,U,rfl⟩:=h;split;rename_i O;rw[getElem!_pos F i O];simp;simp
def OZ(base)(au)(cu)(es)(w:w?)(U:w.ownsRow base 96 4 (.slice au es.length cu) es.length (jj es))(am:(es.map dD.name).Nodup)(hl:l? es<=1048576)(hb:∀e∈es,l? e.text<=1048576)(ah:lq Flat w (.slice au es.length cu)) :
  cI prog 83 #[.slice au es.length cu,.func (.func 84) #[] #[]] w λe w2=>e=e? (.tuple #[])/\Below base w w2/\
   ∃L,L.Perm es/\L.Pairwise (λx y=>eU x y=t?)/\w2.ownsRow base 96 4 (.slice au es.length cu) es.length (jj L)/\lq Flat w2 (.slice au es.length cu):=by
 obtain⟨he,hn⟩|⟨g,cap,cur,he,Y,ac,h1,h2,h3,h4⟩:=U.2
 have hG:es=[]:=List.length_eq_zero_iff.1 (u! hn);subst hG;have O:=AnyF.slices_SortFunc_none KO au cu (.func (.func 84) #[] #[]) w;change cI prog 83 _ _ _ at O;refine O.mono ?_;rintro e w2 ⟨rfl,rfl⟩;exact⟨q?,cY _ _,[],dl _,List.Pairwise.nil,U,ah⟩;simp only[df]at he;obtain⟨rfl,_,rfl⟩:=he;have ad:g<w.1.size:=(bZ.1 ac).1
 have O:=AnyQ.slices_SortFunc KO 4 isAgg96 sizeOf96 xp (λ_=>rfl) PF U8 SL 84 #[] g 0 cu es.toArray w
  (enters_of func84 k! q?) (OO g 0 _ w) (LW U q? hb) ad j!
 change cI prog 83 _ _ _ at O;refine O.mono ?_;rintro e w2 ⟨rfl,d',nq,os,hp,hs,rfl⟩;have ae:d'.size=l? es:=by rw[hp.1];simp
 have ai:(sortWorldK xp 4 w g 0 nq d' os).1[g]?=y? (c? (dt id 0 (dw xp 4 d') cur) 96 (0,0)):=by unfold sortWorldK putRowK;rw[heap_grow_old _ _ (u! ad)];simp[putRow,mapBlock,Sort.ahead,cq,ac,onCells]
 have fA:d'.toList.Perm es:=by
  have e1:d'.extract 0 es.toArray.size=d':=by rw[<-hp.1];simp
  have e2:es.toArray.extract 0 es.toArray.size=es.toArray:=i!;have p3:=hp.2.2;rw[e1,e2]at p3;exact p3
 have af:∀e∈d'.toList,l? e.text<=1048576:=λe he=>hb e (fA.mem_iff.1 he)
 have hF:=by have:=zn _ af;simpa using this
 have aj:(dw xp 4 d').size=l? es*4:=by rw[dB,ae]
 have ag:d'.toList.Pairwise (λx y=>eU x y=t?):=by
  have aa:=(fA.map _).nodup_iff.2 am;rw[bK];intro i j hi hj ak;have an:l? d'.toList=es.toArray.size:=by simpa using ae
  have h:=hs i j (c5 _) ak o!;have gi:d'[i]! = d'.toList[i]:=by rw[getElem!_pos d' i _];rfl
  have gj:d'[j]! = d'.toList[j]:=by rw[getElem!_pos d' j _];rfl
  rw[gi,gj]at h;have ci:=Dr (af _ (br hi));have cj:=Dr (af _ (br hj));obtain h'|h'|h':=Cd _ _
  exact h';rw[bJ,b7,bK]at aa;exact absurd h'.2.2 (aa i j hi hj ak);have:ltOf U8 d'.toList[j] _=t?:=(xl ..).2 (by rw[ci,cj];exact h');rw[h]at this;cases this
 refine⟨q?,xJ Y ad,d'.toList,fA,ag,⟨by rw[wC];simp[ae],.inr ⟨g,cu,_,q?,Y,ai,h1,h2,by simp[dt,h3],?_⟩⟩,?_⟩;rw[<-aj,Qa (by rw[aj,h3];exact c6 _ h1),hF];intro g' cs e' f al ab u hu;simp only[dc,cW]at al;subst al;rw[ai]at ab;obtain⟨rfl,_⟩:=ab;obtain h|h:=Rw hu
 rw[hF]at h;obtain⟨x,_,hx⟩:=List.mem_flatMap.1 h;exact C0 x u hx;exact ah g cur _ _ q? ac u h
end
section
open Go.Conc Go.RowKit Go.Maps
variable {n:Nat} {cl:Nat->Option Nat}
def vP(w:w?)(a)(v):(w.setCell a v).1.size=w.1.size:=by simp
def KR(c:Code):Code:=match c with
 |.seq _ (.seq _ (.seq _ y))=>y|_=>.skip
def PR:f80.name≠ "runtime.NumGoroutine":=by decide
def Gu:f82.name≠ "runtime.NumGoroutine":=by decide
def mJ(cl:Nat->Option Nat)(n r:Nat):Nat->Option Nat:=λk=>if k=n then y? r else cl k
def K5{r}(h:n<7):(nT cl).set! n (.chan (y? r))=nT (mJ cl n r):=by rcases(o!:n=0\/n=1\/n=2\/n=3\/n=4\/n=5\/n=6)with rfl|rfl|rfl|rfl|rfl|rfl|rfl<;>rfl
def rH(A:Ask)(num:Nat)(p:Nat×dD):qe:=if A.has p.2=t? then⟨num,p.1,p.2.name,t?,yy p.2,p.2.text,p.2.dn,p.2.dE⟩else⟨num,p.1,p.2.name,f?,[],[],0,0⟩
def GK(A)(num)(p):(rH A num p).val=pg A num p:=by unfold rH pg;split<;>rfl
structure FF(ms:List qe):Prop where
 len:l? ms<=1048576
 each:∀m∈ms,m.yv<=1000/\m.at'<4611686018427387904/\l? m.name<=cH
 places:(ms.map λm=>(m.yv,m.at')).Nodup
 names:((eE ms ms).map dD.name).Nodup
 texts:∀e∈eE ms ms,l? e.text<=1048576
def Ru{a b c d}(h:QK a b=QK c d):a=c/\b=d:=by unfold QK at h;simp only[Value.agg.injEq,Array.mk.injEq,List.cons.injEq,Value.int.injEq,true_and,and_true]at h;omega
def FF.all{ms}(h:FF ms):O8 (ms.map qe.val) where
 met:=λv U=>by obtain⟨m,hm,rfl⟩:=bq.1 U;have:=h.each m hm;exact⟨m.yv,m.at',_,_,_,_,_,_,o!,this.2.1,q?⟩
 nodup:=by rw[bp];have O:=h.places;rw[bJ,b7]at O⊢;refine O.imp fun {x y} hne e=>hne ?_;have:=Ru (a:=x.yv) (b:=x.at') (c:=y.yv) (d:=y.at') e;rw[this.1,this.2]
 len:=by rw[bD];have:=h.len;unfold cH;omega
def Ri{ms:List qe}{l:List (v?×v?)}(U:(l.map dh).Perm (ms.map qe.val))(Y:∀p∈l,p.1=NP p.2):l.Perm (ms.map qe.kv):=by
 have e:l=(l.map dh).map λv=>(NP v,v):=by
  rw[bp];conv=>lhs;rw[<-List.map_id l]
  refine b2 λp hp=>?_;show p=(NP _,p.2);rw[<-Y p hp]
 have O:=U.map λv=>(NP v,v);rw[bp (l:=ms)]at O;rw[e];exact O
def Pp(ms:List qe)(L:List dD):Prop:=L.Perm (eE ms ms)/\L.Pairwise λx y=>eU x y=t?
def BM(ms:List qe)(l cp:Nat):Prop:=l=0/\cp=0/\Pp ms []
def BK(ms:List qe)(off:Nat)(spot:Option Nat)(l cp:Nat)(cs:Array v?)(e:cM)(f:Nat×Nat):Prop:=
 off=0/\spot=x?/\e=96/\f=(0,0)/\∃L,Pp ms L/\l=l? L/\l<=cp/\cp<=cH/\cs.size=cp*4/\cs.toList.take (l*4)=jj L
section
variable {Z:mE prog} {w:w?} {T:List Frame} {dd q K:Nat} {wl:w?} {V:Vs}
def D4{A:Ask}{es:List dD}{ex}{sa:Option Addr}{sc bx b s}{ms ms0:List qe}{a2 a3 a4 a6 a8 a9 a10 a11 a12 a13 a14 a15 a16 a17 a18 a19 a20 a21 a22 a23 a24 a25 a26 a27 a28 a29 a30 a31 a32 a33 a34 a35 a36 a37 a38 a39 a40}(hT:∀ps,T=[ps]->ps.mode≠.panicking [cJ])
  (hs:s=wl.1.size) (hA:A.Ok) (hK:K<=s+5) (h5:5<=s) (ag:dd<s) (ah:5<=q) (hq:q<w.1.size) (aa:w.1[q]?=y? ex) (hM:tC ex es) (ab:∀(r:Nat)a c,wl.1[r]?≠y? (.map a c))
  (hl:l? es<=100000) (ai:∀e∈es,l? e.name<=cH/\l? e.text<=1048576/\(e.gone=f?->0<=e.dE/\e.dE<=255)) (hn:n<=6) (hV:∀x∈V,x.1<s)
  (aj:wl.1[bx]?=y? (c? #[n? i? A.m,s? A.q,n? i? A.t] 94 (0,0))) (hb:wl.1[b]?=y? (c? (nT cl) 125 (0,0)))
  (ak:∀k,n<=k->cl k=x?) (lg:∀k r,k<7->cl k=y? r->∃vs,(r,y? vs)∈V) (fl:∀x∈V,∃k vs,k<7/\cl k=y? x.1/\x.2=y? vs) (tJ:∀k k' r,k<7->k'<7->cl k=y? r->cl k'=y? r->k=k') (gH:(V.map dg).Nodup) (ac:l? V=n)
  (al:tS V=ms0.map qe.val) (am:ms=(iF es).map (rH A n)++ms0) (ad:FF ms)
  (fin:∀(E₂:Env prog)aN aJ aO,E₂.Z=Z->E₂.T=T->E₂.w0=w->(aJ=[]\/∃k2,aJ=.code .ret::k2)->BH prog E₂ Tryz.f49 aN aO (BM ms) (BK ms)->dk E₂ [⟨49,aN,aJ⟩] aO []) :
  dk (oe prog Z w T dd q K f?) [⟨49,#[.slice sa n sc,.map (y? dd),a2,a3,a4,p? (y? ⟨bx,0,x?⟩),a6,p? (y? ⟨b,0,x?⟩),a8,a9,a10,a11,a12,a13,a14,a15,a16,a17,a18,a19,a20,a21,a22,a23,a24,a25,a26,a27,a28,a29,a30,a31,a32,a33,a34,a35,a36,a37,a38,a39,a40],[.code (KR (eD Tryz.f49))]⟩] wl V:=by
 have HA:cU _:=A? hs (A? hA (A? hK (A? h5 (A? ag (A? ah (A? hq (A? aa (A? hM (A? ab (A? hl (A? ai (A? hn (A? hV (A? aj hb))))))))))))));have HC:cU _:=A? ak (A? lg (A? fl (A? tJ (A? gH (A? ac (A? al (A? am (A? ad (A? fin hT)))))))));clear hs hA hK h5 ag ah hq aa hM ab hl ai hn hV aj hb ak lg fl tJ gH ac al am ad fin hT;show dk _ [⟨_,_,[.code (.seq (.region 7 _ f?) (.seq (.region 8 _ f?) (.seq (.region 9 _ f?) (.seq (.region 10 _ f?) .ret))))]⟩] _ _;refine dk.sr λkk HK=>?_
 (iterate 5 (refine fG ?_;go_simp));refine pn q? l! k! λy0 an ap=>?_;have e0:=dq (by rw[an];exact HA.2.2.2.2.2.2.2.2.2.2.2.2.2.2.1);have HY:cU (y0.1=wl.1/\y0.os=wl.os):=⟨an,ap⟩;clear an ap;unfold fL;go_simp;simp only[iJ];obtain⟨hs,hA,hK,h5,ag,ah,hq,aa,hM,ab,hl,ai,hn,hV,aj,hb⟩:=HA.out;rw[<-HY.1]at hs ab aj hb;clear e0;refine dk.sS #[n? i? (n:Int),.map (y? dd),.agg #[n? i? A.m,s? A.q,n? i? A.t],dN,dN,dN,dN,dN,dN,dN,dN] (i:=6) (iD:=f80) (c:=eD f80) q? q? func80 k! PR q? (by simp[e9]) k! ?_;refine Ba n A es ex s hs q? hA hK h5 ag ah hq aa hM ab hl ai o! hV λw2 z2 o2 aP p2=>?_;obtain⟨ak,lg,fl,tJ,gH,ac,al,am,ad,fin,hT⟩:=HC.out;have aw:b<s:=by rw[hs];exact(bZ.1 hb).1
 have aA:w2.1[b]?=y? (c? (nT cl) 125 (0,0)):=(o2 b aw).trans hb;have aQ:n<7:=o!;have H2:cU _:=A? z2 (A? o2 (A? p2 (A? aA aw)));clear ak lg fl tJ gH ac al am ad fin hT hs hA hK h5 ag ah hq aa hM ab hl ai hV aj hb hn z2 o2 aP p2 aA aw;rw[kh];go_simp;have aR:(n:Int)<7:=o!
 (refine fG ?_;go_simp);clear aR;refine pn q? l! k! λy1 ao aq=>?_;have gb:y1.1[b]?=y? (c? (nT cl) 125 (0,0)):=by rw[ao];exact H2.2.2.2.1
 have e0:y1.cell? ⟨b,n,x?⟩=y? (.chan (cl n)):=by rw[dq gb];rcases(o!:n=0\/n=1\/n=2\/n=3\/n=4\/n=5\/n=6)with rfl|rfl|rfl|rfl|rfl|rfl|rfl<;>rfl
 have f0:y1.frozen? ⟨b,n,x?⟩=f?:=dP gb n;have aB:cU (y1.1=w2.1/\y1.os=w2.os):=⟨ao,aq⟩;have HG:cU _:=gb;clear ao aq gb;unfold fL;go_simp;simp only[iJ];clear e0 f0;obtain⟨w3,av⟩:∃w3,w3=y1.setCell ⟨b,n,x?⟩ (.chan (y? (s+3))):=⟨_,q?⟩;have g3:w3.1[b]?=y? (c? (nT (mJ cl n (s+3))) 125 (0,0)):=by rw[av,heap_set HG.out n (.chan (y? (s+3))),<-K5 aQ];simp only[ck]
 have o3:∀r,r≠b->w3.1[r]?=w2.1[r]?:=λr hr=>by rw[av,cZ _ _ _ _ hr,aB.1]
 have z3:w3.1.size=s+5:=by rw[av,vP,aB.1];exact H2.1
 have p3:w3.os=w2.os:=by rw[av,ru];exact aB.2
 rw[<-av];clear av HG aB y1;have H3:cU _:=A? g3 (A? o3 (A? z3 p3));clear g3 o3 z3 p3;refine dk.ie HK ?_;clear HK kk;refine dk.sr λkk HK=>?_
 (iterate 3 (refine fG ?_;go_simp));have aS:IntKind.i64.wrap ((n:Int)+1)=(n:Int)+1:=by simp only[IntKind.wrap_i64];omega
 rw[aS];clear aS;obtain⟨ak,lg,fl,tJ,gH,ac,al,am,ad,fin,hT⟩:=HC.out;obtain⟨hs,hA,hK,h5,ag,ah,hq,aa,hM,ab,hl,ai,hn,hV,aj,hb⟩:=HA.out;obtain⟨g3,o3,z3,p3⟩:=H3.out;obtain⟨z2,o2,p2,aA,aw⟩:=H2.out;obtain⟨V2,ae⟩:∃V2,V2=(s+3,y? ((iF es).map (pg A n)))::V:=⟨_,q?⟩;have aT:(n:Int)+1=(l? V2:Int):=by rw[ae,bT,ac];rfl
 have ax:tS V2=ms.map qe.val:=by rw[ae];show(iF es).map (pg A n)++tS V=_;rw[al,am,bt,bp];congr 1;refine b2 λp _=>(GK A n p).symm
 have aK:∀k r,cl k=y? r->k<7->r≠s+3:=λk r hr hk e=>by obtain⟨vs,h⟩:=lg k r hk hr;have:=hV _ h;simp only at this;omega
 have aF:∀k r,k<7->mJ cl n (s+3) k=y? r->∃vs,(r,y? vs)∈V2:=λk r hk hr=>by
  unfold mJ at hr;rw[ae];split at hr
  cases hr;exact⟨_,b3 ..⟩;obtain⟨vs,h⟩:=lg k r hk hr;exact⟨vs,bN _ h⟩
 have ay:∀x∈V2,∃k vs,k<7/\mJ cl n (s+3) k=y? x.1/\x.2=y? vs:=λx hx=>by
  rw[ae]at hx;obtain rfl|hx:=bE.1 hx
  exact⟨n,_,aQ,by unfold mJ;rw[if_pos rfl],q?⟩;obtain⟨k,vs,a1,a2,a3⟩:=fl x hx;refine⟨k,vs,a1,?_,a3⟩;have:k≠n:=λe=>by rw[e,ak n (cx _)]at a2;cases a2
  unfold mJ;rw[if_neg this];exact a2
 have aG:∀k k' r,k<7->k'<7->mJ cl n (s+3) k=y? r->mJ cl n (s+3) k'=y? r->k=k':=λk k' r hk aU h1 h2=>by
  unfold mJ at h1 h2;split at h1<;>split at h2;omega
  cases h1;exact absurd q? (aK k' _ h2 aU)
  cases h2;exact absurd q? (aK k _ h1 hk);exact tJ k k' r hk aU h1 h2
 have ar:(V2.map dg).Nodup:=by rw[ae,bA,bU];refine⟨λh=>?_,gH⟩;obtain⟨x,hx,e⟩:=bq.1 h;have:=hV x hx;simp only at e;omega
 rw[aT,<-ae];refine dk.sS (#[p? (y? ⟨b,0,x?⟩),n? i? (l? V2:Int),dN,dN,dN,dN,dN,dN,dN,dN,dN,dN,dN,dN,dN,dN,dN,dN,dN,dN,dN,dN,dN,dN,dN,dN,dN,dN,dN,dN]:Array v?) (i:=3) (iD:=f82) (c:=eD f82) q? q? func82 k! Gu q? (by simp[e9]) k! ?_;refine Ez (mb:=s+5) q? ad.all z3.symm o! g3 aF ay aG ar (by rw[ae,bT,ac];omega) ax ?_;intro w4 l aV aW aX _ _;have aL:J0 w4 (s+5) ms:=aX.perm (Ri aV aW);have aY:=aL.lt;have aZ:cU _:=A? aL aY
 have ba:∀b,w.1[b]?=y? qq->b<w.1.size/\(t?=t?->b≠q):=λb hb=>⟨(bZ.1 hb).1,λ_ e=>by
  obtain⟨a,c,hx⟩:=hM.isMap;rw[e,aa,hx]at hb
  cases hb⟩
 have bf:cU _:=ba;clear ak lg fl tJ gH ac al am hs hA hK h5 ag ah hq aa hM ab hl ai hn hV aj hb g3 o3 z3 p3 z2 o2 p2 aA aw ae aT ax aK aF ay aG ar aV aW aX aL aY HA HC H2 H3;have HF:cU _:=A? ad (A? fin hT);clear ad fin hT ba;show dk _ [⟨_,fq _ _ _,_⟩] _ _;rw[kh];go_simp;refine pn q? l! k! λy0 an ap=>?_;have bc:J0 y0 (s+5) ms:=jT.stay aZ.1 (by rw[an]);have az:s+6<=y0.1.size:=by rw[an];exact aZ.2
 have aH:=Dv (s+5) ms y0 bc HF.1.len λm hm=>⟨(HF.1.each m hm).1,(HF.1.each m hm).2.2⟩;clear an ap bc;unfold fL;go_simp;simp only[iJ];refine⟨t!,aH.mono ?_⟩;clear aH;rintro e w5 ⟨v,af,rfl,O,U,aC,a0⟩;refine⟨v,q?,?_⟩;obtain⟨aM,aD,rfl,bd⟩:=dL U;have HO:cU _:=A? O (A? U (A? aC (A? a0 az)));clear O U aC a0 az bd
 (refine fG ?_;go_simp);refine dk.ie HK ?_;clear HK kk;refine dk.sr λkk HK=>?_
 (refine fG ?_;go_simp);refine pn q? l! k! λy1 ao aq=>?_;obtain⟨O,U,aC,a0,az⟩:=HO.out;have fA:(eE ms af).Perm (eE ms ms):=Fq O;have a5:y1.ownsRow y0.1.size 96 4 (.slice aM (eE ms af).length aD) (eE ms af).length (jj (eE ms af)):=dG U (λk hk=>by rw[ao]);have a7:=OZ y0.1.size aM aD (eE ms af) y1 a5 ((fA.map _).nodup_iff.2 HF.1.names) (by have h1:=CJ ms af;have h2:=O.length_eq;have h3:=HF.1.len;omega) (λe he=>HF.1.texts e (fA.mem_iff.1 he)) (a0.stay λg hg=>by rw[ao]);have HP:cU _:=A? fA az;clear O U aC a0 az fA a5 ao aq HO;unfold fL;go_simp;simp only[iJ];refine⟨t!,a7.mono ?_⟩;clear a7;rintro e w6 ⟨rfl,bg,L,a',aE,Y,au⟩;refine⟨_,q?,?_⟩;have H6:cU _:=A? a' (A? aE (A? Y au));clear bg a' aE Y au;refine dk.ie HK ?_;clear HK kk;refine dk.seq ?_;refine dk.region ?_
 (iterate 2 (refine fG ?_;go_simp));refine dk.inRegion ?_;refine HF.2.1 _ _ _ _ q? q? q? (.inr ⟨_,q?⟩) ⟨⟨.slice aM (eE ms af).length aD,λτ=>by simp[cO,results49,go_sem],?_⟩,bf⟩;obtain⟨a',aE,Y,au⟩:=H6.out;have hL:l? L=(eE ms af).length:=a'.length_eq;have aI:Pp ms L:=⟨a'.trans HP.1,aE⟩;obtain⟨he,bj⟩|⟨g,cap,cur,he,bh,be,h1,h2,h3,h4⟩:=Y.2
 left;simp only[df]at he;refine⟨_,_,?_,he.2.1,he.2.2,?_⟩;rw[he.1];have:L=[]:=List.eq_nil_of_length_eq_zero o!;rw[<-this];exact aI;right;simp only[df]at he;obtain⟨rfl,_,rfl⟩:=he;refine⟨g,0,x?,_,aD,cur,_,_,q?,be,au g cur _ _ q? be,λm hm bi=>?_,d!,q?,q?,q?,q?,L,aI,hL.symm,h1,h2,h3,h4⟩;have:=hm.x.2.2 g bi;have:=HP.2;omega
end
section
variable {A:Ask} {es:List dD}
def Bi(es):iF es=(bY es.length).map λk=>(k,(rO es).getD k ⟨[],f?,[],0,0⟩):=by apply b9;intro k;rw[sO,bR];have O:=(oP es).length_eq;by_cases h:k<l? es;rw[List.getElem?_range h];simp[b4,bu (o!:k<(rO es).length)];rw[bs o!,bs j!];rfl
def jp(num)(p):(rH A num p).yv=num/\(rH A num p).at'=p.1/\(rH A num p).name=p.2.name/\(rH A num p).wanted=A.has p.2:=by unfold rH;split;exact⟨q?,q?,q?,by simp_all⟩;exact⟨q?,q?,q?,by simp_all⟩
def vy{e}(h:A.has e=t?):e.gone=f?:=by
 unfold Ask.has at h
 cases O:e.gone with
 |false=>rfl|true=>rw[O]at h;simp at h
def F4{num p}(h:A.has p.2=t?):(rH A num p).Cc=p.2:=by have O:=vy h;obtain⟨k,nm,U,tx,wt,tg⟩:=p;subst O;unfold rH;rw[if_pos h];rfl
def GR(es):(iF es).map dh=rO es:=by apply b9;intro k;rw[bR,sO];cases(rO es)[k]?<;>rfl
end
def PG:Tryz.f49.name≠ "runtime.NumGoroutine":=by decide
variable {listed:Array Bool} {ops:Array Oper} {c:Code} {rest:List Nat} {b i:Nat} {o:Oper} {md:Region.Mode} {W:w?}
noncomputable def marked (W:w?) (Mp:Nat->Prop):w?:={W with heap:=W.1.mapIdx λb x=>@ite _ (Mp b) (cD _) qq x}
def Cz{Mp}(h:¬Mp b):(marked W Mp).1[b]?=W.1[b]?:=by
 show(W.1.mapIdx _)[b]?=_;rw[ce]
 cases W.1[b]? with
 |none=>rfl|some x=>simp[h]
def Nq{Mp}(hb:b<W.1.size)(h:Mp b):(marked W Mp).1[b]?=y? qq:=by show(W.1.mapIdx _)[b]?=_;rw[ce,cb hb];simp[h]
def xH(W)(Mp):(marked W Mp).1.size=W.1.size:=by show(W.1.mapIdx _).size=_;simp
def Uz:v?->Nat
 |.slice (y? a) _ _=>a.block+1|_=>0
def P5:Obj->Nat
 |c? c _ _=>(c.toList.map Uz).sum|_=>0
def Zo(W:w?)(b:Nat):Prop:=b<W.1.size+(W.1.toList.map P5).sum/\∀c e f,W.1[b]?≠y? (c? c e f)
noncomputable def jk (Z:mE prog) (W0:w?) (Mp:Nat->Prop):Env prog where
 Z:=Z
 gu:=λb=>b<W0.1.size/\¬Mp b
 w0:=marked W0 Mp
 T:=[]
 gl:=λg=>tQ g=t?
 st:=t?
 gE:=λf=>vr f=t?
 ok:=Qs prog vr tQ t?
 X:=λm=>(∀r,Mp r->m.blk r=y? r)/\(∀r o v,Mp r->W0.cell? ⟨r,o,x?⟩=y? v->m.tK r o=y? v)/\∀r,Zo W0 r->m.dead r
 le:=λ_ _ h x=>⟨λr hr=>h.blk r r (x.1 r hr),λr o v hr hv=>by rw[h.tK];exact x.2.1 r o v hr hv,λr hr=>by rw[h.dead];exact x.2.2 r hr⟩
def Hk(Z)(W0)(Mp):∀b,b<(jk Z W0 Mp).w0.1.size->(jk Z W0 Mp).gu b\/(jk Z W0 Mp).w0.1[b]?=y? qq:=λb hb=>by
 have hb:b<W0.1.size:=by rw[<-xH W0 Mp];exact hb
 by_cases h:Mp b;exact .inr (Nq hb h);exact .inl ⟨hb,h⟩
section
variable {Z:mE prog} {W0:w?} {Mp:Nat->Prop} {fn:cK} {tm:Array v?} {os:List OF} {wl:w?} {V:List (Nat×Option (List v?))} {k:List Item}
def s7(Y:ops[i]?=y? o)(U:cT o (cN ops tm)=t?)(ho:GN prog vr tQ t? o.op=t?)
  (O:∀τ,fL prog o ⟨tm,[]⟩ (tp wl τ) (λv y=>dk (jk Z W0 Mp) (⟨fn,(Act.put ⟨tm,[]⟩ o.dst v).tmps,r? ops rest::k⟩::os) y V)):dk (jk Z W0 Mp) (⟨fn,tm,r? ops (i::rest)::k⟩::os) wl V:=
 dk.TO Y U (xb ho) O
def fu{v}(h:dk (jk Z W0 Mp) (⟨fn,(Act.put ⟨tm,[]⟩ o.dst v).tmps,r? ops rest::k⟩::os) wl V)(U:ops[i]?=y? o:=by rfl)(Y:∀y,fL prog o ⟨tm,[]⟩ y (λu y'=>Same y y'/\u=v):=by intro y;unfold fL;go_simp;refine⟨q?,?_⟩;with_reducible rfl)
  (O:cT o (cN ops tm)=t?:=by rfl) (ho:GN prog vr tQ t? o.op=t?:=by kernel_rfl):dk (jk Z W0 Mp) (⟨fn,tm,r? ops (i::rest)::k⟩::os) wl V:=dk.pu U O (xb ho) Y h
def Mt(O:ll (λo=>GN prog vr tQ t? o.op) c=t?)(Y:k.all lG=t?)(hf:os≠[])(h:∀U:w?,U.1=wl.1->U.os=wl.os->c.wp prog (Ji (jk Z W0 Mp) fn k os V) ⟨tm,[]⟩ U):dk (jk Z W0 Mp) (⟨fn,tm,.code c::k⟩::os) wl V:=
 dk.Km (qE O) Y (.inl hf) λτ _=>h _ q? rfl
def Gx(O:ll (λo=>GN prog vr tQ t? o.op) c=t?)(U:k.all lG=t?)(Y:os≠[])(h:∀τ,c.wp prog (Ji (jk Z W0 Mp) fn k os V) ⟨tm,[]⟩ (tp wl τ)):dk (jk Z W0 Mp) (⟨fn,tm,.code c::k⟩::os) wl V:=
 dk.Km (qE O) U (.inl Y) λτ _=>h τ
end
def DW{acc}(Y:cS md ops listed=[]):∀(O t),db md ops O t listed acc=acc.reverse
 |0,_=>rfl
 |f+1,t=>by
  simp only[db]
  split
  .rename_i q hq
   have U:(cS md ops listed)[t % (cS md ops listed).length]?=y? q:=hq
   rw[Y]at U;simp at U
  rfl
def Dy{j}(h1:cS md ops listed=[j])(h2:cS md ops (listed.setIfInBounds j t?)=[])(fuel t):db md ops (fuel+1) t listed []=[j]:=by
 simp only[db];split;rename_i q U;have O:(cS md ops listed)[t % (cS md ops listed).length]?=y? q:=U;rw[h1]at O;have Y:t % ([j]).length=0:=cA t;rw[Y]at O;have hj:=by simpa using O.symm
 subst hj;exact DW h2 ..;rename_i U;have O:(cS md ops listed)[t % (cS md ops listed).length]?=x?:=U;rw[h1]at O;have Y:t % ([j]).length=0:=cA t;rw[Y]at O;simp at O
def Ul{last}{Z:mE prog}{W0}{Mp:Nat->Prop}(h:((bY ops.size).all λi=>i==last || (match ops[i]? with|some o=>GN prog vr tQ t? o.op|none=>t?))=t?):∀(i)o,i≠last->ops[i]?=y? o->OkOp prog (jk Z W0 Mp).gE (jk Z W0 Mp).gl (jk Z W0 Mp).st o.op:=by
 intro i o O Y;have U:=(bZ.1 Y).1;have:=List.all_eq_true.1 h i (bW.2 U);rw[Y]at this;simp only[Bool.or_eq_true,beq_iff_eq]at this;obtain e|e:=this
 exact absurd e O;exact xb e
def JK(m:Nat)(hm:m<=3)(w):cI prog 46 #[n? i? m] w λe w'=>e=e? (.bool t?)/\w=w':=by have O:(m:Int)<=3:=o!;go_wp2;go_ret;exact⟨q?,q?⟩
def RZ(w:w?)(base:Nat)(es:List dD)(A:Ask)(most:Nat)(v:v?):Prop:=∃L:List dD,L.Perm (es.filter A.has)/\L.Pairwise (λx y=>eU x y=t?)/\∃u,v=.tuple #[u,n? i? 0]/\w.ownsRow base 9 1 u (L.take most).length (dy ((L.take most).map jy))
section
variable {Z:mE prog} {W0:w?} {Mp:Nat->Prop} {fn:cK} {tm:Array v?} {os:List OF} {wl:w?} {k:List Item}
def NS(c:Code):Code:=match c with
 |.seq _ (.seq _ (.seq _ (.seq _ y)))=>y|_=>.skip
def wv{fa:Option Addr}{l cp most}{L:List dD}{wl a0 a1 a2 a3 a5 a6 a7 a8 a9 a10 a11 a13 a14 a15 a16 a17 a18 a19 a20 a21 a22 a23 a24 a25 a26 a27 a28 a29 a30 a31 a32 a33 a34 a35 a36 a37 a38 a39 a40 a41 a42 a43 a44 a45 a46 a47 a48 a49 a50 a51 a52 a53 a54 a55 a56 a57 a58 a59 a60 a61 a62 a63 a64 a65 a66}(hi:ops[i]?=y? o)(hR:iu wl 4 (.slice fa l cp) l (jj L))(hL:l=L.length)(aD:1<=most)(aE:most<=20)(h5:5<=wl.1.size)
  (O:∀e∈L,∀y:w?,(∀r,r<5->y.1[r]?=wl.1[r]?)->cI prog 51 #[.agg #[.string ⟨a? e.name⟩,.string ⟨a? e.text⟩,.int i? e.dn,.int i? e.dE]] y λen w'=>en=.returned (.string ⟨(jy e).toArray⟩)/\eJ y w')
  (hn:∀(w2:w?)(u),(∀r,r<wl.1.size->w2.1[r]?=wl.1[r]?)->wl.1.size<=w2.1.size->w2.os=wl.os->w2.ownsRow wl.1.size 9 1 u (L.take most).length (dy ((L.take most).map jy))->dk (jk Z W0 Mp) (⟨fn,fq o.dst tm (.tuple #[u,.int i? 0]),.inRegion ops rest::k⟩::os) w2 []) :
  dk (jk Z W0 Mp) (⟨17,#[a0,a1,a2,a3,.int i? most,a5,a6,a7,a8,a9,a10,a11,.slice fa l cp,a13,a14,a15,a16,a17,a18,a19,a20,a21,a22,a23,a24,a25,a26,a27,a28,a29,a30,a31,a32,a33,a34,a35,a36,a37,a38,a39,a40,a41,a42,a43,a44,a45,a46,a47,a48,a49,a50,a51,a52,a53,a54,a55,a56,a57,a58,a59,a60,a61,a62,a63,a64,a65,a66],[.code (NS (eD f17))]⟩::⟨fn,tm,.inRegion ops (i::rest)::k⟩::os) wl []:=by
 have HA:cU _:=And.intro hR (And.intro hL (And.intro h5 (And.intro O hn)));clear hR h5 O hn;show dk _ (⟨_,_,[.code (.seq (.region 6 _ f?) (.seq (.seq (.region 7 _ f?) (.block 0 _)) (.seq (.region 12 _ f?) .ret)))]⟩::_) _ _;refine dk.sr λkk HK=>?_
 (refine fu ?_;go_simp);refine dk.ie HK ?_;clear HK kk;refine dk.sc λkk HK=>?_;refine Mt k! (by rw[HK.out];rfl) i! λy0 ah aa=>?_;obtain⟨hR,hL,h5,O,hn⟩:=HA.out;have ai:iu y0 4 (.slice fa l cp) l (jj L):=hR.later λa u h=>by simp only[cQ]at h⊢;rw[ah];exact h
 obtain⟨n,aj⟩:∃n,n=min most l:=⟨_,q?⟩;have aB:min (most:Int) (l:Int)=(n:Int):=o!;have aF:n<=l:=o!;obtain⟨aG,aH,am,aI,an,_,ab⟩:=id ai;simp only[df]at am;obtain⟨rfl,_,rfl⟩:=am;have aJ:n<=cp:=o!;have aC:cp<=9223372036854775807:=an;have HR:cU _:=And.intro ai (And.intro ab (And.intro ah (And.intro aa aj)));clear hR hL h5 O hn ai ab ah aa aj an;obtain⟨i9,av,ao,aw,ax⟩:=cP Cl;go_wp2_with fail;go_loopw [13,56] (λu i wr=>∃j:Nat,j<=n/\i=.int i? j/\wr.ownsRow y0.1.size 9 1 u j (dy ((L.take j).map jy))/\Below y0.1.size y0 wr) (λ_ i _=>n-(intOf i).toNat)
 case atStart=>exact⟨0,c5 _,q?,cR _ _ _ _,cY _ _⟩
 case round=>
  obtain⟨j,hj,rfl,ac,hb⟩:=hrel;obtain⟨ag,cg,rfl,aK⟩:=dH ac;have HO:cU (wr.ownsRow y0.1.size 9 1 (.slice ag j cg) j (dy ((L.take j).map jy))):=ac;have HB:cU (Below y0.1.size y0 wr):=hb;clear ac hb;by_cases aL:j<n
  .have ak:j<L.length:=o!;obtain⟨e,he⟩:∃e,e=L[j]:=⟨_,q?⟩;have af:e∈L:=by rw[he];exact br ak
   have ad:∀c,c<4->(jj L)[j*4+c]?=(nN e)[c]?:=λc hc=>by rw[BQ L j c ak hc,he]
   obtain⟨bg,og,rfl,ay⟩:=HR.out.2.1 (j*4) (.string ⟨a? e.name⟩) (ad 0 o!)
   have U:∀c u,c<4->(nN e)[c]?=y? u->wr.cell? ⟨bg,og+j*4+c,x?⟩=y? u:=λc u hc hu=>by obtain⟨b',o',h1,h2⟩:=HR.out.2.1 (j*4+c) u (by rw[ad c hc];exact hu);simp only[cW,Addr.mk.injEq]at h1;obtain⟨rfl,rfl,_⟩:=h1;rw[Nat.add_assoc];exact cL HB.out h2
   have d0:wr.cell? ⟨bg,og+j*4,x?⟩=y? (.string ⟨a? e.name⟩):=U 0 _ o! rfl;have d1:wr.cell? ⟨bg,og+j*4+1,x?⟩=y? (.string ⟨a? e.text⟩):=U 1 _ o! rfl;have d2:wr.cell? ⟨bg,og+j*4+2,x?⟩=y? (.int i? e.dn):=U 2 _ o! rfl;have d3:wr.cell? ⟨bg,og+j*4+3,x?⟩=y? (.int i? e.dE):=U 3 _ o! rfl;have HE:cU _:=And.intro he af;clear he af ad U ay;go_wp2_with fail;have ap:=HB.out.size;refine(HA.out.2.2.2.1 e HE.out.2 _ (λr hr=>?_)).mono ?_
   .have h5:=HA.out.2.2.1;have Y:=HR.out.2.2.1;rw[jL _ _ (by rw[Y]at ap;omega),HB.out.block r (by rw[Y];omega),Y]
   rintro en w5 ⟨rfl,hx⟩;have az:=hx.size;simp only[World.size_alloc]at az;have al:Below wr.1.size wr w5:=((cY _ _).alloc (cx _) _).trans (Below.mono hx i!);have a4:cU (Below y0.1.size y0 w5):=HB.out.trans (al.mono ap);have aq:cU (w5.ownsRow y0.1.size 9 1 (.slice ag j cg) j (dy ((L.take j).map jy))):=dK HO.out (λg hg=>al.block g (HO.out.lt g hg).2);clear d0 d1 d2 d3 hx al
   go_wp2_with (first
    |(at_builtin;refine fE _ q? _ _ 31 q? y0.1.size 9 i9 (.string ⟨#[]⟩) 16 underlying31 av ao aw ax q? _ _ _ q? (aq.out.alloc _) ⟨w5.1.size,0,x?⟩ _ q? (xN rfl) q? ?c1 ?c2 ?c3 ?_))
   case c1=>omega
   case c2=>unfold cH;omega
   case c3=>first|omega|(simp;omega)
   intro v3 w3 ae ar _
   have HO3:cU (w3.ownsRow y0.1.size 9 1 v3 (j+1) (dy ((L.take (j+1)).map jy))):=by show w3.ownsRow _ _ _ _ _ _;rw[bH ak,bt,<-HE.out.1];rw[show(bX jy (List.take j L)++bX jy [e])=(L.take j).map jy++[jy e]from rfl,nX,List.map_take];exact ae
   have HB3:cU (Below y0.1.size y0 w3):=(a4.out.alloc o! _).grown ar j! (λg hg=>(aq.out.lt g hg).1);clear ae ar;go_wp2;go_roundw
   case rel=>exact⟨j+1,o!,by go_num,HO3.out,HB3.out⟩
   case measure=>simp[intOf];omega
  have a':j=n:=o!;subst a';go_wp2;refine iN ?_;rw[HK.out];refine dk.seq (dk.region ?_)
  (iterate 3 (refine fu ?_;go_simp));refine dk.inRegion ?_;refine dk.back (v:=.tuple #[.slice ag j cg,.int i? 0]) (.inr ⟨_,q?⟩) func17 hi (λτ=>by simp[cO,results17,go_sem]) ?_;obtain⟨_,aM,h5,O,hn⟩:=HA.out;obtain⟨_,_,Y,aa,aj⟩:=HR.out;have hO:=HO.out;have hB:=HB.out;rw[Y]at hO hB;have au:(L.take most).length=j:=by rw[bS];omega
  have aA:L.take j=L.take most:=by by_cases hc:most<=L.length;rw[(o!:j=most)];rw[(o!:j=L.length),List.take_length,bC o!]
  refine hn wr (.slice ag j cg) (λr hr=>?_) (by have:=hB.size;rw[Y]at this;exact this) (hB.os.trans aa) ?_;rw[hB.block r hr,Y];rw[au,<-aA];exact hO
end
end
section
open Go.RowKit Go.Maps
structure lI(w0 w:w?):Prop where
 os:w.os=w0.os
 size:w0.1.size<=w.1.size
 block:∀k,k<w0.1.size->w.1[k]?=w0.1[k]?
def lI.refl(w):lI w w:=⟨q?,cx _,λ_ _=>rfl⟩
def lI.trans{a b c}(h:lI a b)(O:lI b c):lI a c:=⟨O.os.trans h.os,cz h.size O.size,λk U=>(O.block k (cy U h.size)).trans (h.block k U)⟩
def lI.of{w w'}(h:B? w w'):lI w w':=⟨h.os,h.size,h.block⟩
structure AW(w0 w:w?)(F1 F2:Nat->Prop)(b:Nat)(buf:List dD)(ss:List (List dD))(ts:List (List Wd)):Prop where
 j:PJ w F1 F2 b buf ss ts
 VH:∀k,F1 k->w0.1.size<=k
 Ey:∀k,F2 k->w0.1.size<=k
 low:lI w0 w
structure St(w w':w?)(F1 F2 F1' F2':Nat->Prop):Prop where
 size:w.1.size<=w'.1.size
 block:∀k,k<w.1.size->¬F1 k->¬F2 k->w'.1[k]?=w.1[k]?
 f1:∀k,F1' k->F1 k\/w.1.size<=k
 f2:∀k,F2' k->F2 k\/w.1.size<=k
def St.same{w w' F1 F2}(h:lI w w'):St w w' F1 F2 F1 F2:=⟨h.size,λk O _ _=>h.block k O,λ_ O=>.inl O,λ_ O=>.inl O⟩
def AW.same{w0 w w' F1 F2 b buf ss ts}(h:AW w0 w F1 F2 b buf ss ts)(O:lI w w'):AW w0 w' F1 F2 b buf ss ts:=⟨h.j.below O.size O.block,h.VH,h.Ey,h.low.trans O⟩
section
variable {w0 w:w?} {F1 F2:Nat->Prop} {b:Nat} {buf:List dD} {ss:List (List dD)} {ts:List (List Wd)}
def AW.Cc{f args code U aa}(h:AW w0 w F1 F2 b buf ss ts)(hc:∀vM vK,tN vM vK w F1 b buf ss->cI prog f args w (Ur (tN vM vK) w F1 b code U aa)) :
  cI prog f args w λe w'=>e=e? (n? i? code)/\∃F1',AW w0 w' F1' F2 b U aa ts/\St w w' F1 F2 F1' F2:=by
 obtain⟨⟨h1,h2,h3,Bb,vS,B,n,vK,kn,h4,h5⟩,k1,k2,k3⟩:=h;refine(hc _ vK ⟨h1,Bb,vS,h4⟩).mono ?_;rintro e w' ⟨rfl,F',hp,hF,O⟩;refine⟨q?,F',⟨PJ.entries h1 h2 h3 h4 h5 hp hF O,λk Y=>?_,k2,?_⟩,⟨O.size,λk Y hn _=>O.block k Y hn,hF,λ_ Y=>.inl Y⟩⟩;obtain hf|hf:=hF k Y
 exact k1 k hf;exact cz k3.size hf;exact⟨O.os.trans k3.os,cz k3.size O.size,λk Y=>(O.block k (cy Y k3.size) λhf=>absurd (k1 k hf) o!).trans (k3.block k Y)⟩
def AW.Wx(h:AW w0 w F1 F2 b buf ss ts):∃U O,tN U O w F1 b buf ss:=by obtain⟨⟨Y,h2,h3,Bb,vS,B,n,O,kn,h4,h5⟩,k1,k2,k3⟩:=h;exact⟨_,_,Y,Bb,vS,h4⟩
def AW.del(h:AW w0 w F1 F2 b buf ss ts)(s)(O:s.size<=cH):cI prog 37 #[p? (y? ⟨b,0,x?⟩),s? s] w λe w'=>e=e? (n? i? (jG buf ss s.1.1).1)/\∃F1',AW w0 w' F1' F2 b (jG buf ss s.1.1).2 ss ts/\St w w' F1 F2 F1' F2:=
 h.Cc λvM vK U=>(Sr w F1 b buf ss s U O).mono λ_ _ h=>⟨h.1,F1,h.2.1,λ_ Y=>.inl Y,h.2.2⟩
def AW.WD(h:AW w0 w F1 F2 b buf ss ts)(s t)(x y)(O:s.size<=cH)(U:t.size<=cH):cI prog 38 #[p? (y? ⟨b,0,x?⟩),s? s,s? t,n? i? x,n? i? y] w λe w'=>e=e? (n? i? (iG buf ss s.1.1 t.1.1 x y).1)/\∃F1',AW w0 w' F1' F2 b (iG buf ss s.1.1 t.1.1 x y).2 ss ts/\St w w' F1 F2 F1' F2:=
 h.Cc λvM vK Y=>(QO w F1 b buf ss s t x y Y O U).mono λ_ _ h=>⟨h.1,F1,h.2.1,λ_ hk=>.inl hk,h.2.2⟩
def AW.flush(h:AW w0 w F1 F2 b buf ss ts):cI prog 29 #[p? (y? ⟨b,0,x?⟩)] w λe w'=>e=e? (n? i? (eQ buf ss).1)/\∃F1',AW w0 w' F1' F2 b (eQ buf ss).2.1 (eQ buf ss).2.2 ts/\St w w' F1 F2 F1' F2:=
 h.Cc λU Y O=>TH w F1 b buf ss O
def AW.merge(h:AW w0 w F1 F2 b buf ss ts)(n):cI prog 39 #[p? (y? ⟨b,0,x?⟩),n? i? n] w λe w'=>e=e? (n? i? (fD ss n).1)/\∃F1',AW w0 w' F1' F2 b buf (fD ss n).2 ts/\St w w' F1 F2 F1' F2:=
 h.Cc λU Y O=>U6 w F1 b buf ss n O
def AW.kM(h:AW w0 w F1 F2 b buf ss ts):cI prog 30 #[p? (y? ⟨b,0,x?⟩)] w λe w'=>e=e? (n? i? ss.length)/\w=w':=by obtain⟨U,Y,O⟩:=h.Wx;exact MT w F1 b buf ss O
end
def Wt(w):cI prog 31 #[] w λe w'=>∃(b:Nat)(F1 F2:Nat->Prop),e=e? (p? (y? ⟨b,0,x?⟩))/\AW w w' F1 F2 b [] [] []/\B? w w':=by have af:=@cV prog;go_enter func31,ntmps31;go_wp2_with fail;refine(O2 _).mono ?_;rintro e w1 ⟨B,rfl,aa,hC,O⟩;go_wp2;go_ret;have U:(w.alloc (Obj.map #[] 0)).1.size=w.1.size+1:=i!;have ab:eT (w.alloc (Obj.map #[] 0)) w.1.size []:=dU.made w;have ac:eT w1 w.1.size []:=dU.below ab O;change Go.RowKit.Below _ _ _ at O;rw[U]at O aa;have ad:=O.size;rw[U]at ad;have hb:B? w w1:=((cY _ _).alloc (cx _) _).trans (O.mono o!);have ae:=hC.lt;have Y:=hb.alloc (o:=c? #[.map (y? w.1.size),.slice x? 0 0,.map (y? B),.slice x? 0 0] 90) o!;refine⟨w1.1.size,λk=>k=w1.1.size\/k=w.1.size,λk=>k=w1.1.size\/k=B,q?,⟨⟨?_,?_,?_,w.1.size,.slice x? 0 0,B,0,.slice x? 0 0,[],?_,?_⟩,?_,?_,.of Y⟩,Y⟩;rintro k (rfl|rfl);simp;simp;omega;rintro k (rfl|rfl);simp;simp;omega;rintro k (h|h) (h'|h')<;>omega;exact⟨F0 ..,Or.inl q?,Or.inr q?,dU.stay ac (da _ _ _ o!),cR ..,nofun,K7⟩;refine⟨F0 ..,Or.inl q?,Or.inr q?,?_,by simp[CW],cR ..,nofun,by simp[PC],nofun,i!⟩;refine(hC.stay (da _ _ _ ae)).mono (cx _) (λws _=>by rw[OD]);rintro k (rfl|rfl)<;>omega;rintro k (rfl|rfl)<;>omega
open Go.Conc
def AZ(c:Code):Code:=match c with
 |.seq _ (.seq _ (.seq (.seq _ (.block _ (.loop x))) _))=>x|_=>.skip
def PI:f79.name≠ "runtime.NumGoroutine":=by decide
section
variable {Z:mE prog} {w:w?} {T:List Frame} {dd q K:Nat} {wl:w?} {V:Vs}
def Nf{A:Ask}{S:ByteArray}{ps qs:List (Nat×dD)}{cl:Nat->Option Nat}{sb so n sc bx b s k:Nat}{a2 a3 a4 a6 a8 a9 ao aH aI aJ aK aL aM aN aO aP aQ aR ap aq ar au av aw ax ay az a0 a1 a5 a7 a' aA aB:v?}{td:List Item}(hT:∀ps,T=[ps]->ps.mode≠.panicking [cJ])
  (hs:s=wl.1.size) (hA:A.Ok) (hK:K<=s+5) (h5:5<=s) (Y:dd<s) (O:∀(r:Nat)a c,wl.1[r]?≠y? (.map a c)) (hn:n<=6) (hk:k<n) (hV:∀x∈V,x.1<s)
  (aa:wl.1[bx]?=y? (c? #[n? i? A.m,s? A.q,n? i? A.t] 94 (0,0))) (hb:wl.1[b]?=y? (c? (nT cl) 125 (0,0)))
  (ad:wl.cell? ⟨sb,so+k,x?⟩=y? (s? S)) (ab:S.size<=1099511627775) (hX:iM S.size S.1.1=y? (ps,qs))
  (fin:∀(w2:w?)(c8 c9 aS aT aU aV aW aX aY aZ ba bc bd:v?),w2.1.size=s+5->(∀r,r<s->r≠b->w2.1[r]?=wl.1[r]?)->w2.1[b]?=y? (c? (nT (mJ cl k (s+3))) 125 (0,0))->(∀(r:Nat)a c,w2.1[r]?≠y? (.map a c))->w2.os=wl.os->
    dk (oe prog Z w T dd q (s+5) f?) [⟨49,#[.slice (y? ⟨sb,so,x?⟩) n sc,.map (y? dd),a2,a3,a4,p? (y? ⟨bx,0,x?⟩),a6,p? (y? ⟨b,0,x?⟩),c8,c9,ao,.slice (y? ⟨sb,so,x?⟩) n sc,n? i? (n:Int),n? i? ((k+1:Nat):Int),aS,aT,aU,aV,aW,aX,aY,aZ,ba,bc,bd,ap,aq,ar,au,av,aw,ax,ay,az,a0,a1,a5,a7,a',aA,aB],.code (AZ (eD Tryz.f49))::.inLoop (AZ (eD Tryz.f49))::td⟩] w2 ((s+3,y? ((ps++qs).map (pg A k)))::V)) :
  dk (oe prog Z w T dd q K f?) [⟨49,#[.slice (y? ⟨sb,so,x?⟩) n sc,.map (y? dd),a2,a3,a4,p? (y? ⟨bx,0,x?⟩),a6,p? (y? ⟨b,0,x?⟩),a8,a9,ao,.slice (y? ⟨sb,so,x?⟩) n sc,n? i? (n:Int),n? i? (k:Int),aH,aI,aJ,aK,aL,aM,aN,aO,aP,aQ,aR,ap,aq,ar,au,av,aw,ax,ay,az,a0,a1,a5,a7,a',aA,aB],.code (AZ (eD Tryz.f49))::.inLoop (AZ (eD Tryz.f49))::td⟩] wl V:=by
 have HA:cU _:=A? hs (A? hA (A? hK (A? h5 (A? Y (A? O (A? hV (A? aa (A? hb (A? ad (A? ab (A? hX (A? fin hT))))))))))));clear hs hA hK h5 Y O hV aa hb ad ab hX fin hT;obtain⟨B,hB⟩:∃B,B=Item.inLoop (AZ (eD Tryz.f49)):=⟨_,q?⟩;rw[<-hB];have HB:cU _:=hB;clear hB;show dk _ [⟨_,_,.code (.seq (.region 3 _ f?) (.seq (.cond _ .skip (.exit 0)) (.seq (.block 1 (.seq (.region 4 _ f?) (.region 5 _ f?))) (.region 6 _ f?))))::_⟩] _ _;refine dk.sr λkk HK=>?_;have bf:(k:Int)<(n:Int):=o!
 (refine fG ?_;go_simp);refine dk.ie HK ?_;clear HK kk;refine dk.seq (dk.rN trivial q? (dk.skip ?_));refine dk.seq (dk.block (dk.sr λkk HK=>?_))
 (iterate 2 (refine fG ?_;go_simp));refine pn q? l! k! λy0 aj ag=>?_
 have e0:y0.cell? ⟨sb,so+k,x?⟩=y? (s? S):=by have:=HA.2.2.2.2.2.2.2.2.2.1;unfold cQ at this⊢;rw[aj];exact this
 have HY:cU (y0.1=wl.1/\y0.os=wl.os):=⟨aj,ag⟩;clear aj ag;unfold fL;go_simp;simp only[iJ];clear e0
 (iterate 2 (refine fG ?_;go_simp));refine dk.ie HK ?_;clear HK kk;refine qk λkk HK=>?_;refine dk.region ?_
 (iterate 3 (refine fG ?_;go_simp));refine pn q? l! k! λy1 aC ah=>?_;have ak:y1.1=wl.1:=aC.trans HY.1;have e0:=dq (by rw[ak];exact HA.2.2.2.2.2.2.2.1);have al:cU (y1.1=wl.1/\y1.os=wl.os):=⟨ak,ah.trans HY.2⟩;clear aC ah ak;unfold fL;go_simp;simp only[iJ];obtain⟨hs,hA,hK,h5,Y,O,hV,aa,hb,ad,ab,hX,fin,hT⟩:=HA.out;rw[<-al.1]at hs O aa hb;clear e0;refine dk.sS #[n? i? (k:Int),s? S,.agg #[n? i? A.m,s? A.q,n? i? A.t],dN,dN,dN,dN,dN,dN,dN,dN] (i:=4) (iD:=f79) (c:=eD f79) q? q? func79 k! PI q? (by simp[e9]) k! ?_;refine y9 k A (S:=S) (ps:=ps) (qs:=qs) s hs q? hA hK h5 Y O ab hX hV λw2 z2 o2 U p2=>?_;have ae:b<s:=by rw[hs];exact(bZ.1 hb).1
 have am:w2.1[b]?=y? (c? (nT cl) 125 (0,0)):=(o2 b ae).trans hb;have be:k<7:=o!;have aD:∀r,r<s->w2.1[r]?=wl.1[r]?:=λr hr=>(o2 r hr).trans (by rw[al.1]);have aE:w2.os=wl.os:=p2.trans al.2;have H2:cU _:=A? z2 (A? aD (A? aE (A? am (A? ae U))));clear hs hA hK h5 Y O hV aa hb ad ab hX fin hT z2 o2 U p2 am ae aD aE;rw[kh];go_simp;have aF:(k:Int)<7:=o!
 (refine fG ?_;go_simp);clear aF;refine pn q? l! k! λy2 an ai=>?_;have gb:y2.1[b]?=y? (c? (nT cl) 125 (0,0)):=by rw[an];exact H2.2.2.2.1
 have e0:y2.cell? ⟨b,k,x?⟩=y? (.chan (cl k)):=by rw[dq gb];rcases(o!:k=0\/k=1\/k=2\/k=3\/k=4\/k=5\/k=6)with rfl|rfl|rfl|rfl|rfl|rfl|rfl<;>rfl
 have f0:y2.frozen? ⟨b,k,x?⟩=f?:=dP gb k;have af:cU (y2.1=w2.1/\y2.os=w2.os):=⟨an,ai⟩;have HG:cU _:=gb;clear an ai gb;unfold fL;go_simp;simp only[iJ];clear e0 f0;obtain⟨w3,ac⟩:∃w3,w3=y2.setCell ⟨b,k,x?⟩ (.chan (y? (s+3))):=⟨_,q?⟩;have g3:w3.1[b]?=y? (c? (nT (mJ cl k (s+3))) 125 (0,0)):=by rw[ac,heap_set HG.out k (.chan (y? (s+3))),<-K5 be];simp only[ck]
 have o3:∀r,r≠b->w3.1[r]?=w2.1[r]?:=λr hr=>by rw[ac,cZ _ _ _ _ hr,af.1]
 have z3:w3.1.size=s+5:=by rw[ac,vP,af.1];exact H2.1
 have p3:w3.os=w2.os:=by rw[ac,ru];exact af.2
 rw[<-ac];clear ac HG af y2;have H3:cU _:=A? g3 (A? o3 (A? z3 p3));clear g3 o3 z3 p3;refine dk.ie HK ?_;clear HK kk;refine dk.inBlock ?_;refine qk λkk HK=>?_;refine dk.region ?_
 (refine fG ?_;go_simp);have aG:IntKind.i64.wrap ((k:Int)+1)=((k+1:Nat):Int):=by simp only[IntKind.wrap_i64];omega
 rw[aG];clear aG
 (refine fG ?_;go_simp);refine dk.inRegion ?_;rw[HK.out,HB.out];refine dk.inLoop ?_;obtain⟨hs,hA,hK,h5,Y,O,hV,aa,hb,ad,ab,hX,fin,hT⟩:=HA.out;obtain⟨g3,o3,z3,p3⟩:=H3.out;obtain⟨z2,o2,p2,am,ae,U⟩:=H2.out;have ek:(k:Int)+1=((k+1:Nat):Int):=o!;rw[ek,<-bt];refine fin w3 _ _ _ _ _ _ _ _ _ _ _ _ _ z3 (λr hr hn=>(o3 r hn).trans (o2 r hr)) g3 (λr a c h=>?_) (p3.trans p2);by_cases hr:r=b;rw[hr,g3]at h;cases h;rw[o3 r hr]at h;exact U r a c h
end
end
section
def kX(A:Ask)(P:Nat->List (Nat×dD)):Nat->List qe
 |0=>[]
 |k+1=>(P k).map (rH A k)++kX A P k
def allM(A:Ask)(P:Nat->List (Nat×dD))(es:List dD)(n:Nat):List qe:=(iF es).map (rH A n)++kX A P n
section
variable {A:Ask} {P Q:Nat->List (Nat×dD)}
def lu(ps:List (Nat×dD)):List Wd:=ps.map λp=>p.2.name
def zm:∀n,(∀j,j<n->P j=Q j)->kX A P n=kX A Q n
 |0,_=>rfl|n+1,h=>by simp only[kX];rw[h n o!,zm n λj O=>h j o!]
def vV:∀n,∀m∈kX A P n,m.yv<n
 |0,m,h=>by simp[kX]at h
 |n+1,m,h=>by
  obtain h|h:=bw.1 h
  obtain⟨p,_,rfl⟩:=bq.1 h;rw[(jp n p).1];omega;have:=vV n m h;omega
def Bu(l r)(x):fp (l++r) x=max (fp l x) (fp r x):=by
 induction l with
 |nil=>simp[fp]|cons a l O=>simp only[List.cons_append,fp,O];split<;>omega
def D9(n)(ps)(x):fp (ps.map (rH A n)) x=if x∈lu ps then n else 0:=by
 induction ps with
 |nil=>simp[fp,lu]|cons p ps U=>have e:lu (p::ps)=p.2.name::lu ps:=rfl;rw[e,bA];simp only[fp,(jp n p).1,(jp n p).2.2.1,U];by_cases h:p.2.name=x;by_cases O:x∈lu ps<;>simp[h,O];have Y:¬x=p.2.name:=λe=>h e.symm;by_cases O:x∈lu ps<;>simp[h,O,Y]
def xE(n)(x):fp (kX A P (n+1)) x=if x∈lu (P n)then n else fp (kX A P n) x:=by
 show fp (_++_) x=_;rw[Bu,D9];split;have:fp (kX A P n) x<=n:=wI _ _ λm hm=>by have:=vV n m hm;omega
 omega;omega
def Gn:∀n,∀m∈kX A P n,m.wanted=t?->m.Cc.name=m.name
 |0,m,h=>by simp[kX]at h
 |n+1,m,h=>by
  intro O
  obtain h|h:=bw.1 h
  obtain⟨p,_,rfl⟩:=bq.1 h;rw[(jp n p).2.2.2]at O;rw[F4 O,(jp n p).2.2.1];exact Gn n m h O
def FO(P:Nat->List (Nat×dD)):Nat->List dD
 |0=>[]
 |n+1=>sn (P n)++(FO P n).filter λe=>!decide (e.name∈lu (P n))
def zv:∀n,eE (kX A P n) (kX A P n)=(FO P n).filter A.has
 |0=>rfl
 |n+1=>by
  have ih:=zv n
  show eE _ ((P n).map _++kX A P n)=(sn _++_).filter _;unfold eE;rw[bP,bt,bP];congr 1;rw[bI,bp]
  have e:(P n).filter ((λm=>m.wanted&&m.yv==fp (kX A P (n+1)) m.name) ∘ rH A n)=(P n).filter (A.has ∘ dh):=by apply b8;intro p O;have Y:p.2.name∈lu _:=bq.2 ⟨p,O,q?⟩;simp only[Function.comp_apply,(jp n p).1,(jp n p).2.2.1,(jp n p).2.2.2,xE,if_pos Y,beq_self_eq_true,Bool.and_true]
  rw[e];rw[bI];apply b2;intro p O;exact F4 (bv.1 O).2
  have e:(kX A P n).filter (λm=>m.wanted&&m.yv==fp (kX A P (n+1)) m.name)=((kX A P n).filter λm=>m.wanted&&m.yv==fp (kX A P n) m.name).filter λm=>!decide (m.Cc.name∈lu (P n)):=by
   rw[b6];apply b8;intro m hm;have hs:=vV n m hm;rw[xE]
   cases hw:m.wanted with
   |false=>simp|true=>rw[Gn n m hm hw];by_cases U:m.name∈lu (P n);have:(m.yv==n)=f?:=j!;simp[U,this];simp[U]
  rw[e];have f:=bI (f:=qe.Cc) (p:=λe=>!decide (e.name∈lu (P n))) (l:=(kX A P n).filter λm=>m.wanted&&m.yv==fp (kX A P n) m.name);unfold eE at ih;rw[ih]at f;refine f.symm.trans ?_;rw[b6,b6];congr 1;funext x;exact Bool.and_comm ..
def Io(b)(e):ic b e = !decide (e.name∈b.map dD.name):=by unfold ic iY;rw[Bool.eq_iff_iff];simp[List.findIdx?_eq_none_iff]
def Fv{ss}(O:∀j(h),(sn (P j)).Perm ss[j]):∀n,n<=l? ss->(FO P n).Perm (fY (ss.take n))
 |0,_=>by simp[FO,fY]
 |n+1,h=>by
  have Y:=Fv O n o!
  have U:=O n o!;rw[bH _,fo];refine(dr U ?_).trans List.perm_append_comm
  have e:(λe=>!decide (e.name∈lu (P n)))=ic ss[n]:=by
   funext e;rw[Io]
   have h1:e.name∈lu (P n)↔e.name∈ss[n].map dD.name:=by have:=(U.map dD.name).mem_iff (a:=e.name);rw[bp]at this;exact this
   rw[decide_eq_decide.2 h1]
  rw[e];exact Y.filter _
def zJ(U:∀j,(lu (P j)).Nodup):∀n,((FO P n).map dD.name).Nodup
 |0=>List.Pairwise.nil
 |n+1=>by
  show((sn _++_).map _).Nodup
  rw[bt,bQ]
  refine⟨by rw[bp];exact U n,(zJ U n).sublist ((bO).map _),?_⟩
  rintro x Y y hy rfl
  obtain⟨e,he,rfl⟩:=bq.1 hy
  have O:=by simpa using(bv.1 he).2
  rw[bp]at Y;exact O Y
end
open Go.Conc Go.RowKit Go.Maps
section
variable {Z:mE prog} {w:w?} {T:List Frame} {dd q:Nat}
def OW{A}{es:List dD}{ex}{Ss:Nat->ByteArray}{P:Nat->List (Nat×dD)}{sa:Option Addr}{n sc bx b}{ms:List qe}(hT:∀ps,T=[ps]->ps.mode≠.panicking [cJ])
  (hA:A.Ok) (aL:5<=q) (hq:q<w.1.size) (aM:w.1[q]?=y? ex) (hM:tC ex es) (hl:l? es<=100000) (aN:∀e∈es,l? e.name<=cH/\l? e.text<=1048576/\(e.gone=f?->0<=e.dE/\e.dE<=255)) (hn:n<=6)
  (hS:∀j,j<n->(Ss j).size<=1099511627775/\∃ps qs,iM (Ss j).size (Ss j).1.1=y? (ps,qs)/\P j=ps++qs) (af:∀a,sa=y? a->a.block≠b) (aO:bx≠b)
  (aP:ms=(iF es).map (rH A n)++kX A P n) (aQ:FF ms)
  (fin:∀(E₂:Env prog)aG ag aH,E₂.Z=Z->E₂.T=T->E₂.w0=w->(ag=[]\/∃k2,ag=.code .ret::k2)->BH prog E₂ Tryz.f49 aG aH (BM ms) (BK ms)->dk E₂ [⟨49,aG,ag⟩] aH []) :
  ∀(d k K s)(wl:w?)(V:Vs)(cl:Nat->Option Nat)(a2 a3 a4 a6 a8 a9 ah ai aj ak al am an ao ap aq ar au av aw ax ay az a0 a1 a5 a7 a' aA aB aC aD aE aF:v?),n=k+d->s=wl.1.size->K<=s->5<=s->dd<s->(∀(r:Nat)a c,wl.1[r]?≠y? (.map a c))->(∀x∈V,x.1<s)->
   wl.1[bx]?=y? (c? #[n? i? A.m,s? A.q,n? i? A.t] 94 (0,0))->wl.1[b]?=y? (c? (nT cl) 125 (0,0))->(∀a,sa=y? a->a.block<s)->(∀j,j<n->∃sb so,sa=y? ⟨sb,so,x?⟩/\wl.cell? ⟨sb,so+j,x?⟩=y? (s? (Ss j)))->
   (∀j,k<=j->cl j=x?)->(∀j r,j<7->cl j=y? r->∃vs,(r,y? vs)∈V)->(∀x∈V,∃j vs,j<7/\cl j=y? x.1/\x.2=y? vs)->(∀j j' r,j<7->j'<7->cl j=y? r->cl j'=y? r->j=j')->(V.map dg).Nodup->l? V=k->tS V=(kX A P k).map qe.val->
   dk (oe prog Z w T dd q K f?) [⟨49,#[.slice sa n sc,.map (y? dd),a2,a3,a4,p? (y? ⟨bx,0,x?⟩),a6,p? (y? ⟨b,0,x?⟩),a8,a9,ah,.slice sa n sc,n? i? (n:Int),n? i? (k:Int),ai,aj,ak,al,am,an,ao,ap,aq,ar,au,av,aw,ax,ay,az,a0,a1,a5,a7,a',aA,aB,aC,aD,aE,aF],.code (AZ (eD Tryz.f49))::.inLoop (AZ (eD Tryz.f49))::.inBlock 0::[.code (KR (eD Tryz.f49))]⟩] wl V:=by
 intro d;induction d with
 |zero=>
  intro k K s wl V cl a2 a3 a4 a6 a8 a9 ah ai aj ak al am an ao ap aq ar au av aw ax ay az a0 a1 a5 a7 a' aA aB aC aD aE aF aI hs hK h5 Y aa hV O hb ac ae U lg fl tJ gH ab ad;obtain rfl:n=k:=aI;have HC:cU _:=A? hs (A? hK (A? h5 (A? Y (A? aa (A? hV (A? O (A? hb (A? U (A? lg (A? fl (A? tJ (A? gH (A? ab ad)))))))))))));clear hs hK h5 Y aa hV O hb ac ae U lg fl tJ gH ab ad;show dk _ [⟨_,_,.code (.seq (.region 3 _ f?) (.seq (.cond _ .skip (.exit 0)) _))::_⟩] _ _;refine dk.sr λkk HK=>?_
  (refine fG ?_;go_simp);refine dk.ie HK ?_;clear HK kk;refine dk.seq (dk.nh trivial (by first|rfl|simp[kE]) ?_);refine dk.exit (k':=[.code (KR (eD Tryz.f49))]) q? ?_;obtain⟨hs,hK,h5,Y,aa,hV,O,hb,U,lg,fl,tJ,gH,ab,ad⟩:=HC.out;exact D4 (s:=s) (ms0:=kX A P n) (ms:=ms) hT hs hA o! h5 Y aL hq aM hM aa hl aN hn hV O hb U lg fl tJ gH ab ad aP aQ fin
 |succ d ih=>
  intro k K s wl V cl a2 a3 a4 a6 a8 a9 ah ai aj ak al am an ao ap aq ar au av aw ax ay az a0 a1 a5 a7 a' aA aB aC aD aE aF aI hs hK h5 Y aa hV O hb ac ae U lg fl tJ gH ab ad;obtain⟨hz,ps,qs,hX,hP⟩:=hS k o!;obtain⟨sb,so,rfl,aR⟩:=ae k o!;have ac:sb<s:=ac _ rfl;have af:sb≠b:=af _ rfl;refine Nf hT hs hA o! h5 Y aa hn o! hV O hb aR hz hX λw2 c8 c9 aV aW aX aY aZ ba bc bd be bf bg z2 o2 g2 aJ p2=>?_;have aS:bx<s:=by rw[hs];exact(bZ.1 O).1
  refine ih (k+1) (s+5) (s+5) w2 _ (mJ cl k (s+3)) _ _ _ _ _ _ _ _ _ _ _ _ _ _ _ _ _ _ _ _ _ _ _ _ _ _ _ _ _ _ _ _ _ _ o! z2.symm (cx _) o! o! aJ (λx hx=>?_) ((o2 bx aS aO).trans O) g2 (λa e=>by cases e;show sb<s+5;omega) (λj hj=>?_) (λj hj=>?_) (λj r hj hr=>?_) (λx hx=>?_) (λj j' r hj aK hr hr'=>?_) ?_ (by simp[ab]) ?_;obtain rfl|hx:=bE.1 hx
  show s+3<s+5;omega;have:=hV x hx;omega;obtain⟨aT,aU,e,this⟩:=ae j hj;refine⟨aT,aU,e,?_⟩;cases e;unfold cQ at this⊢;rw[o2 sb ac af];exact this;unfold mJ;rw[if_neg o!];exact U j o!;unfold mJ at hr;split at hr
  cases hr;exact⟨_,b3⟩;obtain⟨vs,h⟩:=lg j r hj hr;exact⟨vs,bN _ h⟩;obtain rfl|hx:=bE.1 hx
  exact⟨k,_,o!,by simp[mJ],q?⟩;obtain⟨j,vs,h1,h2,h3⟩:=fl x hx;refine⟨j,vs,h1,?_,h3⟩;unfold mJ;rw[if_neg (λe=>by rw[e,U k (cx _)]at h2;cases h2)];exact h2;unfold mJ at hr hr'
  have hold:∀i r,i<7->cl i=y? r->r≠s+3:=λi r hi h e=>by obtain⟨vs,h⟩:=lg i r hi h;have:=hV _ h;omega
  split at hr<;>split at hr';omega
  cases hr;exact absurd q? (hold j' _ aK hr')
  cases hr';exact absurd q? (hold j _ hj hr);exact tJ j j' r hj aK hr hr';rw[bA,bU];refine⟨λh=>?_,gH⟩;obtain⟨x,hx,e⟩:=bq.1 h;have:=hV x hx;omega;show(ps++qs).map _++tS V=((P k).map _++kX A P k).map _;rw[bt (l₁:=(P k).map _),bp,hP];congr 1;exact b2 λp _=>(GK A k p).symm
end
section
variable {Z:mE prog} {w:w?} {T:List Frame} {dd q K:Nat} {wl:w?}
def Qi{A}{es:List dD}{ex}{Ss:Nat->ByteArray}{P:Nat->List (Nat×dD)}{sa:Option Addr}{n sc s}{ms:List qe}(hT:∀ps,T=[ps]->ps.mode≠.panicking [cJ])
  (hs:s=wl.1.size) (hA:A.Ok) (hK:K<=s) (h5:5<=s) (ak:dd<s) (ad:5<=q) (hq:q<w.1.size) (ae:w.1[q]?=y? ex) (hM:tC ex es) (af:∀(r:Nat)a c,wl.1[r]?≠y? (.map a c))
  (hl:l? es<=100000) (ag:∀e∈es,l? e.name<=cH/\l? e.text<=1048576/\(e.gone=f?->0<=e.dE/\e.dE<=255))
  (hn:n<=6) (hS:∀j,j<n->(Ss j).size<=1099511627775/\∃ps qs,iM (Ss j).size (Ss j).1.1=y? (ps,qs)/\P j=ps++qs) (Y:∀a,sa=y? a->a.block<s) (ah:∀j,j<n->∃sb so,sa=y? ⟨sb,so,x?⟩/\wl.cell? ⟨sb,so+j,x?⟩=y? (s? (Ss j)))
  (ai:ms=(iF es).map (rH A n)++kX A P n) (aj:FF ms)
  (fin:∀(E₂:Env prog)am al an,E₂.Z=Z->E₂.T=T->E₂.w0=w->(al=[]\/∃k2,al=.code .ret::k2)->BH prog E₂ Tryz.f49 am an (BM ms) (BK ms)->dk E₂ [⟨49,am,al⟩] an []) :
  dk (oe prog Z w T dd q K f?) [⟨49,#[.slice sa n sc,.map (y? dd),.agg #[n? i? A.m,s? A.q,n? i? A.t],dN,dN,dN,dN,dN,dN,dN,dN,dN,dN,dN,dN,dN,dN,dN,dN,dN,dN,dN,dN,dN,dN,dN,dN,dN,dN,dN,dN,dN,dN,dN,dN,dN,dN,dN,dN,dN,dN],[.code (eD Tryz.f49)]⟩] wl []:=by
 have HN:cU _:=A? hn (A? hS (A? Y ah));clear hn hS Y ah;have HC:cU _:=A? hs (A? hA (A? hK (A? h5 (A? ak (A? ad (A? hq (A? ae (A? hM (A? af (A? hl (A? ag (A? ai (A? aj (A? fin hT))))))))))))));clear hs hA hK h5 ak ad hq ae hM af hl ag ai aj fin hT;show dk _ [⟨_,_,[.code (.seq (.region 0 _ f?) (.seq (.region 1 _ f?) (.seq (.seq (.region 2 _ f?) (.block 0 (.loop (.seq (.region 3 _ f?) (.seq (.cond _ .skip (.exit 0)) _))))) (KR (eD Tryz.f49)))))]⟩] _ _;refine dk.sc λkk HK=>?_;refine kR k! (by rw[HK.out];rfl) (.inr HC.2.2.2.2.2.2.2.2.2.2.2.2.2.2.2) λy0 ab U=>?_;have HY:cU (y0.1=wl.1/\y0.os=wl.os):=⟨ab,U⟩;clear ab U;go_wp2;refine iN ?_;rw[HK.out];clear HK kk;obtain⟨w3,aa⟩:∃w3,w3=y0.alloc (c? #[n? i? A.m,s? A.q,n? i? A.t] 94):=⟨_,q?⟩;have O:y0.1.size=s:=by rw[HY.1];exact HC.1.symm
 have z3:w3.1.size=s+1:=by rw[aa];simp[O]
 have o3:∀r,r<s->w3.1[r]?=wl.1[r]?:=λr hr=>by rw[aa,jL _ _ (by rw[O];omega),HY.1]
 have g3:w3.1[s]?=y? (c? #[n? i? A.m,s? A.q,n? i? A.t] 94 (0,0)):=by rw[aa,lB _ _ O.symm]
 have p3:w3.os=wl.os:=by rw[aa];exact HY.2
 rw[<-aa,O];clear aa HY O y0;have H3:cU _:=A? z3 (A? o3 (A? g3 p3));clear z3 o3 g3 p3;refine dk.sc λkk HK=>?_;refine kR k! (by rw[HK.out];rfl) (.inr HC.2.2.2.2.2.2.2.2.2.2.2.2.2.2.2) λy0 ab U=>?_;have HY:cU (y0.1=w3.1/\y0.os=w3.os):=⟨ab,U⟩;clear ab U;go_wp2;refine iN ?_;rw[HK.out];clear HK kk;obtain⟨w4,ac⟩:∃w4,w4=y0.alloc (c? (nT λ_=>x?) 125):=⟨_,q?⟩;have O:y0.1.size=s+1:=by rw[HY.1];exact H3.1
 have z4:w4.1.size=s+2:=by rw[ac];simp[O]
 have o4:∀r,r<s+1->w4.1[r]?=w3.1[r]?:=λr hr=>by rw[ac,jL _ _ (by rw[O];omega),HY.1]
 have g4:w4.1[s+1]?=y? (c? (nT λ_=>x?) 125 (0,0)):=by rw[ac,lB _ _ O.symm]
 rw[show y0.alloc (c? #[.chan x?,.chan x?,.chan x?,.chan x?,.chan x?,.chan x?,.chan x?] 125)=w4 from ac.symm,O];clear ac HY O y0;have H4:cU _:=A? z4 (A? o4 g4);clear z4 o4 g4;refine dk.seq ?_;refine dk.sr λkk HK=>?_
 (iterate 3 (refine fG ?_;go_simp));refine dk.ie HK ?_;clear HK kk;refine dk.block (dk.loop ?_);obtain⟨hs,hA,hK,h5,ak,ad,hq,ae,hM,af,hl,ag,ai,aj,fin,hT⟩:=HC.out;obtain⟨z3,o3,g3,p3⟩:=H3.out;obtain⟨z4,o4,g4⟩:=H4.out;obtain⟨hn,hS,Y,ah⟩:=HN.out;refine OW (b:=s+1) (bx:=s) (Ss:=Ss) (P:=P) hT hA ad hq ae hM hl ag hn hS (λa e=>by have:=Y a e;omega) o! ai aj fin n 0 K (s+2) w4 [] (λ_=>x?) _ _ _ _ _ _ _ _ _ _ _ _ _ _ _ _ _ _ _ _ _ _ _ _ _ _ _ _ _ _ _ _ _ _ o! z4.symm o! o! o! (λr a c=>?_) (λx hx=>by cases hx) ((o4 s o!).trans g3) g4 (λa e=>by have:=Y a e;omega) (λj hj=>?_) (λ_ _=>rfl) (λ_ _ _ h=>by cases h) (λx hx=>by cases hx) (λ_ _ _ _ _ h=>by cases h) List.nodup_nil q? rfl;by_cases h1:r<s;rw[o4 r o!,o3 r h1];exact af r a c;by_cases h2:r=s;rw[h2,o4 s o!,g3];simp;by_cases h3:r=s+1;rw[h3,g4];simp;rw[cn o!];simp;obtain⟨sb,so,e,this⟩:=ah j hj;have ao:sb<s:=Y _ e;refine⟨sb,so,e,?_⟩;unfold cQ at this⊢;rw[o4 sb o!,o3 sb ao];exact this
end
section
variable {E:Env prog} {fn:cK} {tm:Array v?} {os:List OF} {wl:w?} {k:List Item}
def dk.RJ{ops i rest o xs ts A es}{Ss:Nat->ByteArray}{P ms sa n sc lb}(ac:∀b,b<E.w0.1.size->E.gu b\/E.w0.1[b]?=y? qq)(aF:E.st=t?)(hi:ops[i]?=y? o)(au:cT o (cN ops tm)=t?)(ho:o.op=.call {callee:=.value (.func 49),args:=xs,argTypes:=ts})(av:∀x∈xs.toList,e9 E.gE E.gl x)
  (aw:xs.size=3) (ad:xs.map (kE tm)=#[.slice sa n sc,.map (y? lb),.agg #[n? i? A.m,s? A.q,n? i? A.t]]) (hA:A.Ok) (hs:eT wl lb es) (aG:5<=lb) (ax:(sa=x?/\n=0)\/∃sb U c f,sa=y? ⟨sb,U,x?⟩/\5<=sb/\wl.1[sb]?=y? (c? c 9 f)/\∀j,j<n->c[U+j]?=y? (s? (Ss j))) (hn:n<=6) (ay:∀j,j<n->(Ss j).size<=1099511627775/\∃ps qs,iM (Ss j).size (Ss j).1.1=y? (ps,qs)/\P j=ps++qs) (ag:ms=(iF es).map (rH A n)++kX A P n) (az:FF ms)
  (hl:l? es<=100000) (a0:∀e∈es,l? e.name<=cH/\l? e.text<=1048576/\(e.gone=f?->0<=e.dE/\e.dE<=255))
  (a1:∀l cp,BM ms l cp->dk E (⟨fn,fq o.dst tm (.slice x? l cp),r? ops rest::k⟩::os) wl [])
  (ae:∀off spot l cp cs e f,BK ms off spot l cp cs e f->(∀v∈cs.toList,Flat v)->dk E (⟨fn,fq o.dst tm (.slice (y? ⟨wl.1.size,off,spot⟩) l cp),r? ops rest::k⟩::os) {wl with heap:=wl.1.push (c? cs e f)} []) :
  dk E (⟨fn,tm,r? ops (i::rest)::k⟩::os) wl []:=by
 refine dk.phase (R0:=BM ms) (R1:=BK ms) (iD:=Tryz.f49) (c:=eD Tryz.f49) ac hi au func49 k! PG ho av ?_ a1 ae;intro m w ys T a2 hw Y hT;rw[ad]at Y;have hG:m.G=5:=a2.qR.env.G.trans zZ;obtain⟨ex,ah,hM⟩:=Hb hs;have h0:=Y.idx 0 i! (by rw[<-Y.size];simp);have h1:=Y.idx 1 i! (by rw[<-Y.size];simp);have h2:=Y.idx 2 i! (by rw[<-Y.size];simp);have a3:ys.size=3:=by rw[<-Y.size];rfl
 obtain⟨y0,y1,y2,rfl⟩:∃y0 y1 y2,ys=#[y0,y1,y2]:=⟨ys[0],ys[1],ys[2],by
  refine cw (by simp[a3]) λj h1 h2=>?_;have:j<3:=o!
  rcases(o!:j=0\/j=1\/j=2)with rfl|rfl|rfl<;>rfl⟩
 have h0:VR m (.slice sa n sc) y0:=h0;have h1:VR m (.map (y? lb)) y1:=h1;have h2:VR m (.agg #[n? i? A.m,s? A.q,n? i? A.t]) y2:=h2
 have aa:Flat (.agg #[n? i? (A.m:Int),s? A.q,n? i? (A.t:Int)]):=.agg λi hi=>by
  have:i<3:=hi;match i,this with
  |0,_|2,_=>exact .int _ _|1,_=>exact .string _
 have e2:=aa.eq m _ h2;subst e2
 obtain⟨q,rfl,hq⟩:∃q,y1=.map (y? q)/\m.blk lb=y? q:=by
  cases h1 with
  |map hb=>exact⟨_,q?,hb⟩|gone hd=>obtain⟨_,c,f,hc⟩:=hw.dead lb hd;obtain⟨a,c2,hx⟩:=hM.isMap;rw[ah,hx]at hc;cases hc
 have a4:5<=q:=by have:=m.qa lb q hq;omega
 obtain⟨o1,o2,g1,g2,g3⟩:=hw.obj lb q hq;rw[ah]at g1;cases g1;have a5:=hM.inv m _ g3;subst a5;have a6:q<w.1.size:=(bZ.1 g2).1;have a7:5<=w.1.size:=by have:=hw.KV;omega
 have fin:∀(b5:Option Nat)(h5:∀b,b5=y? b->5<=b)(c1:Array v?)(e5:cM)(hb:∀b,b5=y? b->∃c' f',w.1[b]?=y? (c? c' e5 f')/\∀m1,eP m1 c1 c')(s5:Option Addr)(ai:∀a,s5=y? a->a.block<7)(aj:∀j,j<n->∃U,s5=y? ⟨5,U,x?⟩/\c1[U+j]?=y? (s? (Ss j))),VR (VB b5 q h5) (.slice s5 n sc) y0->
   ∃(O:Env prog)(ak:Array v?)(m1:Ren)(al:w?),O.Z=E.Z/\O.T=T/\O.w0=w/\(∀b,O.gu b↔b<w.1.size)/\Rg O m1/\WR m1 al w/\(∀r b,m1.blk r=y? b->m1.loose r)/\eP m1 ak (#[y0,.map (y? q),.agg #[n? i? A.m,s? A.q,n? i? A.t]]++cf (Tryz.f49.ntmps-xs.size) dN)/\
   ((∀(E₂:Env prog)am af an,E₂.Z=E.Z->E₂.T=T->E₂.w0=w->(af=[]\/∃k2,af=.code .ret::k2)->BH prog E₂ Tryz.f49 am an (BM ms) (BK ms)->dk E₂ [⟨49,am,af⟩] an [])->dk O [⟨49,ak,[.code (eD Tryz.f49)]⟩] al []):=by
  intro b5 h5 c1 e5 hb s5 ai aj a8;refine⟨oe prog E.Z w T 6 q 6 f?,#[.slice s5 n sc,.map (y? 6),.agg #[n? i? A.m,s? A.q,n? i? A.t]]++cf 38 dN,VB b5 q h5,We (c? c1 e5 (0,c1.size)) w,q?,q?,q?,λb=>⟨λh=>h.1,λh=>⟨h,λh=>by cases h⟩⟩,U' h5,TI h5 a7 hb,λr b hr=>?_,?_,λao=>?_⟩;have hr:(if r=5 then b5 else x?)=y? b:=hr;split at hr;assumption
  cases hr;rw[aw];have hn:Tryz.f49.ntmps-3=38:=k!;rw[hn];refine eP.append (eP.iP q? λi h1 h2=>?_) (.replicate _ (.undef _));have:i<3:=h1;match i,this with
  |0,_=>exact a8|1,_=>exact .gone rfl|2,_=>exact aa.refl _
  have ap:(#[.slice s5 n sc,.map (y? 6),.agg #[n? i? A.m,s? A.q,n? i? A.t]]++cf 38 dN:Array v?)=#[.slice s5 n sc,.map (y? 6),.agg #[n? i? A.m,s? A.q,n? i? A.t],dN,dN,dN,dN,dN,dN,dN,dN,dN,dN,dN,dN,dN,dN,dN,dN,dN,dN,dN,dN,dN,dN,dN,dN,dN,dN,dN,dN,dN,dN,dN,dN,dN,dN,dN,dN,dN,dN]:=k!;rw[ap];refine Qi (s:=7) (Ss:=Ss) (P:=P) hT q? hA o! o! o! a4 a6 g2 hM (λr a c h=>?_) hl a0 hn ay ai (λj hj=>?_) ag az ao;rotate_left
  .obtain⟨U,e,h⟩:=aj j hj;refine⟨5,U,e,?_⟩;rw[dq (show(We (c? c1 e5 (0,c1.size)) w).1[5]?=y? (c? c1 e5 (0,c1.size))from rfl)];exact h
  have h:(#[yx,yx,yx,yx,yx,Obj.cells c1 e5 (0,c1.size),yx]:Array Obj)[r]?=y? (.map a c):=h;match r,h with
  |0,h|1,h|2,h|3,h|4,h|5,h|6,h=>cases h
  |r+7,h=>simp at h
 obtain⟨rfl,rfl⟩|⟨sb,U,c,f,rfl,aE,hc,aq⟩:=ax
 .cases h0 with
  |gq l c=>exact fin x? (λb h=>by cases h) #[] 0 (λb h=>by cases h) x? (λa h=>by cases h) (λj hj=>absurd hj o!) (.gq _ _)
 cases h0 with
 |zero _ hd=>obtain⟨_,c0,f0,g0⟩:=hw.dead sb hd;rw[hc]at g0;cases g0
 |@slice a a' _ _ a9=>
  cases a9 with
  |@mk b b' off spot ar=>
   obtain⟨o1,o2,k1,k2,k3⟩:=hw.obj sb b' ar;rw[hc]at k1;cases k1
   cases k3 with
   |@cells _ c' _ _ f' aA=>
    obtain⟨c1,ae,aH,aB⟩:=aA.flatten
    have aC:5<=b':=by have:=m.qa sb b' ar;omega
    refine fin (y? b') (λx hx=>by cases hx;exact aC) c1 9 (λx hx=>by cases hx;exact⟨c',f',k2,ae⟩) (y? ⟨5,U,x?⟩) (λa h=>by cases h;show 5<7;omega) (λj hj=>⟨U,q?,?_⟩) (.slice _ _ (.mk q?));obtain⟨aD,hv⟩:=bZ.1 (aq j hj);have ab:U+j<c1.size:=o!;rw[cb ab,aB _ ab aD (by rw[hv];exact .string _),hv]
end
section
variable {Z:mE prog} {W0:w?} {Mp:Nat->Prop} {fn:cK} {tm:Array v?} {os:List OF} {wl:w?} {k:List Item}
def Mu{ops:Array Oper}{i}{rest:List Nat}{o b lb}{vS vM vK:v?}{sa:Option Addr}{n sc mode dE most}{Ss:Nat->ByteArray}{P:Nat->List (Nat×dD)}{R:List dD}{qb:ByteArray}{es:List dD}(hi:ops[i]?=y? o)(al:vS=.slice sa n sc)
  (hb:wl.1[b]?=y? (c? #[.map (y? lb),vS,vM,vK] 90 (0,0))) (hs:eT wl lb es) (ah:5<=lb) (am:((sa=x?/\n=0)\/∃sb so c f,sa=y? ⟨sb,so,x?⟩/\5<=sb/\wl.1[sb]?=y? (c? c 9 f)/\∀j,j<n->c[so+j]?=y? (s? (Ss j)))/\n<=6/\(∀j,j<n->(Ss j).size<=1099511627775/\∃ps qs,iM (Ss j).size (Ss j).1.1=y? (ps,qs)/\P j=ps++qs)/\∀A:Ask,A.Ok->FF (allM A P es n)/\(eE (allM A P es n) (allM A P es n)).Perm (R.filter A.has))
  (hl:l? es<=100000) (ae:∀e∈es,l? e.name<=65536/\l? e.text<=1048576/\(e.gone=f?->0<=e.dE/\e.dE<=255))
  (hm:mode<=3) (ht:dE<=255) (a1:1<=most) (a2:most<=20) (hq:eR qb.1.1=t?) (a3:qb.size<=1000)
  (O:∀e∈R,e.gone=f?->∀y:w?,(∀r,r<5->y.1[r]?=wl.1[r]?)->cI prog 51 #[.agg #[s? ⟨a? e.name⟩,s? ⟨a? e.text⟩,n? i? e.dn,n? i? e.dE]] y λen w'=>en=e? (s? ⟨(jy e).toArray⟩)/\eJ y w') (h5:5<=wl.1.size)
  (hn:∀(w2:w?)(v),(∀r,r<wl.1.size->w2.1[r]?=wl.1[r]?)->wl.1.size<=w2.1.size->w2.os=wl.os->RZ w2 wl.1.size R ⟨mode,⟨(eA qb.1.1).toArray⟩,dE⟩ most v->dk (jk Z W0 Mp) (⟨fn,fq o.dst tm v,r? ops rest::k⟩::os) w2 []) :
  dk (jk Z W0 Mp) (⟨17,#[p? (y? ⟨b,0,x?⟩),n? i? mode,s? qb,n? i? dE,n? i? most,dN,dN,dN,dN,dN,dN,dN,dN,dN,dN,dN,dN,dN,dN,dN,dN,dN,dN,dN,dN,dN,dN,dN,dN,dN,dN,dN,dN,dN,dN,dN,dN,dN,dN,dN,dN,dN,dN,dN,dN,dN,dN,dN,dN,dN,dN,dN,dN,dN,dN,dN,dN,dN,dN,dN,dN,dN,dN,dN,dN,dN,dN],[.code (eD f17)]⟩::⟨fn,tm,r? ops (i::rest)::k⟩::os) wl []:=by
 have HA:cU _:=A? hb (A? hs (A? ah (A? am (A? hl (A? ae (A? O (A? h5 (A? hn al))))))));have HM:cU _:=A? hm (A? ht (A? a1 (A? a2 (A? hq a3))));clear hb hs ah am hl ae O h5 hn al;show dk _ (⟨_,_,[.code (.seq (.region 0 _ f?) (.seq (.seq (.region 1 _ f?) (.cond _ _ .skip)) (.seq (.seq (.region 3 _ f?) (.cond _ _ .skip)) (.seq (.region 5 _ t?) (.seq (.region 6 _ f?) (.seq (.seq (.region 7 _ f?) (.block 0 _)) (.seq (.region 12 _ f?) .ret)))))))]⟩::_) _ _;refine dk.sr λkk HK=>?_
 (iterate 2 (refine fu ?_;go_simp));refine dk.ie HK ?_;clear HK kk;refine dk.seq (dk.sc λkk HK=>?_);refine Gx k! (by rw[HK.out];rfl) i! λτ=>?_;have g1:¬((dE:Int)<0):=o!;have g2:¬((255:Int)<(dE:Int)):=o!;have c1:=JK mode hm (tp wl τ);have c2:=E3 (most:Int) (tp wl τ);rw[decide_eq_true (o!:(1:Int)<=most/\(most:Int)<=20)]at c2;have c3:=λτ=>sF qb (tp wl τ) (by unfold cH;omega);rw[hq]at c3;have C3:cU _:=c3;clear hm ht a1 a2 hq a3 c3;go_wp2_with fail;refine c1.mono ?_;rintro e w' ⟨rfl,rfl⟩;clear c1;go_wp2_with fail;refine c2.mono ?_;rintro e w' ⟨rfl,rfl⟩;clear c2;go_wp2;refine iN (dk.pj τ ?_);rw[HK.out];simp only[decide_eq_false (dj.2 g1),decide_eq_false (dj.2 g2),Bool.or_false];clear HK kk g1 g2;refine dk.nh trivial q? (dk.skip (dk.seq (dk.sc λkk HK=>?_)));refine Gx k! (by rw[HK.out];rfl) i! λτ=>?_;have c3:=C3.out τ;clear C3;go_wp2_with fail;refine c3.mono ?_;rintro e w' ⟨rfl,rfl⟩;clear c3;go_wp2;refine iN (dk.pj τ ?_);rw[HK.out];clear HK kk;refine dk.nh trivial q? (dk.skip (dk.sc λkk HK=>?_))
 have ao:cU (∀y,kO wl y->y.cell? ⟨b,1,x?⟩=y? vS):=λy hy=>by obtain⟨τ,h⟩:=hy;exact cL h (show(tp wl τ).cell? _=_ by rw[dq (w:=tp wl τ) (show(tp wl τ).1[b]?=_ from HA.1)];rfl)
 have ap:cU (∀y,kO wl y->y.cell? ⟨b,0,x?⟩=y? (.map (y? lb))):=λy hy=>by obtain⟨τ,h⟩:=hy;exact cL h (show(tp wl τ).cell? _=_ by rw[dq (w:=tp wl τ) (show(tp wl τ).1[b]?=_ from HA.1)];rfl)
 obtain⟨fb,aq⟩:∃fb:ByteArray,fb=⟨(eA qb.1.1).toArray⟩:=⟨_,q?⟩;have ar:cU (∀y:w?,cI prog 50 #[s? qb] y λe w'=>e=e? (s? fb)/\eJ y w'):=λy=>by rw[aq];exact tr qb y (v! HM.out)
 have au:cU _:=aq;clear aq;refine dk.J5 (Sd:=λa y=>kO wl y/\a.defers=[]/\dk _ (⟨_,a.tmps,r? _ [13,14]::_⟩::_) y _) (last:=13) (tl:=[14]) k! (Ul k!) ?_ (λa y h=>h.2);refine dX 0 ?_ ?_<|dX 1 ?_ ?_<|dX 2 ?_ ?_<|dX 3 ?_ ?_<|dX 4 ?_ ?_<|dX 5 ?_ ?_<|dX 6 ?_ ?_<|dX 7 ?_ ?_<|dX 8 ?_ ?_<|dX 9 ?_ ?_ ?_
 any_goals(intro y hy;have q:=ao.out y hy;have q1:=ap.out y hy;unfold fL;go_simp;refine⟨eJ.refl _,?_⟩;with_reducible rfl)
 go_simp;refine dX 10 ?_ ?_ ?_;rotate_left
 .intro y hy;unfold fL;go_simp;refine⟨q?,(ar y).mono ?_⟩;rintro e y2 ⟨rfl,h2⟩;refine⟨_,q?,h2,?_⟩;with_reducible rfl
 go_simp;refine dX 11 ?_ ?_<|dX 12 ?_ ?_ ?_
 any_goals(intro y hy;unfold fL;go_simp;refine⟨eJ.refl _,?_⟩;with_reducible rfl)
 go_simp;refine qY k! (λt=>Dy k! k! _ _) ?_;intro y hy;refine⟨hy,q?,?_⟩;obtain⟨τ,hx⟩:=hy;obtain⟨hb,hs,ah,am,hl,ae,O,h5,hn,al⟩:=HA.out;have af:wl.1.size<=y.1.size:=hx.size;have hold:∀r,r<wl.1.size->y.1[r]?=wl.1[r]?:=λr hr=>hx.block r hr;have ab:y.os=wl.os:=hx.os;have av:eT y lb es:=dU.stay hs (hold lb (dU.lt hs));subst al;have ag:Ask.Ok ⟨mode,fb,dE⟩:=⟨HM.1,by show dE<256;have:=HM.out;omega,by rw[au.out];show(eA qb.1.1).toArray.size<=_;rw[List.size_toArray,fO];have:=HM.out;simp;omega⟩;obtain⟨aw,ax,ay,az⟩:=am;have ai:=az ⟨mode,fb,dE⟩ ag;refine dk.RJ (A:=⟨mode,fb,dE⟩) (es:=es) (Ss:=Ss) (P:=P) (ms:=allM ⟨mode,fb,dE⟩ P es n) (sa:=sa) (n:=n) (sc:=sc) (lb:=lb) (xs:=#[.tmp 38,.tmp 42,.tmp 47]) (Hk _ _ _) q? q? q? q? (by simp[e9]) q? k! ag av ah (aw.imp id λ⟨sb,so,c,f,h1,h2,h3,h4⟩=>⟨sb,so,c,f,h1,h2,by rw[hold _ (bZ.1 h3).1];exact h3,h4⟩) ax ay q? ai.1 hl (λe he=>⟨by have:=(ae e he).1;unfold cH;omega,(ae e he).2⟩) ?_ ?_
 .intro l cp hr;obtain⟨rfl,rfl,_⟩:=id hr;have ad:iu y 4 (.slice x? 0 0) 0 (jj []):=iu.nil y 4;have U:Pp (allM ⟨mode,fb,dE⟩ P es n) []:=hr.2.2;have Y:List.Perm [] (R.filter (Ask.has ⟨mode,fb,dE⟩)):=U.1.trans ai.2;have HH:cU _:=A? Y (A? U.2 (A? hold (A? af (A? ab (A? h5 (A? O (A? hn ad)))))));clear hb hs ah aw ax ay az ai hl ae O h5 hn af hold ab av ag U Y ad HA ap ao ar hx;rw[kh];go_simp
  (refine fu ?_;go_simp);refine dk.ie HK ?_;show dk _ (⟨_,_,[.code (NS (eD f17))]⟩::_) _ _;obtain⟨Y,a0,hold,af,ab,h5,O,hn,ad⟩:=HH.out;refine wv (L:=[]) hi ad q? HM.2.2.1 HM.2.2.2.1 o! (λe he y2 ac=>?_) (λw2 u h1 h2 h3 h4=>?_);have aa:=(Y.mem_iff.1 he);rw[bv]at aa;exact O e aa.1 (vy aa.2) y2 (λr hr=>(ac r hr).trans (hold r o!));refine hn w2 _ (λr hr=>(h1 r o!).trans (hold r hr)) o! (h3.trans ab) ⟨[],?_,a0,u,q?,fj h4 o!⟩;rw[<-au.out];exact Y
 intro off spot l cp cs e f hr a9;obtain⟨rfl,rfl,rfl,rfl,L,a4,rfl,a5,a6,an,aj⟩:=hr;obtain⟨y2,ac⟩:∃y2:w?,y2={y with heap:=y.1.push (c? cs 96 (0,0))}:=⟨_,q?⟩;have ak:∀r,r<y.1.size->y2.1[r]?=y.1[r]?:=λr hr=>by rw[ac];show(y.1.push _)[r]?=_;rw[Array.getElem?_push,if_neg o!]
 have a':y2.1.size=y.1.size+1:=by rw[ac];simp
 have a7:y2.os=y.os:=by rw[ac]
 have a8:y2.1[y.1.size]?=y? (c? cs 96 (0,0)):=by rw[ac];simp
 have ad:iu y2 4 (.slice (y? ⟨y.1.size,0,x?⟩) L.length cp) L.length (jj L):=iu.eL (base:=0) (e:=96) ⟨by rw[wC],.inr ⟨y.1.size,cp,cs,q?,c5 _,a8,a5,a6,an,aj⟩⟩;rw[<-ac];have hold:∀r,r<wl.1.size->y2.1[r]?=wl.1[r]?:=λr hr=>(ak r o!).trans (hold r hr);have af:wl.1.size<=y2.1.size:=o!;have ab:y2.os=wl.os:=a7.trans ab;clear ak a' a7 a8 a5 a6 an aj a9 ac;have U:Pp (allM ⟨mode,fb,dE⟩ P es n) L:=a4;have Y:List.Perm L (R.filter (Ask.has ⟨mode,fb,dE⟩)):=U.1.trans ai.2;have HH:cU _:=A? Y (A? U.2 (A? hold (A? af (A? ab (A? h5 (A? O (A? hn ad)))))));clear hb hs ah aw ax ay az ai hl ae O h5 hn af hold ab av ag U a4 Y ad HA ap ao ar hx;rw[kh];go_simp
 (refine fu ?_;go_simp);refine dk.ie HK ?_;show dk _ (⟨_,_,[.code (NS (eD f17))]⟩::_) _ _;obtain⟨Y,a0,hold,af,ab,h5,O,hn,ad⟩:=HH.out;refine wv (L:=L) hi ad q? HM.2.2.1 HM.2.2.2.1 o! (λe he y2 ac=>?_) (λw2 u h1 h2 h3 h4=>?_);have aa:=(Y.mem_iff.1 he);rw[bv]at aa;exact O e aa.1 (vy aa.2) y2 (λr hr=>(ac r hr).trans (hold r o!));refine hn w2 _ (λr hr=>(h1 r o!).trans (hold r hr)) o! (h3.trans ab) ⟨L,?_,a0,u,q?,fj h4 o!⟩;rw[<-au.out];exact Y
end
end
section
section
variable {A:Ask} {P:Nat->List (Nat×dD)}
def G7(O:∀j,(P j).length<=130):∀n,(kX A P n).length<=n*130
 |0=>by simp[kX]
 |n+1=>by
  have:=G7 O n
  have:=O n;simp only[kX,b1,bD];omega
def EH:∀n,∀m∈kX A P n,∃j,j<n/\∃p∈P j,m=rH A j p
 |0,m,h=>by simp[kX]at h
 |n+1,m,h=>by
  obtain h|h:=bw.1 h
  obtain⟨p,O,rfl⟩:=bq.1 h;exact⟨n,o!,p,O,q?⟩;obtain⟨j,U,x⟩:=EH n m h;exact⟨j,o!,x⟩
def xR(O:∀j,((P j).map dg).Nodup):∀n,((kX A P n).map λm=>(m.yv,m.at')).Nodup
 |0=>List.Pairwise.nil
 |n+1=>by
  show((_++_:List qe).map _).Nodup
  rw[bt,bQ]
  refine⟨?_,xR O n,?_⟩
  .rw[bp]
   have e:((λm=>(m.yv,m.at')) ∘ rH A n)=(λk=>(n,k)) ∘ dg:=by funext p;simp only[Function.comp_apply,(jp n p).1,(jp n p).2.1]
   rw[e,<-bp];have h:=O n;unfold bJ at h⊢;rw[b7];exact h.imp λh e=>h (Prod.mk.inj e).2
  rintro x U y Y rfl;rw[bp]at U;obtain⟨p,_,rfl⟩:=bq.1 U;obtain⟨m,hm,he⟩:=bq.1 Y;have:=vV n m hm;have:=(Prod.mk.inj he).1;simp only[(jp n p).1]at this;omega
def GV:∀n,∀e∈FO P n,∃j,j<n/\e∈sn (P j)
 |0,e,h=>by simp[FO]at h
 |n+1,e,h=>by
  obtain h|h:=bw.1 h
  exact⟨n,o!,h⟩;obtain⟨j,O,x⟩:=GV n e (bv.1 h).1;exact⟨j,o!,x⟩
end
def Is(A:Ask)(l):(du l).filter A.has=l.filter A.has:=by
 unfold du;rw[b6];apply b8;intro e _
 cases h:A.has e with
 |false=>rfl|true=>rw[vy h];rfl
def xn{e}(h:NI e):l? e.name<=cH/\l? e.text<=1048576:=by
 have O:=(il (s4 h)).2;refine⟨by unfold cH;omega,?_⟩;obtain h|h:=h
 have:=(kZ h.2.2.1);omega;rw[h.1];simp
def Py{buf ss}(hI:Inv buf ss):∃P,
  (∀j(h),∃ps qs,iM (eh ss[j]).length (eh ss[j])=y? (ps,qs)/\P j=ps++qs)/\
  ∀A,FF (allM A P buf ss.length)/\(eE (allM A P buf ss.length) (allM A P buf ss.length)).Perm ((dO ss buf).filter A.has):=by
 have ac:∀j,∃p:List (Nat×dD),∀h:j<l? ss,∃ps qs,iM (eh ss[j]).length (eh ss[j])=y? (ps,qs)/\p=ps++qs/\(sn p).Perm ss[j]/\rC 0 (eh ss[j]).length p:=by intro j;by_cases h:j<l? ss;obtain⟨gs,es,Y,h2⟩:=uy (hI.kM _ (br h));obtain⟨ps,qs,h3,h4,h5,h6⟩:=LU Y;exact⟨ps++qs,λ_=>⟨ps,qs,h3,q?,by rw[show sn (ps++qs)=sn ps++sn qs from bt,h4,h5];exact h2,h6⟩⟩;exact⟨[],λh'=>absurd h' h⟩
 obtain⟨P0,ab⟩:=cG ac;refine⟨P0,λj h=>?_,λA=>?_⟩
 .obtain⟨ps,qs,Y,h2,_⟩:=ab j h;exact⟨ps,qs,Y,h2⟩
 obtain⟨P,hP⟩:∃P:Nat->List (Nat×dD),P=λj=>if j<ss.length then P0 j else if j=ss.length then iF buf else []:=⟨_,q?⟩
 have aa:P ss.length=iF buf:=by rw[hP];simp
 have fl:allM A P0 buf ss.length=kX A P (l? ss+1):=by show _++_=_++_;rw[aa,zm (P:=P0) (Q:=P) ss.length λj hj=>by rw[hP];simp[hj]]
 have af:(du buf).length<=30:=cz (mw _ _) hI.all
 have ad:l? buf<=130:=by have Y:=kV buf;have h2:=hI.gone;have:=qo buf;omega
 have ae:∀j(h:j<l? ss),ss[j].length<=130:=λj h=>kq (hI.kM _ (br h))
 have U:∀j,∃l:List dD,(sn (P j)).Perm l/\(l.map dD.name).Nodup/\l? l<=130/\(∀e∈l,NI e)/\((P j).map dg).Nodup/\(∀p∈P j,p.1<4611686018427387904)/\(∀h:j<(ss++[buf]).length,l=(ss++[buf])[j]):=by
  intro j;obtain h|h|h:=Nat.lt_trichotomy j ss.length
  obtain⟨ps,qs,_,_,h2,h3⟩:=ab j h;have e:P j=P0 j:=by rw[hP];simp[h]
  have hs:=hI.kM _ (br h);refine⟨ss[j],by rw[e];exact h2,hs.nodup,ae j h,hs.each,?_,λp hp=>?_,λ_=>by rw[List.getElem_append_left h]⟩;rw[e];unfold bJ;rw[b7];exact h3.2.2.imp λh=>Nat.ne_of_lt h;rw[e]at hp;have:=(h3.2.1 p hp).2;have:=qN hs;omega;subst h;refine⟨buf,by rw[aa];show(bX _ _).Perm _;rw[GR];exact oP buf,hI.nodup,ad,hI.each,?_,λp hp=>?_,λ_=>i!⟩;rw[aa,Bi,bp];exact(List.nodup_range).map _ (λ_ _ h e=>h e);rw[aa,Bi]at hp;obtain⟨k,hk,rfl⟩:=bq.1 hp;have:=bW.1 hk;omega;have e:P j=[]:=by rw[hP];simp[(o!:¬j<l? ss),(o!:¬j=l? ss)]
  exact⟨[],by rw[e];exact .refl _,List.Pairwise.nil,i!,i!,by rw[e];exact List.Pairwise.nil,by rw[e];simp,λh'=>by simp at h';omega⟩
 have hL:∀j,(P j).length<=130:=λj=>by obtain⟨l,Y,_,h3,_⟩:=U j;have:=Y.length_eq;rw[bD]at this;omega
 have hN:∀j,(lu _).Nodup:=λj=>by obtain⟨l,Y,h2,_⟩:=U j;have:=(Y.map _).nodup_iff.2 h2;rw[bp]at this;exact this
 have hG:∀j,∀p∈P j,NI _:=λj p hp=>by obtain⟨l,Y,_,_,h4,_⟩:=U j;exact h4 _ (Y.mem_iff.1 (bq.2 ⟨p,hp,q?⟩))
 have ag:=hI.yW;have O:eE (allM A P0 buf ss.length) (allM A P0 buf ss.length)=(FO P (l? ss+1)).filter A.has:=by rw[fl,zv]
 constructor;refine⟨?_,λm hm=>?_,?_,?_,?_⟩;rw[fl];have:=G7 (A:=A) hL (l? ss+1);omega;rw[fl]at hm;obtain⟨j,hj,p,hp,rfl⟩:=EH _ m hm;rw[(jp j p).1,(jp j p).2.1,(jp j p).2.2.1];obtain⟨l,_,_,_,_,_,h6,_⟩:=U j;exact⟨o!,h6 p hp,(xn (hG j p hp)).1⟩;rw[fl];exact xR (λj=>(U j).elim λl h=>h.2.2.2.2.1) _;rw[O];exact(zJ hN _).sublist ((bO).map _);rw[O];intro e he;obtain⟨j,_,h⟩:=GV _ e (bv.1 he).1;obtain⟨p,hp,rfl⟩:=bq.1 h;exact(xn (hG j p hp)).2;rw[O,iy,Is]
 have:=Fv (P:=P) (ss:=ss++[buf]) (λj h=>by
  obtain⟨l,Y,_,_,_,_,_,h7⟩:=U j;rw[<-h7 h]
  exact Y) (l? ss+1) i!
 rw[bC i!]at this;exact this.filter _
open Go.Conc Go.RowKit Go.Maps
variable {e:dD} {ss:List (List dD)} {buf:List dD}
def zS:∀(ss:List (List dD))(a),(a.map dD.name).Nodup->(∀s∈ss,(s.map dD.name).Nodup)->((ss.foldl dM a).map dD.name).Nodup
 |[],_,h,_=>h|s::ss,a,h,O=>zS ss _ (uM h (O s i!)) λx U=>O x (by simp[U])
def xA(h:Inv buf ss):((dO ss buf).map dD.name).Nodup:=by
 rw[iy];refine ri (zS _ [] List.Pairwise.nil λs U=>?_);obtain O|O:=bw.1 U
 exact(h.kM s O).nodup;simp only[bF]at O;rw[O];exact h.nodup
def EN{R L:List dD}{mode dE most}{qb:ByteArray}(O:(R.map dD.name).Nodup)(Y:∀e∈R,e.gone=f?)(hm:mode<=3)(ht:dE<=255)(aa:1<=most)(ab:most<=20)(hq:eR qb.1.1=t?)
  (U:L.Perm (R.filter (Ask.has ⟨mode,⟨(eA qb.1.1).toArray⟩,dE⟩))) (hs:L.Pairwise λx y=>eU x y=t?):(L.take most).map jy=(kI R mode qb.1.1 dE most).1:=by
 have e1:R.filter (Ask.has ⟨mode,⟨(eA qb.1.1).toArray⟩,dE⟩)=R.filter λe=>oM mode dE qb.1.1 e:=by refine b8 λe he=>?_;unfold Ask.has oM dC;rw[Y e he];simp
 rw[e1]at U;have h:=Dz (mode:=mode) (dE:=dE) (most:=most) (q:=qb.1.1) O hs (u! U);unfold kI;rw[if_neg o!,if_pos hq];rw[h];simp
abbrev nV(w:w?):Prop:=Lib.TabIs prog w "internal/strconv.uint64pow10" .u64 Lib.pow10Tab
def JF{w y:w?}(h:nV w)(hb:∀r,r<5->y.1[r]?=w.1[r]?):nV y:=by unfold nV Lib.TabIs World.var? at h⊢;have U:∃g,g<5/\prog.globalNamed "internal/strconv.uint64pow10" = y? g:=⟨2,o!,k!⟩;obtain⟨g,O,e⟩:=U;rw[e]at h⊢;simp only[Option.bind_some]at h⊢;rw[hb g O];exact h
def PE(h:Ai e)(y)(U:nV y)(h5:5<=y.1.size):cI prog 51 #[.agg #[s? ⟨a? e.name⟩,s? ⟨a? e.text⟩,n? i? e.dn,n? i? e.dE]] y λY w'=>Y=e? (s? ⟨(jy e).toArray⟩)/\eJ y w':=by obtain⟨_,h1,h2,_,h3,h4,_⟩:=h;have hn:=(il h1).2;have aa:=kZ h2;refine On e y h3 (λy2 O=>?_) o! o! ?_;have:=NU e.dn.toNat o! y2 (JF U λr hr=>O.block r o!);rw[(o!:e.dn.toNat=e.dn)]at this;exact this;have:=Fz 7 e.dn.toNat o! o!;omega
def KU:∀(L:List (List dD))(a){e},e∈L.foldl dM a->e∈a\/∃l∈L,e∈l
 |[],_,_,h=>.inl h
 |l::L,a,e,h=>by
  obtain h|⟨m,hm,h⟩:=KU L _ h
  obtain h|h:=n9.1 h
  exact .inl h.1;exact .inr ⟨l,i!,h⟩;exact .inr ⟨m,by simp[hm],h⟩
def xa(h:Inv buf ss)(he:e∈dO ss buf):Ai e:=by
 rw[iy]at he;obtain⟨h1,h2⟩:=bv.1 he
 have O:NI e:=by
  obtain U|⟨l,hl,U⟩:=KU _ _ h1
  simp at U;obtain Y|Y:=bw.1 hl
  exact(h.kM l Y).each e U;simp only[bF]at Y;subst Y;exact h.each e U
 obtain O|O:=O
 exact O;rw[O.1]at h2;simp at h2
def M9:f17.name≠ "runtime.NumGoroutine":=by decide
def D7{w y}(h:nV w/\5<=w.1.size)(O:lI w y):nV y:=JF h.1 λr U=>O.block r o!
section
variable {Z:mE prog} {W0:w?} {Mp:Nat->Prop} {fn:cK} {tm:Array v?} {os:List OF} {wl:w?} {k:List Item} {V:List (Nat×Option (List v?))}
def iR{c d:Code}(h:∀U,cU (U=.code d::k)->∀y,lI wl y->c.wp prog (Ji (jk Z W0 Mp) fn U os V) ⟨tm,[]⟩ y)(O:ll (λo=>GN prog vr tQ t? o.op) c=t?:=by kernel_rfl)(Y:(Item.code d::k).all lG=t?:=by rfl):dk (jk Z W0 Mp) (⟨fn,tm,.code (.seq c d)::k⟩::os) wl V:=
 dk.seq (dk.Km (qE O) Y (.inr nofun) λτ _=>h _ q? _ ⟨q?,cx _,λ_ _=>rfl⟩)
def fR{P}{E:Env P}{tmps w' kk}(O:cU (kk=k))(h:dk E (⟨fn,tmps,k⟩::os) w' V):Ji E fn kk os V .normal ⟨tmps,[]⟩ w':=by rw[O.out];exact iN h
end
def PJ.stay{w w':w?}{F1 F2 b ss ts}(h:PJ w F1 F2 b buf ss ts)(U:w.1.size<=w'.1.size)(hb:∀k,F1 k\/F2 k->w'.1[k]?=w.1[k]?):PJ w' F1 F2 b buf ss ts:=by obtain⟨Y,h2,h3,Bb,vS,B,n,vK,kn,h4,h5⟩:=h;exact⟨λk O=>cy (Y k O) U,λk O=>cy (h2 k O) U,h3,Bb,vS,B,n,vK,kn,h4.stay λk O=>hb k (.inl O),h5.stay λk O=>hb k (.inr O)⟩
end
section
open Go.RowKit
variable {N i k:Nat}
structure Sg where
 b:List dD
 s:List (List dD)
 t:List (List Wd)
structure vG where
 bx:Nat
 yb:Nat
 x:Sg
 y:Sg
def nz(es:List vG):List v?:=es.flatMap λe=>[p? (y? ⟨e.bx,0,x?⟩),p? (y? ⟨e.yb,0,x?⟩)]
def wU:∀(es)(i)(e)(h),e.bx=es[i].bx->e.yb=es[i].yb->nz (es.set i e)=nz es
 |a::es,0,e,h,O,U=>by simp at O U;simp[nz,O,U]
 |a::es,i+1,e,h,O,U=>by
  have:=wU es i e (u! h) (u! O) (u! U)
  simp only[nz,List.set_cons_succ,List.flatMap_cons]at this⊢;rw[this]
def Cg:∀(es)(i)(h),(nz es)[i*2]?=y? (p? (y? ⟨es[i].bx,0,x?⟩))/\(nz es)[i*2+1]?=y? (p? (y? ⟨es[i].yb,0,x?⟩))
 |a::es,0,h=>by simp[nz]
 |a::es,i+1,h=>by
  have:=Cg es i (u! h)
  have e:nz (a::es)=p? (y? ⟨a.bx,0,x?⟩)::p? (y? ⟨a.yb,0,x?⟩)::nz es:=by simp[nz]
  rw[e,(o!:(i+1)*2=i*2+1+1)];simpa using this
structure BB(c c':Nat->Nat)(m:Nat)(w w':w?):Prop where
 Tq:∀k,k<w.1.size->c' k=c k
 os:w'.os=w.os
 size:w.1.size<=w'.1.size
 block:∀k,k<w.1.size->c k≠m->w'.1[k]?=w.1[k]?
def ub(c:Nat->Nat)(N m:Nat)(k:Nat):Nat:=if k<N then c k else m
def je{c m}(h:k<N):ub c N m k=c k:=if_pos h
def qO{c m}(h:N<=k):ub c N m k=m:=if_neg o!
def KT(w0 w:w?)(c:Nat->Nat)(n b:Nat)(s:Sg):Prop:=∃F1 F2,AW w0 w F1 F2 b s.b s.s s.t/\∀k,F1 k\/F2 k->c k=n
def Lc(w:w?)(c:Nat->Nat)(n b:Nat)(s:Sg):Prop:=∃F,j6 w F b s.b s.s s.t/\(∀k,F k->k<w.1.size/\c k=n)/\Inv s.b s.s
structure Jg(w:w?)(c:Nat->Nat)(B:Nat)(va vl vm:v?)(last:Nat)(us:List v?)(ms:List Wd)(n:Nat)(ps:List v?):Prop where
 heap:w.1[B]?=some (.cells #[va,vl,vm,.int .i64 last] 74 (0,0))
 lists:∃D,lT w D B vl vm us ms/\(∀k,D k->c k=1)/\∀k,va.ownBlock=some k->¬D k
 len:l? us=l? ms
 row:w.ownsRow 0 122 2 va n ps
 cB:c B=1
 ca:∀k,va.ownBlock=some k->c k=1
 cl:∀k,vl.ownBlock=some k->c k=1
 cm:∀k,vm.ownBlock=some k->c k=1
structure PS(w0 w:w?)(c:Nat->Nat)(B:Nat)(va vl vm:v?)(last:Nat)(us:List v?)(ms:List Wd)(es:List vG):Prop where
 law:Jg w c B va vl vm last us ms es.length (nz es)
 zero:∀k,k<w0.1.size->c k=0
 low:lI w0 w
 x:∀i(h:i<l? es),KT w0 w c (2*i+2) es[i].bx es[i].x
 y:∀i(h:i<l? es),Lc w c (2*i+3) es[i].yb es[i].y
section
variable {w0 w w':w?} {c c':Nat->Nat} {m n b B:Nat} {s:Sg} {va vl vm:v?} {last:Nat} {us:List v?} {ms:List Wd} {ps:List v?} {es:List vG}
def KT.stay(h:KT w0 w c n b s)(Y:BB c c' m w w')(hn:n≠m)(hl:lI w0 w'):KT w0 w' c' n b s:=by obtain⟨F1,F2,h,hc⟩:=h;have U:∀k,F1 k\/F2 k->k<w.1.size:=λk O=>O.elim (h.j.Wr k) (h.j.VN k);exact⟨F1,F2,⟨h.j.stay Y.size λk O=>Y.block k (U k O) (by rw[hc k O];exact hn),h.VH,h.Ey,hl⟩,λk O=>by rw[Y.Tq k (U k O)];exact hc k O⟩
def Lc.stay(h:Lc w c n b s)(Y:BB c c' m w w')(hn:n≠m):Lc w' c' n b s:=by obtain⟨F,h,U,hi⟩:=h;exact⟨F,h.stay λk O=>Y.block k (U k O).1 (by rw[(U k O).2];exact hn),λk O=>⟨cy (U k O).1 Y.size,by rw[Y.Tq k (U k O).1];exact(U k O).2⟩,hi⟩
def Jg.bz(h:Jg w c B va vl vm last us ms n ps):B<w.1.size:=(bZ.1 h.1).1
def Jg.stay(h:Jg w c B va vl vm last us ms n ps)(U:BB c c' m w w')(hm:m≠1):Jg w' c' B va vl vm last us ms n ps:=by
 obtain⟨D,Y,hD,aa⟩:=h.lists;have hb:∀k,k<w.1.size->c k=1->w'.1[k]?=w.1[k]?:=λk O hc=>U.block k O (by rw[hc];exact λe=>hm e.symm);have a1:=λk O=>(h.row.lt k O).2;have l1:=λk O=>(Y.ol.lt k O).2;have m1:=λk O=>(Y.om.lt k O).2
 exact⟨by rw[hb B h.bz h.cB];exact h.1,⟨D,Y.stay U.size (λk O=>hb k (Y.yP k O) (hD k O)) (λk O=>hb k (l1 k O) (h.cl k O)) (λk O=>hb k (m1 k O) (h.cm k O)),λk O=>by rw[U.Tq k (Y.yP k O)];exact hD k O,aa⟩,h.len,
  dG h.row λk O=>hb k (a1 k O) (h.ca k O),by rw[U.Tq B h.bz];exact h.cB,λk O=>by rw[U.Tq k (a1 k O)];exact h.ca k O,λk O=>by rw[U.Tq k (l1 k O)];exact h.cl k O,λk O=>by rw[U.Tq k (m1 k O)];exact h.cm k O⟩
def PS.Ph(h:PS w0 w c B va vl vm last us ms es)(O:BB c c' m w w')(hm:m≠0):lI w0 w':=
 ⟨O.os.trans h.low.os,cz h.low.size O.size,λk U=>(O.block k (cy U h.low.size) (by rw[h.zero k U];exact λe=>hm e.symm)).trans (h.low.block k U)⟩
def PS.ED(h:PS w0 w c B va vl vm last us ms es)(U:∀k,k<w.1.size->c' k=c k):∀k,k<w0.1.size->c' k=0:=λk O=>by rw[U k (cy O h.low.size)];exact h.zero k O
def mP:∀k,k<N->ub c N m k=c k:=λ_ h=>je h
def PS.same(h:PS w0 w c B va vl vm last us ms es)(O:lI w w')(m):PS w0 w' (ub c w.1.size m) B va vl vm last us ms es:=
 have U:BB c (ub c w.1.size m) 0 w w':=⟨mP,O.os,O.size,λk hk _=>O.block k hk⟩;have O:=h.low.trans O;⟨h.law.stay U o!,h.ED mP,O,λi Y=>(h.x i Y).stay U o! O,λi Y=>(h.y i Y).stay U o!⟩
structure Zc(c:Nat->Nat)(w:w?)(c':Nat->Nat)(w':w?):Prop where
 size:w.1.size<=w'.1.size
 block:∀k,k<w.1.size->c k=0->w'.1[k]?=w.1[k]?/\c' k=0
def PS.VP(h:PS w0 w c B va vl vm last us ms es)(hi){s F1 F2 F1' F2'}(h1:AW w0 w F1 F2 es[i].bx es[i].x.b es[i].x.s es[i].x.t)(hc:∀k,F1 k\/F2 k->c k=2*i+2)(h2:AW w0 w' F1' F2' es[i].bx s.b s.s s.t)(hs:St w w' F1 F2 F1' F2') :
  ∃c',PS w0 w' c' B va vl vm last us ms (es.set i ⟨es[i].bx,es[i].yb,s,es[i].y⟩)/\Zc c w c' w':=by
 have U:BB c (ub c w.1.size (2*i+2)) (2*i+2) w w':=⟨mP,h2.low.os.trans h1.low.os.symm,hs.size,λk O hn=>hs.block k O (λh=>hn (hc k (.inl h))) λh=>hn (hc k (.inr h))⟩;have hl:=h.Ph U o!;refine⟨_,⟨by rw[b0,wU es i ⟨es[i].bx,es[i].yb,s,es[i].y⟩ hi q? rfl];exact h.law.stay U o!,h.ED mP,hl,λj Y=>?_,λj Y=>?_⟩,⟨U.size,λk O h0=>⟨U.block k O o!,(je O).trans h0⟩⟩⟩;rw[b0]at Y;rw[bB];split
 rename_i e;subst e;refine⟨F1',F2',h2,λk O=>?_⟩;have:(F1 k\/F2 k)\/w.1.size<=k:=O.elim (λO=>(hs.f1 k O).imp_left .inl) λO=>(hs.f2 k O).imp_left .inr;obtain O|O:=this
 rw[je (O.elim (h1.j.Wr k) (h1.j.VN k))];exact hc k O;exact qO O;exact(h.x j Y).stay U o! hl;rw[b0]at Y;rw[bB];split;rename_i e;subst e;exact(h.y i hi).stay U o!;exact(h.y j Y).stay U o!
def PS.VT(h:PS w0 w c B va vl vm last us ms es)(hi){s}{F:Nat->Prop}(hc:∀k,F k->k<w.1.size/\c k=2*i+3)(h2:j6 w' (kJ F w w') es[i].yb s.b s.s s.t)(hs:dp F w w')(aa:Inv s.b s.s) :
  ∃c',PS w0 w' c' B va vl vm last us ms (es.set i ⟨es[i].bx,es[i].yb,es[i].x,s⟩)/\Zc c w c' w':=by
 have U:BB c (ub c w.1.size (2*i+3)) (2*i+3) w w':=⟨mP,hs.os,hs.size,λk O hn=>hs.block k O λh=>hn (hc k h).2⟩;have hl:=h.Ph U o!;refine⟨_,⟨by rw[b0,wU es i ⟨es[i].bx,es[i].yb,es[i].x,s⟩ hi q? rfl];exact h.law.stay U o!,h.ED mP,hl,λj Y=>?_,λj Y=>?_⟩,⟨U.size,λk O h0=>⟨U.block k O o!,(je O).trans h0⟩⟩⟩;rw[b0]at Y;rw[bB];split;rename_i e;subst e;exact(h.x i hi).stay U o! hl;exact(h.x j Y).stay U o! hl;rw[b0]at Y;rw[bB];split
 rename_i e;subst e;refine⟨_,h2,λk O=>?_,aa⟩;obtain O|O:=O
 exact⟨cy (hc k O).1 hs.size,by rw[je (hc k O).1];exact(hc k O).2⟩;exact⟨O.2,qO O.1⟩;exact(h.y j Y).stay U o!
def PS.Wh(h:PS w0 w c B va vl vm last us ms es){va' vl' vm' last' us' ms'}(U:BB c c' 1 w w')(hl:Jg w' c' B va' vl' vm' last' us' ms' es.length (nz es)):PS w0 w' c' B va' vl' vm' last' us' ms' es:=
 have O:=h.Ph U o!;⟨hl,h.ED U.Tq,O,λi Y=>(h.x i Y).stay U o! O,λi Y=>(h.y i Y).stay U o!⟩
end
open Go.Conc Go.Maps
def iu.low{w w' s n v xs}(h:iu w s v n xs)(Y:lI w w'):iu w' s v n xs:=h.later λa u O=>by have U:=World.block_lt_of_cell? w a O;simp only[cQ]at O⊢;rw[Y.block _ U];exact O
variable {ops:Array Oper} {qb:ByteArray} {rest:List Nat} {o:Oper}
def Jp(m)(w):cI prog 46 #[n? i? m] w λe w'=>e=e? (.bool (decide (0<=m/\m<=3)))/\w=w':=by
 by_cases O:0<=m
 case' pos=>by_cases U:m<=3
 all_goals
  go_enter func46,ntmps46;go_wp2;go_ret;exact⟨dT j!,q?⟩
section
variable {Z:mE prog} {W0:w?} {Mp:Nat->Prop} {fn:cK} {tm:Array v?} {os:List OF} {wl w0:w?} {k:List Item} {F1 F2:Nat->Prop} {b:Nat} {buf:List dD} {ss:List (List dD)} {ts:List (List Wd)}
def AW.Nn{mode dE most}(hi:ops[i]?=y? o)(h:AW w0 wl F1 F2 b buf ss ts)(h5:5<=w0.1.size)(ac:nV wl)
  (hm:mode<=3) (ht:dE<=255) (ag:1<=most) (ah:most<=20) (hq:eR qb.1.1=t?)
  (hn:∀(w2)(u)(L:List dD),AW w0 w2 F1 F2 b buf ss ts->lI wl w2->L.Perm ((dO ss buf).filter (Ask.has ⟨mode,⟨(eA qb.1.1).toArray⟩,dE⟩))->(L.Pairwise λx y=>eU x y=t?)->w2.ownsRow wl.1.size 9 1 u ((L.take most).map jy).length (dy ((L.take most).map jy))->dk (jk Z W0 Mp) (⟨fn,fq o.dst tm (.tuple #[u,n? i? 0]),r? ops rest::k⟩::os) w2 []) :
  dk (jk Z W0 Mp) (⟨17,#[p? (y? ⟨b,0,x?⟩),n? i? mode,s? qb,n? i? dE,n? i? most,dN,dN,dN,dN,dN,dN,dN,dN,dN,dN,dN,dN,dN,dN,dN,dN,dN,dN,dN,dN,dN,dN,dN,dN,dN,dN,dN,dN,dN,dN,dN,dN,dN,dN,dN,dN,dN,dN,dN,dN,dN,dN,dN,dN,dN,dN,dN,dN,dN,dN,dN,dN,dN,dN,dN,dN,dN,dN,dN,dN,dN,dN],[.code (eD f17)]⟩::⟨fn,tm,r? ops (i::rest)::k⟩::os) wl []:=by
 obtain⟨⟨h1,h2,h3,Bb,vS,B,n,vK,kn,h4,h6⟩,k1,k2,k3⟩:=id h
 have ai:qb.size<=1000:=by
  have:=kZ hq;have e:qb.size=l? qb.1.1:=by show qb.data.size=_;rw[Array.length_toList]
  omega
 have aj:5<=wl.1.size:=cz h5 k3.size;have hI:=h4.inv;have ar:=nY hI
 have ak:∀e∈buf,l? e.name<=65536/\l? e.text<=1048576/\(e.gone=f?->0<=e.dE/\e.dE<=255):=λe he=>by
  have O:=hI.each e he;have h1:=(il (s4 O)).2;refine⟨o!,(xn O).2,λe0=>?_⟩;obtain O|O:=O
  exact⟨O.2.2.2.2.2.2.1,O.2.2.2.2.2.2.2⟩;rw[O.1]at e0;cases e0
 have ad:=h4.row;obtain⟨P,al,am⟩:=Py hI
 have aa:∃sa sc,vS=.slice sa ss.length sc/\((sa=x?/\l? ss=0)\/∃sb so c f,sa=y? ⟨sb,so,x?⟩/\5<=sb/\wl.1[sb]?=y? (c? c 9 f)/\∀j,j<l? ss->c[so+j]?=y? (s? ⟨(eh (ss.getD j [])).toArray⟩)):=by
  obtain⟨rfl,h0⟩|⟨g,cap,cur,rfl,_,O,c1,c2,c3,c4⟩:=ad.2
  exact⟨x?,0,by rw[h0],.inl ⟨q?,h0⟩⟩;refine⟨_,cap,q?,.inr ⟨g,0,cur,_,q?,cz h5 (k1 g (h4.qc g q?)),O,λj U=>?_⟩⟩;have ab:=lK (ss.map eh) j (u! U);rw[<-c4,bG,if_pos (u! U)]at ab
  have e1:(ss.map eh)[j]'(u! U)=eh (ss.getD j []):=by rw[List.getElem_map,b4,bu U];rfl
  rw[e1]at ab;simpa using ab
 obtain⟨sa,sc,an,ao⟩:=aa;refine Mu (es:=buf) (R:=dO ss buf) (P:=P) (Ss:=λj=>⟨(eh (ss.getD j [])).toArray⟩) hi an h4.blk h4.say (cz h5 (k1 Bb h4.fB)) ⟨ao,hI.yW,λj U=>?_,λA _=>am A⟩ o! ak hm ht ag ah hq ai (λe he O y hy=>?_) aj ?_;have e1:ss.getD j []=ss[j]:=by rw[b4,bu U];rfl
 have hl:=qN (hI.kM _ (br U));obtain⟨ps,qs,q1,q2⟩:=al j U;simp only[e1];have e2:(⟨(eh ss[j]).toArray⟩:ByteArray).size=(eh ss[j]).length:=by simp[ByteArray.size]
 rw[e2];exact⟨o!,ps,qs,q1,q2⟩;exact PE (xa hI he) y (JF ac hy) (by have:=hy 4 o!;rw[cb (o!:4<wl.1.size)]at this;have:=(bZ.1 this).1;omega);intro w2 v hb hz ho ae;obtain⟨L,ap,aq,u,rfl,af⟩:=ae;have Y:lI wl w2:=⟨ho,hz,hb⟩;refine hn w2 u L (h.same Y) Y ap aq ?_;rw[bD];exact af
def AW.Vz{xs tys mode dE most}(h:AW w0 wl F1 F2 b buf ss ts)(h5:5<=w0.1.size)(Y:nV wl)(ab:qb.size<=cH)
  (hn:∀(w2)(u),lI wl w2->w2.ownsRow wl.1.size 9 1 u (kI (dO ss buf) mode qb.1.1 dE most).1.length (dy (kI (dO ss buf) mode qb.1.1 dE most).1)->dk (jk Z W0 Mp) (⟨fn,fq o.dst tm (.tuple #[u,n? i? (kI (dO ss buf) mode qb.1.1 dE most).2]),r? ops rest::k⟩::os) w2 [])
  (hi:ops[i]?=y? o:=by rfl) (ac:cT o (cN ops tm)=t?:=by rfl) (ho:o.op=.call {callee:=.value (.func 17),args:=xs,argTypes:=tys}:=by rfl) (ad:∀x∈xs.toList,e9 (jk Z W0 Mp).gE (jk Z W0 Mp).gl x:=by simp[e9,Plain])
  (ha:xs.map (kE tm)=#[p? (y? ⟨b,0,x?⟩),n? i? mode,s? qb,n? i? dE,n? i? most]:=by kernel_rfl):dk (jk Z W0 Mp) (⟨fn,tm,r? ops (i::rest)::k⟩::os) wl []:=by
 have ae:xs.size=5:=by have:=congrArg Array.size ha;simpa using this
 refine dk.sS (#[p? (y? ⟨b,0,x?⟩),n? i? mode,s? qb,n? i? dE,n? i? most,dN,dN,dN,dN,dN,dN,dN,dN,dN,dN,dN,dN,dN,dN,dN,dN,dN,dN,dN,dN,dN,dN,dN,dN,dN,dN,dN,dN,dN,dN,dN,dN,dN,dN,dN,dN,dN,dN,dN,dN,dN,dN,dN,dN,dN,dN,dN,dN,dN,dN,dN,dN,dN,dN,dN,dN,dN,dN,dN,dN,dN,dN]:Array v?) (iD:=f17) (c:=eD f17) hi ac func17 k! M9 ho ad (by rw[ha,ae];kernel_rfl) ?_;clear ha ac ho ad ae;have hI:Inv buf ss:=by obtain⟨_,_,_,_,_,_,_,_,_,h4,_⟩:=h.j;exact h4.inv
 by_cases O:¬(mode<0\/3<mode\/dE<0\/255<dE\/most<1\/20<most)/\eR qb.1.1=t?
 case pos=>obtain⟨hb,hq⟩:=O;obtain⟨m,rfl⟩:=di (o!:0<=mode);obtain⟨t,rfl⟩:=di (o!:0<=dE);obtain⟨n,rfl⟩:=di (o!:0<=most);refine h.Nn hi h5 Y o! o! o! o! hq λw2 u L _ hl hp hs aa=>?_;rw[EN (xA hI) (λe he=>(xa hI he).1) o! o! o! o! hq hp hs]at aa;have h2:=hn w2 u hl aa;rwa [show(kI (dO ss buf) m qb.1.1 t n).2=0 by unfold kI;rw[if_neg hb,if_pos hq]]at h2
 have af:(cU (kI (dO ss buf) mode qb.1.1 dE most=([],3))/\((decide (0<=mode/\mode<=3))=f?\/(decide (0<=mode/\mode<=3))=t?/\(dE<0\/¬dE<0/\(255<dE\/¬255<dE/\(decide (1<=most/\most<=20))=f?))))\/(cU (kI (dO ss buf) mode qb.1.1 dE most=([],2))/\(decide (0<=mode/\mode<=3))=t?/\¬dE<0/\¬255<dE/\(decide (1<=most/\most<=20))=t?/\eR qb.1.1=f?):=by simp only[decide_eq_false_iff_not,decide_eq_true_eq];by_cases hb:mode<0\/3<mode\/dE<0\/255<dE\/most<1\/20<most;exact .inl ⟨by show _=_;unfold kI;rw[if_pos hb],o!⟩;have hq:¬eR qb.1.1=t?:=λh=>O ⟨hb,h⟩;exact .inr ⟨by show _=_;unfold kI;rw[if_neg hb,if_neg hq],o!,o!,o!,o!,u! hq⟩
 clear O;have c1:=λy=>Jp mode y;have c2:=λy=>E3 most y;have c3:=λy=>sF qb y ab;generalize decide (0<=mode/\mode<=3)=d1 at *;generalize decide (1<=most/\most<=20)=d2 at *;generalize eR qb.1.1=d3 at *;have HN:cU _:=hn;have HC:cU _:=A? c1 (A? c2 c3);clear hn c1 c2 c3 h hI Y h5 ab;show dk _ (⟨_,_,[.code (.seq (.region 0 _ f?) (.seq (.seq (.region 1 _ f?) (.cond _ (.seq (.region 2 _ f?) .ret) .skip)) (.seq (.seq (.region 3 _ f?) (.cond _ (.seq (.region 4 _ f?) .ret) .skip)) _)))]⟩::_) _ _;refine dk.sr λkk U=>?_
 (iterate 2 (refine fu ?_;go_simp));refine dk.ie U ?_;clear U kk;refine dk.seq (iR λkk U y hl=>?_);have HL:cU _:=hl;clear hl;obtain⟨HE,rfl|⟨rfl,e1|⟨e1,e2|⟨e2,rfl⟩⟩⟩⟩|⟨HE,rfl,e1,e2,rfl,rfl⟩:=af
 all_goals
  go_wp2_with fail;refine(HC.1 _).mono ?_;rintro e w' ⟨rfl,rfl⟩;go_wp2_with (first|(go_at_call 47;refine(HC.2.1 _).mono ?_;rintro e w' ⟨rfl,rfl⟩));refine fR U ?_;clear U kk
 rotate_right;refine dk.nh trivial (congrArg Value.bool (j!:(decide (dE<0) || decide (255<dE))=f?)) (dk.skip (dk.seq (iR λkk U y2 hl=>?_)));have HL:cU (lI wl y2):=HL.trans hl;clear hl;go_wp2_with fail;refine(HC.2.2 _).mono ?_;rintro e w' ⟨rfl,rfl⟩;go_wp2;refine fR U ?_;clear U kk
 all_goals
  refine dk.rN trivial (by first|rfl|exact congrArg Value.bool (j!:(decide (dE<0) || decide (255<dE))=t?)) (dk.sr λkk U=>?_)
  (iterate 2 (refine fu ?_;go_simp));refine dk.ie U ?_;clear U kk;have h2:=HN.out _ (.slice x? 0 0) HL (by rw[HE.out];exact cR _ _ _ _);rw[HE.out]at h2;exact dk.back (.inr ⟨_,q?⟩) func17 hi (λτ=>by simp[cO,results17,go_sem]) h2
end
end
section
open Go.Conc Go.RowKit
variable {c:Array v?} {Z:mE prog} {b r:Nat} {f:Nat×Nat} {e:cM}
def stands:∀v,∃x,(∀m,VR m x v)/\∀t z,v=.iface t z->∃U,x=.iface t U
 |.bool b=>⟨_,λ_=>.bool b,λ_ _ e=>(by cases e)⟩
 |.int k n=>⟨_,λ_=>.int k n,λ_ _ e=>(by cases e)⟩
 |.string s=>⟨_,λ_=>.string s,λ_ _ e=>(by cases e)⟩
 |.float k b=>⟨_,λ_=>.gN _ t!,λ_ _ e=>(by cases e)⟩
 |.complex k a b=>⟨_,λ_=>.gN _ t!,λ_ _ e=>(by cases e)⟩
 |p? x?=>⟨_,λ_=>.iE,λ_ _ e=>(by cases e)⟩
 |p? (y? a)=>⟨_,λ_=>.gN _ t!,λ_ _ e=>(by cases e)⟩
 |.slice x? l c=>⟨_,λ_=>.gq l c,λ_ _ e=>(by cases e)⟩
 |.slice (y? a) l c=>⟨_,λ_=>.gN _ t!,λ_ _ e=>(by cases e)⟩
 |.map x?=>⟨_,λ_=>.nH,λ_ _ e=>(by cases e)⟩
 |.map (y? r)=>⟨_,λ_=>.gN _ t!,λ_ _ e=>(by cases e)⟩
 |.chan x?=>⟨_,λ_=>.jS,λ_ _ e=>(by cases e)⟩
 |.chan (y? r)=>⟨_,λ_=>.gN _ t!,λ_ _ e=>(by cases e)⟩
 |.nilFunc=>⟨_,λ_=>.nilFunc,λ_ _ e=>(by cases e)⟩
 |.nilIface=>⟨_,λ_=>.nilIface,λ_ _ e=>(by cases e)⟩
 |.tuple c=>⟨_,λ_=>.gN _ t!,λ_ _ e=>(by cases e)⟩
 |.iface t v=>by
  obtain⟨x,h1,_⟩:=stands v
  exact⟨.iface t x,λm=>.iface t (h1 m),λ_ _ e=>(by cases e;exact⟨_,q?⟩)⟩
 |.agg c=>by have O:∀i(h:i<c.size),∃x,(∀m,VR m x c[i])/\∀t z,c[i]=.iface t z->∃U,x=.iface t U:=λi h=>stands _;refine⟨.agg (ct λi=>cE (O _ i.2)),λm=>.agg i! λi h h'=>?_,λ_ _ e=>(by cases e)⟩;simp only[cc];exact(cC (O i _)).1 m
 |.func (.func f) a c=>⟨_,λ_=>.gN _ t!,λ_ _ e=>(by cases e)⟩
 |.func (.methodOf t n) a c=>⟨_,λ_=>.gN _ t!,λ_ _ e=>(by cases e)⟩
 |.func (.via t p f b) a c=>⟨_,λ_=>.gN _ t!,λ_ _ e=>(by cases e)⟩
 |.func (.yield l) a c=>⟨_,λ_=>.gN _ t!,λ_ _ e=>(by cases e)⟩
 |.func (.method n) f c=>by have O:∀i(h:i<f.size),∃x,(∀m,VR m x f[i])/\∀t z,f[i]=.iface t z->∃U,x=.iface t U:=λi h=>stands _;refine⟨.func _ (ct λi=>cE (O _ i.2)) _,λm=>.rY i! (λi h h'=>?_) (λt w hw=>?_),λ_ _ e=>(by cases e)⟩;simp only[cc];exact(cC (O i _)).1 m;obtain⟨Y,e0⟩:=bZ.1 hw;obtain⟨z,hz⟩:=(cC (O 0 Y)).2 t w e0;refine⟨z,?_⟩;rw[cb (u! Y)];simp only[cc];rw[hz]
termination_by v=>SizeOf.sizeOf v
decreasing_by
 all_goals simp_wf
 all_goals(first|omega|(have:=cr c i h;omega)|(have:=cr f i h;omega))
def JM{O:Type}(f:O->Nat):∀{l:List O}{x},x∈l->f x<=(l.map f).sum
 |y::l,x,h=>by
  simp only[bA,List.sum_cons]
  obtain rfl|h:=bE.1 h
  omega;have:=JM f h;omega
def BD(Mp Zp:Nat->Prop):v?->Prop
 |.bool _|n? _ _|s? _|p? x?|.slice x? _ _|.map x?|.chan x?|.nilFunc|.nilIface=>True|p? (y? a)=>Mp a.block|.slice (y? a) l c=>Mp a.block\/(l=0/\c=0/\Zp a.block)
 |_=>False
def Lb(Mp Zp)(v)(U:¬BD Mp Zp v):∃x,(∀m,VR m x v)/\(pO x\/∀m v',VR m x v'->v'=v):=by
 have O:OY v->∃x,(∀m,VR m x v)/\(pO x\/∀m v',VR m x v'->v'=v):=λh=>⟨.tuple #[],λm=>.gN _ h,.inl t!⟩
 cases v with
 |bool b=>exact absurd trivial U|int k n=>exact absurd trivial U|string s=>exact absurd trivial U|float k b=>exact O trivial|complex k a b=>exact O trivial|pointer a=>cases a with|none=>exact absurd trivial U|some a=>exact O trivial
 |slice a l c=>cases a with|none=>exact absurd trivial U|some a=>exact O trivial
 |map a=>cases a with|none=>exact absurd trivial U|some a=>exact O trivial
 |chan a=>cases a with|none=>exact absurd trivial U|some a=>exact O trivial
 |nilFunc=>exact absurd trivial U|nilIface=>exact absurd trivial U|iface t v=>exact O trivial|tuple c=>exact O trivial|agg c=>
  obtain⟨x,h1,_⟩:=stands (.agg c)
  have hx:pO x:=by have:=h1 ⟨λ_=>x?,λ_=>x?,λ_=>False,λ_=>True,λ_=>True,False,λ_=>False,λ_=>0,λ_ _=>x?,λ_=>x?,0,λ_ _ h=>(by cases h),λ_ _ _ h=>(by cases h),λ_ _ _ h=>(by cases h)⟩;cases this<;>trivial
  exact⟨x,h1,.inl hx⟩
 |func fn f c=>
  cases fn with
  |func g=>exact O trivial|methodOf t n=>exact O trivial|via t p g b=>exact O trivial|yield l=>exact O trivial|method n=>
   have Y:∀i(h:i<f.size),∃x,(∀m,VR m x f[i])/\∀t z,f[i]=.iface t z->∃z',x=.iface t z':=λi h=>stands f[i];refine⟨.func (.method "") (ct λi:_root_.Fin f.size=>cE (Y i.1 i.2)) #[.func (.method n) f c],λm=>.rY i! (λi h h'=>?_) (λt w hw=>?_),.inr λm v' h=>?_⟩;simp only[cc];exact(cC (Y i (u! h))).1 m;obtain⟨hl,e0⟩:=bZ.1 hw;obtain⟨z,hz⟩:=(cC (Y 0 hl)).2 t w e0;refine⟨z,?_⟩;rw[cb (u! hl)];simp only[cc];rw[hz]
   cases h with
   |func hf=>cases hf
   |rY _ _ _=>rfl
def LB{Mp Zp:Nat->Prop}{m:Ren}(hm:∀r,Mp r->m.blk r=y? r)(O:∀r,Zp r->m.dead r){v}(h:BD Mp Zp v):VR m v v:=by
 cases v with
 |bool b=>exact .bool b|int k n=>exact .int k n|string s=>exact .string s|pointer a=>cases a with|none=>exact .iE|some a=>exact .ptr (.mk (hm _ h))
 |slice a l c=>cases a with|none=>exact .gq l c|some a=>obtain h|⟨rfl,rfl,h⟩:=h<;>first|exact .slice l c (.mk (hm _ h))|exact .zero a (O _ h)
 |map a=>cases a with|none=>exact .nH|some a=>exact h.elim
 |chan a=>cases a with|none=>exact .jS|some a=>exact h.elim
 |nilFunc=>exact .nilFunc|nilIface=>exact .nilIface|_=>exact h.elim
def MG{Mp Zp:Nat->Prop}{m:Ren}(hm:∀r,Mp r->m.blk r=y? r){v v'}(Y:∀r r',Zp r->m.blk r≠y? r')(h:BD Mp Zp v)(hv:VR m v v'):v'=v:=by
 have O:∀{a U:Addr},Mp a.block->AR m a U->U=a:=fun {a U} ha x=>by
  cases x with
  |mk hb=>rw[hm _ ha]at hb;cases hb;rfl
 cases hv with
 |gN _ _=>exact h.elim|ptr x=>rw[O h x]|slice l c x=>
  obtain h|⟨rfl,rfl,h⟩:=h
  rw[O h x];exact absurd x.blk (Y _ _ h)
 |map _=>exact h.elim|gone _=>exact h.elim|chan _=>exact h.elim|func _ _ _ _ _=>exact h.elim|iface _ _=>exact h.elim|agg _ _=>exact h.elim|tuple _ _=>exact h.elim|rY _ _ _=>exact h.elim|_=>rfl
noncomputable def Qz (Mp Zp:Nat->Prop) (v:v?):v?:=@dite _ (BD Mp Zp v) (cD _) (λ_=>v) λh=>cE (Lb Mp Zp v h)
section
variable {Mp Zp:Nat->Prop} {m:Ren} {v v':v?}
def vH(h:BD Mp Zp v):Qz Mp Zp v=v:=by simp[Qz,h]
def G0(h):Qz Mp Zp v=cE (Lb Mp Zp v h):=by simp[Qz,h]
def V5(hm:∀r,Mp r->m.blk r=y? r)(O:∀r,Zp r->m.dead r)(v):VR m (Qz Mp Zp v) v:=by by_cases h:BD Mp Zp v;rw[vH h];exact LB hm O h;rw[G0 h];exact(cC (Lb Mp Zp v h)).1 m
def Q8(hm:∀r,Mp r->m.blk r=y? r)(U:∀r r',Zp r->m.blk r≠y? r')(O:VR m (Qz Mp Zp v) v'):pO (Qz Mp Zp v)\/v'=v:=by by_cases h:BD Mp Zp v;rw[vH h]at O;exact .inr (MG hm U h O);rw[G0 h]at O⊢;exact(cC (Lb Mp Zp v h)).2.imp id λx=>x m v' O
end
noncomputable def SE (W:w?) (Mp:Nat->Prop) (b:Nat):Obj->Obj
 |c? c e f=>@ite _ (Mp b) (cD _) (c? (c.map (Qz Mp (Zo W))) e f) (c? c e f)|_=>c? #[] 0
noncomputable def mj (W0:w?) (Mp:Nat->Prop):w?:={W0 with heap:=W0.1.mapIdx (SE W0 Mp)++cf (W0.1.toList.map P5).sum (c? #[] 0)}
section
variable {W0:w?} {Mp:Nat->Prop}
def uv:W0.1.size<=(mj W0 Mp).1.size:=by simp[mj]
def zB(h:b<W0.1.size):(mj W0 Mp).1[b]?=(W0.1[b]?).map (SE W0 Mp b):=by unfold mj;simp only;rw[Array.getElem?_append_left (u! h),ce]
def qn(h:Mp b)(hb:W0.1[b]?=y? (c? c e f)):(mj W0 Mp).1[b]?=y? (c? (c.map (Qz Mp (Zo W0))) e f):=by rw[zB (bZ.1 hb).1,hb];simp[SE,h]
def C5(h:¬Mp b)(hb:W0.1[b]?=y? (c? c e f)):(mj W0 Mp).1[b]?=y? (c? c e f):=by rw[zB (bZ.1 hb).1,hb];simp[SE,h]
def js{a v}(U:BD Mp (Zo W0) v)(h:W0.cell? a=y? v):(mj W0 Mp).cell? a=y? v:=by
 unfold cQ at h⊢
 cases O:W0.1[a.block]? with
 |none=>rw[O]at h;cases h
 |some o=>
  rw[O]at h
  cases o with
  |cells c e f=>
   by_cases hm:Mp a.block;rw[qn hm O];simp only at h⊢;split at h
   cases h;rename_i Y;rw[if_neg Y,Array.getElem?_map,h];simp[vH U];rw[C5 hm O];exact h
  |_=>cases h
def IF(hb:Zo W0 b):∃c f,(mj W0 Mp).1[b]?=y? (c? c 0 f):=by
 obtain⟨h1,Y⟩:=hb;by_cases O:b<W0.1.size;rw[zB O]
 cases U:W0.1[b]? with
 |none=>rw[Array.getElem?_eq_none_iff]at U;omega|some x=>
  cases x with
  |cells c e f=>exact absurd U (Y c e f)|_=>exact⟨_,_,q?⟩
 unfold mj;simp only;rw[Array.getElem?_append_right (u! O),Array.getElem?_replicate,if_pos (by simp only[Array.size_mapIdx];omega)];exact⟨_,_,q?⟩
noncomputable def oY (W0:w?) (Mp:Nat->Prop):Ren where
 blk:=λr=>@ite _ (Mp r) (cD _) (y? r) x?
 ch:=λ_=>x?
 loose:=λ_=>False
 ok:=Qs prog vr tQ t?
 gE:=λf=>vr f=t?
 jf:=False
 dead:=Zo W0
 dm:=λ_=>0
 tK:=λr o=>@ite _ (Mp r) (cD _) (W0.cell? ⟨r,o,x?⟩) x?
 lS:=λ_=>x?
 G:=5
 qa:=λr r' h=>by split at h<;>cases h;exact Iff.rfl
 inj:=λr s t h1 h2=>by
  split at h1<;>cases h1
  split at h2<;>cases h2
  rfl
 xu:=λ_ _ _ h=>by cases h
def oK(h:Mp r):(oY W0 Mp).blk r=y? r:=by simp[oY,h]
def nj{r'}(h:(oY W0 Mp).blk r=y? r'):Mp r/\r'=r:=by
 simp only[oY]at h;split at h
 cases h;exact⟨a!,q?⟩
 cases h
def Mn(Y:5<=W0.1.size)(hc:∀r,Mp r->∃c e f,W0.1[r]?=y? (.cells c e f)):WR (oY W0 Mp) (mj W0 Mp) W0:=by
 refine⟨λr r' O=>?_,λr r' c e f c' e' f' O h1 U _=>?_,λ_ _ _ _ _ _ _ _ _ _ _ h=>h.elim,λ_ _ h=>(by cases h),cz Y uv,Y,q?,λ_ _ h=>(by cases h),λ_ _ _ h=>h.elim,λr O=>⟨?_,IF O⟩,λr o v hv=>?_⟩;obtain⟨hm,rfl⟩:=nj O;obtain⟨c,e,f,hb⟩:=hc _ hm
 exact⟨_,_,qn hm hb,hb,.cells e f f (eP.iP i! λi h h'=>by
  simp only[cv]
  exact V5 (λr O=>oK O) (λ_ h=>h) _)⟩
 obtain⟨hm,rfl⟩:=nj O;rw[qn hm U]at h1;cases h1;rfl
 cases he:(oY W0 Mp).blk r with
 |none=>rfl|some r'=>obtain⟨c,e,f,hb⟩:=hc r (nj he).1;exact absurd hb (O.2 c e f)
 simp only[oY]at hv;split at hv
 rename_i hm;refine⟨r,oK hm,λc e f c' e' f' x _ U _ _=>?_⟩;unfold cQ at hv;rw[U]at hv;simpa using hv
 cases hv
def LP(U:∀g,tQ g=t?->Mp g):Rg (jk Z W0 Mp) (oY W0 Mp):=
 ⟨TG q? q? q? (λ_ h=>h) (λg Y=>oK (U g Y)),id,λ_ _ h=>(by cases h),q?,q?,λr O=>oK O,λr o v O hv=>by simp[oY,O,hv],λ_ h=>h⟩
def PD{m wS w}(hc:∀r,Mp r->∃c e f,W0.1[r]?=y? (c? c e f))(O:Rg (jk Z W0 Mp) m)(hw:WR m wS w)(ad:∀b,(jk Z W0 Mp).gu b->w.1[b]?=(jk Z W0 Mp).w0.1[b]?)(Y:∀k,k<(mj W0 Mp).1.size->wS.1[k]?=(mj W0 Mp).1[k]?) :
  ∀b,b<W0.1.size->w.1[b]?=W0.1[b]?:=by
 intro b hb;by_cases hm:Mp b;obtain⟨c,e,f,U⟩:=hc b hm;have aa:=O.x.1 b hm;obtain⟨o,o',h1,h2,h3⟩:=hw.obj b b aa;have ae:=cy hb (uv (Mp:=Mp));rw[Y b ae,qn hm U]at h1;cases h1
 cases h3 with
 |@cells _ c' _ _ f' af=>
  have ag:wS.1[b]?=y? (c? (c.map (Qz Mp (Zo W0))) e f):=by rw[Y b ae];exact qn hm U
  have hf:f'=f:=hw.fz b b _ _ _ _ _ _ aa ag h2 (O.qR.strict q? b)
  have ak:c'=c:=by
   have ah:=af.size;simp at ah;refine cw ah.symm λi hi ab=>?_;have hv:=af.idx i (u! ab) hi;simp only[cv]at hv
   have hz:∀r r',Zo W0 r->m.blk r≠y? r':=λr r' hr e=>by rw[(hw.dead r (O.x.2.2 r hr)).1]at e;cases e
   obtain hn|he:=Q8 (λr hr=>O.x.1 r hr) hz hv
   have ac:W0.cell? ⟨b,i,x?⟩=y? c[i]:=by unfold cQ;rw[U];simp[ab]
   have hp:=O.x.2.1 b i c[i] hm ac;obtain⟨r',ai,aj⟩:=hw.tK b i c[i] hp;rw[aa]at ai;cases ai;have:=aj _ _ _ _ _ _ (Qz Mp (Zo W0) c[i]) ag h2 (by simp[ab]) hn;rw[cb hi]at this;exact cX this;exact he
  rw[h2,U,hf,ak]
 have:=ad b ⟨hb,hm⟩;rw[this];exact Cz hm
end
section
variable {H:Type} {enc:cM×v?->H}
def qL{a:Assume}{C:Checked}{os:Os}{f:cK}{fn:Func}{s:OpenSpec}{F:Stop.Interp}{Y:List PathCond}{apart fresh U aa:Bool}{laid:List (String×DataW Unit)}
  (own:ownKnob C.prog.godebug=x?) (ab:os.Started) (af:C.prog.funcs[f]?=y? fn)
  (witness:∃(w:w?)(tape:Tape)(i:Input),w.os=os/\(w.forCall tape i).Shaped C.prog/\i.vars=[]/\Input.okWide C.prog (w.forCall tape i) .any w.1.size f i/\
    s.preRow enc C.prog fn Y apart laid (w.forCall tape i).memory i.args/\a.holds C.prog (lone (Frame.enter C.prog f i.args .normal) [] (w.forCall tape i)))
  (runs:∀(W:w?)(base:Nat)(args:Array v?)(ds gs:List (DataW H))(O:List MemPlace),
    (∀(j:Nat)t v,fn.params[j]?=y? t->args[j]?=y? v->de C.prog W .any base t v)->
    DataW.Whole enc C.prog fn.params.toList s.vars apart W args.toList ds gs O->
    (∀k,s.cond=y? k->k H (ds++gs)=t?)->
    laidMetH C.prog laid W->W.ShapedOpen C.prog->args.size=fn.params.size->
    vk C.prog (λv W'=>∃W2:w?,W2.blind=W'.blind/\(s.at F).post enc C.prog fn apart fresh U aa W args v W2) (solo (G (Frame.enter C.prog f args .normal) []) W) #[]) :
  ReturnsInLeavingWide a C os f .any (s.preRow enc C.prog fn Y apart laid) ((s.at F).post enc C.prog fn apart fresh U aa):=by
 refine returnsInLeavingWide_of_good own ab witness ?_;intro w tape i _ ag _ ah ac _;obtain⟨_,_,_,ak,ad,_,_,_,ai,ae⟩:=ah;have e:=cX (ad.symm.trans af);subst e;obtain⟨⟨hp,hl⟩,_⟩:=ac;obtain⟨ds,gs,O,hw,_,hk⟩:=OpenSpec.pre_parts hp;have aj:=DataW.Whole.of_heap (w':=w.forCall tape i) l! hw;obtain⟨N,last,o,w',t',h1,h2,h3,h4⟩:=runs _ _ _ ds gs O ae aj hk (hl.of_heap l!) ag ai;exact⟨N,last,o,w',t',h1,h2,h3,h4.mono λv ⟨W2,e2,hp⟩=>by rw[<-e2];exact ChangeSpec.post_blind hp⟩
end
def vg(W:w?)(w:w?):Prop:=B? W {w with tape:=W.tape}
def R7{W0:w?}{Mp:Nat->Prop}{f iD}{rs:Array Tmp}{tm}{wl:w?}{v}(hc:∀r,Mp r->∃c e f,W0.1[r]?=y? (c? c e f))(hf:prog.funcs[f]?=y? iD)(ae:prog.inits.idxOf? f=x?)(Y:∀k,k<(mj W0 Mp).1.size->wl.1[k]?=(mj W0 Mp).1[k]?)(af:Plain v)(aa:∀w,(cO iD tm).run prog w=.ok v w) :
  dk (jk (ending prog λv' w=>v'=v/\vg W0 w) W0 Mp) [⟨f,tm,[.code .ret]⟩] wl []:=by
 refine dk.tail (λx hx=>by simp only[bF]at hx;subst hx;trivial) (.inr λ_ h=>by cases h) ?_;let O:LS->Prop:=λS=>S.cs=[door prog]/\S.fr.fn=f/\S.w.1=wl.1/\S.fr.leaving prog S.w (e? v);refine jQ.pq (Stop:=λS=>∃τ,O (S.on τ)) (λS τ ⟨U,h⟩=>⟨U,h⟩) (λτ _=>⟨1,⟨⟨f,tm,[.code .ret],[],.returning,.normal,x?⟩,[door prog],tp wl τ⟩,q?,⟨τ,q?,q?,q?,q?,q?,q?,iD,hf,aa _⟩,i!⟩) λS' ⟨U,ag,ah,hh,hl⟩=>?_;refine jQ.tape (τ:=U) ?_;refine jQ.done q? q? ag hl (by rw[ah];exact ae) λm v2 w ai hv hw ab ac=>⟨?_,?_⟩
 cases hv<;>first|rfl|exact af.elim
 have hold:=PD hc ai hw ab (λk hk=>by rw[hh];exact Y k hk);refine⟨ac.1,q?,ac.2,?_,hold⟩;show W0.1.size<=w.1.size;obtain ad|aj:=Nat.lt_or_ge w.1.size W0.1.size
 have:=hold w.1.size ad;rw[cn (cx _),cb ad]at this;cases this;exact aj
open Go.ChangeShapes Go.WideShapes Go.ChangeAt
variable {W:w?}
def UL:ownKnob prog.godebug=x?:=by kernel_rfl
def zG:laidOutB prog=t?:=by kernel_rfl
def TJ:List (String×DataW Unit):=[("math/bits.deBruijn32tab",Rows.laid_math_bits_deBruijn32tab),("math/bits.deBruijn64tab",Rows.laid_math_bits_deBruijn64tab),("internal/strconv.uint64pow10",Rows.laid_internal_strconv_uint64pow10),("hint/follow.weights",Rows.laid_hint_follow_weights)]
def zK(h:W.ShapedOpen prog):∀g,g<5->∃c e f,W.1[g]?=y? (c? c e f):=by
 have key:∀g,g<5->(((begin prog (λ_ _=>0) default).world.1[g]?).bind Obj.row?).isSome=t?:=by intro g O;rcases(o!:g=0\/g=1\/g=2\/g=3\/g=4)with rfl|rfl|rfl|rfl|rfl<;>kernel_rfl
 intro g O;obtain⟨⟨z,t⟩,Y⟩:=Option.isSome_iff_exists.1 (key g O);obtain⟨cs,U,_⟩:=h.1 g z t (O) Y;exact⟨cs,t,_,U⟩
def Mo{base t e a l c}(ht:prog.underlying t=y? (.slice e))(h:de prog W .any base t (.slice (y? a) l c)):a.spot=x?/\∃cs O f,W.1[a.block]?=y? (c? cs O f):=by
 simp only[de,ht,Cell.okWide,Cell.ok]at h;obtain⟨_,_,_,U,row,cells,hsh,_⟩:=h;refine⟨U,?_⟩;unfold World.shape? at hsh
 cases Y:W.1[a.block]? with
 |none=>rw[Y]at hsh;cases hsh
 |some o=>
  cases o with
  |cells cs O f=>exact⟨cs,O,f,q?⟩|_=>rw[Y]at hsh;cases hsh
def Sn{g}(h:tQ g=t?):g<5:=by unfold tQ at h;simp only[Bool.or_eq_true,beq_iff_eq]at h;omega
def Kk(O:W.ShapedOpen prog):5<=W.1.size:=by obtain⟨c,e,f,h⟩:=zK O 4 o!;have:=(bZ.1 h).1;omega
def LJ{Mp}(O:W.ShapedOpen prog):5<=(mj W Mp).1.size:=cz (Kk O) uv
def vk.mono{P}{A B:v?->w?->Prop}{M t}(h:vk P A M t)(O:∀v w,A v w->B v w):vk P B M t:=by obtain⟨N,last,o,w',t',U,Y,h3,h4⟩:=h;exact⟨N,last,o,w',t',U,Y,h3,h4.mono λv=>O v w'⟩
end
