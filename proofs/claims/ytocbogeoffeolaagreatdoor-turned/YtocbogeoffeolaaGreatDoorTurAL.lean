import Derived.Test.YtocbogeoffeolaaGreatDoorTurAK
import Derived.Test.YtocbogeoffeolaaGreatDoorCards
import Derived.Test.YtocbogeoffeolaaGreatDoorTie
import Derived.Conc.LeavingOf
import Derived.Deep.DeepHandedRow
import Derived.Lib.LaidTab
import Derived.LaidMore
import Derived.Stop.LaidErr
set_option linter.all false
set_option maxHeartbeats 8000000
set_option maxRecDepth 1000000
open List renaming getElem?_eq_getElem->bJ,mem_map->bK,mem_filter->bL,map_map->bM,getElem_mem->bN,getD_eq_getElem?_getD->bO,mem_append->bP,getElem?_eq_none->bQ,map_append->bR,mem_singleton->bS,length_append->bT,length_set->bU,map_congr_left->bV,mem_cons_self->bW,getElem?_take->bX,filter_filter->bY,pairwise_map->bZ,filter_congr->ca,ext_getElem?->cb,mem_cons->cc,length_eq_zero_iff->cd,length_cons->ce,getElem_set->cf,take_of_length_le->ck,length_map->cm,mem_range->cn,mem_of_mem_take->cq,filter_sublist->cr,map_cons->ct,take_succ_eq_append_getElem->cu,length_take->cv,filter_map->cw,range->cx,Nodup->cy,pairwise_iff_getElem->cz,getElem_replicate->c5,getElem_cons_zero->c6,mem_append_right->c7,mem_of_mem_drop->cA,mem_cons_of_mem->cB,filter_append->cC,nodup_append->cD,getElem?_map->cE,all_eq_true->cF,nodup_cons->cG,length_nil->cH,append_nil->cI,map->cJ
open Array renaming getElem?_eq_some_iff->cK,getElem?_eq_getElem->cL,getElem?_mapIdx->cM,getElem_ofFn->cN,getElem?_toList->cO,replicate->cP,set!_eq_setIfInBounds->cQ,getElem?_eq_none->cR,getElem?_modify->cS,sizeOf_getElem->cT,ofFn->cU,getElem_map->cV,ext->cW
open Nat renaming le_refl->cX,le_trans->cY,zero_le->cZ,lt_of_lt_of_le->da,le_of_ble_eq_true->db,mul_le_mul_right->dc,zero_add->de,mod_one->df
open Go renaming maxLen->dg,Calls->di,TypeId->dj,FuncId->dk,goexitEntry->dr,yielded->dt,results->ee,cell_later->ef,info_parts->eg
open Classical renaming choose_spec->ei,propDecidable->ej,choose->er,not_not->et,axiomOfChoice->ev
open Go.RowKit.Below renaming heap_setCell->ew,refl->ez,heap_alloc->e6
open Go.RowKit renaming Hid->e7,run_makeMap->e8
open Go.World renaming cell?->eC,ownsRow_nil->fd,size_alloc->ff
open Go.Region renaming ready->fk,wanted->fm
open Option.some renaming injEq->fs,inj->ga
open Go.Value renaming ownBlock->gc,okWide->gd
open Go.Region.linearise renaming go->ge
open Go.Value.slice renaming injEq->gn
open Prod renaming fst->gt,snd->gv
open Go.IntKind renaming wrap_i64->gx
open List.Perm renaming refl->gy,append->g5
open Go.Sort renaming putCells->g6,flatK->g7,size_flatK->g8
open Int renaming tmod_eq_emod_of_nonneg->g9,not_lt->gA
open Go renaming undef->gB
namespace Go.Proofs.YtocbogeoffeolaaGreatDoor
open Go.Proofs.Tryz
section
open Go.RowKit
variable {cs cs':Array Value} {f:Nat×Nat} {e e':dj} {F:Value->Prop} {w:World}
def jI(F:Value->Prop)(w:World)(v:Value):Prop:=∀g cs e f,v.ownBlock=some g->w.heap[g]?=some (.cells cs e f)->∀u∈cs.toList,F u
theorem IE(F:Value->Prop)(w:World)(n c:Nat):jI F w (.slice none n c):=nofun
theorem jI.stay{w':World}{v:Value}(h:jI F w v)(O:∀g,v.ownBlock=some g->w'.heap[g]?=w.heap[g]?):jI F w' v:=λg cs e f B U=>h g cs e f B (by rw[<-O g B]; exact U)
theorem rQ{B:Array Value}{k:Nat}{u:Value}(h:u∈(Builtin.zeroCells B k).toList):u∈B.toList:=by
 unfold Builtin.zeroCells at h;simp at h;obtain⟨i,hi,rfl⟩:=h
 have O:0<B.size:=by
  rcases Nat.eq_zero_or_pos B.size with h|h
  .rw[h]at hi; simp at hi
  .exact h
 have hm:i % B.size<B.size:=Nat.mod_lt _ O;rw[getElem!_pos B _ hm];simp
theorem JI(h:(w.drew.alloc (.cells cs e)).heap[w.heap.size]?=some (.cells cs' e' f)):cs'=cs:=by
 have B:(w.heap.push _)[w.heap.size]?=some _:=h;simp at B;exact B.1.symm
theorem Gx{g:Nat}{cur:Array Value}{f':Nat×Nat}(B:w.heap[g]?=some (.cells cur e f))(h:(w.setRow g cs).heap[g]?=some (.cells cs' e' f')):cs'=cs:=by
 unfold World.setRow at h;simp only[cS,if_true,B,Option.map_some,fs,Obj.cells.injEq]at h;exact h.1.symm
theorem GA{P:Program}{base:Nat}{t ty:dj}{i:TypeInfo}{z:Value}{size bytes:Nat}(ht:P.underlying t=some (.slice e))(hi:P.info? e=some i)(hz:i.zero=some z)
  (O:i.size=size) (aj:i.bytes=bytes) (ar:z.cells.size=size) (ao:0<size)
  {v:Value} {n:Nat} {xs:List Value} (aa:w.ownsRow base e size v n xs)
  {x:Value} {m:Nat} {news:List Value} (hx:sM w size x m news) (h1:∀u∈news,u.oneCell'=true)
  (Y:(n+m)*bytes<=140737488355328) (ak:n+m<=dg) (ap:0<m) {v':Value} {w':World} (hr:(Builtin.append_ #[t,t] ty #[v,x]).run P w=.ok v' w')
  (hF:jI F w v) (hN:∀u∈news,F u) (hZ:∀u∈z.cells.toList,F u):jI F w' v':=by
 obtain⟨a,cap,rfl,hc,hm,hl,al⟩:=hx;have am:0<news.length:=by rw[hl]; exact Nat.mul_pos ap ao
 obtain⟨b,off,ha,_⟩:=al 0 _ (bJ am);subst ha
 have U:∀j u,news[j]?=some u->w.cell? ((⟨b,off,none⟩:Addr).add j)=some u:=by
  intro j u hj;obtain⟨b',aq,he,ag⟩:=al j u hj;obtain⟨rfl,rfl,_⟩:=he;rw[Addr.add_lit]; exact ag
 have af:news.length=m*i.size:=by rw[O]; exact hl
 rcases aa.2 with⟨rfl,rfl⟩|⟨g,c,cur,rfl,au,hg,av,aw,ah,ai⟩
 .have ab:=run_append_nil (P:=P) w t ty e i z ht hi hz _ m cap news af U (by omega) (by simp only[dg]at ak; omega) (by rw[aj]; simp only[de]at Y; omega);rw[ab]at hr;obtain⟨rfl,rfl⟩:=hr;intro g cs e' f hg ah u B;simp only[gc,fs]at hg;subst hg;have:=JI ah;subst this;simp at B;rcases B with B|B
  .exact hN u B
  .exact hZ u (rQ (by simpa using B))
 .by_cases ac:n+m<=c
  .have an:n*i.size+news.length<=cur.size:=by rw[af,ah,O,<-Nat.add_mul]; exact dc _ ac
   have ab:=run_append_room (P:=P) w t ty e i ht hi g n c cur hg _ m cap news af U h1 ac an;rw[ab]at hr;obtain⟨rfl,rfl⟩:=hr;intro g' cs e' f ad ae u B;simp only[gc,fs]at ad;subst ad;have:=Gx hg ae;subst this;simp at B;rcases B with B|B|B
   .exact hF g cur e _ rfl hg u (cq B)
   .exact hN u B
   .exact hF g cur e _ rfl hg u (cA B)
  .have holds:=aa.cells (g:=g) rfl;have ab:=run_append_grow (P:=P) w t ty e i z ht hi hz _ n c xs (by rw[O]; exact aa.1) holds _ m cap news af U (by omega) (by simp only[dg]at ak; omega) (by rw[aj]; exact growslice_fits (by omega) Y);rw[ab]at hr;obtain⟨rfl,rfl⟩:=hr;intro g' cs e' f ad ae u B;simp only[gc,fs]at ad;subst ad;have:=JI ae;subst this;simp at B;rcases B with B|B|B
   .rw[<-ai]at B;exact hF g cur e _ rfl hg u (cq B)
   .exact hN u B
   .exact hZ u (rQ (by simpa using B))
theorem ul{P:Program}(w:World){ops:Array Oper}{rest:List Oper}{o:Oper}{a:Act}{Q:Exit->Act->World->Prop}(ae:o.guard=none)(s x:Operand)(t:dj)
  (ho:o.op=.call {callee:=.builtin .append,args:=#[s,x],argTypes:=#[t,t]})
  (base:Nat) (e:dj) (i:TypeInfo) (z:Value) (size bytes:Nat) (ht:P.underlying t=some (.slice e)) (hi:P.info? e=some i) (hz:i.zero=some z)
  (O:i.size=size) (aa:i.bytes=bytes) (ab:z.cells.size=size) (ac:0<size)
  (v:Value) (n:Nat) (xs:List Value) (hs:a.eval s=v) (U:w.ownsRow base e size v n xs)
  (y:Value) (m:Nat) (news:List Value) (hx:a.eval x=y) (hy:sM w size y m news) (h1:∀u∈news,u.oneCell'=true)
  (B:(n+m)*bytes<=140737488355328) (ad:n+m<=dg) (Y:base<=w.heap.size) (af:0<m) (hF:jI F w v) (hN:∀u∈news,F u) (hZ:∀u∈z.cells.toList,F u)
  (h:∀v' w',w'.ownsRow base e size v' (n+m) (xs++news)->w.grownBy w' v.ownBlock->jI F w' v'->wpList P ops Q rest (a.put o.dst v') w'):wpList P ops Q (o::rest) a w:=by
 refine wpList_plain ae λ_ hK=>?_;obtain⟨v',w',hr,h2,h3,h4⟩:=pI (P:=P) w base t o.type e i z size bytes ht hi hz O aa ab ac v n xs U y m news hy h1 B ad Y;have h5:=GA ht hi hz O aa ab ac U hy h1 B ad af hr hF hN hZ;unfold Oper.wp execOp;simp only[ho,resolve,invoke,builtin,Sem.run_bind,Sem.run_pure,Result.andThen_ok,List.map_toArray,ct,List.map_nil,hs,hx,hr];exact hK _ _ (h v' w' h2 h3 h5)
end
section
open Go.RowKit Go.Maps
theorem LI:(prog.info? 96).map (λi=>(i.zero,i.size,i.bytes))=some (some (.agg #[.string ⟨#[]⟩,.string ⟨#[]⟩,.int .i64 0,.int .i64 0]),4,48):=by kernel_rfl
theorem pL{Y:Type}{O U B es:List Y}{e:Y}(h:(O++U).Perm es)(hp:U.Perm (e::B)):((O++[e])++B).Perm es:=by
 refine List.Perm.trans ?_ h;rw[List.append_assoc];exact(gy O).append hp.symm
theorem wH{w:World}{base e size n:Nat}{v:Value}{xs:List Value}(h:w.ownsRow base e size v n xs)(o:Obj):(w.alloc o).ownsRow base e size v n xs:=gR h (λk B=>by rw[fU _ _ (h.lt k B).2])
theorem As(x:dp):∀v∈mo x,Flat v:=by
 intro v B;simp[mo]at B;rcases B with rfl|rfl|rfl|rfl
 .exact .string _
 .exact .string _
 .exact .int ..
 .exact .int ..
theorem L':∀u∈(Value.agg #[.string ⟨#[]⟩,.string ⟨#[]⟩,.int .i64 0,.int .i64 0]).cells.toList,Flat u:=by
 intro v B;simp[Value.cells]at B;rcases B with rfl|rfl
 .exact .string _
 .exact .int ..
theorem MJ{w:World}{b:Nat}{e:dp}{t:dj}(hb:b=w.heap.size):sM (w.alloc (.cells #[.string ⟨e.name.toArray⟩,.string ⟨e.text.toArray⟩,.int .i64 e.dq,.int .i64 e.dB] t)) 4 (.slice (some ⟨b,0,none⟩) 1 1) 1 (mo e):=by
 refine⟨some _,1,rfl,cX _,by unfold dg; omega,rfl,λj u B=>⟨b,0,rfl,?_⟩⟩;rw[World.cell?_alloc_at _ _ _ _ hb]
 match j,B with
 |0,B=>simpa[mo]using B
 |1,B=>simpa[mo]using B
 |2,B=>simpa[mo]using B
 |3,B=>simpa[mo]using B
 |j+4,B=>simp[mo]at B
theorem CV(B:Nat)(ms:List kE)(w:World)(hs:Is w B ms)(hl:ms.length<=1048576)(aE:∀m∈ms,m.wA<=1000/\m.name.length<=dg) :
  di prog 81 #[.map (some B)] w λen w'=>∃v U,en=.returned v/\List.Perm U ms/\w'.ownsRow w.heap.size 96 4 v (dU ms U).length (ii (dU ms U))/\Below w.heap.size w w'/\jI Flat w' v:=by
 obtain⟨i0,hi,aQ,aR,aS⟩:=eg LI;have bi:=@e8 prog;have HS:e7 (Is _ _ _):=hs;have a7:e7 (∀m∈ms,m.wA<=1000/\m.name.length<=dg):=aE;have bj:=hs.lt;obtain⟨w0,ay⟩:∃w0,w.alloc (.map #[] 0)=w0:=⟨_,rfl⟩;have a5:w0.heap.size=w.heap.size+1:=by rw[<-ay]; simp
 have hb0:Below w.heap.size w w0:=by rw[<-ay]; exact(ez _ _).alloc (cX _) _
 have hM0:dL prog 9 w0 w.heap.size []:=by rw[<-ay]; exact dL.made w
 have aF:e7 (Is w0 B ms):=iN.below hs hb0;clear hs aE;go_enter func81,ntmps81;go_wp2_with (first|(at_range; refine rL _ rfl _ rfl rfl aF.out ?_; intro w1 hrg0 hg0 al));rw[a5]at hrg0 al⊢;clear ay;go_frame;go_loopw [4] (λ_ wr=>∃(U ab:List kE)(nl:List (Wd×Value)),(U++ab).Perm ms/\lJ wr B (w.heap.size+1) ms ab/\dL prog 9 wr w.heap.size nl/\nl.length<=U.length/\(∀x,mA nl x (.int .i64 0)=.int .i64 (eM U x:Nat))/\Below w.heap.size w wr/\w.heap.size+2<=wr.heap.size) (λ_ wr=>wr.rangeLeft B (w.heap.size+1))
 case atStart=>exact⟨[],ms,[],gy _,hrg0,dL.kept hM0 hg0 (by simp),cX _,λ_=>rfl,hb0.grown hg0 hb0.size (λk hk=>by cases hk),by omega⟩
 case round=>
  obtain⟨U,ab,nl,eA,hr,hm,aT,aG,hb,hz⟩:=hrel;have HP:e7 ((U++ab).Perm ms):=eA;have HR:e7 (lJ _ _ _ _ _):=hr;have HM:e7 (dL _ _ _ _ _):=hm;have az:e7 (∀x,mA nl x (.int .i64 0)=.int .i64 (eM U x:Nat)):=aG;have HB:e7 (Below _ _ _):=hb
  have aH:U.length<=ms.length:=by
   have h2:=eA.length_eq;rw[bT]at h2;omega
  clear eA hr hb hm aG aF hM0 hb0 a5 hrg0 hg0 al;go_wp2_with (first|(at_next; refine tr _ rfl _ rfl (w.heap.size+1) ab rfl HR.out ?_ ?_))
  .intro h0
   have hE:U.Perm ms:=by
    have:=HP.out;rw[h0,cI]at this;exact this
   have aU:e7 (∀x,mA nl x (.int .i64 0)=.int .i64 (eM ms x:Nat)):=by
    intro x;rw[az.out x,vc hE]
   have aI:e7 (Is wr B ms):=fQ.owns HR.out;clear h0 hE HP HR az;go_wp2_with (first|(at_range; refine rL _ rfl _ rfl rfl aI.out ?_; intro w1 hrg0 hg0 al));have aJ:w.heap.size+3<=w1.heap.size:=by omega
   have aK:wr.heap.size<w1.heap.size:=by omega
   have HB1:e7 (Below w.heap.size w w1):=HB.out.grown hg0 HB.out.size (λk hk=>by cases hk);have HM1:e7 (dL prog 9 w1 w.heap.size nl):=dL.kept HM.out hg0 (by simp);have HR1:e7 (lJ _ _ _ _ _):=hrg0;obtain⟨r,hr⟩:∃r,r=wr.heap.size:=⟨_,rfl⟩;rw[<-hr]at HR1 aK hz al⊢;have bk:w.heap.size+2<=r:=hz;clear hrg0 hg0 aI HM HB aT aH hz HS;clear hr;generalize wr=wo at *;go_frame;go_loopw [6] (λg wr=>∃(U ab:List kE),(U++ab).Perm ms/\lJ wr B r ms ab/\dL prog 9 wr w.heap.size nl/\wr.ownsRow (r+1) 96 4 g (dU ms U).length (ii (dU ms U))/\Below w.heap.size w wr/\r+1<=wr.heap.size/\jI Flat wr g) (λ_ wr=>wr.rangeLeft B r)
   case atStart=>exact⟨[],ms,gy _,HR1.out,HM1.out,fd _ _ _ _,HB1.out,by omega,IE _ _ _ _⟩
   case round=>
    obtain⟨O,am,eA,hr,hm,an,hb,hz,aL⟩:=hrel;have HP:e7 ((O++am).Perm ms):=eA;have HR:e7 (lJ _ _ _ _ _):=hr;have HM:e7 (dL _ _ _ _ _):=hm;obtain⟨ag,cg,rfl,bl⟩:=iW an;have HO:e7 (wr.ownsRow (r+1) 96 4 (.slice ag (dU ms O).length cg) (dU ms O).length (ii (dU ms O))):=an;have HB:e7 (Below _ _ _):=hb;have HF:e7 (jI Flat wr (.slice ag (dU ms O).length cg)):=aL;clear aL
    have aH:(dU ms O).length<=ms.length:=by
     have h1:=Bw ms O;have h2:=eA.length_eq;rw[bT]at h2;omega
    clear eA hr hb hm an HR1 HM1 HB1 al aJ aK;go_wp2_with (first|(at_next; refine tr _ rfl _ rfl r am rfl HR.out ?_ ?_))
    .intro h0
     have hE:O.Perm ms:=by
      have:=HP.out;rw[h0,cI]at this;exact this
     have HE:e7 _:=hE;clear h0 hE HP HR;go_wp2;go_ret;exact⟨_,O,rfl,HE.out,j7 HO.out (by omega),HB.out,HF.out⟩
    .intro m Y w2 ai ac ae ad a8 ao;have ap:=fQ.lt ac;have aq:=iN.lt (fQ.owns ac);have HB1:e7 (Below w.heap.size w w2):=lO HB.out ad (by omega);have HR1:e7 (lJ _ _ _ _ _):=ac;have HM1:e7 (dL prog 9 w2 w.heap.size nl):=dL.stay HM.out (ad.block _ (by omega) (by simp; omega));have a9:e7 (w2.rangeLeft B r<wr.rangeLeft B r):=ae;have ar:e7 (am.Perm (m::Y)):=ai;have a':e7 (w2.ownsRow (r+1) 96 4 (.slice ag (dU ms O).length cg) (dU ms O).length (ii (dU ms O))):=gR HO.out (λk hk=>ad.block k (HO.out.lt k hk).2 (by have:=(HO.out.lt k hk).1; intro e; cases e; omega));have aV:e7 (jI Flat w2 (.slice ag (dU ms O).length cg)):=HF.out.stay (λk hk=>ad.block k (HO.out.lt k hk).2 (by have:=(HO.out.lt k hk).1; intro e; cases e; omega));have aM:r+1<=w2.heap.size:=by omega
     have au:=a7.out m (HP.out.mem_iff.1 (c7 _ (ai.mem_iff.2 (bW ..))));have av:e7 _:=Ei ms O m;have a0:e7 _:=au;have bm:eM ms m.name<=1000:=uc ms m.name (λm hm=>(a7.out m hm).1);clear ai ac ae ad a8 au HR HM HB HO;obtain⟨sg,at',nm,wd,n2,tx,wt,tg⟩:=m;simp only[kE.val,OP]at ao⊢;obtain⟨wa,af⟩:∃wa,wa=((w2.alloc (.cells #[.int .i64 (sg:Int),.int .i64 (at':Int)] 170)).alloc (.cells #[.int .i64 (sg:Int),.int .i64 (at':Int),.string ⟨nm.toArray⟩,.bool wd,.string ⟨n2.toArray⟩,.string ⟨tx.toArray⟩,.int .i64 wt,.int .i64 tg] 172)):=⟨_,rfl⟩;have aa:Below w2.heap.size w2 wa:=by rw[af]; exact(((ez _ _).alloc (cX _) _).alloc (by simp) _)
     have bn:wa.heap.size=w2.heap.size+2:=by rw[af]; simp
     have a3:e7 (lJ wa B r ms Y):=fQ.stay HR1.out (aa.block B aq) (aa.block _ ap);have a4:e7 (dL prog 9 wa w.heap.size nl):=dL.below HM1.out aa;have aj:e7 (wa.ownsRow (r+1) 96 4 (.slice ag (dU ms O).length cg) (dU ms O).length (ii (dU ms O))):=gR a'.out (λk hk=>aa.block k (a'.out.lt k hk).2);have aA:e7 (jI Flat wa (.slice ag (dU ms O).length cg)):=aV.out.stay (λk hk=>aa.block k (a'.out.lt k hk).2);have aB:e7 (Below w.heap.size w wa):=HB1.out.trans (aa.mono (by omega))
     have HLa:e7 (wa.rangeLeft B r<wr.rangeLeft B r):=by
      show _<_;rw[eu.jA (aa.block B aq) (aa.block _ ap)];exact a9.out
     cases wd with
     |false=>
      have ah:e7 (dU ms (O++[⟨sg,at',nm,false,n2,tx,wt,tg⟩])=dU ms O):=by show _=_; rw[av.out]; simp
      clear aa;go_wp2;rw[<-af];go_roundw
      case rel=>
       exact⟨O++[⟨sg,at',nm,false,n2,tx,wt,tg⟩],Y,pL HP.out ar.out,a3.out,a4.out,by rw[ah.out]; exact aj.out,aB.out,by omega,aA.out⟩
      case measure=>exact HLa.out
     |true=>
      have ak:=(a4.out.look (z:=.int .i64 0) underlying9 underlying179 (by kernel_rfl) nm a0.out.2).1;rw[aU.out nm,af]at ak;by_cases hq:sg=eM ms nm
      .have ah:e7 (dU ms (O++[⟨sg,at',nm,true,n2,tx,wt,tg⟩])=dU ms O++[⟨n2,false,tx,wt,tg⟩]):=by show _=_; rw[av.out]; simp[hq,kE.Mb]
       rw[<-hq]at ak;clear aa hq
       go_wp2_with (first
        |(at_builtin; rw[<-af]; refine ul (F:=Flat) _ rfl _ _ 82 rfl (r+1) 96 i0 _ 4 48 underlying82 hi aQ aR aS rfl (by decide) _ _ _ rfl (wH aj.out _) _ 1 _ rfl (MJ (e:=⟨n2,false,tx,wt,tg⟩) (by omega)) (Fi _) ?c1 ?c2 ?c3 (by decide) (aA.out.stay (λk hk=>fU _ _ (aj.out.lt k hk).2)) (As _) L' ?_))
       case c1=>omega
       case c2=>unfold dg; omega
       case c3=>first|omega|(simp; omega)
       intro v3 w3 aw ax a6;rw[<-af]at ax;have bh:wa.heap.size<=w3.heap.size:=by have:=ax.size; simp at this; omega
       have hold:∀j,j<wa.heap.size->j<r+1->w3.heap[j]?=wa.heap[j]?:=λj hj bo=>by
        rw[ax.block j (by simp; omega) (λe=>by have:=(aj.out.lt j e.symm).1; omega),fU _ _ hj]
       have aN:B<wa.heap.size:=iN.lt (fQ.owns a3.out);have aW:e7 (lJ w3 B r ms Y):=fQ.stay a3.out (hold B aN (by omega)) (hold r (by omega) (by omega));have aX:e7 (dL prog 9 w3 w.heap.size nl):=dL.stay a4.out (hold _ (by omega) (by omega))
       have aY:e7 (w3.ownsRow (r+1) 96 4 v3 (dU ms (O++[⟨sg,at',nm,true,n2,tx,wt,tg⟩])).length (ii (dU ms (O++[⟨sg,at',nm,true,n2,tx,wt,tg⟩])))):=by
        show w3.ownsRow _ _ _ _ _ _;rw[ah.out,GJ,bT];exact aw
       have aZ:e7 (Below w.heap.size w w3):=(aB.out.alloc (by omega) _).grown ax (by simp; omega) (λb hb=>by have:=(aj.out.lt b hb).1; omega)
       have HL3:e7 (w3.rangeLeft B r<wr.rangeLeft B r):=by
        show _<_;rw[eu.jA (hold B aN (by omega)) (hold r (by omega) (by omega))];exact HLa.out
       have ba:e7 (jI Flat w3 v3):=a6;clear a6 aw ax hold ak ao af;go_wp2;go_roundw
       case rel=>
        exact⟨O++[⟨sg,at',nm,true,n2,tx,wt,tg⟩],Y,pL HP.out ar.out,aW.out,aX.out,aY.out,aZ.out,by omega,ba.out⟩
       case measure=>exact HL3.out
      .have ah:e7 (dU ms (O++[⟨sg,at',nm,true,n2,tx,wt,tg⟩])=dU ms O):=by show _=_; rw[av.out]; simp[hq]
       have bp:¬((sg:Int)=(eM ms nm:Int)):=by omega
       clear aa;go_wp2;rw[<-af];go_roundw
       case rel=>
        exact⟨O++[⟨sg,at',nm,true,n2,tx,wt,tg⟩],Y,pL HP.out ar.out,a3.out,a4.out,by rw[ah.out]; exact aj.out,aB.out,by omega,aA.out⟩
       case measure=>exact HLa.out
  .intro m Y w2 ai ac ae ad a8 ao;have ap:=fQ.lt ac;have aq:=iN.lt (fQ.owns ac);have HB1:e7 (Below w.heap.size w w2):=lO HB.out ad (by omega);have HR1:e7 (lJ _ _ _ _ _):=ac;have HM1:e7 (dL prog 9 w2 w.heap.size nl):=dL.stay HM.out (ad.block _ (by omega) (by simp));have a9:e7 (w2.rangeLeft B (w.heap.size+1)<wr.rangeLeft B (w.heap.size+1)):=ae;have ar:e7 (ab.Perm (m::Y)):=ai;have aM:w.heap.size+2<=w2.heap.size:=by omega
   have au:=a7.out m (HP.out.mem_iff.1 (c7 _ (ai.mem_iff.2 (bW ..))));have aO:=Gg U m;have av:e7 _:=aO;have a0:e7 _:=au;clear ai ac ae ad a8 aO au;obtain⟨sg,at',nm,wd,n2,tx,wt,tg⟩:=m;simp only[kE.val,OP]at ao⊢
   have aC:e7 (dL prog 9 ((w2.alloc (.cells #[.int .i64 (sg:Int),.int .i64 (at':Int)] 170)).alloc (.cells #[.int .i64 (sg:Int),.int .i64 (at':Int),.string ⟨nm.toArray⟩,.bool wd,.string ⟨n2.toArray⟩,.string ⟨tx.toArray⟩,.int .i64 wt,.int .i64 tg] 172)) w.heap.size nl):=
    dL.below HM1.out (((ez _ _).alloc (cX _) _).alloc (by simp) _)
   have ak:=(aC.out.look (z:=.int .i64 0) underlying9 underlying179 (by kernel_rfl) nm a0.out.2).1;rw[az.out nm]at ak;go_wp2_with (first|(at_mapUpdate; refine jr _ rfl _ _ _ 179 rfl 3 underlying9 underlying179 rfl aC.out ?c1 nm a0.out.2 rfl _ rfl ?_))
   case c1=>unfold dg; omega
   intro w5 aP aD bq;have bc:e7 _:=aP;have aa:Below w2.heap.size w2 ((w2.alloc (.cells #[.int .i64 (sg:Int),.int .i64 (at':Int)] 170)).alloc (.cells #[.int .i64 (sg:Int),.int .i64 (at':Int),.string ⟨nm.toArray⟩,.bool wd,.string ⟨n2.toArray⟩,.string ⟨tx.toArray⟩,.int .i64 wt,.int .i64 tg] 172)):=(((ez _ _).alloc (cX _) _).alloc (by simp) _);have hold:∀j,j<w2.heap.size->j≠w.heap.size->w5.heap[j]?=w2.heap[j]?:=λj hj bd=>(aD.block j (by simp; omega) (by simp; exact λe=>bd e)).trans (aa.block j hj);have be:e7 (lJ w5 B (w.heap.size+1) ms Y):=fQ.stay HR1.out (hold B aq (by omega)) (hold _ ap (by omega))
   have HL5:e7 (w5.rangeLeft B (w.heap.size+1)<wr.rangeLeft B (w.heap.size+1)):=by
    show _<_;rw[eu.jA (hold B aq (by omega)) (hold _ ap (by omega))];exact a9.out
   have bf:e7 (Below w.heap.size w w5):=by
    show Below _ _ _;refine(HB1.out.trans (aa.mono (by omega))).grown aD (by simp; omega) (λb hb=>?_);cases hb;exact cX _
   have bg:w.heap.size+2<=w5.heap.size:=by omega
   clear ak aD aP hold aa aC ao;go_wp2;go_roundw
   case rel=>
    refine⟨U++[⟨sg,at',nm,wd,n2,tx,wt,tg⟩],Y,_,pL HP.out ar.out,be.out,bc.out,?_,λx=>?_,bf.out,bg⟩
    .have:=NN nl nm (.int .i64 (max (eM U nm:Int) (sg:Int)));rw[bT,List.length_singleton];omega
    .rw[Lx,av.out x,az.out x];by_cases e:x=nm
     .subst e;rw[if_pos rfl,if_pos rfl];simp;omega
     .rw[if_neg e,if_neg (λh=>e h.symm)]
   case measure=>exact HL5.out
end
section
open Go.RowKit Go.Sort D
variable {F cur:Array Value}
theorem Qx(x y:Int):Ca x y<0↔x<y:=by
 unfold Ca;split
 .exact⟨λ_=>by assumption,λ_=>by omega⟩
 .split<;>constructor<;>intro h<;>omega
theorem AJ(x y:Int):Ca x y=0↔x=y:=by
 unfold Ca;split
 .constructor<;>intro h<;>omega
 .split<;>constructor<;>intro h<;>omega
theorem Rh(x y:dp):ltOf Sr x y=true↔fe x y=true:=by
 unfold ltOf Sr fe;rw[decide_eq_true_eq];by_cases h:x.dq=y.dq
 .rw[if_pos h,if_neg (by rw[et]; exact(AJ ..).2 h.symm)];by_cases B:dE x=dE y
  .rw[if_pos B,if_neg (by rw[et]; exact(qY ..).2 B),wZ]
  .rw[if_neg B,if_pos (λe=>B ((qY ..).1 e)),wZ]
 .rw[if_neg h,if_pos (λe=>h ((AJ ..).1 e).symm),Qx];simp
theorem AK(x y:dp):fe x y=true\/(x.dq=y.dq/\dE x=dE y/\x.name=y.name)\/fe y x=true:=by
 unfold fe;by_cases h:x.dq=y.dq
 .rw[if_pos h,if_pos h.symm];by_cases O:dE x=dE y
  .rw[if_pos O,if_pos O.symm];rcases im .. with B|B|B
   .exact .inl B
   .exact .inr (.inl ⟨h,O,B⟩)
   .exact .inr (.inr B)
  .rw[if_neg O,if_neg (λe=>O e.symm)];rcases im .. with B|B|B
   .exact .inl B
   .exact absurd B O
   .exact .inr (.inr B)
 .rw[if_neg h,if_neg (λe=>h e.symm)];simp only[decide_eq_true_eq];omega
theorem GG{x y z:dp}(h:x.dq=y.dq/\dE x=dE y/\x.name=y.name)(B:fe x z=true):fe y z=true:=by
 unfold fe at *;rw[<-h.1,<-h.2.1,<-h.2.2];exact B
def sS(e:dp):dp:={e with text:=e.text.take 1048576}
theorem BZ{e:dp}(h:e.text.length<=1048576):sS e=e:=by
 unfold sS;rw[ck h]
theorem EK(e:dp):(sS e).text.length<=1048576:=by
 show(e.text.take _).length<=_;rw[cv];omega
def RD(x y:dp):Int:=Sr (sS x) (sS y)
def uk(e:dp):List Value:=mo (sS e)
theorem uh(x y:dp):ltOf RD x y=true↔fe (sS x) (sS y)=true:=Rh ..
theorem Qn:SWO (ltOf RD) where
 irrefl x:=by
  cases h:ltOf RD x x with
  |false=>rfl
  |true=>rw[uh,tC]at h; cases h
 trans x y z h1 h2:=by rw[uh]at *; exact nN h1 h2
 ntrans x y z h1 h2:=by
  cases B:ltOf RD x z with
  |false=>rfl
  |true=>
   rw[uh]at B;have n1:¬fe (sS x) (sS y)=true:=by rw[<-uh,h1]; simp
   have n2:¬fe (sS y) (sS z)=true:=by rw[<-uh,h2]; simp
   rcases AK (sS x) (sS y)with h|h|h
   .exact absurd h n1
   .exact absurd (GG h B) n2
   .exact absurd (nN h B) n2
theorem NW(blk off size:Nat)(w:World):CmpLays prog 84 #[] uk 4 RD blk off size w:=by
 intro m os B _ x y;refine(DG _ _ _ (EK x) (EK y)).mono ?_;rintro e w' ⟨rfl,h⟩;exact⟨rfl,N7 h⟩
theorem Ow(x:dp):∀v∈uk x,v.oneCell'=true:=Fi _
theorem u9(es:List dp):(ii es).length=es.length*4:=by
 induction es with
 |nil=>rfl
 |cons a l B=>
  have e:ii (a::l)=mo a++ii l:=by simp[ii]
  rw[e];simp[mo];omega
theorem yV(es:List dp)(h:∀e∈es,e.text.length<=1048576):(g7 uk 4 es.toArray).toList=ii es:=by
 apply cb;intro j;by_cases U:j<es.length*4
 .have Y:j<(g7 uk 4 es.toArray).size:=by simpa using U
  have O:j / 4<es.length:=by omega
  have e1:es.toArray[j / 4]! = es[j / 4]:=by rw[getElem!_pos _ _ (by simpa using O)]; simp
  have g:=get_flatK uk 4 es.toArray j (by simpa using U);rw[e1]at g;have B:=BZ (h _ (bN O));unfold uk at g;rw[B]at g;have:=AD es _ (j % 4) O (by omega);rw[show j / 4*4+j % 4=j by omega]at this;rw[this];have B:j % 4<(mo es[j / 4]).length:=by simp[mo]; omega
  rw[getElem!_pos (mo _) _ B,getElem!_pos _ j Y]at g;rw[bJ B,<-g,cO,cL Y];rfl
 .rw[bQ (by simp; omega),bQ (by rw[u9]; omega)]
theorem Ky{w:World}{base e n m cap g:Nat}{ws:List dp}(h:w.ownsRow base e 4 (.slice (some ⟨g,0,none⟩) m cap) n (ii ws))(hn:n=ws.length)(hb:∀e∈ws,e.text.length<=1048576):HoldsK uk 4 w g 0 ws.toArray:=by
 subst hn;intro j U;rw[g8]at U;have Y:j<(g7 uk 4 ws.toArray).size:=by simpa using U
 have B:(ii ws)[j]?=some ((g7 uk 4 ws.toArray)[j]!):=by
  rw[<-yV ws hb,getElem!_pos _ j Y,cO,cL Y]
 rcases h.2 with⟨h0,_⟩|⟨g',aa,cur,he,_,hg,_,_,ab,O⟩
 .simp at h0
 .obtain⟨⟨rfl,_⟩,_,rfl⟩:=he;refine⟨?_,?_⟩
  .rw[dh hg];rw[<-O,bX,if_pos (by omega)]at B;simpa using B
  .simp[World.frozen?,hg]
theorem N0(h:F.size<=cur.size):(g6 id 0 F cur).toList.take F.size=F.toList:=by
 apply cb;intro j;by_cases B:j<F.size
 .rw[bX,cO];unfold g6;rw[cM,cL (by omega)];simp only[Option.map_some,cZ,de,true_and,B,if_true,Nat.sub_zero,id];rw[getElem!_pos F j B,cO,cL B]
 .rw[bQ (by simp; omega),bQ (by simp; omega)]
theorem P5{u:Value}(h:u∈(g6 id 0 F cur).toList):u∈F.toList\/u∈cur.toList:=by
 unfold g6 at h;simp at h;obtain⟨i,hi,rfl⟩:=h;split
 .rename_i B;rw[getElem!_pos F i B];simp
 .simp
theorem Nk(base:Nat)(au:Option Addr)(Y:Nat)(es:List dp)(w:World)(O:w.ownsRow base 96 4 (.slice au es.length Y) es.length (ii es))(am:(es.map dp.name).Nodup)(hl:es.length<=1048576)(hb:∀e∈es,e.text.length<=1048576)(ah:jI Flat w (.slice au es.length Y)) :
  di prog 83 #[.slice au es.length Y,.func (.func 84) #[] #[]] w λe w2=>e=.returned (.tuple #[])/\Below base w w2/\
   ∃L:List dp,L.Perm es/\L.Pairwise (λx y=>fe x y=true)/\w2.ownsRow base 96 4 (.slice au es.length Y) es.length (ii L)/\jI Flat w2 (.slice au es.length Y):=by
 rcases O.2 with⟨he,hn⟩|⟨g,cap,cur,he,U,ac,h1,h2,h3,h4⟩
 .have hG:es=[]:=cd.1 (by simpa using hn);subst hG;have B:=AnyF.slices_SortFunc_none J8 au Y (.func (.func 84) #[] #[]) w;change di prog 83 _ _ _ at B;refine B.mono ?_;rintro e w2 ⟨rfl,rfl⟩;exact⟨rfl,ez _ _,[],gy _,List.Pairwise.nil,O,ah⟩
 .simp only[gn]at he;obtain⟨rfl,_,rfl⟩:=he;have ad:g<w.heap.size:=(cK.1 ac).1
  have B:=AnyQ.slices_SortFunc J8 4 isAgg96 sizeOf96 uk (λ_=>rfl) Ow RD Qn 84 #[] g 0 Y es.toArray w
   (enters_of func84 (by kernel_rfl) rfl) (NW g 0 _ w) (Ky O rfl hb) ad (by simp; omega)
  change di prog 83 _ _ _ at B;refine B.mono ?_;rintro e w2 ⟨rfl,d',nq,os,hp,hs,rfl⟩;have ae:d'.size=es.length:=by rw[hp.1]; simp
  have ai:(sortWorldK uk 4 w g 0 nq d' os).heap[g]?=some (.cells (g6 id 0 (g7 uk 4 d') cur) 96 (0,0)):=by
   unfold sortWorldK putRowK;rw[heap_grow_old _ _ (by simpa using ad)];simp[putRow,mapBlock,Sort.ahead,cS,ac,onCells]
  have eA:d'.toList.Perm es:=by
   have e1:d'.extract 0 es.toArray.size=d':=by rw[<-hp.1]; simp
   have e2:es.toArray.extract 0 es.toArray.size=es.toArray:=by simp
   have p3:=hp.2.2;rw[e1,e2]at p3;exact p3
  have af:∀e∈d'.toList,e.text.length<=1048576:=λe he=>hb e (eA.mem_iff.1 he)
  have hF:=by
   have:=yV _ af;simpa using this
  have aj:(g7 uk 4 d').size=es.length*4:=by rw[g8,ae]
  have ag:d'.toList.Pairwise (λx y=>fe x y=true):=by
   have aa:=(eA.map _).nodup_iff.2 am;rw[cz];intro i j hi hj ak;have an:d'.toList.length=es.toArray.size:=by simpa using ae
   have h:=hs i j (cZ _) ak (by omega);have gi:d'[i]! = d'.toList[i]:=by rw[getElem!_pos d' i _]; rfl
   have gj:d'[j]! = d'.toList[j]:=by rw[getElem!_pos d' j _]; rfl
   rw[gi,gj]at h;have ci:=BZ (af _ (bN hi));have cj:=BZ (af _ (bN hj));rcases AK _ _ with h'|h'|h'
   .exact h'
   .rw[cy,bZ,cz]at aa;exact absurd h'.2.2 (aa i j hi hj ak)
   .have:ltOf RD d'.toList[j] _=true:=(uh ..).2 (by rw[ci,cj]; exact h');rw[h]at this;cases this
  refine⟨rfl,vp U ad,d'.toList,eA,ag,⟨by rw[u9]; simp[ae],.inr ⟨g,Y,_,rfl,U,ai,h1,h2,by simp[g6,h3],?_⟩⟩,?_⟩
  .rw[<-aj,N0 (by rw[aj,h3]; exact dc _ h1),hF]
  .intro g' cs e' f al ab u hu;simp only[gc,fs]at al;subst al;rw[ai]at ab;obtain⟨rfl,_⟩:=ab;rcases P5 hu with h|h
   .rw[hF]at h;obtain⟨x,_,hx⟩:=List.mem_flatMap.1 h;exact As x u hx
   .exact ah g cur _ _ rfl ac u h
end
section
open Go.Conc Go.RowKit Go.Maps
variable {n:Nat} {cl:Nat->Option Nat}
theorem sP(w:World)(a:Addr)(v:Value):(w.setCell a v).heap.size=w.heap.size:=by simp
def JG(c:Code):Code:=match c with
 |.seq _ (.seq _ (.seq _ y))=>y
 |_=>.skip
theorem OK:f80.name≠ "runtime.NumGoroutine":=by
 decide
theorem Gb:f82.name≠ "runtime.NumGoroutine":=by
 decide
def l9(cl:Nat->Option Nat)(n r:Nat):Nat->Option Nat:=λk=>if k=n then some r else cl k
theorem Jk{r:Nat}(h:n<7):(ml cl).set! n (.chan (some r))=ml (l9 cl n r):=by
 rcases(by omega:n=0\/n=1\/n=2\/n=3\/n=4\/n=5\/n=6)with rfl|rfl|rfl|rfl|rfl|rfl|rfl<;>rfl
def nG(A:Ask)(num:Nat)(p:Nat×dp):kE:=if A.has p.2=true then⟨num,p.1,p.2.name,true,tY p.2,p.2.text,p.2.dq,p.2.dB⟩else⟨num,p.1,p.2.name,false,[],[],0,0⟩
theorem Ey(A:Ask)(num:Nat)(p:Nat×dp):(nG A num p).val=kU A num p:=by
 unfold nG kU;split<;>rfl
structure Fj(ms:List kE):Prop where
 len:ms.length<=1048576
 each:∀m∈ms,m.wA<=1000/\m.at'<4611686018427387904/\m.name.length<=dg
 places:(ms.map λm=>(m.wA,m.at')).Nodup
 names:((dU ms ms).map dp.name).Nodup
 texts:∀e∈dU ms ms,e.text.length<=1048576
theorem Pc{a b c d:Nat}(h:OP a b=OP c d):a=c/\b=d:=by
 unfold OP at h;simp only[Value.agg.injEq,Array.mk.injEq,List.cons.injEq,Value.int.injEq,true_and,and_true]at h;omega
theorem Fj.all{ms:List kE}(h:Fj ms):NQ (ms.map kE.val) where
 met:=λv O=>by
  obtain⟨m,hm,rfl⟩:=bK.1 O;have:=h.each m hm;exact⟨m.wA,m.at',_,_,_,_,_,_,by omega,this.2.1,rfl⟩
 nodup:=by
  rw[bM];have B:=h.places;rw[cy,bZ]at B⊢;refine B.imp fun {x y} hne e=>hne ?_;have:=Pc (a:=x.wA) (b:=x.at') (c:=y.wA) (d:=y.at') e;rw[this.1,this.2]
 len:=by
  rw[cm];have:=h.len;unfold dg;omega
theorem Qh{ms:List kE}{l:List (Value×Value)}(O:(l.map gv).Perm (ms.map kE.val))(U:∀p∈l,p.1=LY p.2):l.Perm (ms.map kE.kv):=by
 have e:l=(l.map gv).map λv=>(LY v,v):=by
  rw[bM];conv=>lhs; rw[<-List.map_id l]
  refine bV λp Y=>?_;show p=(LY _,p.2);rw[<-U p Y]
 have B:=O.map λv=>(LY v,v);rw[bM (l:=ms)]at B;rw[e];exact B
def Nd(ms:List kE)(L:List dp):Prop:=L.Perm (dU ms ms)/\L.Pairwise λx y=>fe x y=true
def Bn(ms:List kE)(l cp:Nat):Prop:=l=0/\cp=0/\Nd ms []
def AA(ms:List kE)(off:Nat)(spot:Option Nat)(l cp:Nat)(cs:Array Value)(e:dj)(f:Nat×Nat):Prop:=
 off=0/\spot=none/\e=96/\f=(0,0)/\∃L,Nd ms L/\l=L.length/\l<=cp/\cp<=dg/\cs.size=cp*4/\cs.toList.take (l*4)=ii L
section
variable {Z:j8 prog} {w:World} {T:List Frame} {dd q K:Nat} {wl:World} {V:Vs}
theorem Cf{A:Ask}{es:List dp}{ex:Obj}{sa:Option Addr}{sc bx b s:Nat}{ms ms0:List kE}{a2 a3 a4 a6 a8 a9 be bf bg bh bi bj bk bl bm bn bo bp bq br bs bt bu bv bw bz b0 b1 b2 b3 b4 b5 b6 b7 b8 b9 b':Value}(hT:∀ps,T=[ps]->ps.mode≠.panicking [dr])
  (hs:s=wl.heap.size) (hA:A.Ok) (hK:K<=s+5) (h5:5<=s) (ag:dd<s) (ah:5<=q) (hq:q<w.heap.size) (aa:w.heap[q]?=some ex) (hM:qX ex es) (ab:∀(r:Nat)a c,wl.heap[r]?≠some (.map a c))
  (hl:es.length<=100000) (ai:∀e∈es,e.name.length<=dg/\e.text.length<=1048576/\(e.gone=false->0<=e.dB/\e.dB<=255)) (hn:n<=6) (hV:∀x∈V,x.1<s)
  (aj:wl.heap[bx]?=some (.cells #[.int .i64 A.m,.string A.q,.int .i64 A.t] 94 (0,0))) (hb:wl.heap[b]?=some (.cells (ml cl) 125 (0,0)))
  (ak:∀k,n<=k->cl k=none) (jv:∀k r,k<7->cl k=some r->∃vs,(r,some vs)∈V) (ft:∀x∈V,∃k vs,k<7/\cl k=some x.1/\x.2=some vs) (rA:∀k k' r,k<7->k'<7->cl k=some r->cl k'=some r->k=k') (fE:(V.map gt).Nodup) (ac:V.length=n)
  (al:rF V=ms0.map kE.val) (am:ms=(fN es).map (nG A n)++ms0) (ad:Fj ms)
  (fin:∀(E₂:Env prog)aM aI aN,E₂.Z=Z->E₂.T=T->E₂.w0=w->(aI=[]\/∃k2,aI=.code .ret::k2)->B8 prog E₂ Tryz.f49 aM aN (Bn ms) (AA ms)->dl E₂ [⟨49,aM,aI⟩] aN []) :
  dl (nQ prog Z w T dd q K false) [⟨49,#[.slice sa n sc,.map (some dd),a2,a3,a4,.pointer (some ⟨bx,0,none⟩),a6,.pointer (some ⟨b,0,none⟩),a8,a9,be,bf,bg,bh,bi,bj,bk,bl,bm,bn,bo,bp,bq,br,bs,bt,bu,bv,bw,bz,b0,b1,b2,b3,b4,b5,b6,b7,b8,b9,b'],[.code (JG (dX Tryz.f49))]⟩] wl V:=by
 have HA:e7 _:=And.intro hs (And.intro hA (And.intro hK (And.intro h5 (And.intro ag (And.intro ah (And.intro hq (And.intro aa (And.intro hM (And.intro ab (And.intro hl (And.intro ai (And.intro hn (And.intro hV (And.intro aj hb))))))))))))));have HC:e7 _:=And.intro ak (And.intro jv (And.intro ft (And.intro rA (And.intro fE (And.intro ac (And.intro al (And.intro am (And.intro ad (And.intro fin hT)))))))));clear hs hA hK h5 ag ah hq aa hM ab hl ai hn hV aj hb ak jv ft rA fE ac al am ad fin hT;show dl _ [⟨_,_,[.code (.seq (.region 7 _ false) (.seq (.region 8 _ false) (.seq (.region 9 _ false) (.seq (.region 10 _ false) .ret))))]⟩] _ _;refine dl.sr λkk HK=>?_
 (refine eS ?_; go_simp)
 (refine eS ?_; go_simp)
 (refine eS ?_; go_simp)
 (refine eS ?_; go_simp)
 (refine eS ?_; go_simp);refine lH rfl (by rfl) (by kernel_rfl) λy0 U ao=>?_;have e0:y0.cell? ⟨bx,0,none⟩=some (.int .i64 A.m):=by rw[dh (by rw[U]; exact HA.out.2.2.2.2.2.2.2.2.2.2.2.2.2.2.1)]; rfl
 have e1:y0.cell? ⟨bx,1,none⟩=some (.string A.q):=by rw[dh (by rw[U]; exact HA.out.2.2.2.2.2.2.2.2.2.2.2.2.2.2.1)]; rfl
 have e2:y0.cell? ⟨bx,2,none⟩=some (.int .i64 A.t):=by rw[dh (by rw[U]; exact HA.out.2.2.2.2.2.2.2.2.2.2.2.2.2.2.1)]; rfl
 have HY:e7 (y0.heap=wl.heap/\y0.os=wl.os):=⟨U,ao⟩;clear U ao;unfold gm;go_simp;simp only[io];obtain⟨hs,hA,hK,h5,ag,ah,hq,aa,hM,ab,hl,ai,hn,hV,aj,hb⟩:=HA.out;rw[<-HY.out.1]at hs ab aj hb;clear e0 e1 e2;refine dl.qH #[.int .i64 (n:Int),.map (some dd),.agg #[.int .i64 A.m,.string A.q,.int .i64 A.t],gB,gB,gB,gB,gB,gB,gB,gB] (i:=6) (gH:=f80) (c:=dX f80) rfl rfl func80 (by kernel_rfl) OK rfl (by simp[dN]) (by kernel_rfl) ?_;refine zn n A es ex s hs rfl hA hK h5 ag ah hq aa hM ab hl ai (by omega) hV λw2 z2 o2 aO p2=>?_;obtain⟨ak,jv,ft,rA,fE,ac,al,am,ad,fin,hT⟩:=HC.out;have av:b<s:=by rw[hs]; exact(cK.1 hb).1
 have a':w2.heap[b]?=some (.cells (ml cl) 125 (0,0)):=(o2 b av).trans hb;have aP:n<7:=by omega
 have H2:e7 _:=And.intro z2 (And.intro o2 (And.intro p2 (And.intro a' av)));clear ak jv ft rA fE ac al am ad fin hT hs hA hK h5 ag ah hq aa hM ab hl ai hV aj hb hn z2 o2 aO p2 a' av;rw[fA];go_simp;have aQ:(n:Int)<7:=by omega
 (refine eS ?_; go_simp);clear aQ;refine lH rfl (by rfl) (by kernel_rfl) λy1 an ap=>?_;have gb:y1.heap[b]?=some (.cells (ml cl) 125 (0,0)):=by rw[an]; exact H2.out.2.2.2.1
 have e0:y1.cell? ⟨b,n,none⟩=some (.chan (cl n)):=by
  rw[dh gb];rcases(by omega:n=0\/n=1\/n=2\/n=3\/n=4\/n=5\/n=6)with rfl|rfl|rfl|rfl|rfl|rfl|rfl<;>rfl
 have f0:y1.frozen? ⟨b,n,none⟩=false:=dJ gb n;have aA:e7 (y1.heap=w2.heap/\y1.os=w2.os):=⟨an,ap⟩;have HG:e7 _:=gb;clear an ap gb;unfold gm;go_simp;simp only[io];clear e0 f0;obtain⟨w3,au⟩:∃w3,w3=y1.setCell ⟨b,n,none⟩ (.chan (some (s+3))):=⟨_,rfl⟩;have g3:w3.heap[b]?=some (.cells (ml (l9 cl n (s+3))) 125 (0,0)):=by rw[au,heap_set HG.out n (.chan (some (s+3))),<-Jk aP]; simp only[cQ]
 have o3:∀r,r≠b->w3.heap[r]?=w2.heap[r]?:=λr hr=>by rw[au,ew _ _ _ _ hr,aA.out.1]
 have z3:w3.heap.size=s+5:=by rw[au,sP,aA.out.1]; exact H2.out.1
 have p3:w3.os=w2.os:=by rw[au,pQ]; exact aA.out.2
 rw[<-au];clear au HG aA y1;have H3:e7 _:=And.intro g3 (And.intro o3 (And.intro z3 p3));clear g3 o3 z3 p3;refine dl.ie HK ?_;clear HK kk;refine dl.sr λkk HK=>?_
 (refine eS ?_; go_simp)
 (refine eS ?_; go_simp)
 (refine eS ?_; go_simp);have aR:IntKind.i64.wrap ((n:Int)+1)=(n:Int)+1:=by simp only[gx]; omega
 rw[aR];clear aR;obtain⟨ak,jv,ft,rA,fE,ac,al,am,ad,fin,hT⟩:=HC.out;obtain⟨hs,hA,hK,h5,ag,ah,hq,aa,hM,ab,hl,ai,hn,hV,aj,hb⟩:=HA.out;obtain⟨g3,o3,z3,p3⟩:=H3.out;obtain⟨z2,o2,p2,a',av⟩:=H2.out;obtain⟨V2,ae⟩:∃V2,V2=(s+3,some ((fN es).map (kU A n)))::V:=⟨_,rfl⟩;have aS:(n:Int)+1=(V2.length:Int):=by rw[ae,ce,ac]; rfl
 have aw:rF V2=ms.map kE.val:=by
  rw[ae];show(fN es).map (kU A n)++rF V=_;rw[al,am,bR,bM];congr 1;refine bV λp _=>(Ey A n p).symm
 have aJ:∀k r,cl k=some r->k<7->r≠s+3:=λk r hr hk e=>by
  obtain⟨vs,h⟩:=jv k r hk hr;have:=hV _ h;simp only at this;omega
 have aE:∀k r,k<7->l9 cl n (s+3) k=some r->∃vs,(r,some vs)∈V2:=λk r hk hr=>by
  unfold l9 at hr;rw[ae];split at hr
  .cases hr;exact⟨_,bW ..⟩
  .obtain⟨vs,h⟩:=jv k r hk hr;exact⟨vs,cB _ h⟩
 have ax:∀x∈V2,∃k vs,k<7/\l9 cl n (s+3) k=some x.1/\x.2=some vs:=λx hx=>by
  rw[ae]at hx;rcases cc.1 hx with rfl|hx
  .exact⟨n,_,aP,by unfold l9; rw[if_pos rfl],rfl⟩
  .obtain⟨k,vs,a1,a2,a3⟩:=ft x hx;refine⟨k,vs,a1,?_,a3⟩;have:k≠n:=λe=>by rw[e,ak n (cX _)]at a2; cases a2
   unfold l9;rw[if_neg this];exact a2
 have aF:∀k k' r,k<7->k'<7->l9 cl n (s+3) k=some r->l9 cl n (s+3) k'=some r->k=k':=λk k' r hk aT h1 h2=>by
  unfold l9 at h1 h2;split at h1<;>split at h2
  .omega
  .cases h1;exact absurd rfl (aJ k' _ h2 aT)
  .cases h2;exact absurd rfl (aJ k _ h1 hk)
  .exact rA k k' r hk aT h1 h2
 have aq:(V2.map gt).Nodup:=by
  rw[ae,ct,cG];refine⟨λh=>?_,fE⟩;obtain⟨x,hx,e⟩:=bK.1 h;have:=hV x hx;simp only at e;omega
 rw[aS,<-ae];refine dl.qH (#[.pointer (some ⟨b,0,none⟩),.int .i64 (V2.length:Int),gB,gB,gB,gB,gB,gB,gB,gB,gB,gB,gB,gB,gB,gB,gB,gB,gB,gB,gB,gB,gB,gB,gB,gB,gB,gB,gB,gB]:Array Value) (i:=3) (gH:=f82) (c:=dX f82) rfl rfl func82 (by kernel_rfl) Gb rfl (by simp[dN]) (by kernel_rfl) ?_;refine Fv (mb:=s+5) rfl ad.all z3.symm (by omega) g3 aE ax aF aq (by rw[ae,ce,ac]; omega) aw ?_;intro w4 l aU aV aW _ _;have aK:Is w4 (s+5) ms:=aW.perm (Qh aU aV);have aX:=aK.lt;have aY:e7 _:=And.intro aK aX
 have aZ:∀b,w.heap[b]?=some oF->b<w.heap.size/\(true=true->b≠q):=λb hb=>⟨(cK.1 hb).1,λ_ e=>by
  obtain⟨a,c,hx⟩:=hM.isMap;rw[e,aa,hx]at hb
  cases hb⟩
 have bA:e7 _:=aZ;clear ak jv ft rA fE ac al am hs hA hK h5 ag ah hq aa hM ab hl ai hn hV aj hb g3 o3 z3 p3 z2 o2 p2 a' av ae aS aw aJ aE ax aF aq aU aV aW aK aX HA HC H2 H3;have HF:e7 _:=And.intro ad (And.intro fin hT);clear ad fin hT aZ;show dl _ [⟨_,eN _ _ _,_⟩] _ _;rw[fA];go_simp;refine lH rfl (by rfl) (by kernel_rfl) λy0 U ao=>?_;have ba:Is y0 (s+5) ms:=iN.stay aY.out.1 (by rw[U]);have ay:s+6<=y0.heap.size:=by rw[U]; exact aY.out.2
 have aG:=CV (s+5) ms y0 ba HF.out.1.len λm hm=>⟨(HF.out.1.each m hm).1,(HF.out.1.each m hm).2.2⟩;clear U ao ba;unfold gm;go_simp;simp only[io];refine⟨trivial,aG.mono ?_⟩;clear aG;rintro e w5 ⟨v,af,rfl,B,O,aB,az⟩;refine⟨v,rfl,?_⟩;obtain⟨aL,aC,rfl,bc⟩:=iW O;have HO:e7 _:=And.intro B (And.intro O (And.intro aB (And.intro az ay)));clear B O aB az ay bc
 (refine eS ?_; go_simp);refine dl.ie HK ?_;clear HK kk;refine dl.sr λkk HK=>?_
 (refine eS ?_; go_simp);refine lH rfl (by rfl) (by kernel_rfl) λy1 an ap=>?_;obtain⟨B,O,aB,az,ay⟩:=HO.out;have eA:(dU ms af).Perm (dU ms ms):=D2 B;have a0:y1.ownsRow y0.heap.size 96 4 (.slice aL (dU ms af).length aC) (dU ms af).length (ii (dU ms af)):=gR O (λk hk=>by rw[an]);have a5:=Nk y0.heap.size aL aC (dU ms af) y1 a0 ((eA.map _).nodup_iff.2 HF.out.1.names) (by have h1:=Bw ms af; have h2:=B.length_eq; have h3:=HF.out.1.len; omega) (λe he=>HF.out.1.texts e (eA.mem_iff.1 he)) (az.stay λg hg=>by rw[an]);have HP:e7 _:=And.intro eA ay;clear B O aB az ay eA a0 an ap HO;unfold gm;go_simp;simp only[io];refine⟨trivial,a5.mono ?_⟩;clear a5;rintro e w6 ⟨rfl,bB,L,a7,aD,Y,ar⟩;refine⟨_,rfl,?_⟩;have H6:e7 _:=And.intro a7 (And.intro aD (And.intro Y ar));clear bB a7 aD Y ar;refine dl.ie HK ?_;clear HK kk;refine dl.seq ?_;refine dl.region ?_
 (refine eS ?_; go_simp)
 (refine eS ?_; go_simp);refine dl.inRegion ?_;refine HF.out.2.1 _ _ _ _ rfl rfl rfl (.inr ⟨_,rfl⟩) ⟨⟨.slice aL (dU ms af).length aC,λτ=>by simp[ee,results49,go_sem],?_⟩,bA.out⟩;obtain⟨a7,aD,Y,ar⟩:=H6.out;have hL:L.length=(dU ms af).length:=a7.length_eq;have aH:Nd ms L:=⟨a7.trans HP.out.1,aD⟩;rcases Y.2 with⟨he,bE⟩|⟨g,cap,cur,he,bC,bd,h1,h2,h3,h4⟩
 .left;simp only[gn]at he;refine⟨_,_,?_,he.2.1,he.2.2,?_⟩
  .rw[he.1]
  .have:L=[]:=List.eq_nil_of_length_eq_zero (by omega);rw[<-this];exact aH
 .right;simp only[gn]at he;obtain⟨rfl,_,rfl⟩:=he;refine⟨g,0,none,_,aC,cur,_,_,rfl,bd,ar g cur _ _ rfl bd,λm hm bD=>?_,rfl,rfl,rfl,rfl,L,aH,hL.symm,h1,h2,h3,h4⟩;have:=hm.x.2.2 g bD;have:=HP.out.2;omega
end
end
section
open Go.Conc Go.RowKit Go.Maps
section
variable {A:Ask} {es:List dp}
theorem yl(es:List dp):fN es=(cx es.length).map λk=>(k,(oM es).getD k ⟨[],false,[],0,0⟩):=by
 apply cb;intro k;rw[qu,cE];have B:(oM es).length=es.length:=(n5 es).length_eq;by_cases h:k<es.length
 .rw[List.getElem?_range h,bJ (by omega)];simp[bO,bJ (show k<(oM es).length by omega)]
 .rw[bQ (by omega),bQ (by simp; omega)];rfl
theorem ij(num:Nat)(p:Nat×dp):(nG A num p).wA=num/\(nG A num p).at'=p.1/\(nG A num p).name=p.2.name/\(nG A num p).wanted=A.has p.2:=by
 unfold nG;split
 .exact⟨rfl,rfl,rfl,by simp_all⟩
 .exact⟨rfl,rfl,rfl,by simp_all⟩
theorem tA{e:dp}(h:A.has e=true):e.gone=false:=by
 unfold Ask.has at h
 cases B:e.gone with
 |false=>rfl
 |true=>rw[B]at h; simp at h
theorem DW{num:Nat}{p:Nat×dp}(h:A.has p.2=true):(nG A num p).Mb=p.2:=by
 have B:=tA h;obtain⟨k,O,U,tx,wt,tg⟩:=p;simp only at B;subst B;unfold nG;rw[if_pos h];rfl
theorem DE(es:List dp):(fN es).map gv=oM es:=by
 apply cb;intro k;rw[cE,qu];cases(oM es)[k]?<;>rfl
end
theorem Me:Tryz.f49.name≠ "runtime.NumGoroutine":=by
 have:Tryz.f49.name = "hint/search.Entries":=by kernel_rfl
 rw[this];decide
end
section
open Go.Conc Go.RowKit Go.Maps
variable {listed:Array Bool} {ops:Array Oper} {c:Code} {rest:List Nat} {b i:Nat} {o:Oper} {md:Region.Mode} {W:World}
noncomputable def marked (W:World) (Mp:Nat->Prop):World:={W with heap:=W.heap.mapIdx λb x=>@ite _ (Mp b) (ej _) oF x}
theorem A8{Mp:Nat->Prop}(h:¬Mp b):(marked W Mp).heap[b]?=W.heap[b]?:=by
 show(W.heap.mapIdx _)[b]?=_;rw[cM]
 cases W.heap[b]? with
 |none=>rfl
 |some x=>simp[h]
theorem LU{Mp:Nat->Prop}(hb:b<W.heap.size)(h:Mp b):(marked W Mp).heap[b]?=some oF:=by
 show(W.heap.mapIdx _)[b]?=_;rw[cM,cL hb];simp[h]
theorem vC(W:World)(Mp:Nat->Prop):(marked W Mp).heap.size=W.heap.size:=by
 show(W.heap.mapIdx _).size=_;simp
noncomputable def fy (Z:j8 prog) (W0:World) (Mp:Nat->Prop):Env prog where
 Z:=Z
 fx:=λb=>b<W0.heap.size/\¬Mp b
 w0:=marked W0 Mp
 T:=[]
 gl:=λg=>qm g=true
 st:=true
 fq:=λf=>se f=true
 ok:=NA prog se qm true
 X:=λm=>(∀r,Mp r->m.blk r=some r)/\∀r o v,Mp r->W0.cell? ⟨r,o,none⟩=some v->m.rB r o=some v
 le:=λ_ _ h x=>⟨λr hr=>h.blk r r (x.1 r hr),λr o v hr hv=>by rw[h.rB]; exact x.2 r o v hr hv⟩
theorem FD(Z:j8 prog)(W0:World)(Mp:Nat->Prop):∀b,b<(fy Z W0 Mp).w0.heap.size->(fy Z W0 Mp).fx b\/(fy Z W0 Mp).w0.heap[b]?=some oF:=λb hb=>by
 have hb:b<W0.heap.size:=by rw[<-vC W0 Mp]; exact hb
 by_cases h:Mp b
 .exact .inr (LU hb h)
 .exact .inl ⟨hb,h⟩
section
variable {Z:j8 prog} {W0:World} {Mp:Nat->Prop} {fn:dk} {tm:Array Value} {os:List OF} {wl:World} {V:List (Nat×Option (List Value))} {k:List Item}
theorem Ht(hi:ops[i]?=some o)(O:fm o (dt ops tm)=true)(U:Du prog se qm true o.op=true)
  (B:∀τ,gm prog o ⟨tm,[]⟩ (tp wl τ) (λv y=>dl (fy Z W0 Mp) (⟨fn,(Act.put ⟨tm,[]⟩ o.dst v).tmps,.inRegion ops rest::k⟩::os) y V)):dl (fy Z W0 Mp) (⟨fn,tm,.inRegion ops (i::rest)::k⟩::os) wl V:=
 dl.Rw hi O (ui U) B
theorem dG{v:Value}(h:dl (fy Z W0 Mp) (⟨fn,(Act.put ⟨tm,[]⟩ o.dst v).tmps,.inRegion ops rest::k⟩::os) wl V)(hi:ops[i]?=some o:=by rfl)(O:∀y:World,gm prog o ⟨tm,[]⟩ y (λu U=>Same y U/\u=v):=by intro y; unfold gm; go_simp; refine⟨rfl,?_⟩; with_reducible rfl)
  (B:fm o (dt ops tm)=true:=by rfl) (Y:Du prog se qm true o.op=true:=by kernel_rfl):dl (fy Z W0 Mp) (⟨fn,tm,.inRegion ops (i::rest)::k⟩::os) wl V:=dl.pu hi B (ui Y) O h
theorem Ly(B:jq (λo=>Du prog se qm true o.op) c=true)(U:k.all jG=true)(Y:os≠[])(h:∀O:World,O.heap=wl.heap->O.os=wl.os->c.wp prog (Ez (fy Z W0 Mp) fn k os V) ⟨tm,[]⟩ O):dl (fy Z W0 Mp) (⟨fn,tm,.code c::k⟩::os) wl V:=
 dl.Ej (mU B) U (.inl Y) λτ _=>h (tp wl τ) rfl rfl
theorem E0(B:jq (λo=>Du prog se qm true o.op) c=true)(O:k.all jG=true)(U:os≠[])(h:∀τ,c.wp prog (Ez (fy Z W0 Mp) fn k os V) ⟨tm,[]⟩ (tp wl τ)):dl (fy Z W0 Mp) (⟨fn,tm,.code c::k⟩::os) wl V:=
 dl.Ej (mU B) O (.inl U) λτ _=>h τ
end
theorem PN{acc:List Nat}(U:fk md ops listed=[]):∀(B t:Nat),ge md ops B t listed acc=acc.reverse
 |0,_=>rfl
 |f+1,t=>by
  simp only[ge]
  split
  .rename_i q Y
   have O:(fk md ops listed)[t % (fk md ops listed).length]?=some q:=Y
   rw[U]at O;simp at O
  .rfl
theorem xb{j:Nat}(h1:fk md ops listed=[j])(h2:fk md ops (listed.setIfInBounds j true)=[])(O t:Nat):ge md ops (O+1) t listed []=[j]:=by
 simp only[ge];split
 .rename_i q U;have B:(fk md ops listed)[t % (fk md ops listed).length]?=some q:=U;rw[h1]at B;have Y:t % ([j]:List Nat).length=0:=df t;rw[Y]at B;have hj:q=j:=by simpa using B.symm
  subst hj;exact PN h2 _ _
 .rename_i U;have B:(fk md ops listed)[t % (fk md ops listed).length]?=none:=U;rw[h1]at B;have Y:t % ([j]:List Nat).length=0:=df t;rw[Y]at B;simp at B
theorem RI{last:Nat}{Z:j8 prog}{W0:World}{Mp:Nat->Prop}(h:((cx ops.size).all λi=>i==last || (match ops[i]? with|some o=>Du prog se qm true o.op|none=>true))=true):∀(i:Nat)o,i≠last->ops[i]?=some o->OkOp prog (fy Z W0 Mp).fq (fy Z W0 Mp).gl (fy Z W0 Mp).st o.op:=by
 intro i o B hi;have O:i<ops.size:=(cK.1 hi).1;have:=cF.1 h i (cn.2 O);rw[hi]at this;simp only[Bool.or_eq_true,beq_iff_eq]at this;rcases this with e|e
 .exact absurd e B
 .exact ui e
theorem Ir(m:Nat)(hm:m<=3)(w:World):di prog 46 #[.int .i64 (m:Int)] w λe w'=>e=.returned (.bool true)/\w=w':=by
 have B:(0:Int)<=m:=by omega
 have O:(m:Int)<=3:=by omega
 go_enter func46,ntmps46;go_wp2;go_ret;exact⟨rfl,rfl⟩
def Pt(w:World)(base:Nat)(es:List dp)(A:Ask)(most:Nat)(v:Value):Prop:=∃L:List dp,L.Perm (es.filter A.has)/\L.Pairwise (λx y=>fe x y=true)/\∃u,v=.tuple #[u,.int .i64 0]/\w.ownsRow base 9 1 u (L.take most).length (dn ((L.take most).map gr))
section
variable {Z:j8 prog} {W0:World} {Mp:Nat->Prop} {fn:dk} {tm:Array Value} {os:List OF} {wl:World} {k:List Item}
def ML(c:Code):Code:=match c with
 |.seq _ (.seq _ (.seq _ (.seq _ y)))=>y
 |_=>.skip
theorem tG{fa:Option Addr}{l cp most:Nat}{L:List dp}{wl:World}{a0 a1 a2 a3 a5 a6 a7 a8 a9 au av aw ax ay az a4 a' aA aB aC aD aE aF aG aH aI aJ aK aL aM aN aO aP aQ aR aS aT aU aV aW aX aY aZ ba bc bd be bf bh bi bj bk bl bm bn bo bp bq br bs bt bu bv bw bx:Value}(hi:ops[i]?=some o)(hR:sM wl 4 (.slice fa l cp) l (ii L))(hL:l=L.length)(b9:1<=most)(bA:most<=20)(h5:5<=wl.heap.size)
  (B:∀e∈L,∀y:World,(∀r,r<5->y.heap[r]?=wl.heap[r]?)->di prog 51 #[.agg #[.string ⟨e.name.toArray⟩,.string ⟨e.text.toArray⟩,.int .i64 e.dq,.int .i64 e.dB]] y λen w'=>en=.returned (.string ⟨(gr e).toArray⟩)/\eX y w')
  (hn:∀(w2:World)(u:Value),(∀r,r<wl.heap.size->w2.heap[r]?=wl.heap[r]?)->wl.heap.size<=w2.heap.size->w2.os=wl.os->w2.ownsRow wl.heap.size 9 1 u (L.take most).length (dn ((L.take most).map gr))->dl (fy Z W0 Mp) (⟨fn,eN o.dst tm (.tuple #[u,.int .i64 0]),.inRegion ops rest::k⟩::os) w2 []) :
  dl (fy Z W0 Mp) (⟨17,#[a0,a1,a2,a3,.int .i64 (most:Int),a5,a6,a7,a8,a9,au,av,.slice fa l cp,aw,ax,ay,az,a4,a',aA,aB,aC,aD,aE,aF,aG,aH,aI,aJ,aK,aL,aM,aN,aO,aP,aQ,aR,aS,aT,aU,aV,aW,aX,aY,aZ,ba,bc,bd,be,bf,bh,bi,bj,bk,bl,bm,bn,bo,bp,bq,br,bs,bt,bu,bv,bw,bx],[.code (ML (dX f17))]⟩::⟨fn,tm,.inRegion ops (i::rest)::k⟩::os) wl []:=by
 have HA:e7 _:=And.intro hR (And.intro hL (And.intro h5 (And.intro B hn)));clear hR h5 B hn;show dl _ (⟨_,_,[.code (.seq (.region 6 _ false) (.seq (.seq (.region 7 _ false) (.block 0 _)) (.seq (.region 12 _ false) .ret)))]⟩::_) _ _;refine dl.sr λkk HK=>?_
 (refine dG ?_; go_simp);refine dl.ie HK ?_;clear HK kk;refine dl.sc λkk HK=>?_;refine Ly (by kernel_rfl) (by rw[HK.out]; rfl) (by simp) λy0 af Y=>?_;obtain⟨hR,hL,h5,B,hn⟩:=HA.out;have ah:sM y0 4 (.slice fa l cp) l (ii L):=hR.later λa u h=>by simp only[eC]at h⊢; rw[af]; exact h
 obtain⟨n,ai⟩:∃n,n=min most l:=⟨_,rfl⟩;have b7:min (most:Int) (l:Int)=(n:Int):=by omega
 have bB:n<=l:=by omega
 obtain⟨bC,bD,al,bE,am,_,aa⟩:=id ah;simp only[gn]at al;obtain⟨rfl,_,rfl⟩:=al;have bF:n<=cp:=by omega
 have b8:cp<=9223372036854775807:=am;have HR:e7 _:=And.intro ah (And.intro aa (And.intro af (And.intro Y ai)));clear hR hL h5 B hn ah aa af Y ai am;obtain⟨i9,bz,an,b0,b1⟩:=eg vo;go_wp2_with fail;go_loopw [13,56] (λu i wr=>∃j:Nat,j<=n/\i=.int .i64 j/\wr.ownsRow y0.heap.size 9 1 u j (dn ((L.take j).map gr))/\Below y0.heap.size y0 wr) (λ_ i _=>n-(intOf i).toNat)
 case atStart=>exact⟨0,cZ _,rfl,fd _ _ _ _,ez _ _⟩
 case round=>
  obtain⟨j,hj,rfl,ab,hb⟩:=hrel;obtain⟨ag,cg,rfl,bG⟩:=dM ab;have HO:e7 (wr.ownsRow y0.heap.size 9 1 (.slice ag j cg) j (dn ((L.take j).map gr))):=ab;have HB:e7 (Below _ _ _):=hb;clear ab hb;by_cases bH:j<n
  .have aj:j<L.length:=by omega
   obtain⟨e,he⟩:∃e,e=L[j]:=⟨_,rfl⟩;have ae:e∈L:=by rw[he]; exact bN aj
   have ac:∀c,c<4->(ii L)[j*4+c]?=(mo e)[c]?:=λc hc=>by rw[AD L j c aj hc,he]
   obtain⟨bg,og,rfl,b2⟩:=HR.out.2.1 (j*4) (.string ⟨e.name.toArray⟩) (ac 0 (by omega))
   have O:∀c u,c<4->(mo e)[c]?=some u->wr.cell? ⟨bg,og+j*4+c,none⟩=some u:=λc u hc hu=>by
    obtain⟨b',o',h1,h2⟩:=HR.out.2.1 (j*4+c) u (by rw[ac c hc]; exact hu);simp only[fs,Addr.mk.injEq]at h1;obtain⟨rfl,rfl,_⟩:=h1;rw[Nat.add_assoc];exact ef HB.out h2
   have d0:wr.cell? ⟨bg,og+j*4,none⟩=some (.string ⟨e.name.toArray⟩):=O 0 _ (by omega) rfl;have d1:wr.cell? ⟨bg,og+j*4+1,none⟩=some (.string ⟨e.text.toArray⟩):=O 1 _ (by omega) rfl;have d2:wr.cell? ⟨bg,og+j*4+2,none⟩=some (.int .i64 e.dq):=O 2 _ (by omega) rfl;have d3:wr.cell? ⟨bg,og+j*4+3,none⟩=some (.int .i64 e.dB):=O 3 _ (by omega) rfl;have HE:e7 _:=And.intro he ae;clear he ae ac O b2;go_wp2_with fail;have ao:=HB.out.size;refine(HA.out.2.2.2.1 e HE.out.2 _ (λr hr=>?_)).mono ?_
   .have h5:=HA.out.2.2.1;have U:=HR.out.2.2.1;rw[fU _ _ (by rw[U]at ao; omega),HB.out.block r (by rw[U]; omega),U]
   rintro en w5 ⟨rfl,hx⟩;have b3:=hx.size;simp only[ff]at b3;have ak:Below wr.heap.size wr w5:=((ez _ _).alloc (cX _) _).trans (Below.mono hx (by simp));have b4:e7 (Below y0.heap.size y0 w5):=HB.out.trans (ak.mono ao);have ap:e7 (w5.ownsRow y0.heap.size 9 1 (.slice ag j cg) j (dn ((L.take j).map gr))):=eD HO.out (λg hg=>ak.block g (HO.out.lt g hg).2);clear d0 d1 d2 d3 hx ak
   go_wp2_with (first
    |(at_builtin; refine fj _ rfl _ _ 31 rfl y0.heap.size 9 i9 (.string ⟨#[]⟩) 16 underlying31 bz an b0 b1 rfl _ _ _ rfl (ap.out.alloc _) ⟨w5.heap.size,0,none⟩ _ rfl (vA rfl) rfl ?c1 ?c2 ?c3 ?_))
   case c1=>omega
   case c2=>unfold dg; omega
   case c3=>first|omega|(simp; omega)
   intro v3 w3 ad aq _
   have HO3:e7 (w3.ownsRow y0.heap.size 9 1 v3 (j+1) (dn ((L.take (j+1)).map gr))):=by
    show w3.ownsRow _ _ _ _ _ _;rw[cu aj,bR,<-HE.out.1];rw[show(cJ gr (List.take j L)++cJ gr [e])=(L.take j).map gr++[gr e]from rfl,mB,List.map_take];exact ad
   have HB3:e7 (Below y0.heap.size y0 w3):=(b4.out.alloc (by omega) _).grown aq (by simp; omega) (λg hg=>(ap.out.lt g hg).1);clear ad aq;go_wp2;go_roundw
   case rel=>exact⟨j+1,by omega,by go_num,HO3.out,HB3.out⟩
   case measure=>simp[intOf]; omega
  .have b5:j=n:=by omega
   subst b5;go_wp2;refine e9 ?_;rw[HK.out];refine dl.seq (dl.region ?_)
   (refine dG ?_; go_simp)
   (refine dG ?_; go_simp)
   (refine dG ?_; go_simp);refine dl.inRegion ?_;refine dl.back (v:=.tuple #[.slice ag j cg,.int .i64 0]) (.inr ⟨_,rfl⟩) func17 hi (λτ=>by simp[ee,results17,go_sem]) ?_;obtain⟨_,bI,h5,B,hn⟩:=HA.out;obtain⟨_,_,U,Y,ai⟩:=HR.out;have hO:=HO.out;have hB:=HB.out;rw[U]at hO hB;have ar:(L.take most).length=j:=by rw[cv]; omega
   have b6:L.take j=L.take most:=by
    by_cases hc:most<=L.length
    .rw[show j=most by omega]
    .rw[show j=L.length by omega,List.take_length,ck (by omega)]
   refine hn wr (.slice ag j cg) (λr hr=>?_) (by have:=hB.size; rw[U]at this; exact this) (hB.os.trans Y) ?_
   .rw[hB.block r hr,U]
   .rw[ar,<-b6];exact hO
end
end
section
open Go.RowKit Go.Maps
variable {xs:List Wd} {v:Value} {w':World}
structure lz(w0 w:World):Prop where
 os:w.os=w0.os
 size:w0.heap.size<=w.heap.size
 block:∀k,k<w0.heap.size->w.heap[k]?=w0.heap[k]?
theorem lz.refl(w:World):lz w w:=⟨rfl,cX _,λ_ _=>rfl⟩
theorem lz.trans{a b c:World}(h:lz a b)(B:lz b c):lz a c:=⟨B.os.trans h.os,cY h.size B.size,λk O=>(B.block k (da O h.size)).trans (h.block k O)⟩
theorem lz.of{w:World}(h:Below w.heap.size w w'):lz w w':=⟨h.os,h.size,h.block⟩
structure AW(w0 w:World)(F1 F2:Nat->Prop)(b:Nat)(buf:List dp)(ss:List (List dp))(ts:List (List Wd)):Prop where
 j:PJ w F1 F2 b buf ss ts
 Th:∀k,F1 k->w0.heap.size<=k
 Pq:∀k,F2 k->w0.heap.size<=k
 low:lz w0 w
structure St(w w':World)(F1 F2 F1' F2':Nat->Prop):Prop where
 size:w.heap.size<=w'.heap.size
 block:∀k,k<w.heap.size->¬F1 k->¬F2 k->w'.heap[k]?=w.heap[k]?
 f1:∀k,F1' k->F1 k\/w.heap.size<=k
 f2:∀k,F2' k->F2 k\/w.heap.size<=k
def Kept(w:World)(F1 F2:Nat->Prop)(v:Value)(xs:List Wd):Prop:=w.ownsRow 0 9 1 v xs.length (dn xs)/\∀g,v.ownBlock=some g->¬F1 g/\¬F2 g
theorem Kept.step{w:World}{F1 F2 U Y:Nat->Prop}(h:Kept w F1 F2 v xs)(st:St w w' F1 F2 U Y):Kept w' U Y v xs:=by
 have O:∀g,v.ownBlock=some g->g<w.heap.size:=λg B=>(h.1.lt g B).2;refine⟨eD h.1 λg B=>st.block g (O g B) (h.2 g B).1 (h.2 g B).2,λg B=>⟨λhf=>?_,λhf=>?_⟩⟩
 .rcases st.f1 g hf with h1|h1
  .exact(h.2 g B).1 h1
  .have:=O g B; omega
 .rcases st.f2 g hf with h1|h1
  .exact(h.2 g B).2 h1
  .have:=O g B; omega
theorem Kept.new{w0 w:World}{F1 F2:Nat->Prop}{b:Nat}{buf:List dp}{ss:List (List dp)}{ts:List (List Wd)}(h:AW w0 w F1 F2 b buf ss ts)(B:w'.ownsRow w.heap.size 9 1 v xs.length (dn xs)):Kept w' F1 F2 v xs:=
 ⟨j7 B (cZ _),λg U=>⟨λO=>by have:=h.j.RS g O; have:=(B.lt g U).1; omega,λO=>by have:=h.j.RO g O; have:=(B.lt g U).1; omega⟩⟩
theorem St.same{w:World}{F1 F2:Nat->Prop}(h:lz w w'):St w w' F1 F2 F1 F2:=⟨h.size,λk B _ _=>h.block k B,λ_ B=>.inl B,λ_ B=>.inl B⟩
theorem AW.same{w0 w:World}{F1 F2:Nat->Prop}{b:Nat}{buf:List dp}{ss:List (List dp)}{ts:List (List Wd)}(h:AW w0 w F1 F2 b buf ss ts)(B:lz w w'):AW w0 w' F1 F2 b buf ss ts:=⟨h.j.below B.size B.block,h.Th,h.Pq,h.low.trans B⟩
section
variable {w0 w:World} {F1 F2:Nat->Prop} {b:Nat} {buf:List dp} {ss:List (List dp)} {ts:List (List Wd)}
theorem AW.Mb{f:dk}{args:Array Value}{code:Nat}{buf':List dp}{ss':List (List dp)}(h:AW w0 w F1 F2 b buf ss ts)(hc:∀vM vK,sL vM vK w F1 b buf ss->di prog f args w (RE (sL vM vK) w F1 b code buf' ss')) :
  di prog f args w λe w'=>e=.returned (.int .i64 code)/\∃Y,AW w0 w' Y F2 b buf' ss' ts/\St w w' F1 F2 Y F2:=by
 obtain⟨⟨h1,h2,h3,Bb,vS,B,n,vK,kn,h4,h5⟩,k1,k2,k3⟩:=h;refine(hc (.map (some B)) vK ⟨h1,Bb,vS,h4⟩).mono ?_;rintro e w' ⟨rfl,F',hp,hF,O⟩;refine⟨rfl,F',⟨PJ.entries h1 h2 h3 h4 h5 hp hF O,λk U=>?_,k2,?_⟩,⟨O.size,λk U hn _=>O.block k U hn,hF,λ_ U=>.inl U⟩⟩
 .rcases hF k U with hf|hf
  .exact k1 k hf
  .exact cY k3.size hf
 .exact⟨O.os.trans k3.os,cY k3.size O.size,λk U=>(O.block k (da U k3.size) λhf=>absurd (k1 k hf) (by omega)).trans (k3.block k U)⟩
theorem AW.observe(h:AW w0 w F1 F2 b buf ss ts)(s:ByteArray)(hB:gp ts<=16777216)(hs:s.size<=dg) :
  di prog 34 #[.pointer (some ⟨b,0,none⟩),.string s] w λe w'=>e=.returned (.int .i64 (rY ts s.data.toList).1)/\∃Y,AW w0 w' F1 Y b buf ss (rY ts s.data.toList).2/\St w w' F1 F2 F1 Y:=by
 obtain⟨⟨h1,h2,h3,Bb,vS,B,n,vK,kn,h4,h5⟩,k1,k2,k3⟩:=h;refine(Dq w F2 b ts s ⟨h2,B,n,vK,kn,h5⟩ hB hs).mono ?_;rintro e w' ⟨rfl,F',hp,hF,O⟩;refine⟨rfl,F',⟨PJ.words h1 h2 h3 h4 h5 hp hF O,k1,λk U=>?_,?_⟩,⟨O.size,λk U _ hn=>O.block k U hn,λ_ U=>.inl U,hF⟩⟩
 .rcases hF k U with hf|hf
  .exact k2 k hf
  .exact cY k3.size hf
 .exact⟨O.os.trans k3.os,cY k3.size O.size,λk U=>(O.block k (da U k3.size) λhf=>absurd (k2 k hf) (by omega)).trans (k3.block k U)⟩
theorem AW.BJ(h:AW w0 w F1 F2 b buf ss ts)(O:Mc w)(s:ByteArray)(most:Int)(U:gp ts<=16777216)(Y:s.size<=dg) :
  di prog 35 #[.pointer (some ⟨b,0,none⟩),.string s,.int .i64 most] w λe w'=>∃v,e=.returned (.tuple #[v,.int .i64 (uM ts s.data.toList most).2])/\Kept w' F1 F2 v (uM ts s.data.toList most).1/\AW w0 w' F1 F2 b buf ss ts/\lz w w':=by
 obtain⟨⟨h1,h2,h3,Bb,vS,B,n,vK,kn,h4,h5⟩,k1,k2,k3⟩:=id h;refine(E8 w F2 b ts s most O ⟨h2,_,_,B,n,vK,kn,h5⟩ U Y).mono ?_;rintro e w' ⟨v,rfl,ho,hb⟩;exact⟨v,rfl,Kept.new h ho,h.same (.of hb),.of hb⟩
theorem AW.RQ(h:AW w0 w F1 F2 b buf ss ts):∃U O,sL U O w F1 b buf ss:=by
 obtain⟨⟨Y,h2,h3,Bb,vS,B,n,O,kn,h4,h5⟩,k1,k2,k3⟩:=h;exact⟨_,_,Y,Bb,vS,h4⟩
theorem AW.del(h:AW w0 w F1 F2 b buf ss ts)(s:ByteArray)(O:s.size<=dg):di prog 37 #[.pointer (some ⟨b,0,none⟩),.string s] w λe w'=>e=.returned (.int .i64 (kC buf ss s.data.toList).1)/\∃B,AW w0 w' B F2 b (kC buf ss s.data.toList).2 ss ts/\St w w' F1 F2 B F2:=
 h.Mb λvM vK U=>(OW w F1 b buf ss s U O).mono λ_ _ h=>⟨h.1,F1,h.2.1,λ_ Y=>.inl Y,h.2.2⟩
theorem AW.QJ(h:AW w0 w F1 F2 b buf ss ts)(s t:ByteArray)(x y:Int)(O:s.size<=dg)(U:t.size<=dg):di prog 38 #[.pointer (some ⟨b,0,none⟩),.string s,.string t,.int .i64 x,.int .i64 y] w λe w'=>e=.returned (.int .i64 (jl buf ss s.data.toList t.data.toList x y).1)/\∃B,AW w0 w' B F2 b (jl buf ss s.data.toList t.data.toList x y).2 ss ts/\St w w' F1 F2 B F2:=
 h.Mb λvM vK Y=>(Qa w F1 b buf ss s t x y Y O U).mono λ_ _ h=>⟨h.1,F1,h.2.1,λ_ hk=>.inl hk,h.2.2⟩
theorem AW.flush(h:AW w0 w F1 F2 b buf ss ts):di prog 29 #[.pointer (some ⟨b,0,none⟩)] w λe w'=>e=.returned (.int .i64 (eV buf ss).1)/\∃B,AW w0 w' B F2 b (eV buf ss).2.1 (eV buf ss).2.2 ts/\St w w' F1 F2 B F2:=
 h.Mb λU Y O=>R' w F1 b buf ss O
theorem AW.merge(h:AW w0 w F1 F2 b buf ss ts)(n:Int):di prog 39 #[.pointer (some ⟨b,0,none⟩),.int .i64 n] w λe w'=>e=.returned (.int .i64 (eP ss n).1)/\∃B,AW w0 w' B F2 b buf (eP ss n).2 ts/\St w w' F1 F2 B F2:=
 h.Mb λU Y O=>QQ w F1 b buf ss n O
theorem AW.jg(h:AW w0 w F1 F2 b buf ss ts):di prog 30 #[.pointer (some ⟨b,0,none⟩)] w λe w'=>e=.returned (.int .i64 ss.length)/\w=w':=by
 obtain⟨O,U,B⟩:=h.RQ;exact BB w F1 b buf ss B
end
theorem Te(w:World):di prog 31 #[] w λe w'=>∃(b:Nat)(F1 F2:Nat->Prop),e=.returned (.pointer (some ⟨b,0,none⟩))/\AW w w' F1 F2 b [] [] []/\Below w.heap.size w w':=by
 have af:=@e8 prog;go_enter func31,ntmps31;go_wp2_with fail;refine(Mj _).mono ?_;rintro e w1 ⟨B,rfl,aa,hC,O⟩;go_wp2;go_ret;have U:(w.alloc (Obj.map #[] 0)).heap.size=w.heap.size+1:=by simp
 have ab:eh (w.alloc (Obj.map #[] 0)) w.heap.size []:=dL.made w;have ac:eh w1 w.heap.size []:=dL.below ab O;rw[U]at O aa;have ad:=O.size;rw[U]at ad;have hb:Below w.heap.size w w1:=((ez _ _).alloc (cX _) _).trans (O.mono (by omega));have ae:=hC.lt;have Y:=hb.alloc (o:=.cells #[.map (some w.heap.size),.slice none 0 0,.map (some B),.slice none 0 0] 90) (by omega);refine⟨w1.heap.size,λk=>k=w1.heap.size\/k=w.heap.size,λk=>k=w1.heap.size\/k=B,rfl,⟨⟨?_,?_,?_,w.heap.size,.slice none 0 0,B,0,.slice none 0 0,[],?_,?_⟩,?_,?_,.of Y⟩,Y⟩
 .rintro k (rfl|rfl)
  .simp
  .simp; omega
 .rintro k (rfl|rfl)
  .simp
  .simp; omega
 .rintro k (h|h) (h'|h')<;>omega
 .exact⟨nz _ _,Or.inl rfl,Or.inr rfl,dL.stay ac (e6 _ _ _ (by omega)),fd _ _ _ _,λk hk=>by simp[gc]at hk,JA⟩
 .refine⟨nz _ _,Or.inl rfl,Or.inr rfl,?_,by simp[gp],fd _ _ _ _,λk hk=>by simp[gc]at hk,by simp[eK],λt ht=>by simp at ht,by simp⟩;refine(hC.stay (e6 _ _ _ ae)).mono (cX _) (λws _=>by rw[O9])
 .rintro k (rfl|rfl)<;>omega
 .rintro k (rfl|rfl)<;>omega
theorem Bu{w:World}{F1 F2:Nat->Prop}(h:Kept w F1 F2 v xs):∃a c,v=.slice a xs.length c/\xs.length<=c/\c<=dg/\∀i(hi:i<xs.length),∃g,a=some ⟨g,0,none⟩/\w.cell? ⟨g,i,none⟩=some (.string ⟨xs[i].toArray⟩):=by
 rcases h.1.2 with⟨rfl,O⟩|⟨g,cap,cur,rfl,_,U,Y,h2,h3,h4⟩
 .refine⟨none,0,by rw[O],by omega,cZ _,λi hi=>?_⟩;omega
 .refine⟨some ⟨g,0,none⟩,cap,rfl,Y,h2,λi hi=>⟨g,rfl,?_⟩⟩;rw[dh U];have B:=gL xs i hi;rw[<-h4,bX,if_pos (by omega)]at B;simpa using B
theorem M1{w:World}{F1 F2:Nat->Prop}(x y:Wd)(h:Kept w F1 F2 v [x,y]):di prog 27 #[v,.string ⟨x.toArray⟩,.string ⟨y.toArray⟩,.int .i64 2] w λe w'=>e=.returned (.bool true)/\w=w':=by
 obtain⟨a,c,rfl,O,U,B⟩:=Bu h;obtain⟨g,rfl,d0⟩:=B 0 (by simp);obtain⟨g',e',d1⟩:=B 1 (by simp);simp only[fs,Addr.mk.injEq,and_true]at e';subst e';simp only[ce,cH,c6,List.getElem_cons_succ]at d0 d1 O⊢;go_enter func27,ntmps27;go_wp2;go_ret;exact⟨rfl,rfl⟩
theorem SB{w:World}{F1 F2:Nat->Prop}(x:Wd)(y:ByteArray)(h:Kept w F1 F2 v [x]):di prog 27 #[v,.string ⟨x.toArray⟩,.string y,.int .i64 1] w λe w'=>e=.returned (.bool true)/\w=w':=by
 obtain⟨a,c,rfl,O,U,B⟩:=Bu h;obtain⟨g,rfl,d0⟩:=B 0 (by simp);simp only[ce,cH,c6]at d0 O⊢;go_enter func27,ntmps27;go_wp2;go_ret;exact⟨rfl,rfl⟩
end
section
open Go.Conc Go.RowKit Go.Maps
def xA(c:Code):Code:=match c with
 |.seq _ (.seq _ (.seq (.seq _ (.block _ (.loop x))) _))=>x
 |_=>.skip
theorem Ob:f79.name≠ "runtime.NumGoroutine":=by
 have:f79.name = "hint/search.askSegment":=by kernel_rfl
 rw[this];decide
section
variable {Z:j8 prog} {w:World} {T:List Frame} {dd q K:Nat} {wl:World} {V:Vs}
theorem KQ{A:Ask}{S:ByteArray}{ps qs:List (Nat×dp)}{cl:Nat->Option Nat}{sb so n sc bx b s k:Nat}{a2 a3 a4 a6 a8 a9 ao aI aJ aK aL aM aN aO aP aQ aR aS ap aq ar au av aw ax ay az a0 a5 a7 a' aA aB aC:Value}{td:List Item}(hT:∀ps,T=[ps]->ps.mode≠.panicking [dr])
  (hs:s=wl.heap.size) (hA:A.Ok) (hK:K<=s+5) (h5:5<=s) (Y:dd<s) (O:∀(r:Nat)a c,wl.heap[r]?≠some (.map a c)) (hn:n<=6) (hk:k<n) (hV:∀x∈V,x.1<s)
  (aa:wl.heap[bx]?=some (.cells #[.int .i64 A.m,.string A.q,.int .i64 A.t] 94 (0,0))) (hb:wl.heap[b]?=some (.cells (ml cl) 125 (0,0)))
  (ad:wl.cell? ⟨sb,so+k,none⟩=some (.string S)) (ab:S.size<=1099511627775) (hX:jd S.size S.data.toList=some (ps,qs))
  (fin:∀(w2:World)(c8 c9 aT aU aV aW aX aY aZ ba bc bd be:Value),w2.heap.size=s+5->(∀r,r<s->r≠b->w2.heap[r]?=wl.heap[r]?)->w2.heap[b]?=some (.cells (ml (l9 cl k (s+3))) 125 (0,0))->(∀(r:Nat)a c,w2.heap[r]?≠some (.map a c))->w2.os=wl.os->
    dl (nQ prog Z w T dd q (s+5) false) [⟨49,#[.slice (some ⟨sb,so,none⟩) n sc,.map (some dd),a2,a3,a4,.pointer (some ⟨bx,0,none⟩),a6,.pointer (some ⟨b,0,none⟩),c8,c9,ao,.slice (some ⟨sb,so,none⟩) n sc,.int .i64 (n:Int),.int .i64 ((k+1:Nat):Int),aT,aU,aV,aW,aX,aY,aZ,ba,bc,bd,be,ap,aq,ar,au,av,aw,ax,ay,az,a0,a5,a7,a',aA,aB,aC],.code (xA (dX Tryz.f49))::.inLoop (xA (dX Tryz.f49))::td⟩] w2 ((s+3,some ((ps++qs).map (kU A k)))::V)) :
  dl (nQ prog Z w T dd q K false) [⟨49,#[.slice (some ⟨sb,so,none⟩) n sc,.map (some dd),a2,a3,a4,.pointer (some ⟨bx,0,none⟩),a6,.pointer (some ⟨b,0,none⟩),a8,a9,ao,.slice (some ⟨sb,so,none⟩) n sc,.int .i64 (n:Int),.int .i64 (k:Int),aI,aJ,aK,aL,aM,aN,aO,aP,aQ,aR,aS,ap,aq,ar,au,av,aw,ax,ay,az,a0,a5,a7,a',aA,aB,aC],.code (xA (dX Tryz.f49))::.inLoop (xA (dX Tryz.f49))::td⟩] wl V:=by
 have HA:e7 _:=And.intro hs (And.intro hA (And.intro hK (And.intro h5 (And.intro Y (And.intro O (And.intro hV (And.intro aa (And.intro hb (And.intro ad (And.intro ab (And.intro hX (And.intro fin hT))))))))))));clear hs hA hK h5 Y O hV aa hb ad ab hX fin hT;obtain⟨B,hB⟩:∃B,B=Item.inLoop (xA (dX Tryz.f49)):=⟨_,rfl⟩;rw[<-hB];have HB:e7 _:=hB;clear hB;show dl _ [⟨_,_,.code (.seq (.region 3 _ false) (.seq (.cond _ .skip (.exit 0)) (.seq (.block 1 (.seq (.region 4 _ false) (.region 5 _ false))) (.region 6 _ false))))::_⟩] _ _;refine dl.sr λkk HK=>?_;have bg:(k:Int)<(n:Int):=by omega
 (refine eS ?_; go_simp);refine dl.ie HK ?_;clear HK kk;refine dl.seq (dl.Au trivial rfl (dl.skip ?_));refine dl.seq (dl.block (dl.sr λkk HK=>?_))
 (refine eS ?_; go_simp)
 (refine eS ?_; go_simp);refine lH rfl (by rfl) (by kernel_rfl) λy0 ak ah=>?_
 have e0:y0.cell? ⟨sb,so+k,none⟩=some (.string S):=by
  have:=HA.out.2.2.2.2.2.2.2.2.2.1;unfold eC at this⊢;rw[ak];exact this
 have HY:e7 (y0.heap=wl.heap/\y0.os=wl.os):=⟨ak,ah⟩;clear ak ah;unfold gm;go_simp;simp only[io];clear e0
 (refine eS ?_; go_simp)
 (refine eS ?_; go_simp);refine dl.ie HK ?_;clear HK kk;refine kq λkk HK=>?_;refine dl.region ?_
 (refine eS ?_; go_simp)
 (refine eS ?_; go_simp)
 (refine eS ?_; go_simp);refine lH rfl (by rfl) (by kernel_rfl) λy1 aD ai=>?_;have ae:y1.heap=wl.heap:=aD.trans HY.out.1;have e0:y1.cell? ⟨bx,0,none⟩=some (.int .i64 A.m):=by rw[dh (by rw[ae]; exact HA.out.2.2.2.2.2.2.2.1)]; rfl
 have e1:y1.cell? ⟨bx,1,none⟩=some (.string A.q):=by rw[dh (by rw[ae]; exact HA.out.2.2.2.2.2.2.2.1)]; rfl
 have e2:y1.cell? ⟨bx,2,none⟩=some (.int .i64 A.t):=by rw[dh (by rw[ae]; exact HA.out.2.2.2.2.2.2.2.1)]; rfl
 have al:e7 (y1.heap=wl.heap/\y1.os=wl.os):=⟨ae,ai.trans HY.out.2⟩;clear aD ai ae;unfold gm;go_simp;simp only[io];obtain⟨hs,hA,hK,h5,Y,O,hV,aa,hb,ad,ab,hX,fin,hT⟩:=HA.out;rw[<-al.out.1]at hs O aa hb;clear e0 e1 e2;refine dl.qH #[.int .i64 (k:Int),.string S,.agg #[.int .i64 A.m,.string A.q,.int .i64 A.t],gB,gB,gB,gB,gB,gB,gB,gB] (i:=4) (gH:=f79) (c:=dX f79) rfl rfl func79 (by kernel_rfl) Ob rfl (by simp[dN]) (by kernel_rfl) ?_;refine wQ k A (S:=S) (ps:=ps) (qs:=qs) s hs rfl hA hK h5 Y O ab hX hV λw2 z2 o2 U p2=>?_;have af:b<s:=by rw[hs]; exact(cK.1 hb).1
 have am:w2.heap[b]?=some (.cells (ml cl) 125 (0,0)):=(o2 b af).trans hb;have bf:k<7:=by omega
 have aE:∀r,r<s->w2.heap[r]?=wl.heap[r]?:=λr hr=>(o2 r hr).trans (by rw[al.out.1]);have aF:w2.os=wl.os:=p2.trans al.out.2;have H2:e7 _:=And.intro z2 (And.intro aE (And.intro aF (And.intro am (And.intro af U))));clear hs hA hK h5 Y O hV aa hb ad ab hX fin hT z2 o2 U p2 am af aE aF;rw[fA];go_simp;have aG:(k:Int)<7:=by omega
 (refine eS ?_; go_simp);clear aG;refine lH rfl (by rfl) (by kernel_rfl) λy2 an aj=>?_;have gb:y2.heap[b]?=some (.cells (ml cl) 125 (0,0)):=by rw[an]; exact H2.out.2.2.2.1
 have e0:y2.cell? ⟨b,k,none⟩=some (.chan (cl k)):=by
  rw[dh gb];rcases(by omega:k=0\/k=1\/k=2\/k=3\/k=4\/k=5\/k=6)with rfl|rfl|rfl|rfl|rfl|rfl|rfl<;>rfl
 have f0:y2.frozen? ⟨b,k,none⟩=false:=dJ gb k;have ag:e7 (y2.heap=w2.heap/\y2.os=w2.os):=⟨an,aj⟩;have HG:e7 _:=gb;clear an aj gb;unfold gm;go_simp;simp only[io];clear e0 f0;obtain⟨w3,ac⟩:∃w3,w3=y2.setCell ⟨b,k,none⟩ (.chan (some (s+3))):=⟨_,rfl⟩;have g3:w3.heap[b]?=some (.cells (ml (l9 cl k (s+3))) 125 (0,0)):=by rw[ac,heap_set HG.out k (.chan (some (s+3))),<-Jk bf]; simp only[cQ]
 have o3:∀r,r≠b->w3.heap[r]?=w2.heap[r]?:=λr hr=>by rw[ac,ew _ _ _ _ hr,ag.out.1]
 have z3:w3.heap.size=s+5:=by rw[ac,sP,ag.out.1]; exact H2.out.1
 have p3:w3.os=w2.os:=by rw[ac,pQ]; exact ag.out.2
 rw[<-ac];clear ac HG ag y2;have H3:e7 _:=And.intro g3 (And.intro o3 (And.intro z3 p3));clear g3 o3 z3 p3;refine dl.ie HK ?_;clear HK kk;refine dl.inBlock ?_;refine kq λkk HK=>?_;refine dl.region ?_
 (refine eS ?_; go_simp);have aH:IntKind.i64.wrap ((k:Int)+1)=((k+1:Nat):Int):=by simp only[gx]; omega
 rw[aH];clear aH
 (refine eS ?_; go_simp);refine dl.inRegion ?_;rw[HK.out,HB.out];refine dl.inLoop ?_;obtain⟨hs,hA,hK,h5,Y,O,hV,aa,hb,ad,ab,hX,fin,hT⟩:=HA.out;obtain⟨g3,o3,z3,p3⟩:=H3.out;obtain⟨z2,o2,p2,am,af,U⟩:=H2.out;have ek:(k:Int)+1=((k+1:Nat):Int):=by omega
 rw[ek,<-bR];refine fin w3 _ _ _ _ _ _ _ _ _ _ _ _ _ z3 (λr hr hn=>(o3 r hn).trans (o2 r hr)) g3 (λr a c h=>?_) (p3.trans p2);by_cases hr:r=b
 .rw[hr,g3]at h; cases h
 .rw[o3 r hr]at h; exact U r a c h
end
end
section
def jm(A:Ask)(P:Nat->List (Nat×dp)):Nat->List kE
 |0=>[]
 |k+1=>(P k).map (nG A k)++jm A P k
def allM(A:Ask)(P:Nat->List (Nat×dp))(es:List dp)(n:Nat):List kE:=(fN es).map (nG A n)++jm A P n
section
variable {A:Ask} {P Q:Nat->List (Nat×dp)}
def j0(ps:List (Nat×dp)):List Wd:=ps.map λp=>p.2.name
theorem xV:∀n,(∀j,j<n->P j=Q j)->jm A P n=jm A Q n
 |0,_=>rfl
 |n+1,h=>by simp only[jm]; rw[h n (by omega),xV n λj B=>h j (by omega)]
theorem sR:∀n,∀m∈jm A P n,m.wA<n
 |0,m,h=>by simp[jm]at h
 |n+1,m,h=>by
  rcases bP.1 h with h|h
  .obtain⟨p,_,rfl⟩:=bK.1 h
   rw[(ij n p).1]; omega
  .have:=sR n m h; omega
theorem zV(l r:List kE)(x:Wd):eM (l++r) x=max (eM l x) (eM r x):=by
 induction l with
 |nil=>simp[eM]
 |cons a l B=>
  simp only[List.cons_append,eM,B];split<;>omega
theorem Dc(n:Nat)(ps:List (Nat×dp))(x:Wd):eM (ps.map (nG A n)) x=if x∈j0 ps then n else 0:=by
 induction ps with
 |nil=>simp[eM,j0]
 |cons p ps O=>
  have e:j0 (p::ps)=p.2.name::j0 ps:=rfl;rw[e,ct];simp only[eM,(ij n p).1,(ij n p).2.2.1,O];by_cases h:p.2.name=x
  .by_cases B:x∈j0 ps<;>simp[h,B]
  .have U:¬x=p.2.name:=λe=>h e.symm;by_cases B:x∈j0 ps<;>simp[h,B,U]
theorem vV(n:Nat)(x:Wd):eM (jm A P (n+1)) x=if x∈j0 (P n)then n else eM (jm A P n) x:=by
 show eM (_++_) x=_;rw[zV,Dc];split
 .have:eM (jm A P n) x<=n:=uc _ _ λm hm=>by have:=sR n m hm; omega
  omega
 .omega
theorem EM:∀n,∀m∈jm A P n,m.wanted=true->m.Mb.name=m.name
 |0,m,h=>by simp[jm]at h
 |n+1,m,h=>by
  intro B
  rcases bP.1 h with h|h
  .obtain⟨p,_,rfl⟩:=bK.1 h
   rw[(ij n p).2.2.2]at B;rw[DW B,(ij n p).2.2.1]
  .exact EM n m h B
def FN(P:Nat->List (Nat×dp)):Nat->List dp
 |0=>[]
 |n+1=>sn (P n)++(FN P n).filter λe=>!decide (e.name∈j0 (P n))
theorem y9:∀n,dU (jm A P n) (jm A P n)=(FN P n).filter A.has
 |0=>rfl
 |n+1=>by
  have ih:=y9 n
  show dU (jm A P (n+1)) ((P n).map (nG A n)++jm A P n)=(sn (P n)++_).filter A.has;unfold dU;rw[cC,bR,cC];congr 1
  .rw[cw,bM]
   have e:(P n).filter ((λm:kE=>m.wanted&&m.wA==eM (jm A P (n+1)) m.name) ∘ nG A n)=(P n).filter (A.has ∘ gv):=by
    apply ca;intro p B;have U:p.2.name∈j0 (P n):=bK.2 ⟨p,B,rfl⟩;simp only[Function.comp_apply,(ij n p).1,(ij n p).2.2.1,(ij n p).2.2.2,vV,if_pos U,beq_self_eq_true,Bool.and_true]
   rw[e];show _=((P n).map gv).filter A.has;rw[cw];apply bV;intro p B;exact DW (bL.1 B).2
  .have e:(jm A P n).filter (λm:kE=>m.wanted&&m.wA==eM (jm A P (n+1)) m.name)=((jm A P n).filter λm:kE=>m.wanted&&m.wA==eM (jm A P n) m.name).filter λm=>!decide (m.Mb.name∈j0 (P n)):=by
    rw[bY];apply ca;intro m hm;have hs:=sR n m hm;rw[vV]
    cases Y:m.wanted with
    |false=>simp
    |true=>
     rw[EM n m hm Y];by_cases O:m.name∈j0 (P n)
     .have:(m.wA==n)=false:=by simp; omega
      simp[O,this]
     .simp[O]
   rw[e];have f:=cw (f:=kE.Mb) (p:=λe:dp=>!decide (e.name∈j0 (P n))) (l:=(jm A P n).filter λm:kE=>m.wanted&&m.wA==eM (jm A P n) m.name);unfold dU at ih;rw[ih]at f;refine f.symm.trans ?_;rw[bY,bY];congr 1;funext x;exact Bool.and_comm _ _
theorem Hl(b:List dp)(e:dp):jf b e = !decide (e.name∈b.map dp.name):=by
 unfold jf nR;rw[Bool.eq_iff_iff];simp[List.findIdx?_eq_none_iff]
theorem FG{ss:List (List dp)}(B:∀j(h:j<ss.length),(sn (P j)).Perm ss[j]):∀n,n<=ss.length->(FN P n).Perm (fV (ss.take n))
 |0,_=>by simp[FN,fV]
 |n+1,h=>by
  have U:=FG B n (by omega)
  have O:=B n (by omega);rw[cu (show n<ss.length by omega),fg];show(sn (P n)++_).Perm (_++_);refine(g5 O ?_).trans List.perm_append_comm
  have e:(λe:dp=>!decide (e.name∈j0 (P n)))=jf ss[n]:=by
   funext e;rw[Hl]
   have Y:e.name∈j0 (P n)↔e.name∈ss[n].map dp.name:=by
    have:=(O.map dp.name).mem_iff (a:=e.name);rw[bM]at this;exact this
   rw[decide_eq_decide.2 Y]
  rw[e];exact U.filter _
theorem zz(O:∀j,(j0 (P j)).Nodup):∀n,((FN P n).map dp.name).Nodup
 |0=>List.Pairwise.nil
 |n+1=>by
  show((sn (P n)++_).map dp.name).Nodup
  rw[bR,cD]
  refine⟨by rw[bM]; exact O n,(zz O n).sublist ((cr).map _),?_⟩
  rintro x U y Y rfl
  obtain⟨e,he,rfl⟩:=bK.1 Y
  have B:e.name ∉ j0 (P n):=by simpa using(bL.1 he).2
  rw[bM]at U;exact B U
end
end
section
open Go.Conc Go.RowKit Go.Maps
section
variable {Z:j8 prog} {w:World} {T:List Frame} {dd q:Nat}
theorem Mw{A:Ask}{es:List dp}{ex:Obj}{Ss:Nat->ByteArray}{P:Nat->List (Nat×dp)}{sa:Option Addr}{n sc bx b:Nat}{ms:List kE}(hT:∀ps,T=[ps]->ps.mode≠.panicking [dr])
  (hA:A.Ok) (aL:5<=q) (hq:q<w.heap.size) (aM:w.heap[q]?=some ex) (hM:qX ex es) (hl:es.length<=100000) (aN:∀e∈es,e.name.length<=dg/\e.text.length<=1048576/\(e.gone=false->0<=e.dB/\e.dB<=255)) (hn:n<=6)
  (hS:∀j,j<n->(Ss j).size<=1099511627775/\∃ps qs,jd (Ss j).size (Ss j).data.toList=some (ps,qs)/\P j=ps++qs) (ae:∀a,sa=some a->a.block≠b) (aO:bx≠b)
  (aP:ms=(fN es).map (nG A n)++jm A P n) (aQ:Fj ms)
  (fin:∀(E₂:Env prog)aG af aH,E₂.Z=Z->E₂.T=T->E₂.w0=w->(af=[]\/∃k2,af=.code .ret::k2)->B8 prog E₂ Tryz.f49 aG aH (Bn ms) (AA ms)->dl E₂ [⟨49,aG,af⟩] aH []) :
  ∀(d k K s:Nat)(wl:World)(V:Vs)(cl:Nat->Option Nat)(a2 a3 a4 a6 a8 a9 ag ah ai aj ak al am an ao ap aq ar au av aw ax ay az a0 a5 a7 a' aA aB aC aD aE aF:Value),n=k+d->s=wl.heap.size->K<=s->5<=s->dd<s->(∀(r:Nat)a c,wl.heap[r]?≠some (.map a c))->(∀x∈V,x.1<s)->
   wl.heap[bx]?=some (.cells #[.int .i64 A.m,.string A.q,.int .i64 A.t] 94 (0,0))->wl.heap[b]?=some (.cells (ml cl) 125 (0,0))->(∀a,sa=some a->a.block<s)->(∀j,j<n->∃sb so,sa=some ⟨sb,so,none⟩/\wl.cell? ⟨sb,so+j,none⟩=some (.string (Ss j)))->
   (∀j,k<=j->cl j=none)->(∀j r,j<7->cl j=some r->∃vs,(r,some vs)∈V)->(∀x∈V,∃j vs,j<7/\cl j=some x.1/\x.2=some vs)->(∀j j' r,j<7->j'<7->cl j=some r->cl j'=some r->j=j')->(V.map gt).Nodup->V.length=k->rF V=(jm A P k).map kE.val->
   dl (nQ prog Z w T dd q K false) [⟨49,#[.slice sa n sc,.map (some dd),a2,a3,a4,.pointer (some ⟨bx,0,none⟩),a6,.pointer (some ⟨b,0,none⟩),a8,a9,ag,.slice sa n sc,.int .i64 (n:Int),.int .i64 (k:Int),ah,ai,aj,ak,al,am,an,ao,ap,aq,ar,au,av,aw,ax,ay,az,a0,a5,a7,a',aA,aB,aC,aD,aE,aF],.code (xA (dX Tryz.f49))::.inLoop (xA (dX Tryz.f49))::.inBlock 0::[.code (JG (dX Tryz.f49))]⟩] wl V:=by
 intro d
 induction d with
 |zero=>
  intro k K s wl V cl a2 a3 a4 a6 a8 a9 ag ah ai aj ak al am an ao ap aq ar au av aw ax ay az a0 a5 a7 a' aA aB aC aD aE aF aI hs hK h5 U Y hV B hb ac ad O jv ft rA fE aa ab;obtain rfl:n=k:=aI;have HC:e7 _:=And.intro hs (And.intro hK (And.intro h5 (And.intro U (And.intro Y (And.intro hV (And.intro B (And.intro hb (And.intro O (And.intro jv (And.intro ft (And.intro rA (And.intro fE (And.intro aa ab)))))))))))));clear hs hK h5 U Y hV B hb ac ad O jv ft rA fE aa ab;show dl _ [⟨_,_,.code (.seq (.region 3 _ false) (.seq (.cond _ .skip (.exit 0)) _))::_⟩] _ _;refine dl.sr λkk HK=>?_
  (refine eS ?_; go_simp);refine dl.ie HK ?_;clear HK kk;refine dl.seq (dl.nL trivial (by first|rfl|simp[iI]) ?_);refine dl.exit (k':=[.code (JG (dX Tryz.f49))]) rfl ?_;obtain⟨hs,hK,h5,U,Y,hV,B,hb,O,jv,ft,rA,fE,aa,ab⟩:=HC.out;exact Cf (s:=s) (ms0:=jm A P n) (ms:=ms) hT hs hA (by omega) h5 U aL hq aM hM Y hl aN hn hV B hb O jv ft rA fE aa ab aP aQ fin
 |succ d ih=>
  intro k K s wl V cl a2 a3 a4 a6 a8 a9 ag ah ai aj ak al am an ao ap aq ar au av aw ax ay az a0 a5 a7 a' aA aB aC aD aE aF aI hs hK h5 U Y hV B hb ac ad O jv ft rA fE aa ab;obtain⟨hz,ps,qs,hX,hP⟩:=hS k (by omega);obtain⟨sb,so,rfl,aR⟩:=ad k (by omega);have ac:sb<s:=ac _ rfl;have ae:sb≠b:=ae _ rfl;refine KQ hT hs hA (by omega) h5 U Y hn (by omega) hV B hb aR hz hX λw2 c8 c9 aV aW aX aY aZ ba bc bd be bf bg z2 o2 g2 aJ p2=>?_;have aS:bx<s:=by rw[hs]; exact(cK.1 B).1
  refine ih (k+1) (s+5) (s+5) w2 _ (l9 cl k (s+3)) _ _ _ _ _ _ _ _ _ _ _ _ _ _ _ _ _ _ _ _ _ _ _ _ _ _ _ _ _ _ _ _ _ _ (by omega) z2.symm (cX _) (by omega) (by omega) aJ (λx hx=>?_) ((o2 bx aS aO).trans B) g2 (λa e=>by cases e; show sb<s+5; omega) (λj hj=>?_) (λj hj=>?_) (λj r hj hr=>?_) (λx hx=>?_) (λj j' r hj aK hr hr'=>?_) ?_ (by simp[aa]) ?_
  .rcases cc.1 hx with rfl|hx
   .show s+3<s+5; omega
   .have:=hV x hx; omega
  .obtain⟨aT,aU,e,this⟩:=ad j hj;refine⟨aT,aU,e,?_⟩;cases e;unfold eC at this⊢;rw[o2 sb ac ae];exact this
  .unfold l9;rw[if_neg (by omega)];exact O j (by omega)
  .unfold l9 at hr;split at hr
   .cases hr; exact⟨_,bW⟩
   .obtain⟨vs,h⟩:=jv j r hj hr; exact⟨vs,cB _ h⟩
  .rcases cc.1 hx with rfl|hx
   .exact⟨k,_,by omega,by simp[l9],rfl⟩
   .obtain⟨j,vs,h1,h2,h3⟩:=ft x hx;refine⟨j,vs,h1,?_,h3⟩;unfold l9;rw[if_neg (λe=>by rw[e,O k (cX _)]at h2; cases h2)];exact h2
  .unfold l9 at hr hr'
   have hold:∀i r,i<7->cl i=some r->r≠s+3:=λi r hi h e=>by
    obtain⟨vs,h⟩:=jv i r hi h;have:=hV _ h;simp only at this;omega
   split at hr<;>split at hr'
   .omega
   .cases hr; exact absurd rfl (hold j' _ aK hr')
   .cases hr'; exact absurd rfl (hold j _ hj hr)
   .exact rA j j' r hj aK hr hr'
  .rw[ct,cG];refine⟨λh=>?_,fE⟩;obtain⟨x,hx,e⟩:=bK.1 h;have:=hV x hx;simp only at e;omega
  .show(ps++qs).map (kU A k)++rF V=((P k).map (nG A k)++jm A P k).map kE.val;rw[ab,bR (l₁:=(P k).map (nG A k)),bM,hP];congr 1;exact bV λp _=>(Ey A k p).symm
end
end
section
open Go.Conc Go.RowKit Go.Maps
section
variable {Z:j8 prog} {w:World} {T:List Frame} {dd q K:Nat} {wl:World}
theorem Og{A:Ask}{es:List dp}{ex:Obj}{Ss:Nat->ByteArray}{P:Nat->List (Nat×dp)}{sa:Option Addr}{n sc s:Nat}{ms:List kE}(hT:∀ps,T=[ps]->ps.mode≠.panicking [dr])
  (hs:s=wl.heap.size) (hA:A.Ok) (hK:K<=s) (h5:5<=s) (aj:dd<s) (ac:5<=q) (hq:q<w.heap.size) (ad:w.heap[q]?=some ex) (hM:qX ex es) (ae:∀(r:Nat)a c,wl.heap[r]?≠some (.map a c))
  (hl:es.length<=100000) (af:∀e∈es,e.name.length<=dg/\e.text.length<=1048576/\(e.gone=false->0<=e.dB/\e.dB<=255))
  (hn:n<=6) (hS:∀j,j<n->(Ss j).size<=1099511627775/\∃ps qs,jd (Ss j).size (Ss j).data.toList=some (ps,qs)/\P j=ps++qs) (U:∀a,sa=some a->a.block<s) (ag:∀j,j<n->∃sb so,sa=some ⟨sb,so,none⟩/\wl.cell? ⟨sb,so+j,none⟩=some (.string (Ss j)))
  (ah:ms=(fN es).map (nG A n)++jm A P n) (ai:Fj ms)
  (fin:∀(E₂:Env prog)al ak am,E₂.Z=Z->E₂.T=T->E₂.w0=w->(ak=[]\/∃k2,ak=.code .ret::k2)->B8 prog E₂ Tryz.f49 al am (Bn ms) (AA ms)->dl E₂ [⟨49,al,ak⟩] am []) :
  dl (nQ prog Z w T dd q K false) [⟨49,#[.slice sa n sc,.map (some dd),.agg #[.int .i64 A.m,.string A.q,.int .i64 A.t],gB,gB,gB,gB,gB,gB,gB,gB,gB,gB,gB,gB,gB,gB,gB,gB,gB,gB,gB,gB,gB,gB,gB,gB,gB,gB,gB,gB,gB,gB,gB,gB,gB,gB,gB,gB,gB,gB],[.code (dX Tryz.f49)]⟩] wl []:=by
 have HN:e7 _:=And.intro hn (And.intro hS (And.intro U ag));clear hn hS U ag;have HC:e7 _:=And.intro hs (And.intro hA (And.intro hK (And.intro h5 (And.intro aj (And.intro ac (And.intro hq (And.intro ad (And.intro hM (And.intro ae (And.intro hl (And.intro af (And.intro ah (And.intro ai (And.intro fin hT))))))))))))));clear hs hA hK h5 aj ac hq ad hM ae hl af ah ai fin hT;show dl _ [⟨_,_,[.code (.seq (.region 0 _ false) (.seq (.region 1 _ false) (.seq (.seq (.region 2 _ false) (.block 0 (.loop (.seq (.region 3 _ false) (.seq (.cond _ .skip (.exit 0)) _))))) (JG (dX Tryz.f49)))))]⟩] _ _;refine dl.sc λkk HK=>?_;refine iH (by kernel_rfl) (by rw[HK.out]; rfl) (.inr HC.out.2.2.2.2.2.2.2.2.2.2.2.2.2.2.2) λy0 aa O=>?_;have HY:e7 (y0.heap=wl.heap/\y0.os=wl.os):=⟨aa,O⟩;clear aa O;go_wp2;refine e9 ?_;rw[HK.out];clear HK kk;obtain⟨w3,Y⟩:∃w3,w3=y0.alloc (.cells #[.int .i64 A.m,.string A.q,.int .i64 A.t] 94):=⟨_,rfl⟩;have B:y0.heap.size=s:=by rw[HY.out.1]; exact HC.out.1.symm
 have z3:w3.heap.size=s+1:=by rw[Y]; simp[B]
 have o3:∀r,r<s->w3.heap[r]?=wl.heap[r]?:=λr hr=>by rw[Y,fU _ _ (by rw[B]; omega),HY.out.1]
 have g3:w3.heap[s]?=some (.cells #[.int .i64 A.m,.string A.q,.int .i64 A.t] 94 (0,0)):=by rw[Y,iu _ _ B.symm]
 have p3:w3.os=wl.os:=by rw[Y]; exact HY.out.2
 rw[<-Y,B];clear Y HY B y0;have H3:e7 _:=And.intro z3 (And.intro o3 (And.intro g3 p3));clear z3 o3 g3 p3;refine dl.sc λkk HK=>?_;refine iH (by kernel_rfl) (by rw[HK.out]; rfl) (.inr HC.out.2.2.2.2.2.2.2.2.2.2.2.2.2.2.2) λy0 aa O=>?_;have HY:e7 (y0.heap=w3.heap/\y0.os=w3.os):=⟨aa,O⟩;clear aa O;go_wp2;refine e9 ?_;rw[HK.out];clear HK kk;obtain⟨w4,ab⟩:∃w4,w4=y0.alloc (.cells (ml λ_=>none) 125):=⟨_,rfl⟩;have B:y0.heap.size=s+1:=by rw[HY.out.1]; exact H3.out.1
 have z4:w4.heap.size=s+2:=by rw[ab]; simp[B]
 have o4:∀r,r<s+1->w4.heap[r]?=w3.heap[r]?:=λr hr=>by rw[ab,fU _ _ (by rw[B]; omega),HY.out.1]
 have g4:w4.heap[s+1]?=some (.cells (ml λ_=>none) 125 (0,0)):=by rw[ab,iu _ _ B.symm]
 rw[show y0.alloc (.cells #[.chan none,.chan none,.chan none,.chan none,.chan none,.chan none,.chan none] 125)=w4 from ab.symm,B];clear ab HY B y0;have H4:e7 _:=And.intro z4 (And.intro o4 g4);clear z4 o4 g4;refine dl.seq ?_;refine dl.sr λkk HK=>?_
 (refine eS ?_; go_simp)
 (refine eS ?_; go_simp)
 (refine eS ?_; go_simp);refine dl.ie HK ?_;clear HK kk;refine dl.block (dl.loop ?_);obtain⟨hs,hA,hK,h5,aj,ac,hq,ad,hM,ae,hl,af,ah,ai,fin,hT⟩:=HC.out;obtain⟨z3,o3,g3,p3⟩:=H3.out;obtain⟨z4,o4,g4⟩:=H4.out;obtain⟨hn,hS,U,ag⟩:=HN.out;refine Mw (b:=s+1) (bx:=s) (Ss:=Ss) (P:=P) hT hA ac hq ad hM hl af hn hS (λa e=>by have:=U a e; omega) (by omega) ah ai fin n 0 K (s+2) w4 [] (λ_=>none) _ _ _ _ _ _ _ _ _ _ _ _ _ _ _ _ _ _ _ _ _ _ _ _ _ _ _ _ _ _ _ _ _ _ (by omega) z4.symm (by omega) (by omega) (by omega) (λr a c=>?_) (λx hx=>by cases hx) ((o4 s (by omega)).trans g3) g4 (λa e=>by have:=U a e; omega) (λj hj=>?_) (λ_ _=>rfl) (λ_ _ _ h=>by cases h) (λx hx=>by cases hx) (λ_ _ _ _ _ h=>by cases h) List.nodup_nil rfl rfl
 .by_cases h1:r<s
  .rw[o4 r (by omega),o3 r h1]; exact ae r a c
  .by_cases h2:r=s
   .rw[h2,o4 s (by omega),g3]; simp
   .by_cases h3:r=s+1
    .rw[h3,g4]; simp
    .rw[cR (by omega)]; simp
 .obtain⟨sb,so,e,this⟩:=ag j hj;have an:sb<s:=U _ e;refine⟨sb,so,e,?_⟩;unfold eC at this⊢;rw[o4 sb (by omega),o3 sb an];exact this
end
end
section
open Go.Conc Go.RowKit Go.Maps
section
variable {E:Env prog} {fn:dk} {tm:Array Value} {os:List OF} {wl:World} {k:List Item}
theorem dl.PP{ops:Array Oper}{i:Nat}{rest:List Nat}{o:Oper}{xs:Array Operand}{ts:Array dj}{A:Ask}{es:List dp}{Ss:Nat->ByteArray}{P:Nat->List (Nat×dp)}{ms:List kE}{sa:Option Addr}{n sc lb:Nat}(ab:∀b,b<E.w0.heap.size->E.fx b\/E.w0.heap[b]?=some oF)(aG:E.st=true)(hi:ops[i]?=some o)(ar:fm o (dt ops tm)=true)(ho:o.op=.call {callee:=.value (.func 49),args:=xs,argTypes:=ts})(au:∀x∈xs.toList,dN E.fq E.gl x)
  (av:xs.size=3) (ac:xs.map (iI tm)=#[.slice sa n sc,.map (some lb),.agg #[.int .i64 A.m,.string A.q,.int .i64 A.t]]) (hA:A.Ok) (hs:eh wl lb es) (aH:5<=lb) (aw:(sa=none/\n=0)\/∃sb O c e f,sa=some ⟨sb,O,none⟩/\5<=sb/\wl.heap[sb]?=some (.cells c e f)/\∀j,j<n->c[O+j]?=some (.string (Ss j))) (hn:n<=6) (ax:∀j,j<n->(Ss j).size<=1099511627775/\∃ps qs,jd (Ss j).size (Ss j).data.toList=some (ps,qs)/\P j=ps++qs) (af:ms=(fN es).map (nG A n)++jm A P n) (ay:Fj ms)
  (hl:es.length<=100000) (az:∀e∈es,e.name.length<=dg/\e.text.length<=1048576/\(e.gone=false->0<=e.dB/\e.dB<=255))
  (a0:∀l cp,Bn ms l cp->dl E (⟨fn,eN o.dst tm (.slice none l cp),.inRegion ops rest::k⟩::os) wl [])
  (ad:∀off spot l cp cs e f,AA ms off spot l cp cs e f->(∀v∈cs.toList,Flat v)->dl E (⟨fn,eN o.dst tm (.slice (some ⟨wl.heap.size,off,spot⟩) l cp),.inRegion ops rest::k⟩::os) {wl with heap:=wl.heap.push (.cells cs e f)} []) :
  dl E (⟨fn,tm,.inRegion ops (i::rest)::k⟩::os) wl []:=by
 refine dl.phase (R0:=Bn ms) (R1:=AA ms) (gH:=Tryz.f49) (c:=dX Tryz.f49) ab hi ar func49 (by kernel_rfl) Me ho au ?_ a0 ad;intro m w ys T a3 hw U hT;rw[ac]at U;have hG:m.G=5:=a3.pg.env.G.trans vz;obtain⟨ex,ag,hM⟩:=EE hs;have h0:=U.idx 0 (by simp) (by rw[<-U.size]; simp);have h1:=U.idx 1 (by simp) (by rw[<-U.size]; simp);have h2:=U.idx 2 (by simp) (by rw[<-U.size]; simp);have a4:ys.size=3:=by rw[<-U.size]; rfl
 obtain⟨y0,y1,y2,rfl⟩:∃y0 y1 y2,ys=#[y0,y1,y2]:=⟨ys[0],ys[1],ys[2],by
  refine cW (by simp[a4]) λj h1 h2=>?_;have:j<3:=by omega
  rcases(by omega:j=0\/j=1\/j=2)with rfl|rfl|rfl<;>rfl⟩
 have h0:VR m (.slice sa n sc) y0:=h0;have h1:VR m (.map (some lb)) y1:=h1;have h2:VR m (.agg #[.int .i64 A.m,.string A.q,.int .i64 A.t]) y2:=h2
 have Y:Flat (.agg #[.int .i64 (A.m:Int),.string A.q,.int .i64 (A.t:Int)]):=.agg λi hi=>by
  have:i<3:=hi
  match i,this with
  |0,_|2,_=>exact .int _ _
  |1,_=>exact .string _
 have e2:=Y.eq m _ h2;subst e2
 obtain⟨q,rfl,hq⟩:∃q,y1=.map (some q)/\m.blk lb=some q:=by
  cases h1 with
  |map hb=>exact⟨_,rfl,hb⟩
  |gone hd=>
   obtain⟨_,c,e,f,hc⟩:=hw.dead lb hd;obtain⟨a,c2,hx⟩:=hM.isMap;rw[ag,hx]at hc;cases hc
 have a5:5<=q:=by
  have:=m.nZ lb q hq;omega
 obtain⟨o1,o2,g1,g2,g3⟩:=hw.obj lb q hq;rw[ag]at g1;cases g1;have a6:=hM.inv m _ g3;subst a6;have a7:q<w.heap.size:=(cK.1 g2).1;have a8:5<=w.heap.size:=by have:=hw.Jd; omega
 have fin:∀(b5:Option Nat)(h5:∀b,b5=some b->5<=b)(c1:Array Value)(e5:dj)(hb:∀b,b5=some b->∃c' f',w.heap[b]?=some (.cells c' e5 f')/\∀m1,ed m1 c1 c')(s5:Option Addr)(ah:∀a,s5=some a->a.block<7)(ai:∀j,j<n->∃O,s5=some ⟨5,O,none⟩/\c1[O+j]?=some (.string (Ss j))),VR (S6 b5 q h5) (.slice s5 n sc) y0->
   ∃(B:Env prog)(aj:Array Value)(m1:Ren)(ak:World),B.Z=E.Z/\B.T=T/\B.w0=w/\(∀b,B.fx b↔b<w.heap.size)/\Rg B m1/\WR m1 ak w/\(∀r b,m1.blk r=some b->m1.loose r)/\ed m1 aj (#[y0,.map (some q),.agg #[.int .i64 A.m,.string A.q,.int .i64 A.t]]++cP (Tryz.f49.ntmps-xs.size) gB)/\
   ((∀(E₂:Env prog)al ae am,E₂.Z=E.Z->E₂.T=T->E₂.w0=w->(ae=[]\/∃k2,ae=.code .ret::k2)->B8 prog E₂ Tryz.f49 al am (Bn ms) (AA ms)->dl E₂ [⟨49,al,ae⟩] am [])->dl B [⟨49,aj,[.code (dX Tryz.f49)]⟩] ak []):=by
  intro b5 h5 c1 e5 hb s5 ah ai a9;refine⟨nQ prog E.Z w T 6 q 6 false,#[.slice s5 n sc,.map (some 6),.agg #[.int .i64 A.m,.string A.q,.int .i64 A.t]]++cP 38 gB,S6 b5 q h5,Ts (.cells c1 e5 (0,c1.size)) w,rfl,rfl,rfl,λb=>⟨λh=>h.1,λh=>⟨h,λh=>by cases h⟩⟩,QT h5,RM h5 a8 hb,λr b hr=>?_,?_,λan=>?_⟩
  .have hr:(if r=5 then b5 else none)=some b:=hr;split at hr
   .assumption
   .cases hr
  .rw[av];have hn:Tryz.f49.ntmps-3=38:=by kernel_rfl
   rw[hn];refine ed.append (ed.gS rfl λi h1 h2=>?_) (.replicate _ (.undef _));have:i<3:=h1
   match i,this with
   |0,_=>exact a9
   |1,_=>exact .gone rfl
   |2,_=>exact Y.refl _
  .have ao:(#[.slice s5 n sc,.map (some 6),.agg #[.int .i64 A.m,.string A.q,.int .i64 A.t]]++cP 38 gB:Array Value)=#[.slice s5 n sc,.map (some 6),.agg #[.int .i64 A.m,.string A.q,.int .i64 A.t],gB,gB,gB,gB,gB,gB,gB,gB,gB,gB,gB,gB,gB,gB,gB,gB,gB,gB,gB,gB,gB,gB,gB,gB,gB,gB,gB,gB,gB,gB,gB,gB,gB,gB,gB,gB,gB,gB]:=by kernel_rfl
   rw[ao];refine Og (s:=7) (Ss:=Ss) (P:=P) hT rfl hA (by omega) (by omega) (by omega) a5 a7 g2 hM (λr a c h=>?_) hl az hn ax ah (λj hj=>?_) af ay an;rotate_left
   .obtain⟨O,e,h⟩:=ai j hj;refine⟨5,O,e,?_⟩;rw[dh (show(Ts (.cells c1 e5 (0,c1.size)) w).heap[5]?=some (.cells c1 e5 (0,c1.size))from rfl)];exact h
   have h:(#[wz,wz,wz,wz,wz,Obj.cells c1 e5 (0,c1.size),wz]:Array Obj)[r]?=some (.map a c):=h
   match r,h with
   |0,h|1,h|2,h|3,h|4,h|5,h|6,h=>cases h
   |r+7,h=>simp at h
 rcases aw with⟨rfl,rfl⟩|⟨sb,O,c,e,f,rfl,aF,hc,ap⟩
 .cases h0 with
  |fl l c=>exact fin none (λb h=>by cases h) #[] 0 (λb h=>by cases h) none (λa h=>by cases h) (λj hj=>absurd hj (by omega)) (.fl _ _)
 cases h0 with
 |@slice a a' _ _ aA=>
  cases aA with
  |@mk b b' off spot aq=>
   obtain⟨o1,o2,k1,k2,k3⟩:=hw.obj sb b' aq;rw[hc]at k1;cases k1
   cases k3 with
   |@cells _ c' _ _ f' aB=>
    obtain⟨c1,ad,aI,aC⟩:=aB.flatten
    have aD:5<=b':=by
     have:=m.nZ sb b' aq;omega
    refine fin (some b') (λx hx=>by cases hx; exact aD) c1 e (λx hx=>by cases hx; exact⟨c',f',k2,ad⟩) (some ⟨5,O,none⟩) (λa h=>by cases h; show 5<7; omega) (λj hj=>⟨O,rfl,?_⟩) (.slice _ _ (.mk rfl));obtain⟨aE,hv⟩:=cK.1 (ap j hj);have aa:O+j<c1.size:=by omega
    rw[cL aa,aC _ aa aE (by rw[hv]; exact .string _),hv]
end
end
section
open Go.Conc Go.RowKit Go.Maps
section
variable {Z:j8 prog} {W0:World} {Mp:Nat->Prop} {fn:dk} {tm:Array Value} {os:List OF} {wl:World} {k:List Item}
theorem LD{ops:Array Oper}{i:Nat}{rest:List Nat}{o:Oper}{b lb:Nat}{vS vM vK:Value}{sa:Option Addr}{n sc mode dB most:Nat}{Ss:Nat->ByteArray}{P:Nat->List (Nat×dp)}{R:List dp}{qb:ByteArray}{es:List dp}(hi:ops[i]?=some o)(ak:vS=.slice sa n sc)
  (hb:wl.heap[b]?=some (.cells #[.map (some lb),vS,vM,vK] 90 (0,0))) (hs:eh wl lb es) (ag:5<=lb) (al:((sa=none/\n=0)\/∃sb so c e f,sa=some ⟨sb,so,none⟩/\5<=sb/\wl.heap[sb]?=some (.cells c e f)/\∀j,j<n->c[so+j]?=some (.string (Ss j)))/\n<=6/\(∀j,j<n->(Ss j).size<=1099511627775/\∃ps qs,jd (Ss j).size (Ss j).data.toList=some (ps,qs)/\P j=ps++qs)/\∀A:Ask,A.Ok->Fj (allM A P es n)/\(dU (allM A P es n) (allM A P es n)).Perm (R.filter A.has))
  (hl:es.length<=100000) (ad:∀e∈es,e.name.length<=65536/\e.text.length<=1048576/\(e.gone=false->0<=e.dB/\e.dB<=255))
  (hm:mode<=3) (ht:dB<=255) (a0:1<=most) (a3:most<=20) (hq:ep qb.data.toList=true) (a4:qb.size<=1000)
  (B:∀e∈R,e.gone=false->∀y:World,(∀r,r<5->y.heap[r]?=wl.heap[r]?)->di prog 51 #[.agg #[.string ⟨e.name.toArray⟩,.string ⟨e.text.toArray⟩,.int .i64 e.dq,.int .i64 e.dB]] y λen w'=>en=.returned (.string ⟨(gr e).toArray⟩)/\eX y w') (h5:5<=wl.heap.size)
  (hn:∀(w2:World)(v:Value),(∀r,r<wl.heap.size->w2.heap[r]?=wl.heap[r]?)->wl.heap.size<=w2.heap.size->w2.os=wl.os->Pt w2 wl.heap.size R ⟨mode,⟨(eo qb.data.toList).toArray⟩,dB⟩ most v->dl (fy Z W0 Mp) (⟨fn,eN o.dst tm v,.inRegion ops rest::k⟩::os) w2 []) :
  dl (fy Z W0 Mp) (⟨17,#[.pointer (some ⟨b,0,none⟩),.int .i64 (mode:Int),.string qb,.int .i64 (dB:Int),.int .i64 (most:Int),gB,gB,gB,gB,gB,gB,gB,gB,gB,gB,gB,gB,gB,gB,gB,gB,gB,gB,gB,gB,gB,gB,gB,gB,gB,gB,gB,gB,gB,gB,gB,gB,gB,gB,gB,gB,gB,gB,gB,gB,gB,gB,gB,gB,gB,gB,gB,gB,gB,gB,gB,gB,gB,gB,gB,gB,gB,gB,gB,gB,gB,gB],[.code (dX f17)]⟩::⟨fn,tm,.inRegion ops (i::rest)::k⟩::os) wl []:=by
 have HA:e7 _:=And.intro hb (And.intro hs (And.intro ag (And.intro al (And.intro hl (And.intro ad (And.intro B (And.intro h5 (And.intro hn ak))))))));have HM:e7 _:=And.intro hm (And.intro ht (And.intro a0 (And.intro a3 (And.intro hq a4))));clear hb hs ag al hl ad B h5 hn ak;show dl _ (⟨_,_,[.code (.seq (.region 0 _ false) (.seq (.seq (.region 1 _ false) (.cond _ _ .skip)) (.seq (.seq (.region 3 _ false) (.cond _ _ .skip)) (.seq (.region 5 _ true) (.seq (.region 6 _ false) (.seq (.seq (.region 7 _ false) (.block 0 _)) (.seq (.region 12 _ false) .ret)))))))]⟩::_) _ _;refine dl.sr λkk HK=>?_
 (refine dG ?_; go_simp)
 (refine dG ?_; go_simp);refine dl.ie HK ?_;clear HK kk;refine dl.seq (dl.sc λkk HK=>?_);refine E0 (by kernel_rfl) (by rw[HK.out]; rfl) (by simp) λτ=>?_;have g1:¬((dB:Int)<0):=by omega
 have g2:¬((255:Int)<(dB:Int)):=by omega
 have c1:=Ir mode hm (tp wl τ);have c2:=EX (most:Int) (tp wl τ);rw[decide_eq_true (show(1:Int)<=most/\(most:Int)<=20 by omega)]at c2;have c3:=λτ=>qw qb (tp wl τ) (by unfold dg; omega);rw[hq]at c3;have C3:e7 _:=c3;clear hm ht a0 a3 hq a4 c3;go_wp2_with fail;refine c1.mono ?_;rintro e w' ⟨rfl,rfl⟩;clear c1;go_wp2_with fail;refine c2.mono ?_;rintro e w' ⟨rfl,rfl⟩;clear c2;go_wp2;refine e9 (dl.uz τ ?_);rw[HK.out];simp only[decide_eq_false (gA.2 g1),decide_eq_false (gA.2 g2),Bool.or_false];clear HK kk g1 g2;refine dl.nL trivial rfl (dl.skip (dl.seq (dl.sc λkk HK=>?_)));refine E0 (by kernel_rfl) (by rw[HK.out]; rfl) (by simp) λτ=>?_;have c3:=C3.out τ;clear C3;go_wp2_with fail;refine c3.mono ?_;rintro e w' ⟨rfl,rfl⟩;clear c3;go_wp2;refine e9 (dl.uz τ ?_);rw[HK.out];clear HK kk;refine dl.nL trivial rfl (dl.skip (dl.sc λkk HK=>?_))
 have an:e7 (∀y,l6 wl y->y.cell? ⟨b,1,none⟩=some vS):=λy hy=>by
  obtain⟨τ,h⟩:=hy;exact ef h (show(tp wl τ).cell? _=_ by rw[dh (w:=tp wl τ) (show(tp wl τ).heap[b]?=_ from HA.out.1)]; rfl)
 have ao:e7 (∀y,l6 wl y->y.cell? ⟨b,0,none⟩=some (.map (some lb))):=λy hy=>by
  obtain⟨τ,h⟩:=hy;exact ef h (show(tp wl τ).cell? _=_ by rw[dh (w:=tp wl τ) (show(tp wl τ).heap[b]?=_ from HA.out.1)]; rfl)
 obtain⟨fb,ap⟩:∃fb:ByteArray,fb=⟨(eo qb.data.toList).toArray⟩:=⟨_,rfl⟩;have aq:e7 (∀y:World,di prog 50 #[.string qb] y λe w'=>e=.returned (.string fb)/\eX y w'):=λy=>by rw[ap]; exact pb qb y (by have:=HM.out; omega)
 have ar:e7 _:=ap;clear ap;refine dl.Ia (Sd:=λa y=>l6 wl y/\a.defers=[]/\dl _ (⟨_,a.tmps,.inRegion _ [13,14]::_⟩::_) y _) (last:=13) (tl:=[14]) (by kernel_rfl) (RI (by kernel_rfl)) ?_ (λa y h=>h.2);refine dD 0 ?_ ?_<|dD 1 ?_ ?_<|dD 2 ?_ ?_<|dD 3 ?_ ?_<|dD 4 ?_ ?_<|dD 5 ?_ ?_<|dD 6 ?_ ?_<|dD 7 ?_ ?_<|dD 8 ?_ ?_<|dD 9 ?_ ?_ ?_
 any_goals(intro y hy; have q:=an.out y hy; have q1:=ao.out y hy; unfold gm; go_simp; refine⟨eX.refl _,?_⟩; with_reducible rfl)
 go_simp;refine dD 10 ?_ ?_ ?_;rotate_left
 .intro y hy; unfold gm; go_simp; refine⟨rfl,(aq.out y).mono ?_⟩; rintro e y2 ⟨rfl,h2⟩; refine⟨_,rfl,h2,?_⟩; with_reducible rfl
 go_simp;refine dD 11 ?_ ?_<|dD 12 ?_ ?_ ?_
 any_goals(intro y hy; unfold gm; go_simp; refine⟨eX.refl _,?_⟩; with_reducible rfl)
 go_simp;refine nX (by kernel_rfl) (λt=>xb (by kernel_rfl) (by kernel_rfl) _ _) ?_;intro y hy;refine⟨hy,rfl,?_⟩;obtain⟨τ,hx⟩:=hy;obtain⟨hb,hs,ag,al,hl,ad,B,h5,hn,ak⟩:=HA.out;have ae:wl.heap.size<=y.heap.size:=hx.size;have hold:∀r,r<wl.heap.size->y.heap[r]?=wl.heap[r]?:=λr hr=>hx.block r hr;have aa:y.os=wl.os:=hx.os;have au:eh y lb es:=dL.stay hs (hold lb (dL.lt hs));subst ak;have af:Ask.Ok ⟨mode,fb,dB⟩:=⟨HM.out.1,by show dB<256; have:=HM.out; omega,by rw[ar.out]; show(eo qb.data.toList).toArray.size<=_; rw[List.size_toArray,fY]; have:=HM.out; simp; omega⟩;obtain⟨av,aw,ax,ay⟩:=al;have ah:=ay ⟨mode,fb,dB⟩ af;refine dl.PP (A:=⟨mode,fb,dB⟩) (es:=es) (Ss:=Ss) (P:=P) (ms:=allM ⟨mode,fb,dB⟩ P es n) (sa:=sa) (n:=n) (sc:=sc) (lb:=lb) (xs:=#[.tmp 38,.tmp 42,.tmp 47]) (FD _ _ _) rfl rfl rfl rfl (by simp[dN]) rfl (by kernel_rfl) af au ag (av.imp id λ⟨sb,so,c,e,f,h1,h2,h3,h4⟩=>⟨sb,so,c,e,f,h1,h2,by rw[hold _ (cK.1 h3).1]; exact h3,h4⟩) aw ax rfl ah.1 hl (λe he=>⟨by have:=(ad e he).1; unfold dg; omega,(ad e he).2⟩) ?_ ?_
 .intro l cp hr;obtain⟨rfl,rfl,_⟩:=id hr;have ac:sM y 4 (.slice none 0 0) 0 (ii []):=sM.nil y 4;have O:Nd (allM ⟨mode,fb,dB⟩ P es n) []:=hr.2.2;have U:List.Perm [] (R.filter (Ask.has ⟨mode,fb,dB⟩)):=O.1.trans ah.2;have HH:e7 _:=And.intro U (And.intro O.2 (And.intro hold (And.intro ae (And.intro aa (And.intro h5 (And.intro B (And.intro hn ac)))))));clear hb hs ag av aw ax ay ah hl ad B h5 hn ae hold aa au af O U ac HA ao an aq hx;rw[fA];go_simp
  (refine dG ?_; go_simp);refine dl.ie HK ?_;show dl _ (⟨_,_,[.code (ML (dX f17))]⟩::_) _ _;obtain⟨U,az,hold,ae,aa,h5,B,hn,ac⟩:=HH.out;refine tG (L:=[]) hi ac rfl HM.out.2.2.1 HM.out.2.2.2.1 (by omega) (λe he y2 ab=>?_) (λw2 u h1 h2 h3 h4=>?_)
  .have Y:=(U.mem_iff.1 he);rw[bL]at Y;exact B e Y.1 (tA Y.2) y2 (λr hr=>(ab r hr).trans (hold r (by omega)))
  .refine hn w2 _ (λr hr=>(h1 r (by omega)).trans (hold r hr)) (by omega) (h3.trans aa) ⟨[],?_,az,u,rfl,j7 h4 (by omega)⟩;rw[<-ar.out];exact U
 .intro off spot l cp cs e f hr a';obtain⟨rfl,rfl,rfl,rfl,L,a5,rfl,a6,a7,am,ai⟩:=hr;obtain⟨y2,ab⟩:∃y2:World,y2={y with heap:=y.heap.push (.cells cs 96 (0,0))}:=⟨_,rfl⟩;have aj:∀r,r<y.heap.size->y2.heap[r]?=y.heap[r]?:=λr hr=>by rw[ab]; show(y.heap.push _)[r]?=_; rw[Array.getElem?_push,if_neg (by omega)]
  have aA:y2.heap.size=y.heap.size+1:=by rw[ab]; simp
  have a8:y2.os=y.os:=by rw[ab]
  have a9:y2.heap[y.heap.size]?=some (.cells cs 96 (0,0)):=by rw[ab]; simp
  have ac:sM y2 4 (.slice (some ⟨y.heap.size,0,none⟩) L.length cp) L.length (ii L):=sM.jj (base:=0) (e:=96) ⟨by rw[u9],.inr ⟨y.heap.size,cp,cs,rfl,cZ _,a9,a6,a7,am,ai⟩⟩;rw[<-ab];have hold:∀r,r<wl.heap.size->y2.heap[r]?=wl.heap[r]?:=λr hr=>(aj r (by omega)).trans (hold r hr);have ae:wl.heap.size<=y2.heap.size:=by omega
  have aa:y2.os=wl.os:=a8.trans aa;clear aj aA a8 a9 a6 a7 am ai a' ab;have O:Nd (allM ⟨mode,fb,dB⟩ P es n) L:=a5;have U:List.Perm L (R.filter (Ask.has ⟨mode,fb,dB⟩)):=O.1.trans ah.2;have HH:e7 _:=And.intro U (And.intro O.2 (And.intro hold (And.intro ae (And.intro aa (And.intro h5 (And.intro B (And.intro hn ac)))))));clear hb hs ag av aw ax ay ah hl ad B h5 hn ae hold aa au af O a5 U ac HA ao an aq hx;rw[fA];go_simp
  (refine dG ?_; go_simp);refine dl.ie HK ?_;show dl _ (⟨_,_,[.code (ML (dX f17))]⟩::_) _ _;obtain⟨U,az,hold,ae,aa,h5,B,hn,ac⟩:=HH.out;refine tG (L:=L) hi ac rfl HM.out.2.2.1 HM.out.2.2.2.1 (by omega) (λe he y2 ab=>?_) (λw2 u h1 h2 h3 h4=>?_)
  .have Y:=(U.mem_iff.1 he);rw[bL]at Y;exact B e Y.1 (tA Y.2) y2 (λr hr=>(ab r hr).trans (hold r (by omega)))
  .refine hn w2 _ (λr hr=>(h1 r (by omega)).trans (hold r hr)) (by omega) (h3.trans aa) ⟨L,?_,az,u,rfl,j7 h4 (by omega)⟩;rw[<-ar.out];exact U
end
end
section
section
variable {A:Ask} {P:Nat->List (Nat×dp)}
theorem FM(B:∀j,(P j).length<=130):∀n,(jm A P n).length<=n*130
 |0=>by simp[jm]
 |n+1=>by
  have:=FM B n
  have:=B n;simp only[jm,bT,cm];omega
theorem FK:∀n,∀m∈jm A P n,∃j,j<n/\∃p∈P j,m=nG A j p
 |0,m,h=>by simp[jm]at h
 |n+1,m,h=>by
  rcases bP.1 h with h|h
  .obtain⟨p,B,rfl⟩:=bK.1 h
   exact⟨n,by omega,p,B,rfl⟩
  .obtain⟨j,O,x⟩:=FK n m h;exact⟨j,by omega,x⟩
theorem vQ(B:∀j,((P j).map gt).Nodup):∀n,((jm A P n).map λm=>(m.wA,m.at')).Nodup
 |0=>List.Pairwise.nil
 |n+1=>by
  show((_++_:List kE).map _).Nodup
  rw[bR,cD]
  refine⟨?_,vQ B n,?_⟩
  .rw[bM]
   have e:((λm:kE=>(m.wA,m.at')) ∘ nG A n)=(λk=>(n,k)) ∘ gt:=by
    funext p;simp only[Function.comp_apply,(ij n p).1,(ij n p).2.1]
   rw[e,<-bM];have h:=B n;unfold cy at h⊢;rw[bZ];exact h.imp λh e=>h (Prod.mk.inj e).2
  .rintro x O y U rfl;rw[bM]at O;obtain⟨p,_,rfl⟩:=bK.1 O;obtain⟨m,hm,Y⟩:=bK.1 U;have:=sR n m hm;have:=(Prod.mk.inj Y).1;simp only[(ij n p).1]at this;omega
theorem Gc:∀n,∀e∈FN P n,∃j,j<n/\e∈sn (P j)
 |0,e,h=>by simp[FN]at h
 |n+1,e,h=>by
  rcases bP.1 h with h|h
  .exact⟨n,by omega,h⟩
  .obtain⟨j,B,x⟩:=Gc n e (bL.1 h).1
   exact⟨j,by omega,x⟩
end
theorem Hp(A:Ask)(l:List dp):(dw l).filter A.has=l.filter A.has:=by
 unfold dw;rw[bY];apply ca;intro e _
 cases h:A.has e with
 |false=>rfl
 |true=>rw[tA h]; rfl
theorem uu{e:dp}(h:ON e):e.name.length<=dg/\e.text.length<=1048576:=by
 have B:=(gG (qL h)).2;refine⟨by unfold dg; omega,?_⟩;rcases h with h|h
 .have:=(jC h.2.2.1);omega
 .rw[h.1]; simp
theorem Na{buf:List dp}{ss:List (List dp)}(hI:Inv buf ss):∃P:Nat->List (Nat×dp),
  (∀j(h:j<ss.length),∃ps qs,jd (dS ss[j]).length (dS ss[j])=some (ps,qs)/\P j=ps++qs)/\
  ∀A:Ask,Fj (allM A P buf ss.length)/\(dU (allM A P buf ss.length) (allM A P buf ss.length)).Perm ((eJ ss buf).filter A.has):=by
 have ac:∀j,∃p:List (Nat×dp),∀h:j<ss.length,∃ps qs,jd (dS ss[j]).length (dS ss[j])=some (ps,qs)/\p=ps++qs/\(sn p).Perm ss[j]/\pW 0 (dS ss[j]).length p:=by
  intro j;by_cases h:j<ss.length
  .obtain⟨gs,es,U,h2⟩:=yL (hI.jg _ (bN h));obtain⟨ps,qs,h3,h4,h5,h6⟩:=A9 U;exact⟨ps++qs,λ_=>⟨ps,qs,h3,rfl,by rw[show sn (ps++qs)=sn ps++sn qs from bR,h4,h5]; exact h2,h6⟩⟩
  .exact⟨[],λh'=>absurd h' h⟩
 obtain⟨P0,ab⟩:=ev ac;refine⟨P0,λj h=>?_,λA=>?_⟩
 .obtain⟨ps,qs,U,h2,_⟩:=ab j h;exact⟨ps,qs,U,h2⟩
 obtain⟨P,hP⟩:∃P:Nat->List (Nat×dp),P=λj=>if j<ss.length then P0 j else if j=ss.length then fN buf else []:=⟨_,rfl⟩
 have aa:P ss.length=fN buf:=by rw[hP]; simp
 have ft:allM A P0 buf ss.length=jm A P (ss.length+1):=by
  show _++_=_++_;rw[aa,xV (P:=P0) (Q:=P) ss.length λj hj=>by rw[hP]; simp[hj]]
 have af:(dw buf).length<=30:=cY (kZ _ _) hI.all
 have ad:buf.length<=130:=by
  have U:=jo buf;have h2:=hI.gone;have:=oE buf;omega
 have ae:∀j(h:j<ss.length),ss[j].length<=130:=λj h=>mL (hI.jg _ (bN h))
 have O:∀j,∃l:List dp,(sn (P j)).Perm l/\(l.map dp.name).Nodup/\l.length<=130/\(∀e∈l,ON e)/\((P j).map gt).Nodup/\(∀p∈P j,p.1<4611686018427387904)/\(∀h:j<(ss++[buf]).length,l=(ss++[buf])[j]):=by
  intro j;rcases Nat.lt_trichotomy j ss.length with h|h|h
  .obtain⟨ps,qs,_,_,h2,h3⟩:=ab j h;have e:P j=P0 j:=by rw[hP]; simp[h]
   have hs:=hI.jg _ (bN h);refine⟨ss[j],by rw[e]; exact h2,hs.nodup,ae j h,hs.each,?_,λp Y=>?_,λ_=>by rw[List.getElem_append_left h]⟩
   .rw[e];unfold cy;rw[bZ];exact h3.2.2.imp λh=>Nat.ne_of_lt h
   .rw[e]at Y;have:=(h3.2.1 p Y).2;have:=re hs;omega
  .subst h;refine⟨buf,by rw[aa]; show(cJ _ _).Perm _; rw[DE]; exact n5 buf,hI.nodup,ad,hI.each,?_,λp Y=>?_,λ_=>by simp⟩
   .rw[aa,yl,bM];exact(List.nodup_range).map _ (λ_ _ h e=>h e)
   .rw[aa,yl]at Y;obtain⟨k,hk,rfl⟩:=bK.1 Y;have:=cn.1 hk;simp only;omega
  .have e:P j=[]:=by rw[hP]; simp[show ¬j<ss.length by omega,show ¬j=ss.length by omega]
   exact⟨[],by rw[e]; exact .refl _,List.Pairwise.nil,by simp,by simp,by rw[e]; exact List.Pairwise.nil,by rw[e]; simp,λh'=>by simp at h'; omega⟩
 have hL:∀j,(P j).length<=130:=λj=>by
  obtain⟨l,U,_,h3,_⟩:=O j;have:=U.length_eq;rw[cm]at this;omega
 have hN:∀j,(j0 (P j)).Nodup:=λj=>by
  obtain⟨l,U,h2,_⟩:=O j;have:=(U.map dp.name).nodup_iff.2 h2;rw[bM]at this;exact this
 have hG:∀j,∀p∈P j,ON p.2:=λj p Y=>by
  obtain⟨l,U,_,_,h4,_⟩:=O j;exact h4 _ (U.mem_iff.1 (bK.2 ⟨p,Y,rfl⟩))
 have ag:=hI.qi;have B:dU (allM A P0 buf ss.length) (allM A P0 buf ss.length)=(FN P (ss.length+1)).filter A.has:=by rw[ft,y9]
 constructor
 .refine⟨?_,λm hm=>?_,?_,?_,?_⟩
  .rw[ft];have:=FM (A:=A) hL (ss.length+1);omega
  .rw[ft]at hm;obtain⟨j,hj,p,Y,rfl⟩:=FK _ m hm;rw[(ij j p).1,(ij j p).2.1,(ij j p).2.2.1];obtain⟨l,_,_,_,_,_,h6,_⟩:=O j;exact⟨by omega,h6 p Y,(uu (hG j p Y)).1⟩
  .rw[ft];exact vQ (λj=>(O j).elim λl h=>h.2.2.2.2.1) _
  .rw[B];exact(zz hN _).sublist ((cr).map _)
  .rw[B];intro e he;obtain⟨j,_,h⟩:=Gc _ e (bL.1 he).1;obtain⟨p,Y,rfl⟩:=bK.1 h;exact(uu (hG j p Y)).2
 .rw[B,fp,Hp]
  have:=FG (P:=P) (ss:=ss++[buf]) (λj h=>by
   obtain⟨l,U,_,_,_,_,_,h7⟩:=O j;rw[<-h7 h]
   exact U) (ss.length+1) (by simp)
  rw[ck (by simp)]at this;exact this.filter _
end
section
open Go.Conc Go.RowKit Go.Maps
variable {ops:Array Oper} {qb:ByteArray} {e:dp} {rest:List Nat} {i:Nat} {o:Oper}
theorem xP:∀(ss:List (List dp))(a:List dp),(a.map dp.name).Nodup->(∀s∈ss,(s.map dp.name).Nodup)->((ss.foldl dH a).map dp.name).Nodup
 |[],_,h,_=>h
 |s::ss,a,h,B=>xP ss (dH a s) (pB h (B s (by simp))) λx O=>B x (by simp[O])
theorem qU{buf:List dp}{ss:List (List dp)}(h:Inv buf ss):((eJ ss buf).map dp.name).Nodup:=by
 rw[fp];refine mG (xP _ [] List.Pairwise.nil λs O=>?_);rcases bP.1 O with B|B
 .exact(h.jg s B).nodup
 .simp only[bS]at B;rw[B]; exact h.nodup
theorem vT{R L:List dp}{mode dB most:Nat}(B:(R.map dp.name).Nodup)(U:∀e∈R,e.gone=false)(hm:mode<=3)(ht:dB<=255)(Y:1<=most)(aa:most<=20)(hq:ep qb.data.toList=true)
  (O:L.Perm (R.filter (Ask.has ⟨mode,⟨(eo qb.data.toList).toArray⟩,dB⟩))) (hs:L.Pairwise λx y=>fe x y=true):(L.take most).map gr=(vd R mode qb.data.toList dB most).1:=by
 have e1:R.filter (Ask.has ⟨mode,⟨(eo qb.data.toList).toArray⟩,dB⟩)=R.filter λe=>tP mode dB qb.data.toList e:=by
  refine ca λe he=>?_;unfold Ask.has tP dE;rw[U e he];simp
 rw[e1]at O;have h:=Ci (mode:=(mode:Int)) (dB:=(dB:Int)) (most:=(most:Int)) (q:=qb.data.toList) B hs (by simpa using O);unfold vd;rw[if_neg (by omega),if_pos hq];show _=(ol R _ _ []).map _;rw[h];simp
abbrev lC(w:World):Prop:=Lib.TabIs prog w "internal/strconv.uint64pow10" .u64 Lib.pow10Tab
theorem Gv{w y:World}(h:lC w)(hb:∀r,r<5->y.heap[r]?=w.heap[r]?):lC y:=by
 unfold lC Lib.TabIs World.var? at h⊢;have O:∃g,g<5/\prog.globalNamed "internal/strconv.uint64pow10" = some g:=⟨2,by omega,by kernel_rfl⟩;obtain⟨g,B,e⟩:=O;rw[e]at h⊢;simp only[Option.bind_some]at h⊢;rw[hb g B];exact h
theorem NI(h:Ju e)(y:World)(O:lC y)(h5:5<=y.heap.size):di prog 51 #[.agg #[.string ⟨e.name.toArray⟩,.string ⟨e.text.toArray⟩,.int .i64 e.dq,.int .i64 e.dB]] y λU w'=>U=.returned (.string ⟨(gr e).toArray⟩)/\eX y w':=by
 obtain⟨_,Y,h2,_,h3,h4,_⟩:=h;have hn:=(gG Y).2;have aa:=jC h2;refine Nn e y h3 (λy2 B=>?_) (by omega) (by omega) ?_
 .have:=NH e.dq.toNat (by omega) y2 (Gv O λr hr=>B.block r (by omega));rw[show((e.dq.toNat:Nat):Int)=e.dq by omega]at this;exact this
 .have:=Od 7 e.dq.toNat (by omega) (by omega);omega
theorem JE:∀(L:List (List dp))(a:List dp){e:dp},e∈L.foldl dH a->e∈a\/∃l∈L,e∈l
 |[],_,_,h=>.inl h
 |l::L,a,e,h=>by
  rcases JE L _ h with h|⟨m,hm,h⟩
  .rcases kJ.1 h with h|h
   .exact .inl h.1
   .exact .inr ⟨l,by simp,h⟩
  .exact .inr ⟨m,by simp[hm],h⟩
theorem AN{buf:List dp}{ss:List (List dp)}(h:Inv buf ss)(Y:e∈eJ ss buf):Ju e:=by
 rw[fp]at Y;obtain⟨h1,h2⟩:=bL.1 Y
 have B:ON e:=by
  rcases JE _ _ h1 with O|⟨l,hl,O⟩
  .simp at O
  .rcases bP.1 hl with U|U
   .exact(h.jg l U).each e O
   .simp only[bS]at U;subst U;exact h.each e O
 rcases B with B|B
 .exact B
 .rw[B.1]at h2;simp at h2
theorem Kg:f17.name≠ "runtime.NumGoroutine":=by
 have:f17.name = "(*hint/hint.Engine).Complete":=by kernel_rfl
 rw[this];decide
section
variable {Z:j8 prog} {W0:World} {Mp:Nat->Prop} {fn:dk} {tm:Array Value} {os:List OF} {wl w0:World} {k:List Item} {F1 F2:Nat->Prop} {b:Nat} {buf:List dp} {ss:List (List dp)} {ts:List (List Wd)}
theorem AW.Lb{mode dB most:Nat}(hi:ops[i]?=some o)(h:AW w0 wl F1 F2 b buf ss ts)(h5:5<=w0.heap.size)(ac:lC wl)
  (hm:mode<=3) (ht:dB<=255) (ag:1<=most) (ah:most<=20) (hq:ep qb.data.toList=true)
  (hn:∀(w2:World)(u:Value)(L:List dp),AW w0 w2 F1 F2 b buf ss ts->lz wl w2->L.Perm ((eJ ss buf).filter (Ask.has ⟨mode,⟨(eo qb.data.toList).toArray⟩,dB⟩))->(L.Pairwise λx y=>fe x y=true)->Kept w2 F1 F2 u ((L.take most).map gr)->dl (fy Z W0 Mp) (⟨fn,eN o.dst tm (.tuple #[u,.int .i64 0]),.inRegion ops rest::k⟩::os) w2 []) :
  dl (fy Z W0 Mp) (⟨17,#[.pointer (some ⟨b,0,none⟩),.int .i64 (mode:Int),.string qb,.int .i64 (dB:Int),.int .i64 (most:Int),gB,gB,gB,gB,gB,gB,gB,gB,gB,gB,gB,gB,gB,gB,gB,gB,gB,gB,gB,gB,gB,gB,gB,gB,gB,gB,gB,gB,gB,gB,gB,gB,gB,gB,gB,gB,gB,gB,gB,gB,gB,gB,gB,gB,gB,gB,gB,gB,gB,gB,gB,gB,gB,gB,gB,gB,gB,gB,gB,gB,gB,gB],[.code (dX f17)]⟩::⟨fn,tm,.inRegion ops (i::rest)::k⟩::os) wl []:=by
 obtain⟨⟨h1,h2,h3,Bb,vS,B,n,vK,kn,h4,h6⟩,k1,k2,k3⟩:=id h
 have ai:qb.size<=1000:=by
  have:=jC hq;have e:qb.size=qb.data.toList.length:=by show qb.data.size=_; rw[Array.length_toList]
  omega
 have aj:5<=wl.heap.size:=cY h5 k3.size;have hI:=h4.inv;have ar:=ru hI
 have ak:∀e∈buf,e.name.length<=65536/\e.text.length<=1048576/\(e.gone=false->0<=e.dB/\e.dB<=255):=λe he=>by
  have O:=hI.each e he;have h1:=(gG (qL O)).2;refine⟨by omega,(uu O).2,λe0=>?_⟩;rcases O with O|O
  .exact⟨O.2.2.2.2.2.2.1,O.2.2.2.2.2.2.2⟩
  .rw[O.1]at e0; cases e0
 have ad:=h4.row;obtain⟨P,al,am⟩:=Na hI
 have aa:∃sa sc,vS=.slice sa ss.length sc/\((sa=none/\ss.length=0)\/∃sb so c e f,sa=some ⟨sb,so,none⟩/\5<=sb/\wl.heap[sb]?=some (.cells c e f)/\∀j,j<ss.length->c[so+j]?=some (.string ⟨(dS (ss.getD j [])).toArray⟩)):=by
  rcases ad.2 with⟨rfl,h0⟩|⟨g,cap,cur,rfl,_,O,c1,c2,c3,c4⟩
  .exact⟨none,0,by rw[h0],.inl ⟨rfl,h0⟩⟩
  .refine⟨_,cap,rfl,.inr ⟨g,0,cur,_,_,rfl,cY h5 (k1 g (h4.lr g rfl)),O,λj U=>?_⟩⟩;have ab:=gL (ss.map dS) j (by simpa using U);rw[<-c4,bX,if_pos (by simpa using U)]at ab
   have e1:(ss.map dS)[j]'(by simpa using U)=dS (ss.getD j []):=by
    rw[List.getElem_map,bO,bJ U]; rfl
   rw[e1]at ab;simpa using ab
 obtain⟨sa,sc,an,ao⟩:=aa;refine LD (es:=buf) (R:=eJ ss buf) (P:=P) (Ss:=λj=>⟨(dS (ss.getD j [])).toArray⟩) hi an h4.blk h4.say (cY h5 (k1 Bb h4.fB)) ⟨ao,hI.qi,λj U=>?_,λA _=>am A⟩ (by omega) ak hm ht ag ah hq ai (λe he O y hy=>?_) aj ?_
 .have e1:ss.getD j []=ss[j]:=by rw[bO,bJ U]; rfl
  have hl:=re (hI.jg _ (bN U));obtain⟨ps,qs,q1,q2⟩:=al j U;simp only[e1];have e2:(⟨(dS ss[j]).toArray⟩:ByteArray).size=(dS ss[j]).length:=by simp[ByteArray.size]
  rw[e2];exact⟨by omega,ps,qs,q1,q2⟩
 .exact NI (AN hI he) y (Gv ac hy) (by have:=hy 4 (by omega); rw[cL (show 4<wl.heap.size by omega)]at this; have:=(cK.1 this).1; omega)
 .intro w2 v hb hz ho ae;obtain⟨L,ap,aq,u,rfl,af⟩:=ae;have Y:lz wl w2:=⟨ho,hz,hb⟩;refine hn w2 u L (h.same Y) Y ap aq (Kept.new h ?_);rw[cm];exact af
theorem AW.QD{xs:Array Operand}{O:Array dj}{mode dB most:Nat}(h:AW w0 wl F1 F2 b buf ss ts)(h5:5<=w0.heap.size)(B:lC wl)(hq:ep qb.data.toList=true)
  (hn:∀(w2:World)(u:Value)(L:List dp),AW w0 w2 F1 F2 b buf ss ts->lz wl w2->L.Perm ((eJ ss buf).filter (Ask.has ⟨mode,⟨(eo qb.data.toList).toArray⟩,dB⟩))->(L.Pairwise λx y=>fe x y=true)->Kept w2 F1 F2 u ((L.take most).map gr)->dl (fy Z W0 Mp) (⟨fn,eN o.dst tm (.tuple #[u,.int .i64 0]),.inRegion ops rest::k⟩::os) w2 [])
  (hi:ops[i]?=some o) (U:fm o (dt ops tm)=true) (ho:o.op=.call {callee:=.value (.func 17),args:=xs,argTypes:=O}) (Y:∀x∈xs.toList,dN (fy Z W0 Mp).fq (fy Z W0 Mp).gl x)
  (ha:xs.map (iI tm)=#[.pointer (some ⟨b,0,none⟩),.int .i64 (mode:Int),.string qb,.int .i64 (dB:Int),.int .i64 (most:Int)]) (hm:mode<=3) (ht:dB<=255) (aa:1<=most) (ab:most<=20):dl (fy Z W0 Mp) (⟨fn,tm,.inRegion ops (i::rest)::k⟩::os) wl []:=by
 have ac:xs.size=5:=by have:=congrArg Array.size ha; simpa using this
 refine dl.qH _ (gH:=f17) (c:=dX f17) hi U func17 (by kernel_rfl) Kg ho Y ?_ (h.Lb hi h5 B hm ht aa ab hq hn);rw[ha,ac];kernel_rfl
end
end
section
structure oH where
 name:Wd
 text:Wd
 dq:Int
 dB:Int
 there:Bool
def lG:oH:=⟨[],[],0,0,false⟩
structure Raw where
 name:Int
 text:Int
 dq:Int
 dB:Int
def CN(k:oH):dp:=⟨k.name,false,k.text,k.dq,k.dB⟩
def jY(x:Raw):oH:=⟨vq (pk x.name 12),Ac (pk x.text 258),(x.dq.natAbs % 1000001:Nat),(pk x.dB 256:Nat),true⟩
def qp(K:List oH)(x:Raw):List oH:=
 if x.dq<0 then K.set (pk x.name 12) {K.getD (pk x.name 12) lG with there:=false}else K.set (pk x.name 12) (jY x)
def Aj(l:List dp):Prop:=∀e∈l,∃k,k<12/\e.name=vq k
theorem I6{i j:Nat}(hi:i<12)(U:j<12)(h:vq i=vq j):i=j:=by
 have B:UInt8.ofNat (97+i)=UInt8.ofNat (97+j):=by simpa[vq]using h
 have O:=congrArg UInt8.toNat B;simp only[UInt8.toNat_ofNat']at O;omega
theorem OH{k:Nat}(h:k<12):iL (vq k)=true:=by
 rcases(by omega:k=0\/k=1\/k=2\/k=3\/k=4\/k=5\/k=6\/k=7\/k=8\/k=9\/k=10\/k=11)with rfl|rfl|rfl|rfl|rfl|rfl|rfl|rfl|rfl|rfl|rfl|rfl<;>decide
def Sq(n:Nat):Bool:=ep (Ac n) && !(Ac n).isEmpty&&decide ((Ac n).length<=20)
theorem QO:(cx 258).all Sq=true:=by kernel_rfl
theorem Ms{n:Nat}(h:n<258):ep (Ac n)=true/\Ac n≠[]/\(Ac n).length<=20:=by
 have:=cF.1 QO n (cn.2 h);simp only[Sq,Bool.and_eq_true,decide_eq_true_eq,Bool.not_eq_true',List.isEmpty_eq_false_iff]at this;exact⟨this.1.1,this.1.2,this.2⟩
theorem N3{l m:List Wd}(O:l.Nodup)(hm:m.Nodup)(h:∀x∈l,x∈m):l.length<=m.length:=by
 have U:(m.filter λx=>decide (x∈l)).Perm l:=by
  rw[List.perm_ext_iff_of_nodup (hm.sublist cr) O];intro x;rw[bL];exact⟨λh=>of_decide_eq_true h.2,λB=>⟨h x B,decide_eq_true B⟩⟩
 have Y:=U.length_eq;have h2:=List.length_filter_le (λx=>decide (x∈l)) m;omega
theorem xo{l:List dp}(B:(l.map dp.name).Nodup)(h:Aj l):l.length<=12:=by
 have:=N3 B (m:=(cx 12).map vq) (by decide) λx O=>by
  obtain⟨e,U,rfl⟩:=bK.1 O;obtain⟨k,Y,e1⟩:=h e U;exact bK.2 ⟨k,cn.2 Y,e1.symm⟩
 simpa using this
theorem A3{a b:List dp}(B:Aj a)(hb:Aj b):Aj (dH a b):=λe O=>by
 rcases kJ.1 O with h|h
 .exact B e h.1
 .exact hb e h
theorem vu{a:List dp}(B:Aj a):Aj (dw a):=λe O=>B e (bL.1 O).1
structure Sk(K:List oH)(buf:List dp)(ss:List (List dp)):Prop where
 len:K.length=12
 inv:Inv buf ss
 qi:Aj buf
 CU:∀s∈ss,Aj s
 wP:∀k(h:k<K.length),K[k].there=true->K[k].name=vq k/\(∃n,n<258/\K[k].text=Ac n)/\0<=K[k].dq/\K[k].dq<=1000000/\0<=K[k].dB/\K[k].dB<=255
 there:∀e,e∈eJ ss buf↔∃i,∃h:i<K.length,K[i].there=true/\e=CN K[i]
theorem Sk.new:Sk (List.replicate 12 lG) [] [] where
 len:=by simp
 inv:=JA;qi:=λe h=>by simp at h
 CU:=λs h=>by simp at h
 wP:=λk h B=>by rw[c5]at B; cases B
 there:=λe=>by
  constructor
  .intro h; simp[eJ,lQ,dH,dw]at h
  .rintro⟨i,h,B,_⟩; rw[c5]at B; cases B
section
variable {K:List oH} {buf:List dp} {ss:List (List dp)}
theorem Sk.SV(h:Sk K buf ss):(eJ ss buf).length<=12:=xo (qU h.inv) λe B=>by
 obtain⟨i,hi,O,rfl⟩:=(h.there e).1 B;exact⟨i,by rw[<-h.len]; exact hi,(h.wP i hi O).1⟩
theorem Sk.Dw(h:Sk K buf ss){k:Nat}(hk:k<12){e:dp}{kn:oH}(hI:Inv (dH buf [e]) ss)(hn:e.name=vq k)(hg:kn.there = !e.gone)
  (hq:kn.there=true->CN kn=e/\(∃n,n<258/\kn.text=Ac n)/\0<=kn.dq/\kn.dq<=1000000/\0<=kn.dB/\kn.dB<=255):Sk (K.set k kn) (dH buf [e]) ss where
 len:=by rw[bU]; exact h.len
 inv:=hI
 qi:=A3 h.qi λx hx=>by
  simp only[bS]at hx;rw[hx]; exact⟨k,hk,hn⟩
 CU:=h.CU
 wP:=λi hi ht=>by
  rw[bU]at hi;rw[cf]at ht⊢;split at ht
  .rename_i Y;subst Y;simp only[if_true];obtain⟨B,O⟩:=hq ht;refine⟨?_,O⟩;rw[<-hn,<-B]; rfl
  .rename_i Y;rw[if_neg Y];exact h.wP i hi ht
 there:=λx=>by
  have hT:=h.there x;rw[qD,pU];rw[fp]at hT;rw[bP,bL,ia,hT];have Y:x.name ∉ names [e]↔x.name≠vq k:=by simp[names,hn]
  rw[Y];constructor
  .rintro(⟨⟨i,hi,B,rfl⟩,O⟩|B)
   .refine⟨i,by rw[bU]; exact hi,?_⟩;rw[cf];have:k≠i:=λU=>O (by rw[show(CN K[i]).name=K[i].name from rfl,(h.wP i hi B).1,U]);rw[if_neg this];exact⟨B,rfl⟩
   .obtain⟨O,h3⟩:=bL.1 B;simp only[bS]at O;subst O;have h4:kn.there=true:=by rw[hg]; exact h3
    refine⟨k,by rw[bU,h.len]; exact hk,?_⟩;rw[cf];simp only[if_true];exact⟨h4,(hq h4).1.symm⟩
  .rintro⟨i,hi,B,rfl⟩;rw[bU]at hi;rw[cf]at B⊢;split at B
   .rename_i U;subst U;simp only[if_true];refine .inr (bL.2 ?_);rw[(hq B).1];exact⟨by simp,by rw[<-hg]; exact B⟩
   .rename_i U;rw[if_neg U];refine .inl ⟨⟨i,hi,B,rfl⟩,λe3=>U ?_⟩;rw[show(CN K[i]).name=K[i].name from rfl,(h.wP i hi B).1]at e3;exact(I6 (by rw[<-h.len]; exact hi) hk e3).symm
theorem Sk.QJ(h:Sk K buf ss)(x:Raw)(hx:¬x.dq<0) :
  (jl buf ss (jY x).name (jY x).text (jY x).dq (jY x).dB).1=0/\Sk (qp K x) (jl buf ss (jY x).name (jY x).text (jY x).dq (jY x).dB).2 ss:=by
 have U:=ma x.name 12 (by omega);have Y:=Ms (ma x.text 258 (by omega));have hg:=ma x.dB 256 (by omega);have aa:=h.SV;have hI:=Jp h.inv (jY x).name (jY x).text (jY x).dq (jY x).dB;have O:(jY x).dq=((x.dq.natAbs % 1000001:Nat):Int):=rfl;have B:(jY x).dB=((pk x.dB 256:Nat):Int):=rfl
 have e:jl buf ss (jY x).name (jY x).text (jY x).dq (jY x).dB=(0,dH buf [CN (jY x)]):=by
  unfold jl;rw[if_pos (show iL (jY x).name=true from OH U),if_pos (show ep (jY x).text=true/\(jY x).text≠[]from⟨Y.1,Y.2.1⟩),if_neg (by rw[O,B]; omega),if_neg (by omega)];rfl
 rw[e]at hI⊢;refine⟨rfl,?_⟩;unfold qp;rw[if_neg hx];exact h.Dw U hI rfl rfl λ_=>⟨rfl,⟨_,ma x.text 258 (by omega),rfl⟩,by rw[O]; omega,by rw[O]; omega,by rw[B]; omega,by rw[B]; omega⟩
theorem Sk.del(h:Sk K buf ss)(x:Raw)(hx:x.dq<0) :
  (kC buf ss (vq (pk x.name 12))).1=(if(K.getD (pk x.name 12) lG).there then 0 else 5)/\Sk (qp K x) (kC buf ss (vq (pk x.name 12))).2 ss:=by
 have O:=ma x.name 12 (by omega);obtain⟨k,ek⟩:∃k,k=pk x.name 12:=⟨_,rfl⟩;rw[<-ek]at O;have B:k<K.length:=by rw[h.len]; exact O
 have hI:=JK h.inv (vq k);have U:K.getD k lG=K[k]:=by rw[bO,bJ B]; rfl
 unfold qp;rw[<-ek,if_pos hx,U]
 cases ht:K[k].there with
 |false=>
  have hn:nR (eJ ss buf) (vq k)=none:=pF λhm=>by
   obtain⟨e,he,e1⟩:=bK.1 hm;obtain⟨i,hi,Y,rfl⟩:=(h.there e).1 he;rw[show(CN K[i]).name=K[i].name from rfl,(h.wP i hi Y).1]at e1;have:=I6 (by rw[<-h.len]; exact hi) O e1;subst this;rw[ht]at Y;cases Y
  have e:kC buf ss (vq k)=(5,buf):=by
   unfold kC;rw[if_pos (OH O),if_pos hn]
  rw[e]
  have e2:K.set k {K[k]with there:=false}=K:=by
   have:({K[k]with there:=false}:oH)=K[k]:=by rw[<-ht]
   rw[this,List.set_getElem_self]
  rw[e2];exact⟨rfl,h⟩
 |true=>
  have hn:¬nR (eJ ss buf) (vq k)=none:=λhf=>uC hf (bK.2 ⟨CN K[k],(h.there _).2 ⟨k,B,ht,rfl⟩,(h.wP k B ht).1⟩);have hb:=xo h.inv.nodup h.qi
  have e:kC buf ss (vq k)=(0,dH buf [⟨vq k,true,[],0,0⟩]):=by
   unfold kC;rw[if_pos (OH O),if_neg hn,if_neg (by omega)]
  rw[e]at hI⊢;exact⟨rfl,h.Dw O hI rfl rfl λY=>by simp at Y⟩
theorem Sk.flush(h:Sk K buf ss):Sk K (eV buf ss).2.1 (eV buf ss).2.2/\
  (((eV buf ss).1=0/\((eV buf ss).2.2.length=ss.length+1\/(ss.length=0/\(eV buf ss).2.2.length=0)))\/(((eV buf ss).1=5\/(eV buf ss).1=4)/\(eV buf ss).2.2.length=ss.length)):=by
 have hI:=AG h.inv;unfold eV at hI⊢;split
 .exact⟨h,.inr ⟨.inl rfl,rfl⟩⟩
 .split
  .exact⟨h,.inr ⟨.inr rfl,rfl⟩⟩
  .rename_i hb h6;rw[if_neg hb,if_neg h6]at hI;simp only at hI⊢
   have hT:eJ (if 0<(eY buf ss).length then ss++[eY buf ss]else ss) []=eJ ss buf:=by
    by_cases B:ss.length=0
    .have:ss=[]:=cd.1 B;subst this;have O:eY buf []=dw buf:=by simp[eY]
     rw[O];split
     .rw[fp,fp];show dw (dH (dH [] (dw buf)) [])=dw (dH [] buf);rw[oT,mg,mg,jP]
     .rename_i hz;have Y:dw buf=[]:=cd.1 (by omega);rw[fp,fp];show dw (dH [] [])=dw (dH [] buf);rw[mg,mg,Y];rfl
    .have O:eY buf ss=buf:=by simp[eY,B]
     rw[O,if_pos (by omega),fp,fp,fg (ss++[buf]),oT]
   refine⟨⟨h.len,hI,λe he=>by simp at he,λs hs=>?_,h.wP,λe=>by rw[hT]; exact h.there e⟩,.inl ⟨trivial,?_⟩⟩
   .split at hs
    .rcases bP.1 hs with U|U
     .exact h.CU s U
     .simp only[bS]at U;rw[U];unfold eY;split
      .exact vu h.qi
      .exact h.qi
    .exact h.CU s hs
   .split
    .left; simp
    .rename_i hz;right
     have B:ss.length=0:=by
      by_cases B:ss.length=0
      .exact B
      .exfalso;have O:eY buf ss=buf:=by simp[eY,B]
       rw[O]at hz;omega
     exact⟨B,B⟩
theorem Sk.merge(h:Sk K buf ss)(n:Int):Sk K buf (eP ss n).2/\
  (((eP ss n).1=0/\((eP ss n).2.length+1=ss.length\/(eP ss n).2.length+2=ss.length))\/((eP ss n).1=6/\(eP ss n).2.length=ss.length)):=by
 have Y:=AF h.inv n;by_cases h0:n<0\/(ss.length:Int)-1<=n
 .have e:eP ss n=(6,ss):=by unfold eP; rw[if_pos h0]
  rw[e];exact⟨h,.inr ⟨rfl,rfl⟩⟩
 .obtain⟨k,rfl⟩:∃k:Nat,n=(k:Int):=⟨n.toNat,by omega⟩;have hk:k+1<ss.length:=by omega
  have ha:ss.getD k []∈ss:=by
   rw[bO,bJ (by omega)];exact bN _
  have hb:ss.getD (k+1) []∈ss:=by
   rw[bO,bJ hk];exact bN _
  have B:Aj (dH (ss.getD k []) (ss.getD (k+1) [])):=A3 (h.CU _ ha) (h.CU _ hb);have O:((dH (ss.getD k []) (ss.getD (k+1) [])).map dp.name).Nodup:=pB (h.inv.jg _ ha).nodup (h.inv.jg _ hb).nodup
  have hm:Aj (iy ss k):=by
   unfold iy;split
   .exact vu B
   .exact B
  have hl:(iy ss k).length<=12:=by
   refine xo ?_ hm;unfold iy;split
   .exact mG O
   .exact O
  have e:eP ss (k:Int)=(0,ss.take k++(o9 k (ss.getD k []) (ss.getD (k+1) [])++ss.drop (k+2))):=by
   unfold eP;rw[if_neg h0,Int.toNat_natCast,if_neg (by omega),yk]
  rw[e]at Y⊢;simp only at Y⊢;refine⟨⟨h.len,Y,h.qi,λs hs=>?_,h.wP,λx=>?_⟩,.inl ⟨trivial,?_⟩⟩
  .rcases bP.1 hs with U|U
   .exact h.CU s (cq U)
   .rcases bP.1 U with h2|h2
    .rw[(Jb h2).1];exact hm
    .exact h.CU s (cA h2)
  .have:=vU ss k hk [buf];rw[fp,this,<-fp];exact h.there x
  .have U:=IJ k (ss.getD k []) (ss.getD (k+1) []);simp only[bT,cv,List.length_drop];omega
end
end
section
open Go.RowKit
variable {w y:World}
theorem oR{P:Program}{ops:Array Oper}{Q:Exit->Act->World->Prop}{a:Act}(h:Q .normal a w):nf P ops Q [] a w:=λ_ _ _=>⟨.normal,a,w,h,.one step_region_end⟩
def qq(x:Raw):Value:=.agg #[.int .i64 x.name,.int .i64 x.text,.int .i64 x.dq,.int .i64 x.dB]
def Jz(k:oH):Value:=.agg #[.string ⟨k.name.toArray⟩,.string ⟨k.text.toArray⟩,.int .i64 k.dq,.int .i64 k.dB,.bool k.there]
structure Raw.Ok(x:Raw):Prop where
 n0 : -9223372036854775808<=x.name
 n1:x.name<=9223372036854775807
 t0 : -9223372036854775808<=x.text
 t1:x.text<=9223372036854775807
 w0 : -9223372036854775808<=x.dq
 w1:x.dq<=9223372036854775807
 g0 : -9223372036854775808<=x.dB
 g1:x.dB<=9223372036854775807
theorem uS(w:World)(o:Obj):(w.alloc o).heap[w.heap.size]?=some o:=by simp[World.alloc,-World.alloc_eq]
theorem ku{a:Addr}{v:Value}(h:l6 w y)(B:w.cell? a=some v):y.cell? a=some v:=by
 obtain⟨τ,O⟩:=h;exact gf a v _ _ (show(tp w τ).cell? a=some v from B) O
theorem Eh(w:World)(a:Addr)(v:Value):(w.setCell a v).os=w.os:=rfl
theorem tN(w:World)(a:Addr)(v:Value):(w.setCell a v).tape=w.tape:=rfl
theorem ze(w:World)(a:Addr)(v:Value):(w.setCell a v).output=w.output:=rfl
structure SL(y y5:World)(b o:Nat)(cs:Array Value)(t:dj)(v0 v1 v2 v3 v4:Value):Prop where
 blk:y5.heap[b]?=some (.cells (((((cs.setIfInBounds o v0).setIfInBounds (o+1) v1).setIfInBounds (o+2) v2).setIfInBounds (o+3) v3).setIfInBounds (o+4) v4) t (0,0))
 other:∀k,k≠b->y5.heap[k]?=y.heap[k]?
 size:y5.heap.size=y.heap.size
 os:y5.os=y.os
 tape:y5.tape=y.tape
 output:y5.output=y.output
theorem IK{b o:Nat}{cs:Array Value}{t:dj}(h:y.heap[b]?=some (.cells cs t (0,0)))(B O U Y v4:Value):SL y (((((y.setCell ⟨b,o,none⟩ B).setCell ⟨b,o+1,none⟩ O).setCell ⟨b,o+2,none⟩ U).setCell ⟨b,o+3,none⟩ Y).setCell ⟨b,o+4,none⟩ v4) b o cs t B O U Y v4 where
 blk:=by
  have h0:=heap_set h o B;have h1:=heap_set h0 (o+1) O;have h2:=heap_set h1 (o+2) U;have h3:=heap_set h2 (o+3) Y;exact heap_set h3 (o+4) v4
 other k hk:=by rw[ew _ _ _ _ hk,ew _ _ _ _ hk,ew _ _ _ _ hk,ew _ _ _ _ hk,ew _ _ _ _ hk]
 size:=by simp
 os:=by rw[Eh,Eh,Eh,Eh,Eh]
 tape:=by rw[tN,tN,tN,tN,tN]
 output:=by rw[ze,ze,ze,ze,ze]
theorem NF(h:l6 w y)(B:y.tape=w.tape):eX w y:=by
 obtain⟨τ,O,h2,U,Y,h5⟩:=h;exact⟨O,B,U,Y,h5⟩
theorem I2(x:Raw)(hx:x.Ok)(w:World):di prog 22 #[qq x] w λe w'=>e=.returned (Jz (jY x))/\eX w w':=by
 obtain⟨xn,xt,Y,xg⟩:=x;obtain⟨n0,n1,t0,t1,w0,w1,g0,g1⟩:=hx;simp only at n0 n1 t0 t1 w0 w1 g0 g1;unfold qq;simp only;obtain⟨q,hq⟩:∃q:Int,q=((Y.natAbs % 1000001:Nat):Int):=⟨_,rfl⟩;have ac:0<=q:=by omega
 have ad:q<=1000000:=by omega
 obtain⟨wa,U⟩:∃wa,wa=(w.alloc (.cells #[.int .i64 xn,.int .i64 xt,.int .i64 Y,.int .i64 xg] 48)).alloc (.cells #[.string ⟨#[]⟩,.string ⟨#[]⟩,.int .i64 0,.int .i64 0,.bool false] 36):=⟨_,rfl⟩;have aa:e7 (eX w wa):=by rw[U]; exact(eX.alloc _ _).trans (eX.alloc _ _)
 have hA:wa.heap[w.heap.size]?=some (.cells #[.int .i64 xn,.int .i64 xt,.int .i64 Y,.int .i64 xg] 48 (0,0)):=by rw[U,(eX.alloc _ _).block _ (by simp)]; exact uS _ _
 have hB:wa.heap[w.heap.size+1]?=some (.cells #[.string ⟨#[]⟩,.string ⟨#[]⟩,.int .i64 0,.int .i64 0,.bool false] 36 (0,0)):=by
  rw[U,<-ff]; exact uS _ _
 have HB:e7 _:=hB;have d0:wa.cell? ⟨w.heap.size,0,none⟩=some (.int .i64 xn):=by rw[dh hA]; rfl
 have d1:wa.cell? ⟨w.heap.size,1,none⟩=some (.int .i64 xt):=by rw[dh hA]; rfl
 have d2:wa.cell? ⟨w.heap.size,2,none⟩=some (.int .i64 Y):=by rw[dh hA]; rfl
 have d3:wa.cell? ⟨w.heap.size,3,none⟩=some (.int .i64 xg):=by rw[dh hA]; rfl
 have HN:e7 (∀y,di prog 23 #[.int .i64 xn] y λe w'=>e=.returned (.string ⟨(vq (pk xn 12)).toArray⟩)/\y=w'):=λy=>Bz xn y n0 n1;have HT:e7 (∀y,di prog 45 #[.int .i64 xt] y λe w'=>e=.returned (.string ⟨(Ac (pk xt 258)).toArray⟩)/\eX y w'):=λy=>Bf xt y t0 t1;have HP:e7 (∀y,di prog 15 #[.int .i64 xg,.int .i64 256] y λe w'=>e=.returned (.int .i64 (pk xg 256:Nat))/\y=w'):=λy=>ib xg 256 y g0 g1 (by omega) (by omega)
 have HK:e7 (Jz (jY ⟨xn,xt,Y,xg⟩)=.agg #[.string ⟨(vq (pk xn 12)).toArray⟩,.string ⟨(Ac (pk xt 258)).toArray⟩,.int .i64 q,.int .i64 (pk xg 256:Nat),.bool true]):=by
  show Jz _=_;rw[hq]; rfl
 rw[HK.out];clear hA hB HK;generalize (⟨(vq (pk xn 12)).toArray⟩:ByteArray)=sn at *;generalize (⟨(Ac (pk xt 258)).toArray⟩:ByteArray)=st at *;generalize ((pk xg 256:Nat):Int)=gg at *
 have key:(Y.tmod 1000001 = -q/\-q<0)\/(Y.tmod 1000001=q/\¬q<0):=by
  by_cases ab:0<=Y
  .have:=g9 (a:=Y) (b:=1000001) ab;omega
  .have:=g9 (a:=-Y) (b:=1000001) (by omega);rw[Int.neg_tmod]at this;omega
 have k1:IntKind.i64.wrap (-q) = -q:=by simp only[gx]; omega
 have k2:IntKind.i64.wrap q=q:=by simp only[gx]; omega
 clear hq;rcases key with⟨hr,hl⟩|⟨hr,hl⟩
 all_goals
  go_enter func22,ntmps22;go_wp2_with fail;rw[<-U];clear U;refine gO (Sd:=λa y=>y.tape=wa.tape->nf _ _ _ [11] a y) (last:=11) (tl:=[]) (by kernel_rfl) ?_ (λa y h ht=>h ht);refine dD 0 ?_ ?_<|dD 1 ?_ ?_ ?_
  any_goals(intro y O; have q0:=ku O d0; unfold gm; go_simp; refine⟨eX.refl _,?_⟩; with_reducible rfl)
  go_simp;refine dD 2 ?_ ?_ ?_;rotate_left
  .intro y O; unfold gm; go_simp; refine⟨rfl,(HN.out y).mono ?_⟩; rintro e y2 ⟨rfl,rfl⟩; refine⟨_,rfl,eX.refl _,?_⟩; with_reducible rfl
  go_simp;refine dD 3 ?_ ?_<|dD 4 ?_ ?_ ?_
  any_goals(intro y O; have q0:=ku O d1; unfold gm; go_simp; refine⟨eX.refl _,?_⟩; with_reducible rfl)
  go_simp;refine dD 5 ?_ ?_ ?_;rotate_left
  .intro y O; unfold gm; go_simp; refine⟨rfl,(HT.out y).mono ?_⟩; rintro e y2 ⟨rfl,h2⟩; refine⟨_,rfl,h2,?_⟩; with_reducible rfl
  go_simp;refine dD 6 ?_ ?_<|dD 7 ?_ ?_<|dD 8 ?_ ?_ ?_
  any_goals(intro y O; have q0:=ku O d3; unfold gm; go_simp; refine⟨eX.refl _,?_⟩; with_reducible rfl)
  go_simp;refine dD 9 ?_ ?_ ?_;rotate_left
  .intro y O; unfold gm; go_simp; refine⟨rfl,(HP.out y).mono ?_⟩; rintro e y2 ⟨rfl,rfl⟩; refine⟨_,rfl,eX.refl _,?_⟩; with_reducible rfl
  go_simp;refine dD 10 ?_ ?_ ?_
  any_goals(intro y O; unfold gm; go_simp; refine⟨eX.refl _,?_⟩; with_reducible rfl)
  go_simp;refine nX (by kernel_rfl) (λt=>Dd (by kernel_rfl) _ _) ?_;intro y O ht;refine kF rfl rfl ?_
  have B:y.heap[w.heap.size+1]?=some (.cells #[.string ⟨#[]⟩,.string ⟨#[]⟩,.int .i64 0,.int .i64 0,.bool false] 36 (0,0)):=by
   obtain⟨τ,he⟩:=O;exact(he.block _ (cK.1 HB.out).1).trans HB.out
  have c0:y.cell? ⟨w.heap.size+1,0,none⟩=some (.string ⟨#[]⟩):=by rw[dh B]; rfl
  have c1:y.cell? ⟨w.heap.size+1,1,none⟩=some (.string ⟨#[]⟩):=by rw[dh B]; rfl
  have c2:y.cell? ⟨w.heap.size+1,2,none⟩=some (.int .i64 0):=by rw[dh B]; rfl
  have c3:y.cell? ⟨w.heap.size+1,3,none⟩=some (.int .i64 0):=by rw[dh B]; rfl
  have c4:y.cell? ⟨w.heap.size+1,4,none⟩=some (.bool false):=by rw[dh B]; rfl
  have f0:=dJ B;unfold gm;go_simp;refine oR ?_;have S:=IK (o:=0) B (.string sn) (.string st) (.int .i64 q) (.int .i64 gg) (.bool true);have hE:eX w y:=aa.out.trans (NF O ht);clear c0 c1 c2 c3 c4 f0 B O ht;change SL y (((((y.setCell ⟨w.heap.size+1,0,none⟩ (.string sn)).setCell ⟨w.heap.size+1,1,none⟩ (.string st)).setCell ⟨w.heap.size+1,2,none⟩ (.int .i64 q)).setCell ⟨w.heap.size+1,3,none⟩ (.int .i64 gg)).setCell ⟨w.heap.size+1,4,none⟩ (.bool true)) _ _ _ _ _ _ _ _ _ at S;generalize ((((y.setCell ⟨w.heap.size+1,0,none⟩ (.string sn)).setCell ⟨w.heap.size+1,1,none⟩ (.string st)).setCell ⟨w.heap.size+1,2,none⟩ (.int .i64 q)).setCell ⟨w.heap.size+1,3,none⟩ (.int .i64 gg)).setCell ⟨w.heap.size+1,4,none⟩ (.bool true)=y5 at *;have e0:y5.cell? ⟨w.heap.size+1,0,none⟩=some (.string sn):=by rw[dh S.blk]; rfl
  have e1:y5.cell? ⟨w.heap.size+1,1,none⟩=some (.string st):=by rw[dh S.blk]; rfl
  have e2:y5.cell? ⟨w.heap.size+1,2,none⟩=some (.int .i64 q):=by rw[dh S.blk]; rfl
  have e3:y5.cell? ⟨w.heap.size+1,3,none⟩=some (.int .i64 gg):=by rw[dh S.blk]; rfl
  have e4:y5.cell? ⟨w.heap.size+1,4,none⟩=some (.bool true):=by rw[dh S.blk]; rfl
  have HE:e7 (eX w y5):=⟨S.os.trans hE.os,S.tape.trans hE.tape,S.output.trans hE.output,by rw[S.size]; exact hE.size,λk hk=>(S.other k (by omega)).trans (hE.block k hk)⟩;clear S hE HN HT HP aa HB;go_wp2
  try simp only[Exit.inBlock,Exit.then]
  exact bodyPost_ret (v:=.agg #[.string sn,.string st,.int .i64 q,.int .i64 gg,.bool true]) (by simp[ee,results22,go_sem,e0,e1,e2,e3,e4]) rfl ⟨rfl,HE.out⟩
end
section
def ea:dp:=⟨[97],false,[78,101,119,32,89,111,114,107],50,1⟩
def eb:dp:=⟨[98],false,[78,101,119,97,114,107],70,3⟩
def ec:dp:=⟨[99],false,[89,111,114,107],60,1⟩
def gb:dp:=⟨[98],true,[],0,0⟩
theorem t1:jl [] [] ea.name ea.text 50 1=(0,[ea]):=by kernel_rfl
theorem t2:jl [ea] [] eb.name eb.text 70 3=(0,[ea,eb]):=by kernel_rfl
theorem t3:jl [ea,eb] [] ec.name ec.text 60 1=(0,[ea,eb,ec]):=by kernel_rfl
theorem t4:(vd (eJ [] [ea,eb,ec]) 0 [110,101,119] 0 5).1=[gr eb,gr ea]:=by kernel_rfl
theorem t5:(vd (eJ [] [ea,eb,ec]) 1 [89,79,82,75] 0 5).1=[gr ec,gr ea]:=by kernel_rfl
theorem t6:(vd (eJ [] [ea,eb,ec]) 2 [110,119,101] 2 5).1=[gr eb]:=by kernel_rfl
theorem t7:(eV [ea,eb,ec] [])=(0,[],[[ea,eb,ec]]):=by kernel_rfl
theorem t8:kC [] [[ea,eb,ec]] [98]=(0,[gb]):=by kernel_rfl
theorem t9:(eV [gb] [[ea,eb,ec]])=(0,[],[[ea,eb,ec],[gb]]):=by kernel_rfl
theorem t10:qk [[ea,eb,ec],[gb]] 1=([1,1,98,0,0,0,0,0,0],0):=by kernel_rfl
theorem t11:(eP [[ea,eb,ec],[gb]] 0).1=0/\(eP [[ea,eb,ec],[gb]] 0).2.length=1:=by constructor<;>kernel_rfl
def TH:List (List Wd):=[[[116,104,101],[99,97,116],[115,97,116]]]
def T7:List (List Wd):=[[[116,104,101],[99,97,116],[115,97,116]],[[116,104,101],[99,97,116],[114,97,110]]]
theorem t12:rY [] [116,104,101,32,99,97,116,32,115,97,116]=(0,TH):=by kernel_rfl
theorem t13:rY TH [116,104,101,32,99,97,116,32,114,97,110]=(0,T7):=by kernel_rfl
theorem t14:uM T7 [116,104,101,32,99,97,116] 2=([[114,97,110],[115,97,116]],0):=by kernel_rfl
theorem t15:gr ea=[97,32,53,48,32,78,101,119,32,89,111,114,107]:=by
 unfold gr;rw[show ea.dq.toNat=50 from rfl,oS (by omega),qy (by omega)];rfl
theorem t16:gr eb=[98,32,55,48,32,78,101,119,97,114,107]:=by
 unfold gr;rw[show eb.dq.toNat=70 from rfl,oS (by omega),qy (by omega)];rfl
theorem t17:gr ec=[99,32,54,48,32,89,111,114,107]:=by
 unfold gr;rw[show ec.dq.toNat=60 from rfl,oS (by omega),qy (by omega)];rfl
end
section
open Go.Conc Go.RowKit Go.Maps
variable {ops:Array Oper} {rest:List Nat} {xs:List Wd} {c:Nat} {o:Oper} {y:World}
theorem mn{w:World}(B:y.heap=w.heap)(O:y.os=w.os):lz w y:=⟨O,by rw[B]; exact cX _,λk _=>by rw[B]⟩
def WT(w:World):Prop:=Mc w/\lC w
theorem pN{w:World}(h:lC w/\5<=w.heap.size)(B:lz w y):lC y:=Gv h.1 λr O=>B.block r (by have:=h.2; omega)
theorem xh{w:World}(h:WT w)(U:5<=w.heap.size)(O:lz w y):WT y:=by
 have B:∀j,y.cell? ⟨0,j,none⟩=w.cell? ⟨0,j,none⟩:=λj=>by simp only[eC]; rw[O.block 0 (by omega)]
 exact⟨⟨(B 0).trans h.1.1,(B 1).trans h.1.2.1,(B 2).trans h.1.2.2⟩,pN ⟨h.2,U⟩ O⟩
structure rn(w0 w:World)(b:Nat)(buf:List dp)(ss:List (List dp))(ts:List (List Wd))(us:List (Value×List Wd)):Prop where
 x:∃F1 F2:Nat->Prop,AW w0 w F1 F2 b buf ss ts/\∀p∈us,Kept w F1 F2 p.1 p.2
section
variable {w0 w w':World} {b:Nat} {buf buf':List dp} {ss ss':List (List dp)} {ts ts':List (List Wd)} {us:List (Value×List Wd)}
theorem rn.low(h:rn w0 w b buf ss ts us)(B:lz w w'):rn w0 w' b buf ss ts us:=by
 obtain⟨F1,F2,O,U⟩:=h;exact⟨F1,F2,O.same B,λp Y=>(U p Y).step (St.same B)⟩
theorem rn.of{f:dk}{args:Array Value}{r:Value}(h:rn w0 w b buf ss ts us)(U:∀F1 F2,AW w0 w F1 F2 b buf ss ts->di prog f args w λe w'=>e=.returned r/\∃B O,AW w0 w' B O b buf' ss' ts'/\St w w' F1 F2 B O) :
  di prog f args w λe w'=>e=.returned r/\rn w0 w' b buf' ss' ts' us:=by
 obtain⟨F1,F2,Y,h2⟩:=h;refine(U F1 F2 Y).mono ?_;rintro e w' ⟨rfl,B,O,k1,k2⟩;exact⟨rfl,B,O,k1,λp hp=>(h2 p hp).step k2⟩
theorem rn.QJ(h:rn w0 w b buf ss ts us)(s t:ByteArray)(x y:Int)(e:jl buf ss s.data.toList t.data.toList x y=(c,buf'))(B:s.size<=dg:=by decide)(O:t.size<=dg:=by decide) :
  di prog 38 #[.pointer (some ⟨b,0,none⟩),.string s,.string t,.int .i64 x,.int .i64 y] w λe w'=>e=.returned (.int .i64 c)/\rn w0 w' b buf' ss ts us:=
 h.of λF1 F2 k=>by
  have:=k.QJ s t x y B O;rw[e]at this;exact this.mono λ_ _ ⟨h,U,k⟩=>⟨h,U,F2,k⟩
theorem rn.del(h:rn w0 w b buf ss ts us)(s:ByteArray)(e:kC buf ss s.data.toList=(c,buf'))(B:s.size<=dg:=by decide):di prog 37 #[.pointer (some ⟨b,0,none⟩),.string s] w λe w'=>e=.returned (.int .i64 c)/\rn w0 w' b buf' ss ts us:=
 h.of λF1 F2 k=>by
  have:=k.del s B;rw[e]at this;exact this.mono λ_ _ ⟨h,O,k⟩=>⟨h,O,F2,k⟩
theorem rn.flush(h:rn w0 w b buf ss ts us)(e:eV buf ss=(c,buf',ss')):di prog 29 #[.pointer (some ⟨b,0,none⟩)] w λe w'=>e=.returned (.int .i64 c)/\rn w0 w' b buf' ss' ts us:=
 h.of λF1 F2 k=>by
  have:=k.flush;rw[e]at this;exact this.mono λ_ _ ⟨h,B,k⟩=>⟨h,B,F2,k⟩
theorem rn.merge(h:rn w0 w b buf ss ts us)(n:Int)(e:eP ss n=(c,ss')):di prog 39 #[.pointer (some ⟨b,0,none⟩),.int .i64 n] w λe w'=>e=.returned (.int .i64 c)/\rn w0 w' b buf ss' ts us:=
 h.of λF1 F2 k=>by
  have:=k.merge n;rw[e]at this;exact this.mono λ_ _ ⟨h,B,k⟩=>⟨h,B,F2,k⟩
theorem rn.observe(h:rn w0 w b buf ss ts us)(s:ByteArray)(e:rY ts s.data.toList=(c,ts'))(B:gp ts<=16777216:=by exact db (by kernel_rfl))(O:s.size<=dg:=by decide):di prog 34 #[.pointer (some ⟨b,0,none⟩),.string s] w λe w'=>e=.returned (.int .i64 c)/\rn w0 w' b buf ss ts' us:=
 h.of λF1 F2 k=>by
  have:=k.observe s B O;rw[e]at this;exact this.mono λ_ _ ⟨h,U,k⟩=>⟨h,F1,U,k⟩
theorem rn.BJ(h:rn w0 w b buf ss ts us)(O:WT w)(s:ByteArray)(most:Int)(e:uM ts s.data.toList most=(xs,0))(U:gp ts<=16777216:=by exact db (by kernel_rfl))(Y:s.size<=dg:=by decide) :
  di prog 35 #[.pointer (some ⟨b,0,none⟩),.string s,.int .i64 most] w λe w'=>∃a n,e=.returned (.tuple #[.slice a xs.length n,.int .i64 (0:Nat)])/\rn w0 w' b buf ss ts ((.slice a xs.length n,xs)::us):=by
 obtain⟨F1,F2,h1,h2⟩:=h;have:=h1.BJ O.1 s most U Y;rw[e]at this;refine this.mono ?_;rintro e w' ⟨v,rfl,k1,k2,k3⟩;obtain⟨a,n,rfl,_⟩:=dM k1.1;refine⟨a,n,rfl,F1,F2,k2,λp B=>?_⟩;rcases cc.1 B with rfl|B
 .exact k1
 .exact(h2 p B).step (St.same k3)
theorem rn.kept(h:rn w0 w b buf ss ts us){v:Value}(B:(v,xs)∈us):∃F1 F2,Kept w F1 F2 v xs:=by
 obtain⟨F1,F2,U,O⟩:=h;exact⟨F1,F2,O _ B⟩
theorem rn.RQ(h:rn w0 w b buf ss ts us):∃B O F1,sL B O w F1 b buf ss:=by
 obtain⟨F1,F2,U,h2⟩:=h;obtain⟨B,O,Y⟩:=U.RQ;exact⟨B,O,F1,Y⟩
theorem rn.base(h:rn w0 w b buf ss ts us):lz w0 w:=by
 obtain⟨F1,F2,B,O⟩:=h;exact B.low
end
section
variable {Z:j8 prog} {W0:World} {Mp:Nat->Prop} {fn:dk} {tm:Array Value} {os:List OF} {wl:World} {k:List Item} {V:List (Nat×Option (List Value))}
theorem rn.comp{w0:World}{b:Nat}{buf:List dp}{ss:List (List dp)}{ts:List (List Wd)}{us:List (Value×List Wd)}{i:Nat}{xs:Array Operand}{aa:Array dj}(mode dB most n:Nat)(qb:ByteArray){ls:List Wd}(h:rn w0 wl b buf ss ts us)(h5:5<=w0.heap.size)(O:lC wl)(e:(vd (eJ ss buf) mode qb.data.toList dB most).1=ls)
  (hn:∀(w2:World)(a:Option Addr)(c:Nat),rn w0 w2 b buf ss ts ((.slice a n c,ls)::us)->dl (fy Z W0 Mp) (⟨fn,eN o.dst tm (.tuple #[.slice a n c,.int .i64 0]),.inRegion ops rest::k⟩::os) w2 []) (hl:ls.length=n:=by rfl) (hq:ep qb.data.toList=true:=by decide)
  (hi:ops[i]?=some o:=by rfl) (ab:fm o (dt ops tm)=true:=by rfl) (ho:o.op=.call {callee:=.value (.func 17),args:=xs,argTypes:=aa}:=by rfl) (ac:∀x∈xs.toList,dN (fy Z W0 Mp).fq (fy Z W0 Mp).gl x:=by simp[dN,Plain])
  (ha:xs.map (iI tm)=#[.pointer (some ⟨b,0,none⟩),.int .i64 (mode:Int),.string qb,.int .i64 (dB:Int),.int .i64 (most:Int)]:=by kernel_rfl) (hm:mode<=3:=by omega) (ht:dB<=255:=by omega) (U:1<=most:=by omega) (Y:most<=20:=by omega):dl (fy Z W0 Mp) (⟨fn,tm,.inRegion ops (i::rest)::k⟩::os) wl []:=by
 obtain⟨F1,F2,h1,h2⟩:=h;obtain⟨vM,vK,_,_,_,B⟩:=h1.RQ;have hI:=B.inv;refine h1.QD h5 O hq (λw2 u L k1 ad B hs hk=>?_) hi ab ho ac ha hm ht U Y;rw[vT (qU hI) (λe he=>(AN hI he).1) hm ht U Y hq B hs,e]at hk;obtain⟨a,c,rfl,_⟩:=dM hk.1;rw[hl];refine hn w2 a c ⟨F1,F2,k1,λp B=>?_⟩;rcases cc.1 B with rfl|B
 .rw[<-hl]; exact hk
 .exact(h2 p B).step (St.same ad)
theorem ll{c d:Code}(h:∀O,e7 (O=.code d::k)->∀y,lz wl y->c.wp prog (Ez (fy Z W0 Mp) fn O os V) ⟨tm,[]⟩ y)(B:jq (λo=>Du prog se qm true o.op) c=true:=by kernel_rfl)(U:(Item.code d::k).all jG=true:=by rfl):dl (fy Z W0 Mp) (⟨fn,tm,.code (.seq c d)::k⟩::os) wl V:=
 dl.seq (dl.Ej (mU B) U (.inr λ_ h=>by cases h) λτ _=>h _ rfl _ ⟨rfl,cX _,λ_ _=>rfl⟩)
theorem iO{P:Program}{E:Env P}{tmps:Array Value}{w':World}{B:List Item}(O:e7 (B=k))(h:dl E (⟨fn,tmps,k⟩::os) w' V):Ez E fn B os V .normal ⟨tmps,[]⟩ w':=by
 rw[O.out];exact e9 h
theorem GM{i:Nat}(hi:ops[i]?=some o)(hW:WT wl)(h5:5<=wl.heap.size)(hn:∀w2:World,lz wl w2->dl (fy Z W0 Mp) (⟨fn,eN o.dst tm (.bool true),.inRegion ops rest::k⟩::os) w2 []) :
  dl (fy Z W0 Mp) (⟨32,#[gB,gB,gB,gB,gB,gB,gB,gB,gB,gB,gB,gB,gB,gB,gB,gB,gB,gB,gB,gB,gB,gB,gB,gB,gB,gB,gB,gB,gB,gB,gB,gB,gB,gB,gB,gB,gB,gB,gB,gB,gB,gB,gB,gB,gB,gB,gB,gB,gB,gB,gB,gB,gB,gB,gB,gB,gB,gB,gB,gB,gB,gB,gB,gB,gB,gB,gB,gB,gB,gB,gB,gB,gB,gB,gB,gB,gB,gB,gB,gB,gB,gB,gB,gB,gB,gB,gB,gB,gB,gB,gB,gB,gB,gB,gB,gB,gB,gB,gB,gB,gB,gB,gB,gB,gB,gB,gB,gB,gB,gB,gB,gB,gB,gB,gB,gB,gB,gB,gB,gB,gB,gB,gB,gB,gB,gB,gB,gB,gB,gB,gB,gB,gB,gB,gB,gB,gB,gB,gB,gB,gB,gB,gB,gB,gB,gB,gB,gB,gB,gB,gB,gB,gB,gB],[.code (dX f32)]⟩::⟨fn,tm,.inRegion ops (i::rest)::k⟩::os) wl []:=by
 have HN:e7 _:=And.intro hW (And.intro h5 hn);clear hW h5 hn;show dl _ (⟨_,_,[.code (.seq (.region 0 _ false) (.seq (.region 1 _ false) (.seq (.seq (.region 2 _ false) (.cond _ _ .skip)) (.seq (.region 4 _ false) (.seq (.region 5 _ false) (.seq (.region 6 _ false) (.seq (.region 7 _ false) (.seq (.region 8 _ false) (.seq (.region 9 _ false) (.seq (.region 10 _ false) (.seq (.region 11 _ false) (.seq (.region 12 _ false) (.seq (.region 13 _ false) (.seq (.region 14 _ false) (.seq (.region 15 _ false) (.seq (.region 16 _ false) (.seq (.region 17 _ false) (.seq (.seq (.region 18 _ false) (.cond _ _ .skip)) (.seq (.region 20 _ false) (.seq (.region 21 _ false) (.seq (.region 22 _ false) (.seq (.region 23 _ false) (.seq (.region 24 _ false) (.seq (.region 25 _ false) .ret))))))))))))))))))))))))]⟩::_) _ _;refine dl.sr λY B=>?_
 (refine dG ?_; go_simp);refine dl.ie B ?_;clear B Y;refine ll λY B y O=>?_;have C:=Te y;have HL:e7 _:=O;clear O;go_wp2_with fail;refine C.mono ?_;clear C;rintro e w ⟨b,F1,F2,rfl,hA,hb⟩
 have U:e7 (rn wl w b [] [] [] []):=by
  have h0:=HL.out;exact⟨F1,F2,⟨hA.j,λk hk=>cY h0.size (hA.Th k hk),λk hk=>cY h0.size (hA.Pq k hk),h0.trans hA.low⟩,λp hp=>by cases hp⟩
 clear hA hb HL;go_wp2;refine iO B ?_;clear B Y;refine dl.seq (dl.sr λY B=>?_)
 (refine dG ?_; go_simp)
 (refine dG ?_; go_simp);refine dl.ie B ?_;clear B Y;refine dl.nL trivial rfl (dl.skip ?_);refine ll λY B y O=>?_;have C:=(U.out.low O).QJ ⟨#[97]⟩ ⟨#[78,101,119,32,89,111,114,107]⟩ 50 1 t1;clear O;go_wp2_with fail;refine C.mono ?_;clear C;rintro e w ⟨rfl,hA⟩;have U:e7 _:=hA;clear hA;go_wp2;refine iO B ?_;clear B Y;refine ll λY B y O=>?_;have C:=(U.out.low O).QJ ⟨#[98]⟩ ⟨#[78,101,119,97,114,107]⟩ 70 3 t2;clear O;go_wp2_with fail;refine C.mono ?_;clear C;rintro e w ⟨rfl,hA⟩;have U:e7 _:=hA;clear hA;go_wp2;refine iO B ?_;clear B Y;refine ll λY B y O=>?_;have C:=(U.out.low O).QJ ⟨#[99]⟩ ⟨#[89,111,114,107]⟩ 60 1 t3;clear O;go_wp2_with fail;refine C.mono ?_;clear C;rintro e w ⟨rfl,hA⟩;have U:e7 _:=hA;clear hA;go_wp2;refine iO B ?_;clear B Y;refine dl.sr λY B=>?_
 (refine dG ?_; go_simp);refine U.out.comp (i:=1) 0 0 5 2 ⟨#[110,101,119]⟩ HN.out.2.1 (pN ⟨HN.out.1.2,HN.out.2.1⟩ U.out.base) t4 λw a0 c0 hA=>?_;have U:e7 _:=hA;clear hA;rw[fA];go_simp
 (refine dG ?_; go_simp)
 (refine dG ?_; go_simp)
 (refine dG ?_; go_simp)
 (refine dG ?_; go_simp)
 (refine dG ?_; go_simp);refine dl.ie B ?_;clear B Y;refine dl.sr λY B=>?_
 (refine dG ?_; go_simp);refine U.out.comp (i:=1) 1 0 5 2 ⟨#[89,79,82,75]⟩ HN.out.2.1 (pN ⟨HN.out.1.2,HN.out.2.1⟩ U.out.base) t5 λw a1 c1 hA=>?_;have U:e7 _:=hA;clear hA;rw[fA];go_simp
 (refine dG ?_; go_simp)
 (refine dG ?_; go_simp)
 (refine dG ?_; go_simp)
 (refine dG ?_; go_simp)
 (refine dG ?_; go_simp);refine dl.ie B ?_;clear B Y;refine dl.sr λY B=>?_
 (refine dG ?_; go_simp);refine U.out.comp (i:=1) 2 2 5 1 ⟨#[110,119,101]⟩ HN.out.2.1 (pN ⟨HN.out.1.2,HN.out.2.1⟩ U.out.base) t6 λw a2 c2 hA=>?_;have U:e7 _:=hA;clear hA;rw[fA];go_simp
 (refine dG ?_; go_simp)
 (refine dG ?_; go_simp)
 (refine dG ?_; go_simp)
 (refine dG ?_; go_simp)
 (refine dG ?_; go_simp);refine dl.ie B ?_;clear B Y;refine ll λY B y O=>?_;have C:=(U.out.low O).flush t7;clear O;go_wp2_with fail;refine C.mono ?_;clear C;rintro e w ⟨rfl,hA⟩;have U:e7 _:=hA;clear hA;go_wp2;refine iO B ?_;clear B Y;refine ll λY B y O=>?_;have C:=(U.out.low O).del ⟨#[98]⟩ t8;clear O;go_wp2_with fail;refine C.mono ?_;clear C;rintro e w ⟨rfl,hA⟩;have U:e7 _:=hA;clear hA;go_wp2;refine iO B ?_;clear B Y;refine ll λY B y O=>?_;have C:=(U.out.low O).flush t9;clear O;go_wp2_with fail;refine C.mono ?_;clear C;rintro e w ⟨rfl,hA⟩;have U:e7 _:=hA;clear hA;go_wp2;refine iO B ?_;clear B Y;refine ll λY B y O=>?_;obtain⟨vM,vK,F1,hp⟩:=(U.out.low O).RQ;have C:=Sy y F1 b [] [[ea,eb,ec],[gb]] 1 hp;rw[t10]at C;have U:e7 _:=U.out.low O;clear hp;clear O;go_wp2_with fail;refine C.mono ?_;clear C;rintro e w ⟨rfl,rfl⟩;go_wp2;refine iO B ?_;clear B Y;refine ll λY B y O=>?_;have C:=(U.out.low O).merge 0 (Prod.ext t11.1 rfl);clear O;go_wp2_with fail;refine C.mono ?_;clear C;rintro e w ⟨rfl,hA⟩;have U:e7 _:=hA;clear hA;go_wp2;refine iO B ?_;clear B Y;refine ll λY B y O=>?_;have C:=(U.out.low O).observe ⟨#[116,104,101,32,99,97,116,32,115,97,116]⟩ t12;clear O;go_wp2_with fail;refine C.mono ?_;clear C;rintro e w ⟨rfl,hA⟩;have U:e7 _:=hA;clear hA;go_wp2;refine iO B ?_;clear B Y;refine ll λY B y O=>?_;have C:=(U.out.low O).observe ⟨#[116,104,101,32,99,97,116,32,114,97,110]⟩ t13;clear O;go_wp2_with fail;refine C.mono ?_;clear C;rintro e w ⟨rfl,hA⟩;have U:e7 _:=hA;clear hA;go_wp2;refine iO B ?_;clear B Y;refine ll λY B y O=>?_;have A:=U.out.low O;have C:=A.BJ (xh HN.out.1 HN.out.2.1 A.base) ⟨#[116,104,101,32,99,97,116]⟩ 2 t14;clear A;clear O;go_wp2_with fail;refine C.mono ?_;clear C;rintro e w ⟨a4,c4,rfl,hA⟩;have U:e7 _:=hA;clear hA;go_wp2;refine iO B ?_;clear B Y;refine dl.seq (ll λY B y O=>?_);have U:e7 _:=U.out.low O;clear O;go_wp2;refine iO B ?_;clear B Y;refine dl.nL trivial rfl (dl.skip ?_);refine ll λY B y O=>?_;have U:e7 _:=U.out.low O;obtain⟨F1,F2,h⟩:=U.out.kept (.tail _ (.tail _ (.tail _ (.head _))));have C:=M1 _ _ h;simp only[t15,t16,t17]at C;clear h;clear O;go_wp2_with fail;refine C.mono ?_;clear C;rintro e w ⟨rfl,rfl⟩;go_wp2;refine iO B ?_;clear B Y;refine ll λY B y O=>?_;have U:e7 _:=U.out.low O;obtain⟨F1,F2,h⟩:=U.out.kept (.tail _ (.tail _ (.head _)));have C:=M1 _ _ h;simp only[t15,t16,t17]at C;clear h;clear O;go_wp2_with fail;refine C.mono ?_;clear C;rintro e w ⟨rfl,rfl⟩;go_wp2;refine iO B ?_;clear B Y;refine ll λY B y O=>?_;have U:e7 _:=U.out.low O;obtain⟨F1,F2,h⟩:=U.out.kept (.tail _ (.head _));have C:=SB _ ⟨#[]⟩ h;simp only[t15,t16,t17]at C;clear h;clear O;go_wp2_with fail;refine C.mono ?_;clear C;rintro e w ⟨rfl,rfl⟩;go_wp2;refine iO B ?_;clear B Y;refine ll λY B y O=>?_;have U:e7 _:=U.out.low O;obtain⟨F1,F2,h⟩:=U.out.kept (.head _);have C:=M1 _ _ h;clear h;clear O;go_wp2_with fail;refine C.mono ?_;clear C;rintro e w ⟨rfl,rfl⟩;go_wp2;refine iO B ?_;clear B Y;refine ll λY B y O=>?_;have U:e7 _:=U.out.low O;obtain⟨vM,vK,F1,hp⟩:=U.out.RQ;have C:=BB y F1 b [] (eP [[ea,eb,ec],[gb]] 0).2 hp;rw[t11.2]at C;clear hp;clear O;go_wp2_with fail;refine C.mono ?_;clear C;rintro e w ⟨rfl,rfl⟩;go_wp2;refine iO B ?_;clear B Y;refine ll λY B y O=>?_;have U:e7 _:=U.out.low O;clear O;go_wp2;refine iO B ?_;clear B Y;refine dl.back (v:=.bool true) (.inr ⟨_,rfl⟩) func32 hi (λτ=>by simp[ee,results32,go_sem]) ?_;exact HN.out.2.2 _ U.out.base
end
end
section
open Go.Conc Go.RowKit
variable {f:dk} {Z:j8 prog} {b r:Nat} {m:Ren} {v v':Value}
theorem stands:∀v:Value,∃x,(∀m,VR m x v)/\∀t z,v=.iface t z->∃O,x=.iface t O
 |.bool b=>⟨_,λ_=>.bool b,λ_ _ e=>(by cases e)⟩
 |.int k n=>⟨_,λ_=>.int k n,λ_ _ e=>(by cases e)⟩
 |.string s=>⟨_,λ_=>.string s,λ_ _ e=>(by cases e)⟩
 |.float k b=>⟨_,λ_=>.fJ _ trivial,λ_ _ e=>(by cases e)⟩
 |.complex k a b=>⟨_,λ_=>.fJ _ trivial,λ_ _ e=>(by cases e)⟩
 |.pointer none=>⟨_,λ_=>.gJ,λ_ _ e=>(by cases e)⟩
 |.pointer (some a)=>⟨_,λ_=>.fJ _ trivial,λ_ _ e=>(by cases e)⟩
 |.slice none l c=>⟨_,λ_=>.fl l c,λ_ _ e=>(by cases e)⟩
 |.slice (some a) l c=>⟨_,λ_=>.fJ _ trivial,λ_ _ e=>(by cases e)⟩
 |.map none=>⟨_,λ_=>.mw,λ_ _ e=>(by cases e)⟩
 |.map (some r)=>⟨_,λ_=>.fJ _ trivial,λ_ _ e=>(by cases e)⟩
 |.chan none=>⟨_,λ_=>.iS,λ_ _ e=>(by cases e)⟩
 |.chan (some r)=>⟨_,λ_=>.fJ _ trivial,λ_ _ e=>(by cases e)⟩
 |.nilFunc=>⟨_,λ_=>.nilFunc,λ_ _ e=>(by cases e)⟩
 |.nilIface=>⟨_,λ_=>.nilIface,λ_ _ e=>(by cases e)⟩
 |.tuple c=>⟨_,λ_=>.fJ _ trivial,λ_ _ e=>(by cases e)⟩
 |.iface t v=>by
  obtain⟨x,Y,_⟩:=stands v
  exact⟨.iface t x,λm=>.iface t (Y m),λ_ _ e=>(by cases e; exact⟨_,rfl⟩)⟩
 |.agg c=>by
  have B:∀i(h:i<c.size),∃x,(∀m,VR m x c[i])/\∀t z,c[i]=.iface t z->∃O,x=.iface t O:=λi h=>stands c[i];refine⟨.agg (cU λi:_root_.Fin c.size=>er (B i.1 i.2)),λm=>.agg (by simp) λi h h'=>?_,λ_ _ e=>(by cases e)⟩;simp only[cN];exact(ei (B i (by simpa using h))).1 m
 |.func (.func f) a c=>⟨_,λ_=>.fJ _ trivial,λ_ _ e=>(by cases e)⟩
 |.func (.methodOf t n) a c=>⟨_,λ_=>.fJ _ trivial,λ_ _ e=>(by cases e)⟩
 |.func (.via t p f b) a c=>⟨_,λ_=>.fJ _ trivial,λ_ _ e=>(by cases e)⟩
 |.func (.yield l) a c=>⟨_,λ_=>.fJ _ trivial,λ_ _ e=>(by cases e)⟩
 |.func (.method n) f c=>by
  have B:∀i(h:i<f.size),∃x,(∀m,VR m x f[i])/\∀t z,f[i]=.iface t z->∃O,x=.iface t O:=λi h=>stands f[i];refine⟨.func (.method "") (cU λi:_root_.Fin f.size=>er (B i.1 i.2)) #[.func (.method n) f c],λm=>.qn (by simp) (λi h h'=>?_) (λt w hw=>?_),λ_ _ e=>(by cases e)⟩
  .simp only[cN];exact(ei (B i (by simpa using h))).1 m
  .obtain⟨U,e0⟩:=cK.1 hw;obtain⟨z,hz⟩:=(ei (B 0 U)).2 t w e0;refine⟨z,?_⟩;rw[cL (by simpa using U)];simp only[cN];rw[hz]
termination_by v=>SizeOf.sizeOf v
decreasing_by
 all_goals simp_wf
 all_goals(first|omega|(have:=cT c i h; omega)|(have:=cT f i h; omega))
def CB(Mp:Nat->Prop):Value->Prop
 |.bool _|.int _ _|.string _|.pointer none|.slice none _ _|.map none|.chan none|.nilFunc|.nilIface=>True
 |.pointer (some a)=>Mp a.block
 |.slice (some a) _ _=>Mp a.block
 |_=>False
theorem JF(Mp:Nat->Prop)(v:Value)(O:¬CB Mp v):∃x,(∀m,VR m x v)/\(nJ x\/∀m v',VR m x v'->v'=v):=by
 have B:NB v->∃x,(∀m,VR m x v)/\(nJ x\/∀m v',VR m x v'->v'=v):=λh=>⟨.tuple #[],λm=>.fJ _ h,.inl trivial⟩
 cases v with
 |bool b=>exact absurd trivial O
 |int k n=>exact absurd trivial O
 |string s=>exact absurd trivial O
 |float k b=>exact B trivial
 |complex k a b=>exact B trivial
 |pointer a=>cases a with|none=>exact absurd trivial O|some a=>exact B trivial
 |slice a l c=>cases a with|none=>exact absurd trivial O|some a=>exact B trivial
 |map a=>cases a with|none=>exact absurd trivial O|some a=>exact B trivial
 |chan a=>cases a with|none=>exact absurd trivial O|some a=>exact B trivial
 |nilFunc=>exact absurd trivial O
 |nilIface=>exact absurd trivial O
 |iface t v=>exact B trivial
 |tuple c=>exact B trivial
 |agg c=>
  obtain⟨x,Y,_⟩:=stands (.agg c)
  have hx:nJ x:=by
   have:=Y ⟨λ_=>none,λ_=>none,λ_=>False,λ_=>True,λ_=>True,False,λ_=>False,λ_=>0,λ_ _=>none,λ_=>none,0,λ_ _ h=>(by cases h),λ_ _ _ h=>(by cases h),λ_ _ _ h=>(by cases h)⟩;cases this<;>trivial
  exact⟨x,Y,.inl hx⟩
 |func fn f c=>
  cases fn with
  |func g=>exact B trivial
  |methodOf t n=>exact B trivial
  |via t p g b=>exact B trivial
  |yield l=>exact B trivial
  |method n=>
   have U:∀i(h:i<f.size),∃x,(∀m,VR m x f[i])/\∀t z,f[i]=.iface t z->∃z',x=.iface t z':=λi h=>stands f[i];refine⟨.func (.method "") (cU λi:_root_.Fin f.size=>er (U i.1 i.2)) #[.func (.method n) f c],λm=>.qn (by simp) (λi h h'=>?_) (λt w hw=>?_),.inr λm v' h=>?_⟩
   .simp only[cN];exact(ei (U i (by simpa using h))).1 m
   .obtain⟨hl,e0⟩:=cK.1 hw;obtain⟨z,hz⟩:=(ei (U 0 hl)).2 t w e0;refine⟨z,?_⟩;rw[cL (by simpa using hl)];simp only[cN];rw[hz]
   .cases h with
    |func hf=>cases hf
    |qn _ _ _=>rfl
theorem KB{Mp:Nat->Prop}(hm:∀r,Mp r->m.blk r=some r)(h:CB Mp v):VR m v v:=by
 cases v with
 |bool b=>exact .bool b
 |int k n=>exact .int k n
 |string s=>exact .string s
 |pointer a=>cases a with|none=>exact .gJ|some a=>exact .ptr (.mk (hm _ h))
 |slice a l c=>cases a with|none=>exact .fl l c|some a=>exact .slice l c (.mk (hm _ h))
 |map a=>cases a with|none=>exact .mw|some a=>exact h.elim
 |chan a=>cases a with|none=>exact .iS|some a=>exact h.elim
 |nilFunc=>exact .nilFunc
 |nilIface=>exact .nilIface
 |_=>exact h.elim
theorem LH{Mp:Nat->Prop}(hm:∀r,Mp r->m.blk r=some r)(h:CB Mp v)(U:VR m v v'):v'=v:=by
 have B:∀{a O:Addr},Mp a.block->AR m a O->O=a:=fun {a O} ha x=>by
  cases x with
  |mk hb=>
   rw[hm _ ha]at hb;cases hb;rfl
 cases U with
 |fJ _ _=>exact h.elim
 |ptr x=>rw[B h x]
 |slice l c x=>rw[B h x]
 |map _=>exact h.elim
 |gone _=>exact h.elim
 |chan _=>exact h.elim
 |func _ _ _ _ _=>exact h.elim
 |iface _ _=>exact h.elim
 |agg _ _=>exact h.elim
 |tuple _ _=>exact h.elim
 |qn _ _ _=>exact h.elim
 |_=>rfl
noncomputable def NM (Mp:Nat->Prop) (v:Value):Value:=@dite _ (CB Mp v) (ej _) (λ_=>v) λh=>er (JF Mp v h)
theorem tE{Mp:Nat->Prop}(h:CB Mp v):NM Mp v=v:=by simp[NM,h]
theorem EF{Mp:Nat->Prop}(h:¬CB Mp v):NM Mp v=er (JF Mp v h):=by simp[NM,h]
theorem SP{Mp:Nat->Prop}(hm:∀r,Mp r->m.blk r=some r)(v:Value):VR m (NM Mp v) v:=by
 by_cases h:CB Mp v
 .rw[tE h]; exact KB hm h
 .rw[EF h]; exact(ei (JF Mp v h)).1 m
theorem NS{Mp:Nat->Prop}(hm:∀r,Mp r->m.blk r=some r)(B:VR m (NM Mp v) v'):nJ (NM Mp v)\/v'=v:=by
 by_cases h:CB Mp v
 .rw[tE h]at B; exact .inr (LH hm h B)
 .rw[EF h]at B⊢;exact(ei (JF Mp v h)).2.imp id λx=>x m v' B
noncomputable def Sw (Mp:Nat->Prop):Obj->Obj
 |.cells c e f=>.cells (c.map (NM Mp)) e f
 |o=>o
noncomputable def mS (W0:World) (Mp:Nat->Prop):World:={W0 with heap:=W0.heap.mapIdx λb o=>@ite _ (Mp b) (ej _) (Sw Mp o) o}
section
variable {W0:World} {Mp:Nat->Prop}
theorem sq:(mS W0 Mp).heap.size=W0.heap.size:=by simp[mS]
theorem oO(h:Mp b){c:Array Value}{e:dj}{f:Nat×Nat}(hb:W0.heap[b]?=some (.cells c e f)):(mS W0 Mp).heap[b]?=some (.cells (c.map (NM Mp)) e f):=by
 unfold mS;simp only[cM,hb];simp[h,Sw]
theorem Bq(h:¬Mp b):(mS W0 Mp).heap[b]?=W0.heap[b]?:=by
 unfold mS;simp only[cM]
 cases W0.heap[b]? with
 |none=>rfl
 |some o=>simp[h]
theorem j6{a:Addr}(O:CB Mp v)(h:W0.cell? a=some v):(mS W0 Mp).cell? a=some v:=by
 by_cases hm:Mp a.block
 .unfold eC at h⊢
  cases B:W0.heap[a.block]? with
  |none=>rw[B]at h; cases h
  |some o=>
   rw[B]at h
   cases o with
   |cells c e f=>
    rw[oO hm B];simp only at h⊢;split at h
    .cases h
    .rename_i U;rw[if_neg U,Array.getElem?_map,h];simp[tE O]
   |_=>cases h
 .unfold eC at h⊢;rw[Bq hm];exact h
noncomputable def nt (W0:World) (Mp:Nat->Prop):Ren where
 blk:=λr=>@ite _ (Mp r) (ej _) (some r) none
 ch:=λ_=>none
 loose:=λ_=>False
 ok:=NA prog se qm true
 fq:=λf=>se f=true
 ic:=False
 dead:=λ_=>False
 dm:=λ_=>0
 rB:=λr o=>@ite _ (Mp r) (ej _) (W0.cell? ⟨r,o,none⟩) none
 kD:=λ_=>none
 G:=5
 nZ:=λr r' h=>by split at h<;>cases h; exact Iff.rfl
 inj:=λr s t h1 h2=>by
  split at h1<;>cases h1
  split at h2<;>cases h2
  rfl
 uJ:=λ_ _ _ h=>by cases h
theorem mW(h:Mp r):(nt W0 Mp).blk r=some r:=by simp[nt,h]
theorem nU{r':Nat}(h:(nt W0 Mp).blk r=some r'):Mp r/\r'=r:=by
 simp only[nt]at h;split at h
 .cases h; exact⟨by assumption,rfl⟩
 .cases h
theorem KC(U:5<=W0.heap.size)(hc:∀r,Mp r->∃c e f,W0.heap[r]?=some (.cells c e f)):WR (nt W0 Mp) (mS W0 Mp) W0:=by
 refine⟨λr r' B=>?_,λr r' c e f c' e' f' B Y O _=>?_,λ_ _ _ _ _ _ _ _ _ _ _ h=>h.elim,λ_ _ h=>(by cases h),by rw[sq]; exact U,U,rfl,λ_ _ h=>(by cases h),λ_ _ _ h=>h.elim,λ_ h=>h.elim,λr o v hv=>?_⟩
 .obtain⟨hm,rfl⟩:=nU B;obtain⟨c,e,f,hb⟩:=hc _ hm
  exact⟨_,_,oO hm hb,hb,.cells e f f (ed.gS (by simp) λi h h'=>by
   simp only[cV]
   exact SP (λr B=>mW B) _)⟩
 .obtain⟨hm,rfl⟩:=nU B;rw[oO hm O]at Y;cases Y;rfl
 .simp only[nt]at hv;split at hv
  .rename_i hm;refine⟨r,mW hm,λc e f c' e' f' x _ O _ _=>?_⟩;unfold eC at hv;rw[O]at hv;simpa using hv
  .cases hv
theorem Lf(O:∀g,qm g=true->Mp g):Rg (fy Z W0 Mp) (nt W0 Mp):=
 ⟨R6 rfl rfl rfl (λ_ h=>h) (λg U=>mW (O g U)),id,λ_ _ h=>(by cases h),rfl,rfl,λr B=>mW B,λr o v B Y=>by simp[nt,B,Y]⟩
theorem Oh{wS w:World}(hc:∀r,Mp r->∃c e f,W0.heap[r]?=some (.cells c e f))(B:Rg (fy Z W0 Mp) m)(hw:WR m wS w)(ac:∀b,(fy Z W0 Mp).fx b->w.heap[b]?=(fy Z W0 Mp).w0.heap[b]?)(U:∀k,k<W0.heap.size->wS.heap[k]?=(mS W0 Mp).heap[k]?) :
  ∀b,b<W0.heap.size->w.heap[b]?=W0.heap[b]?:=by
 intro b hb;by_cases hm:Mp b
 .obtain⟨c,e,f,O⟩:=hc b hm;have Y:=B.x.1 b hm;obtain⟨o,o',h1,h2,h3⟩:=hw.obj b b Y;rw[U b hb,oO hm O]at h1;cases h1
  cases h3 with
  |@cells _ c' _ _ f' ad=>
   have ae:wS.heap[b]?=some (.cells (c.map (NM Mp)) e f):=by rw[U b hb]; exact oO hm O
   have hf:f'=f:=hw.fz b b _ _ _ _ _ _ Y ae h2 (B.pg.strict rfl b)
   have ai:c'=c:=by
    have af:=ad.size;simp at af;refine cW af.symm λi hi aa=>?_;have hv:=ad.idx i (by simpa using aa) hi;simp only[cV]at hv;rcases NS (λr hr=>B.x.1 r hr) hv with hn|he
    .have ab:W0.cell? ⟨b,i,none⟩=some c[i]:=by
      unfold eC;rw[O];simp[aa]
     have hp:=B.x.2 b i c[i] hm ab;obtain⟨r',ag,ah⟩:=hw.rB b i c[i] hp;rw[Y]at ag;cases ag;have:=ah _ _ _ _ _ _ (NM Mp c[i]) ae h2 (by simp[aa]) hn;rw[cL hi]at this;exact ga this
    .exact he
   rw[h2,O,hf,ai]
 .have:=ac b ⟨hb,hm⟩;rw[this];exact A8 hm
end
section
variable {H:Type} {enc:dj×Value->H}
theorem oZ{a:Assume}{C:Checked}{os:Os}{fn:Func}{s:OpenSpec}{F:Stop.Interp}{U:List PathCond}{apart fresh O Y:Bool}{laid:List (String×DataW Unit)}
  (own:ownKnob C.prog.godebug=none) (aa:os.Started) (ae:C.prog.funcs[f]?=some fn)
  (witness:∃(w:World)(tape:Tape)(i:Input),w.os=os/\(w.forCall tape i).Shaped C.prog/\i.vars=[]/\Input.okWide C.prog (w.forCall tape i) .any w.heap.size f i/\
    s.preRow enc C.prog fn U apart laid (w.forCall tape i).memory i.args/\a.holds C.prog (lone (Frame.enter C.prog f i.args .normal) [] (w.forCall tape i)))
  (runs:∀(W:World)(base:Nat)(args:Array Value)(ds gs:List (DataW H))(B:List MemPlace),
    (∀(j:Nat)t v,fn.params[j]?=some t->args[j]?=some v->gd C.prog W .any base t v)->
    DataW.Whole enc C.prog fn.params.toList s.vars apart W args.toList ds gs B->
    (∀k,s.cond=some k->k H (ds++gs)=true)->
    laidMetH C.prog laid W->W.ShapedOpen C.prog->args.size=fn.params.size->
    tf C.prog (λv W'=>∃W2:World,W2.blind=W'.blind/\(s.at F).post enc C.prog fn apart fresh O Y W args v W2) (solo (G (Frame.enter C.prog f args .normal) []) W) #[]) :
  ReturnsInLeavingWide a C os f .any (s.preRow enc C.prog fn U apart laid) ((s.at F).post enc C.prog fn apart fresh O Y):=by
 refine returnsInLeavingWide_of_good own aa witness ?_;intro w tape i _ af _ ag ab _;obtain⟨_,_,_,ah,ac,_,_,_,ai,ad⟩:=ag;have e:ah=fn:=ga (ac.symm.trans ae);subst e;obtain⟨⟨hp,hl⟩,_⟩:=ab;obtain⟨ds,gs,B,hw,_,hk⟩:=OpenSpec.pre_parts hp;have aj:=DataW.Whole.of_heap (w':=w.forCall tape i) (by rfl) hw;obtain⟨N,last,o,w',t',h1,h2,h3,h4⟩:=runs (w.forCall tape i) w.heap.size i.args ds gs B ad aj hk (hl.of_heap (by rfl)) af ai;exact⟨N,last,o,w',t',h1,h2,h3,h4.mono λv ⟨W2,e2,hp⟩=>by rw[<-e2]; exact ChangeSpec.post_blind hp⟩
end
def sT(W:World)(w:World):Prop:=Below W.heap.size W {w with tape:=W.tape}
theorem PH{W0:World}{Mp:Nat->Prop}{gH:Func}{rs:Array Tmp}{tm:Array Value}{wl:World}(hc:∀r,Mp r->∃c e f,W0.heap[r]?=some (.cells c e f))(hf:prog.funcs[f]?=some gH)(ad:prog.inits.idxOf? f=none)(U:∀k,k<W0.heap.size->wl.heap[k]?=(mS W0 Mp).heap[k]?)(ae:Plain v)(Y:∀w:World,(ee gH tm).run prog w=.ok v w) :
  dl (fy (ending prog λv' w=>v'=v/\sT W0 w) W0 Mp) [⟨f,tm,[.code .ret]⟩] wl []:=by
 refine dl.tail (λx hx=>by simp only[bS]at hx; subst hx; trivial) (.inr λ_ h=>by cases h) ?_;let B:LS->Prop:=λS=>S.cs=[door prog]/\S.fr.fn=f/\S.w.heap=wl.heap/\S.fr.leaving prog S.w (.returned v);refine iK.nj (Stop:=λS=>∃τ,B (S.on τ)) (λS τ ⟨O,h⟩=>⟨O,h⟩) (λτ _=>⟨1,⟨⟨f,tm,[.code .ret],[],.returning,.normal,none⟩,[door prog],tp wl τ⟩,rfl,⟨τ,rfl,rfl,rfl,rfl,rfl,rfl,gH,hf,Y _⟩,by simp⟩) λS' ⟨O,af,ag,hh,hl⟩=>?_;refine iK.tape (τ:=O) ?_;refine iK.done rfl rfl af hl (by rw[ag]; exact ad) λm v2 w ah hv hw aa ab=>⟨?_,?_⟩
 .cases hv<;>first|rfl|exact ae.elim
 .have hold:=Oh hc ah hw aa (λk hk=>by rw[hh]; exact U k hk);refine⟨ab.1,rfl,ab.2,?_,hold⟩;show W0.heap.size<=w.heap.size;rcases Nat.lt_or_ge w.heap.size W0.heap.size with ac|ai
  .have:=hold w.heap.size ac;rw[cR (cX _),cL ac]at this;cases this
  .exact ai
end
section
open Go.ChangeShapes Go.WideShapes Go.ChangeAt Go.RowKit Go.Conc
variable {gs:List (Option Addr)} {c l:Nat} {W:World}
theorem S9:ownKnob prog.godebug=none:=by kernel_rfl
theorem oz:laidOutB prog=true:=by kernel_rfl
def Qe:List (String×DataW Unit):=[("math/bits.deBruijn32tab",Rows.laid_math_bits_deBruijn32tab),("math/bits.deBruijn64tab",Rows.laid_math_bits_deBruijn64tab),("internal/strconv.uint64pow10",Rows.laid_internal_strconv_uint64pow10),("hint/follow.weights",Rows.laid_hint_follow_weights)]
theorem Di(h:laidMetH prog Qe W):Mc W:=by
 rw[MakeChecks.laidMetH_plain _ _ _ (by kernel_rfl)]at h;have O:=h.tail.tail.tail;have B:=Lib.tabIs_of_head (k:=.u64) (zs:=[4,10,25]) (g:=0) (t:=195) (e:=141) (n:=3) (by kernel_rfl) (by kernel_rfl) underlying195 underlying141 (by kernel_rfl) (by kernel_rfl) O;exact⟨B.cell (by kernel_rfl) 0 (by decide),B.cell (by kernel_rfl) 1 (by decide),B.cell (by kernel_rfl) 2 (by decide)⟩
theorem xp(h:W.ShapedOpen prog):∀g,g<5->∃c e f,W.heap[g]?=some (.cells c e f):=by
 have key:∀g,g<5->(((begin prog (λ_ _=>0) default).world.heap[g]?).bind Obj.row?).isSome=true:=by
  intro g B;rcases(by omega:g=0\/g=1\/g=2\/g=3\/g=4)with rfl|rfl|rfl|rfl|rfl<;>kernel_rfl
 intro g B;obtain⟨⟨z,t⟩,U⟩:=Option.isSome_iff_exists.1 (key g B);obtain⟨cs,O,_⟩:=h.1 g z t (by rw[vz]; exact B) U;exact⟨cs,t,_,O⟩
theorem Aw{base:Nat}{t e:dj}{a:Addr}(Y:prog.underlying t=some (.slice e))(h:gd prog W .any base t (.slice (some a) l c)):a.spot=none/\∃cs B f,W.heap[a.block]?=some (.cells cs B f):=by
 simp only[gd,Y,Cell.okWide,Cell.ok]at h;obtain⟨_,_,_,O,row,cells,hsh,_⟩:=h;refine⟨O,?_⟩;unfold World.shape? at hsh
 cases U:W.heap[a.block]? with
 |none=>rw[U]at hsh; cases hsh
 |some o=>
  cases o with
  |cells cs B f=>exact⟨cs,B,f,rfl⟩
  |_=>rw[U]at hsh; cases hsh
def Es(gs:List (Option Addr))(b:Nat):Prop:=qm b=true\/∃a,some a∈gs/\a.block=b
theorem PT{g:Nat}(h:qm g=true):g<5:=by
 unfold qm at h;simp only[Bool.or_eq_true,beq_iff_eq]at h;omega
theorem F8(B:W.ShapedOpen prog)(O:∀a,some a∈gs->∃c e f,W.heap[a.block]?=some (.cells c e f)):∀r,Es gs r->∃c e f,W.heap[r]?=some (.cells c e f):=by
 rintro r (h|⟨a,h,rfl⟩)
 .exact xp B r (PT h)
 .exact O a h
theorem J0(B:W.ShapedOpen prog):5<=W.heap.size:=by
 obtain⟨c,e,f,h⟩:=xp B 4 (by omega);have:=(cK.1 h).1;omega
theorem MS{Mp:Nat->Prop}(h:Mc W):Mc (mS W Mp):=⟨j6 trivial h.1,j6 trivial h.2.1,j6 trivial h.2.2⟩
theorem sK{a:Option Addr}(h:a∈gs):VR (nt W (Es gs)) (.slice a l c) (.slice a l c):=by
 cases a with
 |none=>exact .fl l c
 |some a=>exact .slice l c (.mk (mW (.inr ⟨a,h,rfl⟩)))
theorem Nq{args:Array Value}{f:dk}{gH:Func}{c:Code}{v:Value}{tm:Array Value}(O:W.ShapedOpen prog)(ha:∀a,some a∈gs->∃c e f,W.heap[a.block]?=some (.cells c e f))(hf:prog.funcs[f]?=some gH)(hb:gH.body=some c)(B:ed (nt W (Es gs)) args args)(U:args++cP (gH.ntmps-args.size) gB=tm)
  (h:dl (fy (ending prog λv' w=>v'=v/\sT W w) W (Es gs)) [⟨f,tm,[.code c]⟩] (mS W (Es gs)) []):tf prog (λv' w=>v'=v/\sT W w) (solo (G (Frame.enter prog f args .normal) []) W) #[]:=
 Hd (E:=fy (ending prog λv' w=>v'=v/\sT W w) W (Es gs)) (m:=nt W (Es gs)) rfl (λb hb=>⟨hb.1,(A8 hb.2).symm⟩) (λr b Y hb=>absurd (nU Y).1 (by rw[<-(nU Y).2]; exact hb.2)) (FD _ _ _) (by rw[show(fy _ W (Es gs)).w0.heap.size=W.heap.size from vC W _]; exact cX _) ⟨rfl,rfl⟩ rfl hf hb (Lf λg hg=>.inl hg) (KC (J0 O) (F8 O ha)) B (by rw[U]; exact h)
theorem tf.mono{P:Program}{A B:Value->World->Prop}{M:Machine}{t:Trace}(h:tf P A M t)(O:∀v w,A v w->B v w):tf P B M t:=by
 obtain⟨N,last,o,w',t',U,Y,h3,h4⟩:=h;exact⟨N,last,o,w',t',U,Y,h3,h4.mono λv=>O v w'⟩
end
end Go.Proofs.YtocbogeoffeolaaGreatDoor
