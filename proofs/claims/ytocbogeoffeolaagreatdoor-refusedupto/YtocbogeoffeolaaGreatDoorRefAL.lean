import Derived.Test.YtocbogeoffeolaaGreatDoorRefAK
set_option linter.all false
set_option maxHeartbeats 8000000
set_option maxRecDepth 1000000
open List renaming getD_eq_getElem?_getD->bJ,getElem?_eq_getElem->bK,getElem_mem->bL,mem_map->bM,mem_filter->bN,map_map->bO,mem_append->bP,getElem?_eq_none->bQ,map_append->bR,take_of_length_le->bS,length_append->bT,pairwise_map->bU,mem_singleton->bV,take_succ_eq_append_getElem->bW,length_set->bX,map_congr_left->bY,mem_cons_self->bZ,getElem?_take->cc,filter_filter->ce,pairwise_iff_getElem->cf,filter_congr->ch,ext_getElem?->ck,mem_cons->cm,length_eq_zero_iff->cn,getElem_set->cq,length_map->cr,mem_range->ct,mem_of_mem_take->cu,filter_sublist->cv,map_cons->cw,Nodup->cx,length_take->cy,filter_map->cz,replicate->c5,range->c6,perm_ext_iff_of_nodup->c7,getElem_replicate->cA,mem_append_right->cB,mem_of_mem_drop->cC,mem_cons_of_mem->cD,map->cE,filter_append->cF,nodup_append->cG,getElem?_map->cH,length_cons->cI,all_eq_true->cJ,nodup_cons->cK,append_nil->cL
open Array renaming getElem?_eq_some_iff->cM,getElem?_eq_getElem->cN,getElem?_toList->cO,getElem?_mapIdx->cP,replicate->cQ,getElem?_setIfInBounds->cR,set!_eq_setIfInBounds->cS,getElem?_modify->cT,ext_getElem?->cU
open Nat renaming le_refl->cV,le_trans->cW,lt_of_lt_of_le->cX,zero_le->cY,lt_irrefl->cZ,mul_comm->da,le_of_ble_eq_true->db,mul_le_mul_right->dc,zero_add->de,mod_one->df
open Go renaming maxLen->dg,Calls->dh,TypeId->di,FuncId->dj,cell_later->dl,results->dm,goexitEntry->dn,yielded->dp,info_parts->dq
open Go.RowKit renaming Hid->dr,run_makeMap->dt
open Go.RowKit.Below renaming heap_setCell->du,refl->dv,heap_alloc->dw
open Go.Region renaming ready->dx,wanted->dy
open Go.World renaming ownsRow_nil->dz,cell?->dA,block_lt_of_cell?->dB,size_alloc->dC
open Int renaming tdiv_eq_ediv_of_nonneg->dD,tmod_eq_emod_of_nonneg->dE,neg_tdiv->dF,not_lt->dG
open Option.some renaming injEq->dH
open Go.IntKind renaming wrap_i64->dI
open Go.Region.linearise renaming go->dJ
open Go.Value.slice renaming injEq->dK
open Prod renaming fst->dL,snd->dM
open List.Perm renaming refl->dN,append->dO
open Go.Value renaming ownBlock->dP
open Go.Sort renaming putCells->dQ,flatK->dR,size_flatK->dS
open Go renaming undef->dT
namespace Go.Proofs.YtocbogeoffeolaaGreatDoor
open Go.Proofs.Tryz
section
open Go.RowKit
variable {cs cs':Array Value} {f:Nat×Nat} {e e':di} {F:Value->Prop} {w:World}
def mG(F:Value->Prop)(w:World)(v:Value):Prop:=∀g cs e f,v.ownBlock=some g->w.heap[g]?=some (.cells cs e f)->∀u∈cs.toList,F u
theorem K7(F:Value->Prop)(w:World)(n c:Nat):mG F w (.slice none n c):=nofun
theorem mG.stay{w':World}{v:Value}(h:mG F w v)(O:∀g,v.ownBlock=some g->w'.heap[g]?=w.heap[g]?):mG F w' v:=λg cs e f B U=>h g cs e f B (by rw[<-O g B]; exact U)
theorem uB{B:Array Value}{k:Nat}{u:Value}(h:u∈(Builtin.zeroCells B k).toList):u∈B.toList:=by
 unfold Builtin.zeroCells at h;simp at h;obtain⟨i,hi,rfl⟩:=h
 have O:0<B.size:=by
  rcases Nat.eq_zero_or_pos B.size with h|h
  .rw[h]at hi; simp at hi
  .exact h
 have hm:i % B.size<B.size:=Nat.mod_lt _ O;rw[getElem!_pos B _ hm];simp
theorem L0(h:(w.drew.alloc (.cells cs e)).heap[w.heap.size]?=some (.cells cs' e' f)):cs'=cs:=by
 have B:(w.heap.push _)[w.heap.size]?=some _:=h;simp at B;exact B.1.symm
theorem Jf{g:Nat}{cur:Array Value}{f':Nat×Nat}(B:w.heap[g]?=some (.cells cur e f))(h:(w.setRow g cs).heap[g]?=some (.cells cs' e' f')):cs'=cs:=by
 unfold World.setRow at h;simp only[cT,if_true,B,Option.map_some,dH,Obj.cells.injEq]at h;exact h.1.symm
theorem Ka{P:Program}{base:Nat}{t ty:di}{i:TypeInfo}{z:Value}{size bytes:Nat}(ht:P.underlying t=some (.slice e))(hi:P.info? e=some i)(hz:i.zero=some z)
  (O:i.size=size) (aj:i.bytes=bytes) (ar:z.cells.size=size) (ao:0<size)
  {v:Value} {n:Nat} {xs:List Value} (aa:w.ownsRow base e size v n xs)
  {x:Value} {m:Nat} {news:List Value} (hx:vv w size x m news) (h1:∀u∈news,u.oneCell'=true)
  (Y:(n+m)*bytes<=140737488355328) (ak:n+m<=dg) (ap:0<m) {v':Value} {w':World} (hr:(Builtin.append_ #[t,t] ty #[v,x]).run P w=.ok v' w')
  (hF:mG F w v) (hN:∀u∈news,F u) (hZ:∀u∈z.cells.toList,F u):mG F w' v':=by
 obtain⟨a,cap,rfl,hc,hm,hl,al⟩:=hx;have am:0<news.length:=by rw[hl]; exact Nat.mul_pos ap ao
 obtain⟨b,off,ha,_⟩:=al 0 _ (bK am);subst ha
 have U:∀j u,news[j]?=some u->w.cell? ((⟨b,off,none⟩:Addr).add j)=some u:=by
  intro j u hj;obtain⟨b',aq,he,ag⟩:=al j u hj;obtain⟨rfl,rfl,_⟩:=he;rw[Addr.add_lit]; exact ag
 have af:news.length=m*i.size:=by rw[O]; exact hl
 rcases aa.2 with⟨rfl,rfl⟩|⟨g,c,cur,rfl,au,hg,av,aw,ah,ai⟩
 .have ab:=run_append_nil (P:=P) w t ty e i z ht hi hz _ m cap news af U (by omega) (by simp only[dg]at ak; omega) (by rw[aj]; simp only[de]at Y; omega);rw[ab]at hr;obtain⟨rfl,rfl⟩:=hr;intro g cs e' f hg ah u B;simp only[dP,dH]at hg;subst hg;have:=L0 ah;subst this;simp at B;rcases B with B|B
  .exact hN u B
  .exact hZ u (uB (by simpa using B))
 .by_cases ac:n+m<=c
  .have an:n*i.size+news.length<=cur.size:=by rw[af,ah,O,<-Nat.add_mul]; exact dc _ ac
   have ab:=run_append_room (P:=P) w t ty e i ht hi g n c cur hg _ m cap news af U h1 ac an;rw[ab]at hr;obtain⟨rfl,rfl⟩:=hr;intro g' cs e' f ad ae u B;simp only[dP,dH]at ad;subst ad;have:=Jf hg ae;subst this;simp at B;rcases B with B|B|B
   .exact hF g cur e _ rfl hg u (cu B)
   .exact hN u B
   .exact hF g cur e _ rfl hg u (cC B)
  .have holds:=aa.cells (g:=g) rfl;have ab:=run_append_grow (P:=P) w t ty e i z ht hi hz _ n c xs (by rw[O]; exact aa.1) holds _ m cap news af U (by omega) (by simp only[dg]at ak; omega) (by rw[aj]; exact growslice_fits (by omega) Y);rw[ab]at hr;obtain⟨rfl,rfl⟩:=hr;intro g' cs e' f ad ae u B;simp only[dP,dH]at ad;subst ad;have:=L0 ae;subst this;simp at B;rcases B with B|B|B
   .rw[<-ai]at B;exact hF g cur e _ rfl hg u (cu B)
   .exact hN u B
   .exact hZ u (uB (by simpa using B))
theorem xE{P:Program}(w:World){ops:Array Oper}{rest:List Oper}{o:Oper}{a:Act}{Q:Exit->Act->World->Prop}(ae:o.guard=none)(s x:Operand)(t:di)
  (ho:o.op=.call {callee:=.builtin .append,args:=#[s,x],argTypes:=#[t,t]})
  (base:Nat) (e:di) (i:TypeInfo) (z:Value) (size bytes:Nat) (ht:P.underlying t=some (.slice e)) (hi:P.info? e=some i) (hz:i.zero=some z)
  (O:i.size=size) (aa:i.bytes=bytes) (ab:z.cells.size=size) (ac:0<size)
  (v:Value) (n:Nat) (xs:List Value) (hs:a.eval s=v) (U:w.ownsRow base e size v n xs)
  (y:Value) (m:Nat) (news:List Value) (hx:a.eval x=y) (hy:vv w size y m news) (h1:∀u∈news,u.oneCell'=true)
  (B:(n+m)*bytes<=140737488355328) (ad:n+m<=dg) (Y:base<=w.heap.size) (af:0<m) (hF:mG F w v) (hN:∀u∈news,F u) (hZ:∀u∈z.cells.toList,F u)
  (h:∀v' w',w'.ownsRow base e size v' (n+m) (xs++news)->w.grownBy w' v.ownBlock->mG F w' v'->wpList P ops Q rest (a.put o.dst v') w'):wpList P ops Q (o::rest) a w:=by
 refine wpList_plain ae λ_ hK=>?_;obtain⟨v',w',hr,h2,h3,h4⟩:=rS (P:=P) w base t o.type e i z size bytes ht hi hz O aa ab ac v n xs U y m news hy h1 B ad Y;have h5:=Ka ht hi hz O aa ab ac U hy h1 B ad af hr hF hN hZ;unfold Oper.wp execOp;simp only[ho,resolve,invoke,builtin,Sem.run_bind,Sem.run_pure,Result.andThen_ok,List.map_toArray,cw,List.map_nil,hs,hx,hr];exact hK _ _ (h v' w' h2 h3 h5)
end
section
open Go.RowKit Go.Maps
theorem NT:(prog.info? 96).map (λi=>(i.zero,i.size,i.bytes))=some (some (.agg #[.string ⟨#[]⟩,.string ⟨#[]⟩,.int .i64 0,.int .i64 0]),4,48):=by kernel_rfl
theorem rZ{Y:Type}{O U B es:List Y}{e:Y}(h:(O++U).Perm es)(hp:U.Perm (e::B)):((O++[e])++B).Perm es:=by
 refine List.Perm.trans ?_ h;rw[List.append_assoc];exact(dN O).append hp.symm
theorem zf{w:World}{base e size n:Nat}{v:Value}{xs:List Value}(h:w.ownsRow base e size v n xs)(o:Obj):(w.alloc o).ownsRow base e size v n xs:=ku h (λk B=>by rw[jD _ _ (h.lt k B).2])
theorem D'(x:gu):∀v∈oZ x,Flat v:=by
 intro v B;simp[oZ]at B;rcases B with rfl|rfl|rfl|rfl
 .exact .string _
 .exact .string _
 .exact .int ..
 .exact .int ..
theorem Nh:∀u∈(Value.agg #[.string ⟨#[]⟩,.string ⟨#[]⟩,.int .i64 0,.int .i64 0]).cells.toList,Flat u:=by
 intro v B;simp[Value.cells]at B;rcases B with rfl|rfl
 .exact .string _
 .exact .int ..
theorem P4{w:World}{b:Nat}{e:gu}{t:di}(hb:b=w.heap.size):vv (w.alloc (.cells #[.string ⟨e.name.toArray⟩,.string ⟨e.text.toArray⟩,.int .i64 e.gw,.int .i64 e.gK] t)) 4 (.slice (some ⟨b,0,none⟩) 1 1) 1 (oZ e):=by
 refine⟨some _,1,rfl,cV _,by unfold dg; omega,rfl,λj u B=>⟨b,0,rfl,?_⟩⟩;rw[World.cell?_alloc_at _ _ _ _ hb]
 match j,B with
 |0,B=>simpa[oZ]using B
 |1,B=>simpa[oZ]using B
 |2,B=>simpa[oZ]using B
 |3,B=>simpa[oZ]using B
 |j+4,B=>simp[oZ]at B
theorem Fo(B:Nat)(ms:List oD)(w:World)(hs:KJ w B ms)(hl:ms.length<=1048576)(aE:∀m∈ms,m.yX<=1000/\m.name.length<=dg) :
  dh prog 81 #[.map (some B)] w λen w'=>∃v U,en=.returned v/\List.Perm U ms/\w'.ownsRow w.heap.size 96 4 v (ib ms U).length (kP (ib ms U))/\Below w.heap.size w w'/\mG Flat w' v:=by
 obtain⟨i0,hi,aQ,aR,aS⟩:=dq NT;have bi:=@dt prog;have HS:dr (KJ _ _ _):=hs;have a7:dr (∀m∈ms,m.yX<=1000/\m.name.length<=dg):=aE;have bj:=hs.lt;obtain⟨w0,ay⟩:∃w0,w.alloc (.map #[] 0)=w0:=⟨_,rfl⟩;have a5:w0.heap.size=w.heap.size+1:=by rw[<-ay]; simp
 have hb0:Below w.heap.size w w0:=by rw[<-ay]; exact(dv _ _).alloc (cV _) _
 have hM0:gT prog 9 w0 w.heap.size []:=by rw[<-ay]; exact gT.made w
 have aF:dr (KJ w0 B ms):=lB.below hs hb0;clear hs aE;go_enter func81,ntmps81;go_wp2_with (first|(at_range; refine uI _ rfl _ rfl rfl aF.out ?_; intro w1 hrg0 hg0 al));rw[a5]at hrg0 al⊢;clear ay;go_frame;go_loopw [4] (λ_ wr=>∃(U ab:List oD)(nl:List (Wd×Value)),(U++ab).Perm ms/\oA wr B (w.heap.size+1) ms ab/\gT prog 9 wr w.heap.size nl/\nl.length<=U.length/\(∀x,pf nl x (.int .i64 0)=.int .i64 (iO U x:Nat))/\Below w.heap.size w wr/\w.heap.size+2<=wr.heap.size) (λ_ wr=>wr.rangeLeft B (w.heap.size+1))
 case atStart=>exact⟨[],ms,[],dN _,hrg0,gT.kept hM0 hg0 (by simp),cV _,λ_=>rfl,hb0.grown hg0 hb0.size (λk hk=>by cases hk),by omega⟩
 case round=>
  obtain⟨U,ab,nl,iC,hr,hm,aT,aG,hb,hz⟩:=hrel;have HP:dr ((U++ab).Perm ms):=iC;have HR:dr (oA _ _ _ _ _):=hr;have HM:dr (gT _ _ _ _ _):=hm;have az:dr (∀x,pf nl x (.int .i64 0)=.int .i64 (iO U x:Nat)):=aG;have HB:dr (Below _ _ _):=hb
  have aH:U.length<=ms.length:=by
   have h2:=iC.length_eq;rw[bT]at h2;omega
  clear iC hr hb hm aG aF hM0 hb0 a5 hrg0 hg0 al;go_wp2_with (first|(at_next; refine wD _ rfl _ rfl (w.heap.size+1) ab rfl HR.out ?_ ?_))
  .intro h0
   have hE:U.Perm ms:=by
    have:=HP.out;rw[h0,cL]at this;exact this
   have aU:dr (∀x,pf nl x (.int .i64 0)=.int .i64 (iO ms x:Nat)):=by
    intro x;rw[az.out x,xU hE]
   have aI:dr (KJ wr B ms):=jB.owns HR.out;clear h0 hE HP HR az;go_wp2_with (first|(at_range; refine uI _ rfl _ rfl rfl aI.out ?_; intro w1 hrg0 hg0 al));have aJ:w.heap.size+3<=w1.heap.size:=by omega
   have aK:wr.heap.size<w1.heap.size:=by omega
   have HB1:dr (Below w.heap.size w w1):=HB.out.grown hg0 HB.out.size (λk hk=>by cases hk);have HM1:dr (gT prog 9 w1 w.heap.size nl):=gT.kept HM.out hg0 (by simp);have HR1:dr (oA _ _ _ _ _):=hrg0;obtain⟨r,hr⟩:∃r,r=wr.heap.size:=⟨_,rfl⟩;rw[<-hr]at HR1 aK hz al⊢;have bk:w.heap.size+2<=r:=hz;clear hrg0 hg0 aI HM HB aT aH hz HS;clear hr;generalize wr=wo at *;go_frame;go_loopw [6] (λg wr=>∃(U ab:List oD),(U++ab).Perm ms/\oA wr B r ms ab/\gT prog 9 wr w.heap.size nl/\wr.ownsRow (r+1) 96 4 g (ib ms U).length (kP (ib ms U))/\Below w.heap.size w wr/\r+1<=wr.heap.size/\mG Flat wr g) (λ_ wr=>wr.rangeLeft B r)
   case atStart=>exact⟨[],ms,dN _,HR1.out,HM1.out,dz _ _ _ _,HB1.out,by omega,K7 _ _ _ _⟩
   case round=>
    obtain⟨O,am,iC,hr,hm,an,hb,hz,aL⟩:=hrel;have HP:dr ((O++am).Perm ms):=iC;have HR:dr (oA _ _ _ _ _):=hr;have HM:dr (gT _ _ _ _ _):=hm;obtain⟨ag,cg,rfl,bl⟩:=lG an;have HO:dr (wr.ownsRow (r+1) 96 4 (.slice ag (ib ms O).length cg) (ib ms O).length (kP (ib ms O))):=an;have HB:dr (Below _ _ _):=hb;have HF:dr (mG Flat wr (.slice ag (ib ms O).length cg)):=aL;clear aL
    have aH:(ib ms O).length<=ms.length:=by
     have h1:=Dr ms O;have h2:=iC.length_eq;rw[bT]at h2;omega
    clear iC hr hb hm an HR1 HM1 HB1 al aJ aK;go_wp2_with (first|(at_next; refine wD _ rfl _ rfl r am rfl HR.out ?_ ?_))
    .intro h0
     have hE:O.Perm ms:=by
      have:=HP.out;rw[h0,cL]at this;exact this
     have HE:dr _:=hE;clear h0 hE HP HR;go_wp2;go_ret;exact⟨_,O,rfl,HE.out,mA HO.out (by omega),HB.out,HF.out⟩
    .intro m Y w2 ai ac ae ad a8 ao;have ap:=jB.lt ac;have aq:=lB.lt (jB.owns ac);have HB1:dr (Below w.heap.size w w2):=ox HB.out ad (by omega);have HR1:dr (oA _ _ _ _ _):=ac;have HM1:dr (gT prog 9 w2 w.heap.size nl):=gT.stay HM.out (ad.block _ (by omega) (by simp; omega));have a9:dr (w2.rangeLeft B r<wr.rangeLeft B r):=ae;have ar:dr (am.Perm (m::Y)):=ai;have a':dr (w2.ownsRow (r+1) 96 4 (.slice ag (ib ms O).length cg) (ib ms O).length (kP (ib ms O))):=ku HO.out (λk hk=>ad.block k (HO.out.lt k hk).2 (by have:=(HO.out.lt k hk).1; intro e; cases e; omega));have aV:dr (mG Flat w2 (.slice ag (ib ms O).length cg)):=HF.out.stay (λk hk=>ad.block k (HO.out.lt k hk).2 (by have:=(HO.out.lt k hk).1; intro e; cases e; omega));have aM:r+1<=w2.heap.size:=by omega
     have au:=a7.out m (HP.out.mem_iff.1 (cB _ (ai.mem_iff.2 (bZ ..))));have av:dr _:=FP ms O m;have a0:dr _:=au;have bm:iO ms m.name<=1000:=wZ ms m.name (λm hm=>(a7.out m hm).1);clear ai ac ae ad a8 au HR HM HB HO;obtain⟨sg,at',nm,wd,n2,tx,wt,tg⟩:=m;simp only[oD.val,QS]at ao⊢;obtain⟨wa,af⟩:∃wa,wa=((w2.alloc (.cells #[.int .i64 (sg:Int),.int .i64 (at':Int)] 170)).alloc (.cells #[.int .i64 (sg:Int),.int .i64 (at':Int),.string ⟨nm.toArray⟩,.bool wd,.string ⟨n2.toArray⟩,.string ⟨tx.toArray⟩,.int .i64 wt,.int .i64 tg] 172)):=⟨_,rfl⟩;have aa:Below w2.heap.size w2 wa:=by rw[af]; exact(((dv _ _).alloc (cV _) _).alloc (by simp) _)
     have bn:wa.heap.size=w2.heap.size+2:=by rw[af]; simp
     have a3:dr (oA wa B r ms Y):=jB.stay HR1.out (aa.block B aq) (aa.block _ ap);have a4:dr (gT prog 9 wa w.heap.size nl):=gT.below HM1.out aa;have aj:dr (wa.ownsRow (r+1) 96 4 (.slice ag (ib ms O).length cg) (ib ms O).length (kP (ib ms O))):=ku a'.out (λk hk=>aa.block k (a'.out.lt k hk).2);have aA:dr (mG Flat wa (.slice ag (ib ms O).length cg)):=aV.out.stay (λk hk=>aa.block k (a'.out.lt k hk).2);have aB:dr (Below w.heap.size w wa):=HB1.out.trans (aa.mono (by omega))
     have HLa:dr (wa.rangeLeft B r<wr.rangeLeft B r):=by
      show _<_;rw[iq.mB (aa.block B aq) (aa.block _ ap)];exact a9.out
     cases wd with
     |false=>
      have ah:dr (ib ms (O++[⟨sg,at',nm,false,n2,tx,wt,tg⟩])=ib ms O):=by show _=_; rw[av.out]; simp
      clear aa;go_wp2;rw[<-af];go_roundw
      case rel=>
       exact⟨O++[⟨sg,at',nm,false,n2,tx,wt,tg⟩],Y,rZ HP.out ar.out,a3.out,a4.out,by rw[ah.out]; exact aj.out,aB.out,by omega,aA.out⟩
      case measure=>exact HLa.out
     |true=>
      have ak:=(a4.out.look (z:=.int .i64 0) underlying9 underlying179 (by kernel_rfl) nm a0.out.2).1;rw[aU.out nm,af]at ak;by_cases hq:sg=iO ms nm
      .have ah:dr (ib ms (O++[⟨sg,at',nm,true,n2,tx,wt,tg⟩])=ib ms O++[⟨n2,false,tx,wt,tg⟩]):=by show _=_; rw[av.out]; simp[hq,oD.Oe]
       rw[<-hq]at ak;clear aa hq
       go_wp2_with (first
        |(at_builtin; rw[<-af]; refine xE (F:=Flat) _ rfl _ _ 82 rfl (r+1) 96 i0 _ 4 48 underlying82 hi aQ aR aS rfl (by decide) _ _ _ rfl (zf aj.out _) _ 1 _ rfl (P4 (e:=⟨n2,false,tx,wt,tg⟩) (by omega)) (Gu _) ?c1 ?c2 ?c3 (by decide) (aA.out.stay (λk hk=>jD _ _ (aj.out.lt k hk).2)) (D' _) Nh ?_))
       case c1=>omega
       case c2=>unfold dg; omega
       case c3=>first|omega|(simp; omega)
       intro v3 w3 aw ax a6;rw[<-af]at ax;have bh:wa.heap.size<=w3.heap.size:=by have:=ax.size; simp at this; omega
       have hold:∀j,j<wa.heap.size->j<r+1->w3.heap[j]?=wa.heap[j]?:=λj hj bo=>by
        rw[ax.block j (by simp; omega) (λe=>by have:=(aj.out.lt j e.symm).1; omega),jD _ _ hj]
       have aN:B<wa.heap.size:=lB.lt (jB.owns a3.out);have aW:dr (oA w3 B r ms Y):=jB.stay a3.out (hold B aN (by omega)) (hold r (by omega) (by omega));have aX:dr (gT prog 9 w3 w.heap.size nl):=gT.stay a4.out (hold _ (by omega) (by omega))
       have aY:dr (w3.ownsRow (r+1) 96 4 v3 (ib ms (O++[⟨sg,at',nm,true,n2,tx,wt,tg⟩])).length (kP (ib ms (O++[⟨sg,at',nm,true,n2,tx,wt,tg⟩])))):=by
        show w3.ownsRow _ _ _ _ _ _;rw[ah.out,Jd,bT];exact aw
       have aZ:dr (Below w.heap.size w w3):=(aB.out.alloc (by omega) _).grown ax (by simp; omega) (λb hb=>by have:=(aj.out.lt b hb).1; omega)
       have HL3:dr (w3.rangeLeft B r<wr.rangeLeft B r):=by
        show _<_;rw[iq.mB (hold B aN (by omega)) (hold r (by omega) (by omega))];exact HLa.out
       have ba:dr (mG Flat w3 v3):=a6;clear a6 aw ax hold ak ao af;go_wp2;go_roundw
       case rel=>
        exact⟨O++[⟨sg,at',nm,true,n2,tx,wt,tg⟩],Y,rZ HP.out ar.out,aW.out,aX.out,aY.out,aZ.out,by omega,ba.out⟩
       case measure=>exact HL3.out
      .have ah:dr (ib ms (O++[⟨sg,at',nm,true,n2,tx,wt,tg⟩])=ib ms O):=by show _=_; rw[av.out]; simp[hq]
       have bp:¬((sg:Int)=(iO ms nm:Int)):=by omega
       clear aa;go_wp2;rw[<-af];go_roundw
       case rel=>
        exact⟨O++[⟨sg,at',nm,true,n2,tx,wt,tg⟩],Y,rZ HP.out ar.out,a3.out,a4.out,by rw[ah.out]; exact aj.out,aB.out,by omega,aA.out⟩
       case measure=>exact HLa.out
  .intro m Y w2 ai ac ae ad a8 ao;have ap:=jB.lt ac;have aq:=lB.lt (jB.owns ac);have HB1:dr (Below w.heap.size w w2):=ox HB.out ad (by omega);have HR1:dr (oA _ _ _ _ _):=ac;have HM1:dr (gT prog 9 w2 w.heap.size nl):=gT.stay HM.out (ad.block _ (by omega) (by simp));have a9:dr (w2.rangeLeft B (w.heap.size+1)<wr.rangeLeft B (w.heap.size+1)):=ae;have ar:dr (ab.Perm (m::Y)):=ai;have aM:w.heap.size+2<=w2.heap.size:=by omega
   have au:=a7.out m (HP.out.mem_iff.1 (cB _ (ai.mem_iff.2 (bZ ..))));have aO:=GQ U m;have av:dr _:=aO;have a0:dr _:=au;clear ai ac ae ad a8 aO au;obtain⟨sg,at',nm,wd,n2,tx,wt,tg⟩:=m;simp only[oD.val,QS]at ao⊢
   have aC:dr (gT prog 9 ((w2.alloc (.cells #[.int .i64 (sg:Int),.int .i64 (at':Int)] 170)).alloc (.cells #[.int .i64 (sg:Int),.int .i64 (at':Int),.string ⟨nm.toArray⟩,.bool wd,.string ⟨n2.toArray⟩,.string ⟨tx.toArray⟩,.int .i64 wt,.int .i64 tg] 172)) w.heap.size nl):=
    gT.below HM1.out (((dv _ _).alloc (cV _) _).alloc (by simp) _)
   have ak:=(aC.out.look (z:=.int .i64 0) underlying9 underlying179 (by kernel_rfl) nm a0.out.2).1;rw[az.out nm]at ak;go_wp2_with (first|(at_mapUpdate; refine mg _ rfl _ _ _ 179 rfl 3 underlying9 underlying179 rfl aC.out ?c1 nm a0.out.2 rfl _ rfl ?_))
   case c1=>unfold dg; omega
   intro w5 aP aD bq;have bc:dr _:=aP;have aa:Below w2.heap.size w2 ((w2.alloc (.cells #[.int .i64 (sg:Int),.int .i64 (at':Int)] 170)).alloc (.cells #[.int .i64 (sg:Int),.int .i64 (at':Int),.string ⟨nm.toArray⟩,.bool wd,.string ⟨n2.toArray⟩,.string ⟨tx.toArray⟩,.int .i64 wt,.int .i64 tg] 172)):=(((dv _ _).alloc (cV _) _).alloc (by simp) _);have hold:∀j,j<w2.heap.size->j≠w.heap.size->w5.heap[j]?=w2.heap[j]?:=λj hj bd=>(aD.block j (by simp; omega) (by simp; exact λe=>bd e)).trans (aa.block j hj);have be:dr (oA w5 B (w.heap.size+1) ms Y):=jB.stay HR1.out (hold B aq (by omega)) (hold _ ap (by omega))
   have HL5:dr (w5.rangeLeft B (w.heap.size+1)<wr.rangeLeft B (w.heap.size+1)):=by
    show _<_;rw[iq.mB (hold B aq (by omega)) (hold _ ap (by omega))];exact a9.out
   have bf:dr (Below w.heap.size w w5):=by
    show Below _ _ _;refine(HB1.out.trans (aa.mono (by omega))).grown aD (by simp; omega) (λb hb=>?_);cases hb;exact cV _
   have bg:w.heap.size+2<=w5.heap.size:=by omega
   clear ak aD aP hold aa aC ao;go_wp2;go_roundw
   case rel=>
    refine⟨U++[⟨sg,at',nm,wd,n2,tx,wt,tg⟩],Y,_,rZ HP.out ar.out,be.out,bc.out,?_,λx=>?_,bf.out,bg⟩
    .have:=OV nl nm (.int .i64 (max (iO U nm:Int) (sg:Int)));rw[bT,List.length_singleton];omega
    .rw[Nn,av.out x,az.out x];by_cases e:x=nm
     .subst e;rw[if_pos rfl,if_pos rfl];simp;omega
     .rw[if_neg e,if_neg (λh=>e h.symm)]
   case measure=>exact HL5.out
end
section
open Go.RowKit Go.Sort D
variable {F cur:Array Value}
theorem Rq(x y:Int):Ep x y<0↔x<y:=by
 unfold Ep;split
 .exact⟨λ_=>by assumption,λ_=>by omega⟩
 .split<;>constructor<;>intro h<;>omega
theorem DK(x y:Int):Ep x y=0↔x=y:=by
 unfold Ep;split
 .constructor<;>intro h<;>omega
 .split<;>constructor<;>intro h<;>omega
theorem Tv(x y:gu):ltOf UI x y=true↔ja x y=true:=by
 unfold ltOf UI ja;rw[decide_eq_true_eq];by_cases h:x.gw=y.gw
 .rw[if_pos h,if_neg (by rw[Classical.not_not]; exact(DK ..).2 h.symm)];by_cases B:gM x=gM y
  .rw[if_pos B,if_neg (by rw[Classical.not_not]; exact(uk ..).2 B),zG]
  .rw[if_neg B,if_pos (λe=>B ((uk ..).1 e)),zG]
 .rw[if_neg h,if_pos (λe=>h ((DK ..).1 e).symm),Rq];simp
theorem D6(x y:gu):ja x y=true\/(x.gw=y.gw/\gM x=gM y/\x.name=y.name)\/ja y x=true:=by
 unfold ja;by_cases h:x.gw=y.gw
 .rw[if_pos h,if_pos h.symm];by_cases O:gM x=gM y
  .rw[if_pos O,if_pos O.symm];rcases kR .. with B|B|B
   .exact .inl B
   .exact .inr (.inl ⟨h,O,B⟩)
   .exact .inr (.inr B)
  .rw[if_neg O,if_neg (λe=>O e.symm)];rcases kR .. with B|B|B
   .exact .inl B
   .exact absurd B O
   .exact .inr (.inr B)
 .rw[if_neg h,if_neg (λe=>h e.symm)];simp only[decide_eq_true_eq];omega
theorem IL{x y z:gu}(h:x.gw=y.gw/\gM x=gM y/\x.name=y.name)(B:ja x z=true):ja y z=true:=by
 unfold ja at *;rw[<-h.1,<-h.2.1,<-h.2.2];exact B
def vE(e:gu):gu:={e with text:=e.text.take 1048576}
theorem EA{e:gu}(h:e.text.length<=1048576):vE e=e:=by
 unfold vE;rw[bS h]
theorem Im(e:gu):(vE e).text.length<=1048576:=by
 show(e.text.take _).length<=_;rw[cy];omega
def TS(x y:gu):Int:=UI (vE x) (vE y)
def wR(e:gu):List Value:=oZ (vE e)
theorem wW(x y:gu):ltOf TS x y=true↔ja (vE x) (vE y)=true:=Tv ..
theorem Sg:SWO (ltOf TS) where
 irrefl x:=by
  cases h:ltOf TS x x with
  |false=>rfl
  |true=>rw[wW,wk]at h; cases h
 trans x y z h1 h2:=by rw[wW]at *; exact qI h1 h2
 ntrans x y z h1 h2:=by
  cases B:ltOf TS x z with
  |false=>rfl
  |true=>
   rw[wW]at B;have n1:¬ja (vE x) (vE y)=true:=by rw[<-wW,h1]; simp
   have n2:¬ja (vE y) (vE z)=true:=by rw[<-wW,h2]; simp
   rcases D6 (vE x) (vE y)with h|h|h
   .exact absurd h n1
   .exact absurd (IL h B) n2
   .exact absurd (qI h B) n2
theorem Qv(blk off size:Nat)(w:World):CmpLays prog 84 #[] wR 4 TS blk off size w:=by
 intro m os B _ x y;refine(FV _ _ _ (Im x) (Im y)).mono ?_;rintro e w' ⟨rfl,h⟩;exact⟨rfl,Ol h⟩
theorem O5(x:gu):∀v∈wR x,v.oneCell'=true:=Gu _
theorem xd(es:List gu):(kP es).length=es.length*4:=by
 induction es with
 |nil=>rfl
 |cons a l B=>
  have e:kP (a::l)=oZ a++kP l:=by simp[kP]
  rw[e];simp[oZ];omega
theorem B9(es:List gu)(h:∀e∈es,e.text.length<=1048576):(dR wR 4 es.toArray).toList=kP es:=by
 apply ck;intro j;by_cases U:j<es.length*4
 .have Y:j<(dR wR 4 es.toArray).size:=by simpa using U
  have O:j / 4<es.length:=by omega
  have e1:es.toArray[j / 4]! = es[j / 4]:=by rw[getElem!_pos _ _ (by simpa using O)]; simp
  have g:=get_flatK wR 4 es.toArray j (by simpa using U);rw[e1]at g;have B:=EA (h _ (bL O));unfold wR at g;rw[B]at g;have:=DF es _ (j % 4) O (by omega);rw[show j / 4*4+j % 4=j by omega]at this;rw[this];have B:j % 4<(oZ es[j / 4]).length:=by simp[oZ]; omega
  rw[getElem!_pos (oZ _) _ B,getElem!_pos _ j Y]at g;rw[bK B,<-g,cO,cN Y];rfl
 .rw[bQ (by simp; omega),bQ (by rw[xd]; omega)]
theorem My{w:World}{base e n m cap g:Nat}{ws:List gu}(h:w.ownsRow base e 4 (.slice (some ⟨g,0,none⟩) m cap) n (kP ws))(hn:n=ws.length)(hb:∀e∈ws,e.text.length<=1048576):HoldsK wR 4 w g 0 ws.toArray:=by
 subst hn;intro j U;rw[dS]at U;have Y:j<(dR wR 4 ws.toArray).size:=by simpa using U
 have B:(kP ws)[j]?=some ((dR wR 4 ws.toArray)[j]!):=by
  rw[<-B9 ws hb,getElem!_pos _ j Y,cO,cN Y]
 rcases h.2 with⟨h0,_⟩|⟨g',aa,cur,he,_,hg,_,_,ab,O⟩
 .simp at h0
 .obtain⟨⟨rfl,_⟩,_,rfl⟩:=he;refine⟨?_,?_⟩
  .rw[gq hg];rw[<-O,cc,if_pos (by omega)]at B;simpa using B
  .simp[World.frozen?,hg]
theorem Qm(h:F.size<=cur.size):(dQ id 0 F cur).toList.take F.size=F.toList:=by
 apply ck;intro j;by_cases B:j<F.size
 .rw[cc,cO];unfold dQ;rw[cP,cN (by omega)];simp only[Option.map_some,cY,de,true_and,B,if_true,Nat.sub_zero,id];rw[getElem!_pos F j B,cO,cN B]
 .rw[bQ (by simp; omega),bQ (by simp; omega)]
theorem RY{u:Value}(h:u∈(dQ id 0 F cur).toList):u∈F.toList\/u∈cur.toList:=by
 unfold dQ at h;simp at h;obtain⟨i,hi,rfl⟩:=h;split
 .rename_i B;rw[getElem!_pos F i B];simp
 .simp
theorem OZ(base:Nat)(au:Option Addr)(Y:Nat)(es:List gu)(w:World)(O:w.ownsRow base 96 4 (.slice au es.length Y) es.length (kP es))(am:(es.map gu.name).Nodup)(hl:es.length<=1048576)(hb:∀e∈es,e.text.length<=1048576)(ah:mG Flat w (.slice au es.length Y)) :
  dh prog 83 #[.slice au es.length Y,.func (.func 84) #[] #[]] w λe w2=>e=.returned (.tuple #[])/\Below base w w2/\
   ∃L:List gu,L.Perm es/\L.Pairwise (λx y=>ja x y=true)/\w2.ownsRow base 96 4 (.slice au es.length Y) es.length (kP L)/\mG Flat w2 (.slice au es.length Y):=by
 rcases O.2 with⟨he,hn⟩|⟨g,cap,cur,he,U,ac,h1,h2,h3,h4⟩
 .have hG:es=[]:=cn.1 (by simpa using hn);subst hG;have B:=AnyF.slices_SortFunc_none KM au Y (.func (.func 84) #[] #[]) w;change dh prog 83 _ _ _ at B;refine B.mono ?_;rintro e w2 ⟨rfl,rfl⟩;exact⟨rfl,dv _ _,[],dN _,List.Pairwise.nil,O,ah⟩
 .simp only[dK]at he;obtain⟨rfl,_,rfl⟩:=he;have ad:g<w.heap.size:=(cM.1 ac).1
  have B:=AnyQ.slices_SortFunc KM 4 isAgg96 sizeOf96 wR (λ_=>rfl) O5 TS Sg 84 #[] g 0 Y es.toArray w
   (enters_of func84 (by kernel_rfl) rfl) (Qv g 0 _ w) (My O rfl hb) ad (by simp; omega)
  change dh prog 83 _ _ _ at B;refine B.mono ?_;rintro e w2 ⟨rfl,d',nq,os,hp,hs,rfl⟩;have ae:d'.size=es.length:=by rw[hp.1]; simp
  have ai:(sortWorldK wR 4 w g 0 nq d' os).heap[g]?=some (.cells (dQ id 0 (dR wR 4 d') cur) 96 (0,0)):=by
   unfold sortWorldK putRowK;rw[heap_grow_old _ _ (by simpa using ad)];simp[putRow,mapBlock,Sort.ahead,cT,ac,onCells]
  have iC:d'.toList.Perm es:=by
   have e1:d'.extract 0 es.toArray.size=d':=by rw[<-hp.1]; simp
   have e2:es.toArray.extract 0 es.toArray.size=es.toArray:=by simp
   have p3:=hp.2.2;rw[e1,e2]at p3;exact p3
  have af:∀e∈d'.toList,e.text.length<=1048576:=λe he=>hb e (iC.mem_iff.1 he)
  have hF:=by
   have:=B9 _ af;simpa using this
  have aj:(dR wR 4 d').size=es.length*4:=by rw[dS,ae]
  have ag:d'.toList.Pairwise (λx y=>ja x y=true):=by
   have aa:=(iC.map _).nodup_iff.2 am;rw[cf];intro i j hi hj ak;have an:d'.toList.length=es.toArray.size:=by simpa using ae
   have h:=hs i j (cY _) ak (by omega);have gi:d'[i]! = d'.toList[i]:=by rw[getElem!_pos d' i _]; rfl
   have gj:d'[j]! = d'.toList[j]:=by rw[getElem!_pos d' j _]; rfl
   rw[gi,gj]at h;have ci:=EA (af _ (bL hi));have cj:=EA (af _ (bL hj));rcases D6 _ _ with h'|h'|h'
   .exact h'
   .rw[cx,bU,cf]at aa;exact absurd h'.2.2 (aa i j hi hj ak)
   .have:ltOf TS d'.toList[j] _=true:=(wW ..).2 (by rw[ci,cj]; exact h');rw[h]at this;cases this
  refine⟨rfl,yE U ad,d'.toList,iC,ag,⟨by rw[xd]; simp[ae],.inr ⟨g,Y,_,rfl,U,ai,h1,h2,by simp[dQ,h3],?_⟩⟩,?_⟩
  .rw[<-aj,Qm (by rw[aj,h3]; exact dc _ h1),hF]
  .intro g' cs e' f al ab u hu;simp only[dP,dH]at al;subst al;rw[ai]at ab;obtain⟨rfl,_⟩:=ab;rcases RY hu with h|h
   .rw[hF]at h;obtain⟨x,_,hx⟩:=List.mem_flatMap.1 h;exact D' x u hx
   .exact ah g cur _ _ rfl ac u h
end
section
open Go.Conc Go.RowKit Go.Maps
variable {n:Nat} {cl:Nat->Option Nat}
theorem wv(w:World)(a:Addr)(v:Value):(w.setCell a v).heap.size=w.heap.size:=by simp
def Lt(c:Code):Code:=match c with
 |.seq _ (.seq _ (.seq _ y))=>y
 |_=>.skip
theorem O2:f80.name≠ "runtime.NumGoroutine":=by
 decide
theorem GU:f82.name≠ "runtime.NumGoroutine":=by
 decide
def ob(cl:Nat->Option Nat)(n r:Nat):Nat->Option Nat:=λk=>if k=n then some r else cl k
theorem LO{r:Nat}(h:n<7):(oY cl).set! n (.chan (some r))=oY (ob cl n r):=by
 rcases(by omega:n=0\/n=1\/n=2\/n=3\/n=4\/n=5\/n=6)with rfl|rfl|rfl|rfl|rfl|rfl|rfl<;>rfl
def sJ(A:Ask)(num:Nat)(p:Nat×gu):oD:=if A.has p.2=true then⟨num,p.1,p.2.name,true,wP p.2,p.2.text,p.2.gw,p.2.gK⟩else⟨num,p.1,p.2.name,false,[],[],0,0⟩
theorem IG(A:Ask)(num:Nat)(p:Nat×gu):(sJ A num p).val=nZ A num p:=by
 unfold sJ nZ;split<;>rfl
structure FD(ms:List oD):Prop where
 len:ms.length<=1048576
 each:∀m∈ms,m.yX<=1000/\m.at'<4611686018427387904/\m.name.length<=dg
 places:(ms.map λm=>(m.yX,m.at')).Nodup
 names:((ib ms ms).map gu.name).Nodup
 texts:∀e∈ib ms ms,e.text.length<=1048576
theorem Rc{a b c d:Nat}(h:QS a b=QS c d):a=c/\b=d:=by
 unfold QS at h;simp only[Value.agg.injEq,Array.mk.injEq,List.cons.injEq,Value.int.injEq,true_and,and_true]at h;omega
theorem FD.all{ms:List oD}(h:FD ms):O3 (ms.map oD.val) where
 met:=λv O=>by
  obtain⟨m,hm,rfl⟩:=bM.1 O;have:=h.each m hm;exact⟨m.yX,m.at',_,_,_,_,_,_,by omega,this.2.1,rfl⟩
 nodup:=by
  rw[bO];have B:=h.places;rw[cx,bU]at B⊢;refine B.imp fun {x y} hne e=>hne ?_;have:=Rc (a:=x.yX) (b:=x.at') (c:=y.yX) (d:=y.at') e;rw[this.1,this.2]
 len:=by
  rw[cr];have:=h.len;unfold dg;omega
theorem Sv{ms:List oD}{l:List (Value×Value)}(O:(l.map dM).Perm (ms.map oD.val))(U:∀p∈l,p.1=Ob p.2):l.Perm (ms.map oD.kv):=by
 have e:l=(l.map dM).map λv=>(Ob v,v):=by
  rw[bO];conv=>lhs; rw[<-List.map_id l]
  refine bY λp Y=>?_;show p=(Ob _,p.2);rw[<-U p Y]
 have B:=O.map λv=>(Ob v,v);rw[bO (l:=ms)]at B;rw[e];exact B
def Px(ms:List oD)(L:List gu):Prop:=L.Perm (ib ms ms)/\L.Pairwise λx y=>ja x y=true
def D5(ms:List oD)(l cp:Nat):Prop:=l=0/\cp=0/\Px ms []
def CS(ms:List oD)(off:Nat)(spot:Option Nat)(l cp:Nat)(cs:Array Value)(e:di)(f:Nat×Nat):Prop:=
 off=0/\spot=none/\e=96/\f=(0,0)/\∃L,Px ms L/\l=L.length/\l<=cp/\cp<=dg/\cs.size=cp*4/\cs.toList.take (l*4)=kP L
section
variable {Z:lQ prog} {w:World} {T:List Frame} {dd q K:Nat} {wl:World} {V:Vs}
theorem El{A:Ask}{es:List gu}{ex:Obj}{sa:Option Addr}{sc bx b s:Nat}{ms ms0:List oD}{a2 a3 a4 a6 a8 a9 be bf bg bh bi bj bk bl bm bn bo bp bq br bs bt bu bv bw bz b0 b1 b2 b3 b4 b5 b6 b7 b8 b9 b':Value}(hT:∀ps,T=[ps]->ps.mode≠.panicking [dn])
  (hs:s=wl.heap.size) (hA:A.Ok) (hK:K<=s+5) (h5:5<=s) (ag:dd<s) (ah:5<=q) (hq:q<w.heap.size) (aa:w.heap[q]?=some ex) (hM:tT ex es) (ab:∀(r:Nat)a c,wl.heap[r]?≠some (.map a c))
  (hl:es.length<=100000) (ai:∀e∈es,e.name.length<=dg/\e.text.length<=1048576/\(e.gone=false->0<=e.gK/\e.gK<=255)) (hn:n<=6) (hV:∀x∈V,x.1<s)
  (aj:wl.heap[bx]?=some (.cells #[.int .i64 A.m,.string A.q,.int .i64 A.t] 94 (0,0))) (hb:wl.heap[b]?=some (.cells (oY cl) 125 (0,0)))
  (ak:∀k,n<=k->cl k=none) (mP:∀k r,k<7->cl k=some r->∃vs,(r,some vs)∈V) (ji:∀x∈V,∃k vs,k<7/\cl k=some x.1/\x.2=some vs) (uw:∀k k' r,k<7->k'<7->cl k=some r->cl k'=some r->k=k') (jo:(V.map dL).Nodup) (ac:V.length=n)
  (al:uz V=ms0.map oD.val) (am:ms=(jz es).map (sJ A n)++ms0) (ad:FD ms)
  (fin:∀(E₂:Env prog)aM aI aN,E₂.Z=Z->E₂.T=T->E₂.w0=w->(aI=[]\/∃k2,aI=.code .ret::k2)->CK prog E₂ Tryz.f49 aM aN (D5 ms) (CS ms)->gp E₂ [⟨49,aM,aI⟩] aN []) :
  gp (q8 prog Z w T dd q K false) [⟨49,#[.slice sa n sc,.map (some dd),a2,a3,a4,.pointer (some ⟨bx,0,none⟩),a6,.pointer (some ⟨b,0,none⟩),a8,a9,be,bf,bg,bh,bi,bj,bk,bl,bm,bn,bo,bp,bq,br,bs,bt,bu,bv,bw,bz,b0,b1,b2,b3,b4,b5,b6,b7,b8,b9,b'],[.code (Lt (ic Tryz.f49))]⟩] wl V:=by
 have HA:dr _:=And.intro hs (And.intro hA (And.intro hK (And.intro h5 (And.intro ag (And.intro ah (And.intro hq (And.intro aa (And.intro hM (And.intro ab (And.intro hl (And.intro ai (And.intro hn (And.intro hV (And.intro aj hb))))))))))))));have HC:dr _:=And.intro ak (And.intro mP (And.intro ji (And.intro uw (And.intro jo (And.intro ac (And.intro al (And.intro am (And.intro ad (And.intro fin hT)))))))));clear hs hA hK h5 ag ah hq aa hM ab hl ai hn hV aj hb ak mP ji uw jo ac al am ad fin hT;show gp _ [⟨_,_,[.code (.seq (.region 7 _ false) (.seq (.region 8 _ false) (.seq (.region 9 _ false) (.seq (.region 10 _ false) .ret))))]⟩] _ _;refine gp.sr λkk HK=>?_
 (iterate 5 (refine iS ?_; go_simp));refine oB rfl (by rfl) (by kernel_rfl) λy0 U ao=>?_;have e0:y0.cell? ⟨bx,0,none⟩=some (.int .i64 A.m):=by rw[gq (by rw[U]; exact HA.out.2.2.2.2.2.2.2.2.2.2.2.2.2.2.1)]; rfl
 have e1:y0.cell? ⟨bx,1,none⟩=some (.string A.q):=by rw[gq (by rw[U]; exact HA.out.2.2.2.2.2.2.2.2.2.2.2.2.2.2.1)]; rfl
 have e2:y0.cell? ⟨bx,2,none⟩=some (.int .i64 A.t):=by rw[gq (by rw[U]; exact HA.out.2.2.2.2.2.2.2.2.2.2.2.2.2.2.1)]; rfl
 have HY:dr (y0.heap=wl.heap/\y0.os=wl.os):=⟨U,ao⟩;clear U ao;unfold jC;go_simp;simp only[l6];obtain⟨hs,hA,hK,h5,ag,ah,hq,aa,hM,ab,hl,ai,hn,hV,aj,hb⟩:=HA.out;rw[<-HY.out.1]at hs ab aj hb;clear e0 e1 e2;refine gp.qj #[.int .i64 (n:Int),.map (some dd),.agg #[.int .i64 A.m,.string A.q,.int .i64 A.t],dT,dT,dT,dT,dT,dT,dT,dT] (i:=6) (jQ:=f80) (c:=ic f80) rfl rfl func80 (by kernel_rfl) O2 rfl (by simp[gR]) (by kernel_rfl) ?_;refine zO n A es ex s hs rfl hA hK h5 ag ah hq aa hM ab hl ai (by omega) hV λw2 z2 o2 aO p2=>?_;obtain⟨ak,mP,ji,uw,jo,ac,al,am,ad,fin,hT⟩:=HC.out;have av:b<s:=by rw[hs]; exact(cM.1 hb).1
 have a':w2.heap[b]?=some (.cells (oY cl) 125 (0,0)):=(o2 b av).trans hb;have aP:n<7:=by omega
 have H2:dr _:=And.intro z2 (And.intro o2 (And.intro p2 (And.intro a' av)));clear ak mP ji uw jo ac al am ad fin hT hs hA hK h5 ag ah hq aa hM ab hl ai hV aj hb hn z2 o2 aO p2 a' av;rw[jf];go_simp;have aQ:(n:Int)<7:=by omega
 (refine iS ?_; go_simp);clear aQ;refine oB rfl (by rfl) (by kernel_rfl) λy1 an ap=>?_;have gb:y1.heap[b]?=some (.cells (oY cl) 125 (0,0)):=by rw[an]; exact H2.out.2.2.2.1
 have e0:y1.cell? ⟨b,n,none⟩=some (.chan (cl n)):=by
  rw[gq gb];rcases(by omega:n=0\/n=1\/n=2\/n=3\/n=4\/n=5\/n=6)with rfl|rfl|rfl|rfl|rfl|rfl|rfl<;>rfl
 have f0:y1.frozen? ⟨b,n,none⟩=false:=gP gb n;have aA:dr (y1.heap=w2.heap/\y1.os=w2.os):=⟨an,ap⟩;have HG:dr _:=gb;clear an ap gb;unfold jC;go_simp;simp only[l6];clear e0 f0;obtain⟨w3,au⟩:∃w3,w3=y1.setCell ⟨b,n,none⟩ (.chan (some (s+3))):=⟨_,rfl⟩;have g3:w3.heap[b]?=some (.cells (oY (ob cl n (s+3))) 125 (0,0)):=by rw[au,heap_set HG.out n (.chan (some (s+3))),<-LO aP]; simp only[cS]
 have o3:∀r,r≠b->w3.heap[r]?=w2.heap[r]?:=λr hr=>by rw[au,du _ _ _ _ hr,aA.out.1]
 have z3:w3.heap.size=s+5:=by rw[au,wv,aA.out.1]; exact H2.out.1
 have p3:w3.os=w2.os:=by rw[au,s9]; exact aA.out.2
 rw[<-au];clear au HG aA y1;have H3:dr _:=And.intro g3 (And.intro o3 (And.intro z3 p3));clear g3 o3 z3 p3;refine gp.ie HK ?_;clear HK kk;refine gp.sr λkk HK=>?_
 (iterate 3 (refine iS ?_; go_simp));have aR:IntKind.i64.wrap ((n:Int)+1)=(n:Int)+1:=by simp only[dI]; omega
 rw[aR];clear aR;obtain⟨ak,mP,ji,uw,jo,ac,al,am,ad,fin,hT⟩:=HC.out;obtain⟨hs,hA,hK,h5,ag,ah,hq,aa,hM,ab,hl,ai,hn,hV,aj,hb⟩:=HA.out;obtain⟨g3,o3,z3,p3⟩:=H3.out;obtain⟨z2,o2,p2,a',av⟩:=H2.out;obtain⟨V2,ae⟩:∃V2,V2=(s+3,some ((jz es).map (nZ A n)))::V:=⟨_,rfl⟩;have aS:(n:Int)+1=(V2.length:Int):=by rw[ae,cI,ac]; rfl
 have aw:uz V2=ms.map oD.val:=by
  rw[ae];show(jz es).map (nZ A n)++uz V=_;rw[al,am,bR,bO];congr 1;refine bY λp _=>(IG A n p).symm
 have aJ:∀k r,cl k=some r->k<7->r≠s+3:=λk r hr hk e=>by
  obtain⟨vs,h⟩:=mP k r hk hr;have:=hV _ h;simp only at this;omega
 have aE:∀k r,k<7->ob cl n (s+3) k=some r->∃vs,(r,some vs)∈V2:=λk r hk hr=>by
  unfold ob at hr;rw[ae];split at hr
  .cases hr;exact⟨_,bZ ..⟩
  .obtain⟨vs,h⟩:=mP k r hk hr;exact⟨vs,cD _ h⟩
 have ax:∀x∈V2,∃k vs,k<7/\ob cl n (s+3) k=some x.1/\x.2=some vs:=λx hx=>by
  rw[ae]at hx;rcases cm.1 hx with rfl|hx
  .exact⟨n,_,aP,by unfold ob; rw[if_pos rfl],rfl⟩
  .obtain⟨k,vs,a1,a2,a3⟩:=ji x hx;refine⟨k,vs,a1,?_,a3⟩;have:k≠n:=λe=>by rw[e,ak n (cV _)]at a2; cases a2
   unfold ob;rw[if_neg this];exact a2
 have aF:∀k k' r,k<7->k'<7->ob cl n (s+3) k=some r->ob cl n (s+3) k'=some r->k=k':=λk k' r hk aT h1 h2=>by
  unfold ob at h1 h2;split at h1<;>split at h2
  .omega
  .cases h1;exact absurd rfl (aJ k' _ h2 aT)
  .cases h2;exact absurd rfl (aJ k _ h1 hk)
  .exact uw k k' r hk aT h1 h2
 have aq:(V2.map dL).Nodup:=by
  rw[ae,cw,cK];refine⟨λh=>?_,jo⟩;obtain⟨x,hx,e⟩:=bM.1 h;have:=hV x hx;simp only at e;omega
 rw[aS,<-ae];refine gp.qj (#[.pointer (some ⟨b,0,none⟩),.int .i64 (V2.length:Int),dT,dT,dT,dT,dT,dT,dT,dT,dT,dT,dT,dT,dT,dT,dT,dT,dT,dT,dT,dT,dT,dT,dT,dT,dT,dT,dT,dT]:Array Value) (i:=3) (jQ:=f82) (c:=ic f82) rfl rfl func82 (by kernel_rfl) GU rfl (by simp[gR]) (by kernel_rfl) ?_;refine GJ (mb:=s+5) rfl ad.all z3.symm (by omega) g3 aE ax aF aq (by rw[ae,cI,ac]; omega) aw ?_;intro w4 l aU aV aW _ _;have aK:KJ w4 (s+5) ms:=aW.perm (Sv aU aV);have aX:=aK.lt;have aY:dr _:=And.intro aK aX
 have aZ:∀b,w.heap[b]?=some rD->b<w.heap.size/\(true=true->b≠q):=λb hb=>⟨(cM.1 hb).1,λ_ e=>by
  obtain⟨a,c,hx⟩:=hM.isMap;rw[e,aa,hx]at hb
  cases hb⟩
 have bA:dr _:=aZ;clear ak mP ji uw jo ac al am hs hA hK h5 ag ah hq aa hM ab hl ai hn hV aj hb g3 o3 z3 p3 z2 o2 p2 a' av ae aS aw aJ aE ax aF aq aU aV aW aK aX HA HC H2 H3;have HF:dr _:=And.intro ad (And.intro fin hT);clear ad fin hT aZ;show gp _ [⟨_,iF _ _ _,_⟩] _ _;rw[jf];go_simp;refine oB rfl (by rfl) (by kernel_rfl) λy0 U ao=>?_;have ba:KJ y0 (s+5) ms:=lB.stay aY.out.1 (by rw[U]);have ay:s+6<=y0.heap.size:=by rw[U]; exact aY.out.2
 have aG:=Fo (s+5) ms y0 ba HF.out.1.len λm hm=>⟨(HF.out.1.each m hm).1,(HF.out.1.each m hm).2.2⟩;clear U ao ba;unfold jC;go_simp;simp only[l6];refine⟨trivial,aG.mono ?_⟩;clear aG;rintro e w5 ⟨v,af,rfl,B,O,aB,az⟩;refine⟨v,rfl,?_⟩;obtain⟨aL,aC,rfl,bc⟩:=lG O;have HO:dr _:=And.intro B (And.intro O (And.intro aB (And.intro az ay)));clear B O aB az ay bc
 (refine iS ?_; go_simp);refine gp.ie HK ?_;clear HK kk;refine gp.sr λkk HK=>?_
 (refine iS ?_; go_simp);refine oB rfl (by rfl) (by kernel_rfl) λy1 an ap=>?_;obtain⟨B,O,aB,az,ay⟩:=HO.out;have iC:(ib ms af).Perm (ib ms ms):=Hi B;have a0:y1.ownsRow y0.heap.size 96 4 (.slice aL (ib ms af).length aC) (ib ms af).length (kP (ib ms af)):=ku O (λk hk=>by rw[an]);have a5:=OZ y0.heap.size aL aC (ib ms af) y1 a0 ((iC.map _).nodup_iff.2 HF.out.1.names) (by have h1:=Dr ms af; have h2:=B.length_eq; have h3:=HF.out.1.len; omega) (λe he=>HF.out.1.texts e (iC.mem_iff.1 he)) (az.stay λg hg=>by rw[an]);have HP:dr _:=And.intro iC ay;clear B O aB az ay iC a0 an ap HO;unfold jC;go_simp;simp only[l6];refine⟨trivial,a5.mono ?_⟩;clear a5;rintro e w6 ⟨rfl,bB,L,a7,aD,Y,ar⟩;refine⟨_,rfl,?_⟩;have H6:dr _:=And.intro a7 (And.intro aD (And.intro Y ar));clear bB a7 aD Y ar;refine gp.ie HK ?_;clear HK kk;refine gp.seq ?_;refine gp.region ?_
 (iterate 2 (refine iS ?_; go_simp));refine gp.inRegion ?_;refine HF.out.2.1 _ _ _ _ rfl rfl rfl (.inr ⟨_,rfl⟩) ⟨⟨.slice aL (ib ms af).length aC,λτ=>by simp[dm,results49,go_sem],?_⟩,bA.out⟩;obtain⟨a7,aD,Y,ar⟩:=H6.out;have hL:L.length=(ib ms af).length:=a7.length_eq;have aH:Px ms L:=⟨a7.trans HP.out.1,aD⟩;rcases Y.2 with⟨he,bE⟩|⟨g,cap,cur,he,bC,bd,h1,h2,h3,h4⟩
 .left;simp only[dK]at he;refine⟨_,_,?_,he.2.1,he.2.2,?_⟩
  .rw[he.1]
  .have:L=[]:=List.eq_nil_of_length_eq_zero (by omega);rw[<-this];exact aH
 .right;simp only[dK]at he;obtain⟨rfl,_,rfl⟩:=he;refine⟨g,0,none,_,aC,cur,_,_,rfl,bd,ar g cur _ _ rfl bd,λm hm bD=>?_,rfl,rfl,rfl,rfl,L,aH,hL.symm,h1,h2,h3,h4⟩;have:=hm.x.2.2 g bD;have:=HP.out.2;omega
end
end
section
open Go.Conc Go.RowKit Go.Maps
section
variable {A:Ask} {es:List gu}
theorem BA(es:List gu):jz es=(c6 es.length).map λk=>(k,(sU es).getD k ⟨[],false,[],0,0⟩):=by
 apply ck;intro k;rw[tQ,cH];have B:=(ql es).length_eq;by_cases h:k<es.length
 .rw[List.getElem?_range h];simp[bJ,bK (show k<(sU es).length by omega)]
 .rw[bQ (by omega),bQ (by simp; omega)];rfl
theorem kQ(num:Nat)(p:Nat×gu):(sJ A num p).yX=num/\(sJ A num p).at'=p.1/\(sJ A num p).name=p.2.name/\(sJ A num p).wanted=A.has p.2:=by
 unfold sJ;split
 .exact⟨rfl,rfl,rfl,by simp_all⟩
 .exact⟨rfl,rfl,rfl,by simp_all⟩
theorem wC{e:gu}(h:A.has e=true):e.gone=false:=by
 unfold Ask.has at h
 cases B:e.gone with
 |false=>rfl
 |true=>rw[B]at h; simp at h
theorem Ic{num:Nat}{p:Nat×gu}(h:A.has p.2=true):(sJ A num p).Oe=p.2:=by
 have B:=wC h;obtain⟨k,O,U,tx,wt,tg⟩:=p;subst B;unfold sJ;rw[if_pos h];rfl
theorem I3(es:List gu):(jz es).map dM=sU es:=by
 apply ck;intro k;rw[cH,tQ];cases(sU es)[k]?<;>rfl
end
theorem Om:Tryz.f49.name≠ "runtime.NumGoroutine":=by
 decide
end
section
open Go.Conc Go.RowKit Go.Maps
variable {listed:Array Bool} {ops:Array Oper} {c:Code} {rest:List Nat} {b i:Nat} {o:Oper} {md:Region.Mode} {W:World}
noncomputable def marked (W:World) (Mp:Nat->Prop):World:={W with heap:=W.heap.mapIdx λb x=>@ite _ (Mp b) (Classical.propDecidable _) rD x}
theorem C9{Mp:Nat->Prop}(h:¬Mp b):(marked W Mp).heap[b]?=W.heap[b]?:=by
 show(W.heap.mapIdx _)[b]?=_;rw[cP]
 cases W.heap[b]? with
 |none=>rfl
 |some x=>simp[h]
theorem MC{Mp:Nat->Prop}(hb:b<W.heap.size)(h:Mp b):(marked W Mp).heap[b]?=some rD:=by
 show(W.heap.mapIdx _)[b]?=_;rw[cP,cN hb];simp[h]
theorem yi(W:World)(Mp:Nat->Prop):(marked W Mp).heap.size=W.heap.size:=by
 show(W.heap.mapIdx _).size=_;simp
noncomputable def iK (Z:lQ prog) (W0:World) (Mp:Nat->Prop):Env prog where
 Z:=Z
 jl:=λb=>b<W0.heap.size/\¬Mp b
 w0:=marked W0 Mp
 T:=[]
 gl:=λg=>sf g=true
 st:=true
 je:=λf=>uu f=true
 ok:=Ou prog uu sf true
 X:=λm=>(∀r,Mp r->m.blk r=some r)/\∀r o v,Mp r->W0.cell? ⟨r,o,none⟩=some v->m.ur r o=some v
 le:=λ_ _ h x=>⟨λr hr=>h.blk r r (x.1 r hr),λr o v hr hv=>by rw[h.ur]; exact x.2 r o v hr hv⟩
theorem Gb(Z:lQ prog)(W0:World)(Mp:Nat->Prop):∀b,b<(iK Z W0 Mp).w0.heap.size->(iK Z W0 Mp).jl b\/(iK Z W0 Mp).w0.heap[b]?=some rD:=λb hb=>by
 have hb:b<W0.heap.size:=by rw[<-yi W0 Mp]; exact hb
 by_cases h:Mp b
 .exact .inr (MC hb h)
 .exact .inl ⟨hb,h⟩
section
variable {Z:lQ prog} {W0:World} {Mp:Nat->Prop} {fn:dj} {tm:Array Value} {os:List OF} {wl:World} {V:List (Nat×Option (List Value))} {k:List Item}
theorem Tt(hi:ops[i]?=some o)(O:dy o (dp ops tm)=true)(U:Fx prog uu sf true o.op=true)
  (B:∀τ,jC prog o ⟨tm,[]⟩ (tp wl τ) (λv y=>gp (iK Z W0 Mp) (⟨fn,(Act.put ⟨tm,[]⟩ o.dst v).tmps,.inRegion ops rest::k⟩::os) y V)):gp (iK Z W0 Mp) (⟨fn,tm,.inRegion ops (i::rest)::k⟩::os) wl V:=
 gp.Tx hi O (xK U) B
theorem gH{v:Value}(h:gp (iK Z W0 Mp) (⟨fn,(Act.put ⟨tm,[]⟩ o.dst v).tmps,.inRegion ops rest::k⟩::os) wl V)(hi:ops[i]?=some o:=by rfl)(O:∀y:World,jC prog o ⟨tm,[]⟩ y (λu U=>Same y U/\u=v):=by intro y; unfold jC; go_simp; refine⟨rfl,?_⟩; with_reducible rfl)
  (B:dy o (dp ops tm)=true:=by rfl) (Y:Fx prog uu sf true o.op=true:=by kernel_rfl):gp (iK Z W0 Mp) (⟨fn,tm,.inRegion ops (i::rest)::k⟩::os) wl V:=gp.pu hi B (xK Y) O h
theorem NF(B:my (λo=>Fx prog uu sf true o.op) c=true)(U:k.all mJ=true)(Y:os≠[])(h:∀O:World,O.heap=wl.heap->O.os=wl.os->c.wp prog (GB (iK Z W0 Mp) fn k os V) ⟨tm,[]⟩ O):gp (iK Z W0 Mp) (⟨fn,tm,.code c::k⟩::os) wl V:=
 gp.GY (pN B) U (.inl Y) λτ _=>h _ rfl rfl
theorem r8(B:my (λo=>Fx prog uu sf true o.op) c=true)(O:k.all mJ=true)(U:os≠[])(h:∀τ,c.wp prog (GB (iK Z W0 Mp) fn k os V) ⟨tm,[]⟩ (tp wl τ)):gp (iK Z W0 Mp) (⟨fn,tm,.code c::k⟩::os) wl V:=
 gp.GY (pN B) O (.inl U) λτ _=>h τ
end
theorem Sr{acc:List Nat}(U:dx md ops listed=[]):∀(B t:Nat),dJ md ops B t listed acc=acc.reverse
 |0,_=>rfl
 |f+1,t=>by
  simp only[dJ]
  split
  .rename_i q Y
   have O:(dx md ops listed)[t % (dx md ops listed).length]?=some q:=Y
   rw[U]at O;simp at O
  .rfl
theorem wH{j:Nat}(h1:dx md ops listed=[j])(h2:dx md ops (listed.setIfInBounds j true)=[])(O t:Nat):dJ md ops (O+1) t listed []=[j]:=by
 simp only[dJ];split
 .rename_i q U;have B:(dx md ops listed)[t % (dx md ops listed).length]?=some q:=U;rw[h1]at B;have Y:t % ([j]).length=0:=df t;rw[Y]at B;have hj:=by simpa using B.symm
  subst hj;exact Sr h2 ..
 .rename_i U;have B:(dx md ops listed)[t % (dx md ops listed).length]?=none:=U;rw[h1]at B;have Y:t % ([j]).length=0:=df t;rw[Y]at B;simp at B
theorem Ty{last:Nat}{Z:lQ prog}{W0:World}{Mp:Nat->Prop}(h:((c6 ops.size).all λi=>i==last || (match ops[i]? with|some o=>Fx prog uu sf true o.op|none=>true))=true):∀(i:Nat)o,i≠last->ops[i]?=some o->OkOp prog (iK Z W0 Mp).je (iK Z W0 Mp).gl (iK Z W0 Mp).st o.op:=by
 intro i o B hi;have O:=(cM.1 hi).1;have:=cJ.1 h i (ct.2 O);rw[hi]at this;simp only[Bool.or_eq_true,beq_iff_eq]at this;rcases this with e|e
 .exact absurd e B
 .exact xK e
theorem vd(m:Nat)(hm:m<=3)(w:World):dh prog 46 #[.int .i64 (m:Int)] w λe w'=>e=.returned (.bool true)/\w=w':=by
 have B:(m:Int)<=3:=by omega
 go_wp2;go_ret;exact⟨rfl,rfl⟩
def SO(w:World)(base:Nat)(es:List gu)(A:Ask)(most:Nat)(v:Value):Prop:=∃L:List gu,L.Perm (es.filter A.has)/\L.Pairwise (λx y=>ja x y=true)/\∃u,v=.tuple #[u,.int .i64 0]/\w.ownsRow base 9 1 u (L.take most).length (gr ((L.take most).map jM))
section
variable {Z:lQ prog} {W0:World} {Mp:Nat->Prop} {fn:dj} {tm:Array Value} {os:List OF} {wl:World} {k:List Item}
def Qs(c:Code):Code:=match c with
 |.seq _ (.seq _ (.seq _ (.seq _ y)))=>y
 |_=>.skip
theorem wG{fa:Option Addr}{l cp most:Nat}{L:List gu}{wl:World}{a0 a1 a2 a3 a5 a6 a7 a8 a9 au av aw ax ay az a4 a' aA aB aC aD aE aF aG aH aI aJ aK aL aM aN aO aP aQ aR aS aT aU aV aW aX aY aZ ba bc bd be bf bh bi bj bk bl bm bn bo bp bq br bs bt bu bv bw bx:Value}(hi:ops[i]?=some o)(hR:vv wl 4 (.slice fa l cp) l (kP L))(hL:l=L.length)(b9:1<=most)(bA:most<=20)(h5:5<=wl.heap.size)
  (B:∀e∈L,∀y:World,(∀r,r<5->y.heap[r]?=wl.heap[r]?)->dh prog 51 #[.agg #[.string ⟨e.name.toArray⟩,.string ⟨e.text.toArray⟩,.int .i64 e.gw,.int .i64 e.gK]] y λen w'=>en=.returned (.string ⟨(jM e).toArray⟩)/\iT y w')
  (hn:∀(w2:World)(u:Value),(∀r,r<wl.heap.size->w2.heap[r]?=wl.heap[r]?)->wl.heap.size<=w2.heap.size->w2.os=wl.os->w2.ownsRow wl.heap.size 9 1 u (L.take most).length (gr ((L.take most).map jM))->gp (iK Z W0 Mp) (⟨fn,iF o.dst tm (.tuple #[u,.int .i64 0]),.inRegion ops rest::k⟩::os) w2 []) :
  gp (iK Z W0 Mp) (⟨17,#[a0,a1,a2,a3,.int .i64 (most:Int),a5,a6,a7,a8,a9,au,av,.slice fa l cp,aw,ax,ay,az,a4,a',aA,aB,aC,aD,aE,aF,aG,aH,aI,aJ,aK,aL,aM,aN,aO,aP,aQ,aR,aS,aT,aU,aV,aW,aX,aY,aZ,ba,bc,bd,be,bf,bh,bi,bj,bk,bl,bm,bn,bo,bp,bq,br,bs,bt,bu,bv,bw,bx],[.code (Qs (ic f17))]⟩::⟨fn,tm,.inRegion ops (i::rest)::k⟩::os) wl []:=by
 have HA:dr _:=And.intro hR (And.intro hL (And.intro h5 (And.intro B hn)));clear hR h5 B hn;show gp _ (⟨_,_,[.code (.seq (.region 6 _ false) (.seq (.seq (.region 7 _ false) (.block 0 _)) (.seq (.region 12 _ false) .ret)))]⟩::_) _ _;refine gp.sr λkk HK=>?_
 (refine gH ?_; go_simp);refine gp.ie HK ?_;clear HK kk;refine gp.sc λkk HK=>?_;refine NF (by kernel_rfl) (by rw[HK.out]; rfl) (by simp) λy0 af Y=>?_;obtain⟨hR,hL,h5,B,hn⟩:=HA.out;have ah:vv y0 4 (.slice fa l cp) l (kP L):=hR.later λa u h=>by simp only[dA]at h⊢; rw[af]; exact h
 obtain⟨n,ai⟩:∃n,n=min most l:=⟨_,rfl⟩;have b7:min (most:Int) (l:Int)=(n:Int):=by omega
 have bB:n<=l:=by omega
 obtain⟨bC,bD,al,bE,am,_,aa⟩:=id ah;simp only[dK]at al;obtain⟨rfl,_,rfl⟩:=al;have bF:n<=cp:=by omega
 have b8:cp<=9223372036854775807:=am;have HR:dr _:=And.intro ah (And.intro aa (And.intro af (And.intro Y ai)));clear hR hL h5 B hn ah aa af Y ai am;obtain⟨i9,bz,an,b0,b1⟩:=dq yM;go_wp2_with fail;go_loopw [13,56] (λu i wr=>∃j:Nat,j<=n/\i=.int .i64 j/\wr.ownsRow y0.heap.size 9 1 u j (gr ((L.take j).map jM))/\Below y0.heap.size y0 wr) (λ_ i _=>n-(intOf i).toNat)
 case atStart=>exact⟨0,cY _,rfl,dz _ _ _ _,dv _ _⟩
 case round=>
  obtain⟨j,hj,rfl,ab,hb⟩:=hrel;obtain⟨ag,cg,rfl,bG⟩:=gU ab;have HO:dr (wr.ownsRow y0.heap.size 9 1 (.slice ag j cg) j (gr ((L.take j).map jM))):=ab;have HB:dr (Below _ _ _):=hb;clear ab hb;by_cases bH:j<n
  .have aj:j<L.length:=by omega
   obtain⟨e,he⟩:∃e,e=L[j]:=⟨_,rfl⟩;have ae:e∈L:=by rw[he]; exact bL aj
   have ac:∀c,c<4->(kP L)[j*4+c]?=(oZ e)[c]?:=λc hc=>by rw[DF L j c aj hc,he]
   obtain⟨bg,og,rfl,b2⟩:=HR.out.2.1 (j*4) (.string ⟨e.name.toArray⟩) (ac 0 (by omega))
   have O:∀c u,c<4->(oZ e)[c]?=some u->wr.cell? ⟨bg,og+j*4+c,none⟩=some u:=λc u hc hu=>by
    obtain⟨b',o',h1,h2⟩:=HR.out.2.1 (j*4+c) u (by rw[ac c hc]; exact hu);simp only[dH,Addr.mk.injEq]at h1;obtain⟨rfl,rfl,_⟩:=h1;rw[Nat.add_assoc];exact dl HB.out h2
   have d0:wr.cell? ⟨bg,og+j*4,none⟩=some (.string ⟨e.name.toArray⟩):=O 0 _ (by omega) rfl;have d1:wr.cell? ⟨bg,og+j*4+1,none⟩=some (.string ⟨e.text.toArray⟩):=O 1 _ (by omega) rfl;have d2:wr.cell? ⟨bg,og+j*4+2,none⟩=some (.int .i64 e.gw):=O 2 _ (by omega) rfl;have d3:wr.cell? ⟨bg,og+j*4+3,none⟩=some (.int .i64 e.gK):=O 3 _ (by omega) rfl;have HE:dr _:=And.intro he ae;clear he ae ac O b2;go_wp2_with fail;have ao:=HB.out.size;refine(HA.out.2.2.2.1 e HE.out.2 _ (λr hr=>?_)).mono ?_
   .have h5:=HA.out.2.2.1;have U:=HR.out.2.2.1;rw[jD _ _ (by rw[U]at ao; omega),HB.out.block r (by rw[U]; omega),U]
   rintro en w5 ⟨rfl,hx⟩;have b3:=hx.size;simp only[dC]at b3;have ak:Below wr.heap.size wr w5:=((dv _ _).alloc (cV _) _).trans (Below.mono hx (by simp));have b4:dr (Below y0.heap.size y0 w5):=HB.out.trans (ak.mono ao);have ap:dr (w5.ownsRow y0.heap.size 9 1 (.slice ag j cg) j (gr ((L.take j).map jM))):=iz HO.out (λg hg=>ak.block g (HO.out.lt g hg).2);clear d0 d1 d2 d3 hx ak
   go_wp2_with (first
    |(at_builtin; refine jc _ rfl _ _ 31 rfl y0.heap.size 9 i9 (.string ⟨#[]⟩) 16 underlying31 bz an b0 b1 rfl _ _ _ rfl (ap.out.alloc _) ⟨w5.heap.size,0,none⟩ _ rfl (ye rfl) rfl ?c1 ?c2 ?c3 ?_))
   case c1=>omega
   case c2=>unfold dg; omega
   case c3=>first|omega|(simp; omega)
   intro v3 w3 ad aq _
   have HO3:dr (w3.ownsRow y0.heap.size 9 1 v3 (j+1) (gr ((L.take (j+1)).map jM))):=by
    show w3.ownsRow _ _ _ _ _ _;rw[bW aj,bR,<-HE.out.1];rw[show(cE jM (List.take j L)++cE jM [e])=(L.take j).map jM++[jM e]from rfl,pB,List.map_take];exact ad
   have HB3:dr (Below y0.heap.size y0 w3):=(b4.out.alloc (by omega) _).grown aq (by simp; omega) (λg hg=>(ap.out.lt g hg).1);clear ad aq;go_wp2;go_roundw
   case rel=>exact⟨j+1,by omega,by go_num,HO3.out,HB3.out⟩
   case measure=>simp[intOf]; omega
  .have b5:j=n:=by omega
   subst b5;go_wp2;refine iA ?_;rw[HK.out];refine gp.seq (gp.region ?_)
   (iterate 3 (refine gH ?_; go_simp));refine gp.inRegion ?_;refine gp.back (v:=.tuple #[.slice ag j cg,.int .i64 0]) (.inr ⟨_,rfl⟩) func17 hi (λτ=>by simp[dm,results17,go_sem]) ?_;obtain⟨_,bI,h5,B,hn⟩:=HA.out;obtain⟨_,_,U,Y,ai⟩:=HR.out;have hO:=HO.out;have hB:=HB.out;rw[U]at hO hB;have ar:(L.take most).length=j:=by rw[cy]; omega
   have b6:L.take j=L.take most:=by
    by_cases hc:most<=L.length
    .rw[show j=most by omega]
    .rw[show j=L.length by omega,List.take_length,bS (by omega)]
   refine hn wr (.slice ag j cg) (λr hr=>?_) (by have:=hB.size; rw[U]at this; exact this) (hB.os.trans Y) ?_
   .rw[hB.block r hr,U]
   .rw[ar,<-b6];exact hO
end
end
section
open Go.RowKit Go.Maps
variable {xs:List Wd} {v:Value} {w':World}
structure qN(w0 w:World):Prop where
 os:w.os=w0.os
 size:w0.heap.size<=w.heap.size
 block:∀k,k<w0.heap.size->w.heap[k]?=w0.heap[k]?
theorem qN.trans{a b c:World}(h:qN a b)(B:qN b c):qN a c:=⟨B.os.trans h.os,cW h.size B.size,λk O=>(B.block k (cX O h.size)).trans (h.block k O)⟩
theorem qN.of{w:World}(h:Below w.heap.size w w'):qN w w':=⟨h.os,h.size,h.block⟩
structure AW(w0 w:World)(F1 F2:Nat->Prop)(b:Nat)(buf:List gu)(ss:List (List gu))(ts:List (List Wd)):Prop where
 j:PJ w F1 F2 b buf ss ts
 Vo:∀k,F1 k->w0.heap.size<=k
 S5:∀k,F2 k->w0.heap.size<=k
 low:qN w0 w
structure St(w w':World)(F1 F2 F1' F2':Nat->Prop):Prop where
 size:w.heap.size<=w'.heap.size
 block:∀k,k<w.heap.size->¬F1 k->¬F2 k->w'.heap[k]?=w.heap[k]?
 f1:∀k,F1' k->F1 k\/w.heap.size<=k
 f2:∀k,F2' k->F2 k\/w.heap.size<=k
def Kept(w:World)(F1 F2:Nat->Prop)(v:Value)(xs:List Wd):Prop:=w.ownsRow 0 9 1 v xs.length (gr xs)/\∀g,v.ownBlock=some g->¬F1 g/\¬F2 g
theorem Kept.step{w:World}{F1 F2 U Y:Nat->Prop}(h:Kept w F1 F2 v xs)(st:St w w' F1 F2 U Y):Kept w' U Y v xs:=by
 have O:=λg B=>(h.1.lt g B).2;refine⟨iz h.1 λg B=>st.block g (O g B) (h.2 g B).1 (h.2 g B).2,λg B=>⟨λhf=>?_,λhf=>?_⟩⟩
 .rcases st.f1 g hf with h1|h1
  .exact(h.2 g B).1 h1
  .have:=O g B; omega
 .rcases st.f2 g hf with h1|h1
  .exact(h.2 g B).2 h1
  .have:=O g B; omega
theorem Kept.new{w0 w:World}{F1 F2:Nat->Prop}{b:Nat}{buf:List gu}{ss:List (List gu)}{ts:List (List Wd)}(h:AW w0 w F1 F2 b buf ss ts)(B:w'.ownsRow w.heap.size 9 1 v xs.length (gr xs)):Kept w' F1 F2 v xs:=
 ⟨mA B (cY _),λg U=>⟨λO=>by have:=h.j.Uq g O; have:=(B.lt g U).1; omega,λO=>by have:=h.j.Vv g O; have:=(B.lt g U).1; omega⟩⟩
theorem St.same{w:World}{F1 F2:Nat->Prop}(h:qN w w'):St w w' F1 F2 F1 F2:=⟨h.size,λk B _ _=>h.block k B,λ_ B=>.inl B,λ_ B=>.inl B⟩
theorem AW.same{w0 w:World}{F1 F2:Nat->Prop}{b:Nat}{buf:List gu}{ss:List (List gu)}{ts:List (List Wd)}(h:AW w0 w F1 F2 b buf ss ts)(B:qN w w'):AW w0 w' F1 F2 b buf ss ts:=⟨h.j.below B.size B.block,h.Vo,h.S5,h.low.trans B⟩
section
variable {w0 w:World} {F1 F2:Nat->Prop} {b:Nat} {buf:List gu} {ss:List (List gu)} {ts:List (List Wd)}
theorem AW.Oe{f:dj}{args:Array Value}{code:Nat}{buf':List gu}{ss':List (List gu)}(h:AW w0 w F1 F2 b buf ss ts)(hc:∀vM vK,vu vM vK w F1 b buf ss->dh prog f args w (TX (vu vM vK) w F1 b code buf' ss')) :
  dh prog f args w λe w'=>e=.returned (.int .i64 code)/\∃Y,AW w0 w' Y F2 b buf' ss' ts/\St w w' F1 F2 Y F2:=by
 obtain⟨⟨h1,h2,h3,Bb,vS,B,n,vK,kn,h4,h5⟩,k1,k2,k3⟩:=h;refine(hc _ vK ⟨h1,Bb,vS,h4⟩).mono ?_;rintro e w' ⟨rfl,F',hp,hF,O⟩;refine⟨rfl,F',⟨PJ.entries h1 h2 h3 h4 h5 hp hF O,λk U=>?_,k2,?_⟩,⟨O.size,λk U hn _=>O.block k U hn,hF,λ_ U=>.inl U⟩⟩
 .rcases hF k U with hf|hf
  .exact k1 k hf
  .exact cW k3.size hf
 .exact⟨O.os.trans k3.os,cW k3.size O.size,λk U=>(O.block k (cX U k3.size) λhf=>absurd (k1 k hf) (by omega)).trans (k3.block k U)⟩
theorem AW.observe(h:AW w0 w F1 F2 b buf ss ts)(s:ByteArray)(hB:jP ts<=16777216)(hs:s.size<=dg) :
  dh prog 34 #[.pointer (some ⟨b,0,none⟩),.string s] w λe w'=>e=.returned (.int .i64 (vq ts s.data.toList).1)/\∃Y,AW w0 w' F1 Y b buf ss (vq ts s.data.toList).2/\St w w' F1 F2 F1 Y:=by
 obtain⟨⟨h1,h2,h3,Bb,vS,B,n,vK,kn,h4,h5⟩,k1,k2,k3⟩:=h;refine(E6 w F2 b ts s ⟨h2,B,n,vK,kn,h5⟩ hB hs).mono ?_;rintro e w' ⟨rfl,F',hp,hF,O⟩;refine⟨rfl,F',⟨PJ.words h1 h2 h3 h4 h5 hp hF O,k1,λk U=>?_,?_⟩,⟨O.size,λk U _ hn=>O.block k U hn,λ_ U=>.inl U,hF⟩⟩
 .rcases hF k U with hf|hf
  .exact k2 k hf
  .exact cW k3.size hf
 .exact⟨O.os.trans k3.os,cW k3.size O.size,λk U=>(O.block k (cX U k3.size) λhf=>absurd (k2 k hf) (by omega)).trans (k3.block k U)⟩
theorem AW.Fs(h:AW w0 w F1 F2 b buf ss ts)(O:NZ w)(s:ByteArray)(most:Int)(U:jP ts<=16777216)(Y:s.size<=dg) :
  dh prog 35 #[.pointer (some ⟨b,0,none⟩),.string s,.int .i64 most] w λe w'=>∃v,e=.returned (.tuple #[v,.int .i64 (xx ts s.data.toList most).2])/\Kept w' F1 F2 v (xx ts s.data.toList most).1/\AW w0 w' F1 F2 b buf ss ts/\qN w w':=by
 obtain⟨⟨h1,h2,h3,Bb,vS,B,n,vK,kn,h4,h5⟩,k1,k2,k3⟩:=id h;refine(FL w F2 b ts s most O ⟨h2,_,_,B,n,vK,kn,h5⟩ U Y).mono ?_;rintro e w' ⟨v,rfl,ho,hb⟩;exact⟨v,rfl,Kept.new h ho,h.same (.of hb),.of hb⟩
theorem AW.Um(h:AW w0 w F1 F2 b buf ss ts):∃U O,vu U O w F1 b buf ss:=by
 obtain⟨⟨Y,h2,h3,Bb,vS,B,n,O,kn,h4,h5⟩,k1,k2,k3⟩:=h;exact⟨_,_,Y,Bb,vS,h4⟩
theorem AW.del(h:AW w0 w F1 F2 b buf ss ts)(s:ByteArray)(O:s.size<=dg):dh prog 37 #[.pointer (some ⟨b,0,none⟩),.string s] w λe w'=>e=.returned (.int .i64 (mI buf ss s.data.toList).1)/\∃B,AW w0 w' B F2 b (mI buf ss s.data.toList).2 ss ts/\St w w' F1 F2 B F2:=
 h.Oe λvM vK U=>(Sl w F1 b buf ss s U O).mono λ_ _ h=>⟨h.1,F1,h.2.1,λ_ Y=>.inl Y,h.2.2⟩
theorem AW.Di(h:AW w0 w F1 F2 b buf ss ts)(s t:ByteArray)(x y:Int)(O:s.size<=dg)(U:t.size<=dg):dh prog 38 #[.pointer (some ⟨b,0,none⟩),.string s,.string t,.int .i64 x,.int .i64 y] w λe w'=>e=.returned (.int .i64 (kq buf ss s.data.toList t.data.toList x y).1)/\∃B,AW w0 w' B F2 b (kq buf ss s.data.toList t.data.toList x y).2 ss ts/\St w w' F1 F2 B F2:=
 h.Oe λvM vK Y=>(Sh w F1 b buf ss s t x y Y O U).mono λ_ _ h=>⟨h.1,F1,h.2.1,λ_ hk=>.inl hk,h.2.2⟩
theorem AW.flush(h:AW w0 w F1 F2 b buf ss ts):dh prog 29 #[.pointer (some ⟨b,0,none⟩)] w λe w'=>e=.returned (.int .i64 (iU buf ss).1)/\∃B,AW w0 w' B F2 b (iU buf ss).2.1 (iU buf ss).2.2 ts/\St w w' F1 F2 B F2:=
 h.Oe λU Y O=>Tn w F1 b buf ss O
theorem AW.merge(h:AW w0 w F1 F2 b buf ss ts)(n:Int):dh prog 39 #[.pointer (some ⟨b,0,none⟩),.int .i64 n] w λe w'=>e=.returned (.int .i64 (iJ ss n).1)/\∃B,AW w0 w' B F2 b buf (iJ ss n).2 ts/\St w w' F1 F2 B F2:=
 h.Oe λU Y O=>T0 w F1 b buf ss n O
theorem AW.lg(h:AW w0 w F1 F2 b buf ss ts):dh prog 30 #[.pointer (some ⟨b,0,none⟩)] w λe w'=>e=.returned (.int .i64 ss.length)/\w=w':=by
 obtain⟨O,U,B⟩:=h.Um;exact Da w F1 b buf ss B
end
theorem U5(w:World):dh prog 31 #[] w λe w'=>∃(b:Nat)(F1 F2:Nat->Prop),e=.returned (.pointer (some ⟨b,0,none⟩))/\AW w w' F1 F2 b [] [] []/\Below w.heap.size w w':=by
 have af:=@dt prog;go_enter func31,ntmps31;go_wp2_with fail;refine(Pv _).mono ?_;rintro e w1 ⟨B,rfl,aa,hC,O⟩;go_wp2;go_ret;have U:(w.alloc (Obj.map #[] 0)).heap.size=w.heap.size+1:=by simp
 have ab:iu (w.alloc (Obj.map #[] 0)) w.heap.size []:=gT.made w;have ac:iu w1 w.heap.size []:=gT.below ab O;rw[U]at O aa;have ad:=O.size;rw[U]at ad;have hb:Below w.heap.size w w1:=((dv _ _).alloc (cV _) _).trans (O.mono (by omega));have ae:=hC.lt;have Y:=hb.alloc (o:=.cells #[.map (some w.heap.size),.slice none 0 0,.map (some B),.slice none 0 0] 90) (by omega);refine⟨w1.heap.size,λk=>k=w1.heap.size\/k=w.heap.size,λk=>k=w1.heap.size\/k=B,rfl,⟨⟨?_,?_,?_,w.heap.size,.slice none 0 0,B,0,.slice none 0 0,[],?_,?_⟩,?_,?_,.of Y⟩,Y⟩
 .rintro k (rfl|rfl)
  .simp
  .simp; omega
 .rintro k (rfl|rfl)
  .simp
  .simp; omega
 .rintro k (h|h) (h'|h')<;>omega
 .exact⟨pU ..,Or.inl rfl,Or.inr rfl,gT.stay ac (dw _ _ _ (by omega)),dz ..,nofun,LK⟩
 .refine⟨pU ..,Or.inl rfl,Or.inr rfl,?_,by simp[jP],dz ..,nofun,by simp[iN],nofun,by simp⟩;refine(hC.stay (dw _ _ _ ae)).mono (cV _) (λws _=>by rw[Pe])
 .rintro k (rfl|rfl)<;>omega
 .rintro k (rfl|rfl)<;>omega
theorem CB{w:World}{F1 F2:Nat->Prop}(h:Kept w F1 F2 v xs):∃a c,v=.slice a xs.length c/\xs.length<=c/\c<=dg/\∀i(hi:i<xs.length),∃g,a=some ⟨g,0,none⟩/\w.cell? ⟨g,i,none⟩=some (.string ⟨xs[i].toArray⟩):=by
 rcases h.1.2 with⟨rfl,O⟩|⟨g,cap,cur,rfl,_,U,Y,h2,h3,h4⟩
 .refine⟨none,0,by rw[O],by omega,cY _,λi hi=>?_⟩;omega
 .refine⟨some _,cap,rfl,Y,h2,λi hi=>⟨g,rfl,?_⟩⟩;rw[gq U];have B:=kh xs i hi;rw[<-h4,cc,if_pos (by omega)]at B;simpa using B
theorem Qo{w:World}{F1 F2:Nat->Prop}(x y:Wd)(h:Kept w F1 F2 v [x,y]):dh prog 27 #[v,.string ⟨x.toArray⟩,.string ⟨y.toArray⟩,.int .i64 2] w λe w'=>e=.returned (.bool true)/\w=w':=by
 obtain⟨a,c,rfl,O,U,B⟩:=CB h;obtain⟨g,rfl,d0⟩:=B 0 (by simp);obtain⟨g',e',d1⟩:=B 1 (by simp);simp only[dH,Addr.mk.injEq,and_true]at e';subst e';go_wp2;go_ret;exact⟨rfl,rfl⟩
theorem Vk{w:World}{F1 F2:Nat->Prop}(x:Wd)(y:ByteArray)(h:Kept w F1 F2 v [x]):dh prog 27 #[v,.string ⟨x.toArray⟩,.string y,.int .i64 1] w λe w'=>e=.returned (.bool true)/\w=w':=by
 obtain⟨a,c,rfl,O,U,B⟩:=CB h;obtain⟨g,rfl,d0⟩:=B 0 (by simp);go_wp2;go_ret;exact⟨rfl,rfl⟩
end
section
open Go.Conc Go.RowKit Go.Maps
def BP(c:Code):Code:=match c with
 |.seq _ (.seq _ (.seq (.seq _ (.block _ (.loop x))) _))=>x
 |_=>.skip
theorem O4:f79.name≠ "runtime.NumGoroutine":=by
 decide
section
variable {Z:lQ prog} {w:World} {T:List Frame} {dd q K:Nat} {wl:World} {V:Vs}
theorem LY{A:Ask}{S:ByteArray}{ps qs:List (Nat×gu)}{cl:Nat->Option Nat}{sb so n sc bx b s k:Nat}{a2 a3 a4 a6 a8 a9 ao aI aJ aK aL aM aN aO aP aQ aR aS ap aq ar au av aw ax ay az a0 a5 a7 a' aA aB aC:Value}{td:List Item}(hT:∀ps,T=[ps]->ps.mode≠.panicking [dn])
  (hs:s=wl.heap.size) (hA:A.Ok) (hK:K<=s+5) (h5:5<=s) (Y:dd<s) (O:∀(r:Nat)a c,wl.heap[r]?≠some (.map a c)) (hn:n<=6) (hk:k<n) (hV:∀x∈V,x.1<s)
  (aa:wl.heap[bx]?=some (.cells #[.int .i64 A.m,.string A.q,.int .i64 A.t] 94 (0,0))) (hb:wl.heap[b]?=some (.cells (oY cl) 125 (0,0)))
  (ad:wl.cell? ⟨sb,so+k,none⟩=some (.string S)) (ab:S.size<=1099511627775) (hX:lN S.size S.data.toList=some (ps,qs))
  (fin:∀(w2:World)(c8 c9 aT aU aV aW aX aY aZ ba bc bd be:Value),w2.heap.size=s+5->(∀r,r<s->r≠b->w2.heap[r]?=wl.heap[r]?)->w2.heap[b]?=some (.cells (oY (ob cl k (s+3))) 125 (0,0))->(∀(r:Nat)a c,w2.heap[r]?≠some (.map a c))->w2.os=wl.os->
    gp (q8 prog Z w T dd q (s+5) false) [⟨49,#[.slice (some ⟨sb,so,none⟩) n sc,.map (some dd),a2,a3,a4,.pointer (some ⟨bx,0,none⟩),a6,.pointer (some ⟨b,0,none⟩),c8,c9,ao,.slice (some ⟨sb,so,none⟩) n sc,.int .i64 (n:Int),.int .i64 ((k+1:Nat):Int),aT,aU,aV,aW,aX,aY,aZ,ba,bc,bd,be,ap,aq,ar,au,av,aw,ax,ay,az,a0,a5,a7,a',aA,aB,aC],.code (BP (ic Tryz.f49))::.inLoop (BP (ic Tryz.f49))::td⟩] w2 ((s+3,some ((ps++qs).map (nZ A k)))::V)) :
  gp (q8 prog Z w T dd q K false) [⟨49,#[.slice (some ⟨sb,so,none⟩) n sc,.map (some dd),a2,a3,a4,.pointer (some ⟨bx,0,none⟩),a6,.pointer (some ⟨b,0,none⟩),a8,a9,ao,.slice (some ⟨sb,so,none⟩) n sc,.int .i64 (n:Int),.int .i64 (k:Int),aI,aJ,aK,aL,aM,aN,aO,aP,aQ,aR,aS,ap,aq,ar,au,av,aw,ax,ay,az,a0,a5,a7,a',aA,aB,aC],.code (BP (ic Tryz.f49))::.inLoop (BP (ic Tryz.f49))::td⟩] wl V:=by
 have HA:dr _:=And.intro hs (And.intro hA (And.intro hK (And.intro h5 (And.intro Y (And.intro O (And.intro hV (And.intro aa (And.intro hb (And.intro ad (And.intro ab (And.intro hX (And.intro fin hT))))))))))));clear hs hA hK h5 Y O hV aa hb ad ab hX fin hT;obtain⟨B,hB⟩:∃B,B=Item.inLoop (BP (ic Tryz.f49)):=⟨_,rfl⟩;rw[<-hB];have HB:dr _:=hB;clear hB;show gp _ [⟨_,_,.code (.seq (.region 3 _ false) (.seq (.cond _ .skip (.exit 0)) (.seq (.block 1 (.seq (.region 4 _ false) (.region 5 _ false))) (.region 6 _ false))))::_⟩] _ _;refine gp.sr λkk HK=>?_;have bg:(k:Int)<(n:Int):=by omega
 (refine iS ?_; go_simp);refine gp.ie HK ?_;clear HK kk;refine gp.seq (gp.xW trivial rfl (gp.skip ?_));refine gp.seq (gp.block (gp.sr λkk HK=>?_))
 (iterate 2 (refine iS ?_; go_simp));refine oB rfl (by rfl) (by kernel_rfl) λy0 ak ah=>?_
 have e0:y0.cell? ⟨sb,so+k,none⟩=some (.string S):=by
  have:=HA.out.2.2.2.2.2.2.2.2.2.1;unfold dA at this⊢;rw[ak];exact this
 have HY:dr (y0.heap=wl.heap/\y0.os=wl.os):=⟨ak,ah⟩;clear ak ah;unfold jC;go_simp;simp only[l6];clear e0
 (iterate 2 (refine iS ?_; go_simp));refine gp.ie HK ?_;clear HK kk;refine oz λkk HK=>?_;refine gp.region ?_
 (iterate 3 (refine iS ?_; go_simp));refine oB rfl (by rfl) (by kernel_rfl) λy1 aD ai=>?_;have ae:y1.heap=wl.heap:=aD.trans HY.out.1;have e0:y1.cell? ⟨bx,0,none⟩=some (.int .i64 A.m):=by rw[gq (by rw[ae]; exact HA.out.2.2.2.2.2.2.2.1)]; rfl
 have e1:y1.cell? ⟨bx,1,none⟩=some (.string A.q):=by rw[gq (by rw[ae]; exact HA.out.2.2.2.2.2.2.2.1)]; rfl
 have e2:y1.cell? ⟨bx,2,none⟩=some (.int .i64 A.t):=by rw[gq (by rw[ae]; exact HA.out.2.2.2.2.2.2.2.1)]; rfl
 have al:dr (y1.heap=wl.heap/\y1.os=wl.os):=⟨ae,ai.trans HY.out.2⟩;clear aD ai ae;unfold jC;go_simp;simp only[l6];obtain⟨hs,hA,hK,h5,Y,O,hV,aa,hb,ad,ab,hX,fin,hT⟩:=HA.out;rw[<-al.out.1]at hs O aa hb;clear e0 e1 e2;refine gp.qj #[.int .i64 (k:Int),.string S,.agg #[.int .i64 A.m,.string A.q,.int .i64 A.t],dT,dT,dT,dT,dT,dT,dT,dT] (i:=4) (jQ:=f79) (c:=ic f79) rfl rfl func79 (by kernel_rfl) O4 rfl (by simp[gR]) (by kernel_rfl) ?_;refine yT k A (S:=S) (ps:=ps) (qs:=qs) s hs rfl hA hK h5 Y O ab hX hV λw2 z2 o2 U p2=>?_;have af:b<s:=by rw[hs]; exact(cM.1 hb).1
 have am:w2.heap[b]?=some (.cells (oY cl) 125 (0,0)):=(o2 b af).trans hb;have bf:k<7:=by omega
 have aE:∀r,r<s->w2.heap[r]?=wl.heap[r]?:=λr hr=>(o2 r hr).trans (by rw[al.out.1]);have aF:w2.os=wl.os:=p2.trans al.out.2;have H2:dr _:=And.intro z2 (And.intro aE (And.intro aF (And.intro am (And.intro af U))));clear hs hA hK h5 Y O hV aa hb ad ab hX fin hT z2 o2 U p2 am af aE aF;rw[jf];go_simp;have aG:(k:Int)<7:=by omega
 (refine iS ?_; go_simp);clear aG;refine oB rfl (by rfl) (by kernel_rfl) λy2 an aj=>?_;have gb:y2.heap[b]?=some (.cells (oY cl) 125 (0,0)):=by rw[an]; exact H2.out.2.2.2.1
 have e0:y2.cell? ⟨b,k,none⟩=some (.chan (cl k)):=by
  rw[gq gb];rcases(by omega:k=0\/k=1\/k=2\/k=3\/k=4\/k=5\/k=6)with rfl|rfl|rfl|rfl|rfl|rfl|rfl<;>rfl
 have f0:y2.frozen? ⟨b,k,none⟩=false:=gP gb k;have ag:dr (y2.heap=w2.heap/\y2.os=w2.os):=⟨an,aj⟩;have HG:dr _:=gb;clear an aj gb;unfold jC;go_simp;simp only[l6];clear e0 f0;obtain⟨w3,ac⟩:∃w3,w3=y2.setCell ⟨b,k,none⟩ (.chan (some (s+3))):=⟨_,rfl⟩;have g3:w3.heap[b]?=some (.cells (oY (ob cl k (s+3))) 125 (0,0)):=by rw[ac,heap_set HG.out k (.chan (some (s+3))),<-LO bf]; simp only[cS]
 have o3:∀r,r≠b->w3.heap[r]?=w2.heap[r]?:=λr hr=>by rw[ac,du _ _ _ _ hr,ag.out.1]
 have z3:w3.heap.size=s+5:=by rw[ac,wv,ag.out.1]; exact H2.out.1
 have p3:w3.os=w2.os:=by rw[ac,s9]; exact ag.out.2
 rw[<-ac];clear ac HG ag y2;have H3:dr _:=And.intro g3 (And.intro o3 (And.intro z3 p3));clear g3 o3 z3 p3;refine gp.ie HK ?_;clear HK kk;refine gp.inBlock ?_;refine oz λkk HK=>?_;refine gp.region ?_
 (refine iS ?_; go_simp);have aH:IntKind.i64.wrap ((k:Int)+1)=((k+1:Nat):Int):=by simp only[dI]; omega
 rw[aH];clear aH
 (refine iS ?_; go_simp);refine gp.inRegion ?_;rw[HK.out,HB.out];refine gp.inLoop ?_;obtain⟨hs,hA,hK,h5,Y,O,hV,aa,hb,ad,ab,hX,fin,hT⟩:=HA.out;obtain⟨g3,o3,z3,p3⟩:=H3.out;obtain⟨z2,o2,p2,am,af,U⟩:=H2.out;have ek:(k:Int)+1=((k+1:Nat):Int):=by omega
 rw[<-bR];refine fin w3 _ _ _ _ _ _ _ _ _ _ _ _ _ z3 (λr hr hn=>(o3 r hn).trans (o2 r hr)) g3 (λr a c h=>?_) (p3.trans p2);by_cases hr:r=b
 .rw[hr,g3]at h; cases h
 .rw[o3 r hr]at h; exact U r a c h
end
end
section
def mw(A:Ask)(P:Nat->List (Nat×gu)):Nat->List oD
 |0=>[]
 |k+1=>(P k).map (sJ A k)++mw A P k
def allM(A:Ask)(P:Nat->List (Nat×gu))(es:List gu)(n:Nat):List oD:=(jz es).map (sJ A n)++mw A P n
section
variable {A:Ask} {P Q:Nat->List (Nat×gu)}
def mH(ps:List (Nat×gu)):List Wd:=ps.map λp=>p.2.name
theorem zM:∀n,(∀j,j<n->P j=Q j)->mw A P n=mw A Q n
 |0,_=>rfl
 |n+1,h=>by simp only[mw]; rw[h n (by omega),zM n λj B=>h j (by omega)]
theorem vz:∀n,∀m∈mw A P n,m.yX<n
 |0,m,h=>by simp[mw]at h
 |n+1,m,h=>by
  rcases bP.1 h with h|h
  .obtain⟨p,_,rfl⟩:=bM.1 h
   rw[(kQ n p).1]; omega
  .have:=vz n m h; omega
theorem Cl(l r:List oD)(x:Wd):iO (l++r) x=max (iO l x) (iO r x):=by
 induction l with
 |nil=>simp[iO]
 |cons a l B=>
  simp only[List.cons_append,iO,B];split<;>omega
theorem EI(n:Nat)(ps:List (Nat×gu))(x:Wd):iO (ps.map (sJ A n)) x=if x∈mH ps then n else 0:=by
 induction ps with
 |nil=>simp[iO,mH]
 |cons p ps O=>
  have e:mH (p::ps)=p.2.name::mH ps:=rfl;rw[e,cw];simp only[iO,(kQ n p).1,(kQ n p).2.2.1,O];by_cases h:p.2.name=x
  .by_cases B:x∈mH ps<;>simp[h,B]
  .have U:¬x=p.2.name:=λe=>h e.symm;by_cases B:x∈mH ps<;>simp[h,B,U]
theorem y6(n:Nat)(x:Wd):iO (mw A P (n+1)) x=if x∈mH (P n)then n else iO (mw A P n) x:=by
 show iO (_++_) x=_;rw[Cl,EI];split
 .have:iO (mw A P n) x<=n:=wZ _ _ λm hm=>by have:=vz n m hm; omega
  omega
 .omega
theorem FJ:∀n,∀m∈mw A P n,m.wanted=true->m.Oe.name=m.name
 |0,m,h=>by simp[mw]at h
 |n+1,m,h=>by
  intro B
  rcases bP.1 h with h|h
  .obtain⟨p,_,rfl⟩:=bM.1 h
   rw[(kQ n p).2.2.2]at B;rw[Ic B,(kQ n p).2.2.1]
  .exact FJ n m h B
def Gd(P:Nat->List (Nat×gu)):Nat->List gu
 |0=>[]
 |n+1=>sn (P n)++(Gd P n).filter λe=>!decide (e.name∈mH (P n))
theorem BI:∀n,ib (mw A P n) (mw A P n)=(Gd P n).filter A.has
 |0=>rfl
 |n+1=>by
  have ih:=BI n
  show ib _ ((P n).map _++mw A P n)=(sn _++_).filter _;unfold ib;rw[cF,bR,cF];congr 1
  .rw[cz,bO]
   have e:(P n).filter ((λm=>m.wanted&&m.yX==iO (mw A P (n+1)) m.name) ∘ sJ A n)=(P n).filter (A.has ∘ dM):=by
    apply ch;intro p B;have U:p.2.name∈mH _:=bM.2 ⟨p,B,rfl⟩;simp only[Function.comp_apply,(kQ n p).1,(kQ n p).2.2.1,(kQ n p).2.2.2,y6,if_pos U,beq_self_eq_true,Bool.and_true]
   rw[e];rw[cz];apply bY;intro p B;exact Ic (bN.1 B).2
  .have e:(mw A P n).filter (λm=>m.wanted&&m.yX==iO (mw A P (n+1)) m.name)=((mw A P n).filter λm=>m.wanted&&m.yX==iO (mw A P n) m.name).filter λm=>!decide (m.Oe.name∈mH (P n)):=by
    rw[ce];apply ch;intro m hm;have hs:=vz n m hm;rw[y6]
    cases Y:m.wanted with
    |false=>simp
    |true=>
     rw[FJ n m hm Y];by_cases O:m.name∈mH (P n)
     .have:(m.yX==n)=false:=by simp; omega
      simp[O,this]
     .simp[O]
   rw[e];have f:=cz (f:=oD.Oe) (p:=λe=>!decide (e.name∈mH (P n))) (l:=(mw A P n).filter λm=>m.wanted&&m.yX==iO (mw A P n) m.name);unfold ib at ih;rw[ih]at f;refine f.symm.trans ?_;rw[ce,ce];congr 1;funext x;exact Bool.and_comm ..
theorem K3(b:List gu)(e:gu):lA b e = !decide (e.name∈b.map gu.name):=by
 unfold lA sM;rw[Bool.eq_iff_iff];simp[List.findIdx?_eq_none_iff]
theorem H5{ss:List (List gu)}(B:∀j(h:j<ss.length),(sn (P j)).Perm ss[j]):∀n,n<=ss.length->(Gd P n).Perm (j6 (ss.take n))
 |0,_=>by simp[Gd,j6]
 |n+1,h=>by
  have U:=H5 B n (by omega)
  have O:=B n (by omega);rw[bW _,jb];refine(dO O ?_).trans List.perm_append_comm
  have e:(λe=>!decide (e.name∈mH (P n)))=lA ss[n]:=by
   funext e;rw[K3]
   have Y:e.name∈mH (P n)↔e.name∈ss[n].map gu.name:=by
    have:=(O.map gu.name).mem_iff (a:=e.name);rw[bO]at this;exact this
   rw[decide_eq_decide.2 Y]
  rw[e];exact U.filter _
theorem BR(O:∀j,(mH (P j)).Nodup):∀n,((Gd P n).map gu.name).Nodup
 |0=>List.Pairwise.nil
 |n+1=>by
  show((sn _++_).map _).Nodup
  rw[bR,cG]
  refine⟨by rw[bO]; exact O n,(BR O n).sublist ((cv).map _),?_⟩
  rintro x U y Y rfl
  obtain⟨e,he,rfl⟩:=bM.1 Y
  have B:=by simpa using(bN.1 he).2
  rw[bO]at U;exact B U
end
end
section
open Go.Conc Go.RowKit Go.Maps
section
variable {Z:lQ prog} {w:World} {T:List Frame} {dd q:Nat}
theorem Qz{A:Ask}{es:List gu}{ex:Obj}{Ss:Nat->ByteArray}{P:Nat->List (Nat×gu)}{sa:Option Addr}{n sc bx b:Nat}{ms:List oD}(hT:∀ps,T=[ps]->ps.mode≠.panicking [dn])
  (hA:A.Ok) (aL:5<=q) (hq:q<w.heap.size) (aM:w.heap[q]?=some ex) (hM:tT ex es) (hl:es.length<=100000) (aN:∀e∈es,e.name.length<=dg/\e.text.length<=1048576/\(e.gone=false->0<=e.gK/\e.gK<=255)) (hn:n<=6)
  (hS:∀j,j<n->(Ss j).size<=1099511627775/\∃ps qs,lN (Ss j).size (Ss j).data.toList=some (ps,qs)/\P j=ps++qs) (ae:∀a,sa=some a->a.block≠b) (aO:bx≠b)
  (aP:ms=(jz es).map (sJ A n)++mw A P n) (aQ:FD ms)
  (fin:∀(E₂:Env prog)aG af aH,E₂.Z=Z->E₂.T=T->E₂.w0=w->(af=[]\/∃k2,af=.code .ret::k2)->CK prog E₂ Tryz.f49 aG aH (D5 ms) (CS ms)->gp E₂ [⟨49,aG,af⟩] aH []) :
  ∀(d k K s:Nat)(wl:World)(V:Vs)(cl:Nat->Option Nat)(a2 a3 a4 a6 a8 a9 ag ah ai aj ak al am an ao ap aq ar au av aw ax ay az a0 a5 a7 a' aA aB aC aD aE aF:Value),n=k+d->s=wl.heap.size->K<=s->5<=s->dd<s->(∀(r:Nat)a c,wl.heap[r]?≠some (.map a c))->(∀x∈V,x.1<s)->
   wl.heap[bx]?=some (.cells #[.int .i64 A.m,.string A.q,.int .i64 A.t] 94 (0,0))->wl.heap[b]?=some (.cells (oY cl) 125 (0,0))->(∀a,sa=some a->a.block<s)->(∀j,j<n->∃sb so,sa=some ⟨sb,so,none⟩/\wl.cell? ⟨sb,so+j,none⟩=some (.string (Ss j)))->
   (∀j,k<=j->cl j=none)->(∀j r,j<7->cl j=some r->∃vs,(r,some vs)∈V)->(∀x∈V,∃j vs,j<7/\cl j=some x.1/\x.2=some vs)->(∀j j' r,j<7->j'<7->cl j=some r->cl j'=some r->j=j')->(V.map dL).Nodup->V.length=k->uz V=(mw A P k).map oD.val->
   gp (q8 prog Z w T dd q K false) [⟨49,#[.slice sa n sc,.map (some dd),a2,a3,a4,.pointer (some ⟨bx,0,none⟩),a6,.pointer (some ⟨b,0,none⟩),a8,a9,ag,.slice sa n sc,.int .i64 (n:Int),.int .i64 (k:Int),ah,ai,aj,ak,al,am,an,ao,ap,aq,ar,au,av,aw,ax,ay,az,a0,a5,a7,a',aA,aB,aC,aD,aE,aF],.code (BP (ic Tryz.f49))::.inLoop (BP (ic Tryz.f49))::.inBlock 0::[.code (Lt (ic Tryz.f49))]⟩] wl V:=by
 intro d
 induction d with
 |zero=>
  intro k K s wl V cl a2 a3 a4 a6 a8 a9 ag ah ai aj ak al am an ao ap aq ar au av aw ax ay az a0 a5 a7 a' aA aB aC aD aE aF aI hs hK h5 U Y hV B hb ab ad O mP ji uw jo aa ac;obtain rfl:n=k:=aI;have HC:dr _:=And.intro hs (And.intro hK (And.intro h5 (And.intro U (And.intro Y (And.intro hV (And.intro B (And.intro hb (And.intro O (And.intro mP (And.intro ji (And.intro uw (And.intro jo (And.intro aa ac)))))))))))));clear hs hK h5 U Y hV B hb ab ad O mP ji uw jo aa ac;show gp _ [⟨_,_,.code (.seq (.region 3 _ false) (.seq (.cond _ .skip (.exit 0)) _))::_⟩] _ _;refine gp.sr λkk HK=>?_
  (refine iS ?_; go_simp);refine gp.ie HK ?_;clear HK kk;refine gp.seq (gp.qv trivial (by first|rfl|simp[ll]) ?_);refine gp.exit (k':=[.code (Lt (ic Tryz.f49))]) rfl ?_;obtain⟨hs,hK,h5,U,Y,hV,B,hb,O,mP,ji,uw,jo,aa,ac⟩:=HC.out;exact El (s:=s) (ms0:=mw A P n) (ms:=ms) hT hs hA (by omega) h5 U aL hq aM hM Y hl aN hn hV B hb O mP ji uw jo aa ac aP aQ fin
 |succ d ih=>
  intro k K s wl V cl a2 a3 a4 a6 a8 a9 ag ah ai aj ak al am an ao ap aq ar au av aw ax ay az a0 a5 a7 a' aA aB aC aD aE aF aI hs hK h5 U Y hV B hb ab ad O mP ji uw jo aa ac;obtain⟨hz,ps,qs,hX,hP⟩:=hS k (by omega);obtain⟨sb,so,rfl,aR⟩:=ad k (by omega);have ab:sb<s:=ab _ rfl;have ae:sb≠b:=ae _ rfl;refine LY hT hs hA (by omega) h5 U Y hn (by omega) hV B hb aR hz hX λw2 c8 c9 aV aW aX aY aZ ba bc bd be bf bg z2 o2 g2 aJ p2=>?_;have aS:bx<s:=by rw[hs]; exact(cM.1 B).1
  refine ih (k+1) (s+5) (s+5) w2 _ (ob cl k (s+3)) _ _ _ _ _ _ _ _ _ _ _ _ _ _ _ _ _ _ _ _ _ _ _ _ _ _ _ _ _ _ _ _ _ _ (by omega) z2.symm (cV _) (by omega) (by omega) aJ (λx hx=>?_) ((o2 bx aS aO).trans B) g2 (λa e=>by cases e; show sb<s+5; omega) (λj hj=>?_) (λj hj=>?_) (λj r hj hr=>?_) (λx hx=>?_) (λj j' r hj aK hr hr'=>?_) ?_ (by simp[aa]) ?_
  .rcases cm.1 hx with rfl|hx
   .show s+3<s+5; omega
   .have:=hV x hx; omega
  .obtain⟨aT,aU,e,this⟩:=ad j hj;refine⟨aT,aU,e,?_⟩;cases e;unfold dA at this⊢;rw[o2 sb ab ae];exact this
  .unfold ob;rw[if_neg (by omega)];exact O j (by omega)
  .unfold ob at hr;split at hr
   .cases hr; exact⟨_,bZ⟩
   .obtain⟨vs,h⟩:=mP j r hj hr; exact⟨vs,cD _ h⟩
  .rcases cm.1 hx with rfl|hx
   .exact⟨k,_,by omega,by simp[ob],rfl⟩
   .obtain⟨j,vs,h1,h2,h3⟩:=ji x hx;refine⟨j,vs,h1,?_,h3⟩;unfold ob;rw[if_neg (λe=>by rw[e,O k (cV _)]at h2; cases h2)];exact h2
  .unfold ob at hr hr'
   have hold:∀i r,i<7->cl i=some r->r≠s+3:=λi r hi h e=>by
    obtain⟨vs,h⟩:=mP i r hi h;have:=hV _ h;omega
   split at hr<;>split at hr'
   .omega
   .cases hr; exact absurd rfl (hold j' _ aK hr')
   .cases hr'; exact absurd rfl (hold j _ hj hr)
   .exact uw j j' r hj aK hr hr'
  .rw[cw,cK];refine⟨λh=>?_,jo⟩;obtain⟨x,hx,e⟩:=bM.1 h;have:=hV x hx;omega
  .show(ps++qs).map _++uz V=((P k).map _++mw A P k).map _;rw[bR (l₁:=(P k).map _),bO,hP];congr 1;exact bY λp _=>(IG A k p).symm
end
end
section
open Go.Conc Go.RowKit Go.Maps
section
variable {Z:lQ prog} {w:World} {T:List Frame} {dd q K:Nat} {wl:World}
theorem QD{A:Ask}{es:List gu}{ex:Obj}{Ss:Nat->ByteArray}{P:Nat->List (Nat×gu)}{sa:Option Addr}{n sc s:Nat}{ms:List oD}(hT:∀ps,T=[ps]->ps.mode≠.panicking [dn])
  (hs:s=wl.heap.size) (hA:A.Ok) (hK:K<=s) (h5:5<=s) (aj:dd<s) (ac:5<=q) (hq:q<w.heap.size) (ad:w.heap[q]?=some ex) (hM:tT ex es) (ae:∀(r:Nat)a c,wl.heap[r]?≠some (.map a c))
  (hl:es.length<=100000) (af:∀e∈es,e.name.length<=dg/\e.text.length<=1048576/\(e.gone=false->0<=e.gK/\e.gK<=255))
  (hn:n<=6) (hS:∀j,j<n->(Ss j).size<=1099511627775/\∃ps qs,lN (Ss j).size (Ss j).data.toList=some (ps,qs)/\P j=ps++qs) (U:∀a,sa=some a->a.block<s) (ag:∀j,j<n->∃sb so,sa=some ⟨sb,so,none⟩/\wl.cell? ⟨sb,so+j,none⟩=some (.string (Ss j)))
  (ah:ms=(jz es).map (sJ A n)++mw A P n) (ai:FD ms)
  (fin:∀(E₂:Env prog)al ak am,E₂.Z=Z->E₂.T=T->E₂.w0=w->(ak=[]\/∃k2,ak=.code .ret::k2)->CK prog E₂ Tryz.f49 al am (D5 ms) (CS ms)->gp E₂ [⟨49,al,ak⟩] am []) :
  gp (q8 prog Z w T dd q K false) [⟨49,#[.slice sa n sc,.map (some dd),.agg #[.int .i64 A.m,.string A.q,.int .i64 A.t],dT,dT,dT,dT,dT,dT,dT,dT,dT,dT,dT,dT,dT,dT,dT,dT,dT,dT,dT,dT,dT,dT,dT,dT,dT,dT,dT,dT,dT,dT,dT,dT,dT,dT,dT,dT,dT,dT],[.code (ic Tryz.f49)]⟩] wl []:=by
 have HN:dr _:=And.intro hn (And.intro hS (And.intro U ag));clear hn hS U ag;have HC:dr _:=And.intro hs (And.intro hA (And.intro hK (And.intro h5 (And.intro aj (And.intro ac (And.intro hq (And.intro ad (And.intro hM (And.intro ae (And.intro hl (And.intro af (And.intro ah (And.intro ai (And.intro fin hT))))))))))))));clear hs hA hK h5 aj ac hq ad hM ae hl af ah ai fin hT;show gp _ [⟨_,_,[.code (.seq (.region 0 _ false) (.seq (.region 1 _ false) (.seq (.seq (.region 2 _ false) (.block 0 (.loop (.seq (.region 3 _ false) (.seq (.cond _ .skip (.exit 0)) _))))) (Lt (ic Tryz.f49)))))]⟩] _ _;refine gp.sc λkk HK=>?_;refine li (by kernel_rfl) (by rw[HK.out]; rfl) (.inr HC.out.2.2.2.2.2.2.2.2.2.2.2.2.2.2.2) λy0 aa O=>?_;have HY:dr (y0.heap=wl.heap/\y0.os=wl.os):=⟨aa,O⟩;clear aa O;go_wp2;refine iA ?_;rw[HK.out];clear HK kk;obtain⟨w3,Y⟩:∃w3,w3=y0.alloc (.cells #[.int .i64 A.m,.string A.q,.int .i64 A.t] 94):=⟨_,rfl⟩;have B:y0.heap.size=s:=by rw[HY.out.1]; exact HC.out.1.symm
 have z3:w3.heap.size=s+1:=by rw[Y]; simp[B]
 have o3:∀r,r<s->w3.heap[r]?=wl.heap[r]?:=λr hr=>by rw[Y,jD _ _ (by rw[B]; omega),HY.out.1]
 have g3:w3.heap[s]?=some (.cells #[.int .i64 A.m,.string A.q,.int .i64 A.t] 94 (0,0)):=by rw[Y,kV _ _ B.symm]
 have p3:w3.os=wl.os:=by rw[Y]; exact HY.out.2
 rw[<-Y,B];clear Y HY B y0;have H3:dr _:=And.intro z3 (And.intro o3 (And.intro g3 p3));clear z3 o3 g3 p3;refine gp.sc λkk HK=>?_;refine li (by kernel_rfl) (by rw[HK.out]; rfl) (.inr HC.out.2.2.2.2.2.2.2.2.2.2.2.2.2.2.2) λy0 aa O=>?_;have HY:dr (y0.heap=w3.heap/\y0.os=w3.os):=⟨aa,O⟩;clear aa O;go_wp2;refine iA ?_;rw[HK.out];clear HK kk;obtain⟨w4,ab⟩:∃w4,w4=y0.alloc (.cells (oY λ_=>none) 125):=⟨_,rfl⟩;have B:y0.heap.size=s+1:=by rw[HY.out.1]; exact H3.out.1
 have z4:w4.heap.size=s+2:=by rw[ab]; simp[B]
 have o4:∀r,r<s+1->w4.heap[r]?=w3.heap[r]?:=λr hr=>by rw[ab,jD _ _ (by rw[B]; omega),HY.out.1]
 have g4:w4.heap[s+1]?=some (.cells (oY λ_=>none) 125 (0,0)):=by rw[ab,kV _ _ B.symm]
 rw[show y0.alloc (.cells #[.chan none,.chan none,.chan none,.chan none,.chan none,.chan none,.chan none] 125)=w4 from ab.symm,B];clear ab HY B y0;have H4:dr _:=And.intro z4 (And.intro o4 g4);clear z4 o4 g4;refine gp.seq ?_;refine gp.sr λkk HK=>?_
 (iterate 3 (refine iS ?_; go_simp));refine gp.ie HK ?_;clear HK kk;refine gp.block (gp.loop ?_);obtain⟨hs,hA,hK,h5,aj,ac,hq,ad,hM,ae,hl,af,ah,ai,fin,hT⟩:=HC.out;obtain⟨z3,o3,g3,p3⟩:=H3.out;obtain⟨z4,o4,g4⟩:=H4.out;obtain⟨hn,hS,U,ag⟩:=HN.out;refine Qz (b:=s+1) (bx:=s) (Ss:=Ss) (P:=P) hT hA ac hq ad hM hl af hn hS (λa e=>by have:=U a e; omega) (by omega) ah ai fin n 0 K (s+2) w4 [] (λ_=>none) _ _ _ _ _ _ _ _ _ _ _ _ _ _ _ _ _ _ _ _ _ _ _ _ _ _ _ _ _ _ _ _ _ _ (by omega) z4.symm (by omega) (by omega) (by omega) (λr a c=>?_) (λx hx=>by cases hx) ((o4 s (by omega)).trans g3) g4 (λa e=>by have:=U a e; omega) (λj hj=>?_) (λ_ _=>rfl) (λ_ _ _ h=>by cases h) (λx hx=>by cases hx) (λ_ _ _ _ _ h=>by cases h) List.nodup_nil rfl rfl
 .by_cases h1:r<s
  .rw[o4 r (by omega),o3 r h1]; exact ae r a c
  .by_cases h2:r=s
   .rw[h2,o4 s (by omega),g3]; simp
   .by_cases h3:r=s+1
    .rw[h3,g4]; simp
    .rw[Array.getElem?_eq_none (by omega)]; simp
 .obtain⟨sb,so,e,this⟩:=ag j hj;have an:sb<s:=U _ e;refine⟨sb,so,e,?_⟩;unfold dA at this⊢;rw[o4 sb (by omega),o3 sb an];exact this
end
end
section
open Go.Conc Go.RowKit Go.Maps
section
variable {E:Env prog} {fn:dj} {tm:Array Value} {os:List OF} {wl:World} {k:List Item}
theorem gp.QY{ops:Array Oper}{i:Nat}{rest:List Nat}{o:Oper}{xs:Array Operand}{ts:Array di}{A:Ask}{es:List gu}{Ss:Nat->ByteArray}{P:Nat->List (Nat×gu)}{ms:List oD}{sa:Option Addr}{n sc lb:Nat}(ab:∀b,b<E.w0.heap.size->E.jl b\/E.w0.heap[b]?=some rD)(aG:E.st=true)(hi:ops[i]?=some o)(ar:dy o (dp ops tm)=true)(ho:o.op=.call {callee:=.value (.func 49),args:=xs,argTypes:=ts})(au:∀x∈xs.toList,gR E.je E.gl x)
  (av:xs.size=3) (ac:xs.map (ll tm)=#[.slice sa n sc,.map (some lb),.agg #[.int .i64 A.m,.string A.q,.int .i64 A.t]]) (hA:A.Ok) (hs:iu wl lb es) (aH:5<=lb) (aw:(sa=none/\n=0)\/∃sb O c e f,sa=some ⟨sb,O,none⟩/\5<=sb/\wl.heap[sb]?=some (.cells c e f)/\∀j,j<n->c[O+j]?=some (.string (Ss j))) (hn:n<=6) (ax:∀j,j<n->(Ss j).size<=1099511627775/\∃ps qs,lN (Ss j).size (Ss j).data.toList=some (ps,qs)/\P j=ps++qs) (af:ms=(jz es).map (sJ A n)++mw A P n) (ay:FD ms)
  (hl:es.length<=100000) (az:∀e∈es,e.name.length<=dg/\e.text.length<=1048576/\(e.gone=false->0<=e.gK/\e.gK<=255))
  (a0:∀l cp,D5 ms l cp->gp E (⟨fn,iF o.dst tm (.slice none l cp),.inRegion ops rest::k⟩::os) wl [])
  (ad:∀off spot l cp cs e f,CS ms off spot l cp cs e f->(∀v∈cs.toList,Flat v)->gp E (⟨fn,iF o.dst tm (.slice (some ⟨wl.heap.size,off,spot⟩) l cp),.inRegion ops rest::k⟩::os) {wl with heap:=wl.heap.push (.cells cs e f)} []) :
  gp E (⟨fn,tm,.inRegion ops (i::rest)::k⟩::os) wl []:=by
 refine gp.phase (R0:=D5 ms) (R1:=CS ms) (jQ:=Tryz.f49) (c:=ic Tryz.f49) ab hi ar func49 (by kernel_rfl) Om ho au ?_ a0 ad;intro m w ys T a3 hw U hT;rw[ac]at U;have hG:m.G=5:=a3.rL.env.G.trans zP;obtain⟨ex,ag,hM⟩:=IF hs;have h0:=U.idx 0 (by simp) (by rw[<-U.size]; simp);have h1:=U.idx 1 (by simp) (by rw[<-U.size]; simp);have h2:=U.idx 2 (by simp) (by rw[<-U.size]; simp);have a4:ys.size=3:=by rw[<-U.size]; rfl
 obtain⟨y0,y1,y2,rfl⟩:∃y0 y1 y2,ys=#[y0,y1,y2]:=⟨ys[0],ys[1],ys[2],by
  refine Array.ext (by simp[a4]) λj h1 h2=>?_;have:j<3:=by omega
  rcases(by omega:j=0\/j=1\/j=2)with rfl|rfl|rfl<;>rfl⟩
 have h0:VR m (.slice sa n sc) y0:=h0;have h1:VR m (.map (some lb)) y1:=h1;have h2:VR m (.agg #[.int .i64 A.m,.string A.q,.int .i64 A.t]) y2:=h2
 have Y:Flat (.agg #[.int .i64 (A.m:Int),.string A.q,.int .i64 (A.t:Int)]):=.agg λi hi=>by
  have:i<3:=hi
  match i,this with
  |0,_|2,_=>exact .int _ _
  |1,_=>exact .string _
 have e2:=Y.eq m _ h2;subst e2
 obtain⟨q,rfl,hq⟩:∃q,y1=.map (some q)/\m.blk lb=some q:=by
  cases h1 with
  |map hb=>exact⟨_,rfl,hb⟩
  |gone hd=>
   obtain⟨_,c,e,f,hc⟩:=hw.dead lb hd;obtain⟨a,c2,hx⟩:=hM.isMap;rw[ag,hx]at hc;cases hc
 have a5:5<=q:=by
  have:=m.qT lb q hq;omega
 obtain⟨o1,o2,g1,g2,g3⟩:=hw.obj lb q hq;rw[ag]at g1;cases g1;have a6:=hM.inv m _ g3;subst a6;have a7:q<w.heap.size:=(cM.1 g2).1;have a8:5<=w.heap.size:=by have:=hw.LR; omega
 have fin:∀(b5:Option Nat)(h5:∀b,b5=some b->5<=b)(c1:Array Value)(e5:di)(hb:∀b,b5=some b->∃c' f',w.heap[b]?=some (.cells c' e5 f')/\∀m1,io m1 c1 c')(s5:Option Addr)(ah:∀a,s5=some a->a.block<7)(ai:∀j,j<n->∃O,s5=some ⟨5,O,none⟩/\c1[O+j]?=some (.string (Ss j))),VR (U8 b5 q h5) (.slice s5 n sc) y0->
   ∃(B:Env prog)(aj:Array Value)(m1:Ren)(ak:World),B.Z=E.Z/\B.T=T/\B.w0=w/\(∀b,B.jl b↔b<w.heap.size)/\Rg B m1/\WR m1 ak w/\(∀r b,m1.blk r=some b->m1.loose r)/\io m1 aj (#[y0,.map (some q),.agg #[.int .i64 A.m,.string A.q,.int .i64 A.t]]++cQ (Tryz.f49.ntmps-xs.size) dT)/\
   ((∀(E₂:Env prog)al ae am,E₂.Z=E.Z->E₂.T=T->E₂.w0=w->(ae=[]\/∃k2,ae=.code .ret::k2)->CK prog E₂ Tryz.f49 al am (D5 ms) (CS ms)->gp E₂ [⟨49,al,ae⟩] am [])->gp B [⟨49,aj,[.code (ic Tryz.f49)]⟩] ak []):=by
  intro b5 h5 c1 e5 hb s5 ah ai a9;refine⟨q8 prog E.Z w T 6 q 6 false,#[.slice s5 n sc,.map (some 6),.agg #[.int .i64 A.m,.string A.q,.int .i64 A.t]]++cQ 38 dT,U8 b5 q h5,V1 (.cells c1 e5 (0,c1.size)) w,rfl,rfl,rfl,λb=>⟨λh=>h.1,λh=>⟨h,λh=>by cases h⟩⟩,TZ h5,T1 h5 a8 hb,λr b hr=>?_,?_,λan=>?_⟩
  .have hr:(if r=5 then b5 else none)=some b:=hr;split at hr
   .assumption
   .cases hr
  .rw[av];have hn:Tryz.f49.ntmps-3=38:=by kernel_rfl
   rw[hn];refine io.append (io.kE rfl λi h1 h2=>?_) (.replicate _ (.undef _));have:i<3:=h1
   match i,this with
   |0,_=>exact a9
   |1,_=>exact .gone rfl
   |2,_=>exact Y.refl _
  .have ao:(#[.slice s5 n sc,.map (some 6),.agg #[.int .i64 A.m,.string A.q,.int .i64 A.t]]++cQ 38 dT:Array Value)=#[.slice s5 n sc,.map (some 6),.agg #[.int .i64 A.m,.string A.q,.int .i64 A.t],dT,dT,dT,dT,dT,dT,dT,dT,dT,dT,dT,dT,dT,dT,dT,dT,dT,dT,dT,dT,dT,dT,dT,dT,dT,dT,dT,dT,dT,dT,dT,dT,dT,dT,dT,dT,dT,dT]:=by kernel_rfl
   rw[ao];refine QD (s:=7) (Ss:=Ss) (P:=P) hT rfl hA (by omega) (by omega) (by omega) a5 a7 g2 hM (λr a c h=>?_) hl az hn ax ah (λj hj=>?_) af ay an;rotate_left
   .obtain⟨O,e,h⟩:=ai j hj;refine⟨5,O,e,?_⟩;rw[gq (show(V1 (.cells c1 e5 (0,c1.size)) w).heap[5]?=some (.cells c1 e5 (0,c1.size))from rfl)];exact h
   have h:(#[zm,zm,zm,zm,zm,Obj.cells c1 e5 (0,c1.size),zm]:Array Obj)[r]?=some (.map a c):=h
   match r,h with
   |0,h|1,h|2,h|3,h|4,h|5,h|6,h=>cases h
   |r+7,h=>simp at h
 rcases aw with⟨rfl,rfl⟩|⟨sb,O,c,e,f,rfl,aF,hc,ap⟩
 .cases h0 with
  |jg l c=>exact fin none (λb h=>by cases h) #[] 0 (λb h=>by cases h) none (λa h=>by cases h) (λj hj=>absurd hj (by omega)) (.jg _ _)
 cases h0 with
 |@slice a a' _ _ aA=>
  cases aA with
  |@mk b b' off spot aq=>
   obtain⟨o1,o2,k1,k2,k3⟩:=hw.obj sb b' aq;rw[hc]at k1;cases k1
   cases k3 with
   |@cells _ c' _ _ f' aB=>
    obtain⟨c1,ad,aI,aC⟩:=aB.flatten
    have aD:5<=b':=by
     have:=m.qT sb b' aq;omega
    refine fin (some b') (λx hx=>by cases hx; exact aD) c1 e (λx hx=>by cases hx; exact⟨c',f',k2,ad⟩) (some ⟨5,O,none⟩) (λa h=>by cases h; show 5<7; omega) (λj hj=>⟨O,rfl,?_⟩) (.slice _ _ (.mk rfl));obtain⟨aE,hv⟩:=cM.1 (ap j hj);have aa:O+j<c1.size:=by omega
    rw[cN aa,aC _ aa aE (by rw[hv]; exact .string _),hv]
end
end
section
open Go.Conc Go.RowKit Go.Maps
section
variable {Z:lQ prog} {W0:World} {Mp:Nat->Prop} {fn:dj} {tm:Array Value} {os:List OF} {wl:World} {k:List Item}
theorem MZ{ops:Array Oper}{i:Nat}{rest:List Nat}{o:Oper}{b lb:Nat}{vS vM vK:Value}{sa:Option Addr}{n sc mode gK most:Nat}{Ss:Nat->ByteArray}{P:Nat->List (Nat×gu)}{R:List gu}{qb:ByteArray}{es:List gu}(hi:ops[i]?=some o)(ak:vS=.slice sa n sc)
  (hb:wl.heap[b]?=some (.cells #[.map (some lb),vS,vM,vK] 90 (0,0))) (hs:iu wl lb es) (ag:5<=lb) (al:((sa=none/\n=0)\/∃sb so c e f,sa=some ⟨sb,so,none⟩/\5<=sb/\wl.heap[sb]?=some (.cells c e f)/\∀j,j<n->c[so+j]?=some (.string (Ss j)))/\n<=6/\(∀j,j<n->(Ss j).size<=1099511627775/\∃ps qs,lN (Ss j).size (Ss j).data.toList=some (ps,qs)/\P j=ps++qs)/\∀A:Ask,A.Ok->FD (allM A P es n)/\(ib (allM A P es n) (allM A P es n)).Perm (R.filter A.has))
  (hl:es.length<=100000) (ad:∀e∈es,e.name.length<=65536/\e.text.length<=1048576/\(e.gone=false->0<=e.gK/\e.gK<=255))
  (hm:mode<=3) (ht:gK<=255) (a0:1<=most) (a3:most<=20) (hq:il qb.data.toList=true) (a4:qb.size<=1000)
  (B:∀e∈R,e.gone=false->∀y:World,(∀r,r<5->y.heap[r]?=wl.heap[r]?)->dh prog 51 #[.agg #[.string ⟨e.name.toArray⟩,.string ⟨e.text.toArray⟩,.int .i64 e.gw,.int .i64 e.gK]] y λen w'=>en=.returned (.string ⟨(jM e).toArray⟩)/\iT y w') (h5:5<=wl.heap.size)
  (hn:∀(w2:World)(v:Value),(∀r,r<wl.heap.size->w2.heap[r]?=wl.heap[r]?)->wl.heap.size<=w2.heap.size->w2.os=wl.os->SO w2 wl.heap.size R ⟨mode,⟨(ir qb.data.toList).toArray⟩,gK⟩ most v->gp (iK Z W0 Mp) (⟨fn,iF o.dst tm v,.inRegion ops rest::k⟩::os) w2 []) :
  gp (iK Z W0 Mp) (⟨17,#[.pointer (some ⟨b,0,none⟩),.int .i64 (mode:Int),.string qb,.int .i64 (gK:Int),.int .i64 (most:Int),dT,dT,dT,dT,dT,dT,dT,dT,dT,dT,dT,dT,dT,dT,dT,dT,dT,dT,dT,dT,dT,dT,dT,dT,dT,dT,dT,dT,dT,dT,dT,dT,dT,dT,dT,dT,dT,dT,dT,dT,dT,dT,dT,dT,dT,dT,dT,dT,dT,dT,dT,dT,dT,dT,dT,dT,dT,dT,dT,dT,dT,dT],[.code (ic f17)]⟩::⟨fn,tm,.inRegion ops (i::rest)::k⟩::os) wl []:=by
 have HA:dr _:=And.intro hb (And.intro hs (And.intro ag (And.intro al (And.intro hl (And.intro ad (And.intro B (And.intro h5 (And.intro hn ak))))))));have HM:dr _:=And.intro hm (And.intro ht (And.intro a0 (And.intro a3 (And.intro hq a4))));clear hb hs ag al hl ad B h5 hn ak;show gp _ (⟨_,_,[.code (.seq (.region 0 _ false) (.seq (.seq (.region 1 _ false) (.cond _ _ .skip)) (.seq (.seq (.region 3 _ false) (.cond _ _ .skip)) (.seq (.region 5 _ true) (.seq (.region 6 _ false) (.seq (.seq (.region 7 _ false) (.block 0 _)) (.seq (.region 12 _ false) .ret)))))))]⟩::_) _ _;refine gp.sr λkk HK=>?_
 (iterate 2 (refine gH ?_; go_simp));refine gp.ie HK ?_;clear HK kk;refine gp.seq (gp.sc λkk HK=>?_);refine r8 (by kernel_rfl) (by rw[HK.out]; rfl) (by simp) λτ=>?_;have g1:¬((gK:Int)<0):=by omega
 have g2:¬((255:Int)<(gK:Int)):=by omega
 have c1:=vd mode hm (tp wl τ);have c2:=vR (most:Int) (tp wl τ);rw[decide_eq_true (show(1:Int)<=most/\(most:Int)<=20 by omega)]at c2;have c3:=λτ=>qC qb (tp wl τ) (by unfold dg; omega);rw[hq]at c3;have C3:dr _:=c3;clear hm ht a0 a3 hq a4 c3;go_wp2_with fail;refine c1.mono ?_;rintro e w' ⟨rfl,rfl⟩;clear c1;go_wp2_with fail;refine c2.mono ?_;rintro e w' ⟨rfl,rfl⟩;clear c2;go_wp2;refine iA (gp.tw τ ?_);rw[HK.out];simp only[decide_eq_false (dG.2 g1),decide_eq_false (dG.2 g2),Bool.or_false];clear HK kk g1 g2;refine gp.qv trivial rfl (gp.skip (gp.seq (gp.sc λkk HK=>?_)));refine r8 (by kernel_rfl) (by rw[HK.out]; rfl) (by simp) λτ=>?_;have c3:=C3.out τ;clear C3;go_wp2_with fail;refine c3.mono ?_;rintro e w' ⟨rfl,rfl⟩;clear c3;go_wp2;refine iA (gp.tw τ ?_);rw[HK.out];clear HK kk;refine gp.qv trivial rfl (gp.skip (gp.sc λkk HK=>?_))
 have an:dr (∀y,nV wl y->y.cell? ⟨b,1,none⟩=some vS):=λy hy=>by
  obtain⟨τ,h⟩:=hy;exact dl h (show(tp wl τ).cell? _=_ by rw[gq (w:=tp wl τ) (show(tp wl τ).heap[b]?=_ from HA.out.1)]; rfl)
 have ao:dr (∀y,nV wl y->y.cell? ⟨b,0,none⟩=some (.map (some lb))):=λy hy=>by
  obtain⟨τ,h⟩:=hy;exact dl h (show(tp wl τ).cell? _=_ by rw[gq (w:=tp wl τ) (show(tp wl τ).heap[b]?=_ from HA.out.1)]; rfl)
 obtain⟨fb,ap⟩:∃fb:ByteArray,fb=⟨(ir qb.data.toList).toArray⟩:=⟨_,rfl⟩;have aq:dr (∀y:World,dh prog 50 #[.string qb] y λe w'=>e=.returned (.string fb)/\iT y w'):=λy=>by rw[ap]; exact rb qb y (by have:=HM.out; omega)
 have ar:dr _:=ap;clear ap;refine gp.K4 (Sd:=λa y=>nV wl y/\a.defers=[]/\gp _ (⟨_,a.tmps,.inRegion _ [13,14]::_⟩::_) y _) (last:=13) (tl:=[14]) (by kernel_rfl) (Ty (by kernel_rfl)) ?_ (λa y h=>h.2);refine gI 0 ?_ ?_<|gI 1 ?_ ?_<|gI 2 ?_ ?_<|gI 3 ?_ ?_<|gI 4 ?_ ?_<|gI 5 ?_ ?_<|gI 6 ?_ ?_<|gI 7 ?_ ?_<|gI 8 ?_ ?_<|gI 9 ?_ ?_ ?_
 any_goals(intro y hy; have q:=an.out y hy; have q1:=ao.out y hy; unfold jC; go_simp; refine⟨iT.refl _,?_⟩; with_reducible rfl)
 go_simp;refine gI 10 ?_ ?_ ?_;rotate_left
 .intro y hy; unfold jC; go_simp; refine⟨rfl,(aq.out y).mono ?_⟩; rintro e y2 ⟨rfl,h2⟩; refine⟨_,rfl,h2,?_⟩; with_reducible rfl
 go_simp;refine gI 11 ?_ ?_<|gI 12 ?_ ?_ ?_
 any_goals(intro y hy; unfold jC; go_simp; refine⟨iT.refl _,?_⟩; with_reducible rfl)
 go_simp;refine pn (by kernel_rfl) (λt=>wH (by kernel_rfl) (by kernel_rfl) _ _) ?_;intro y hy;refine⟨hy,rfl,?_⟩;obtain⟨τ,hx⟩:=hy;obtain⟨hb,hs,ag,al,hl,ad,B,h5,hn,ak⟩:=HA.out;have ae:wl.heap.size<=y.heap.size:=hx.size;have hold:∀r,r<wl.heap.size->y.heap[r]?=wl.heap[r]?:=λr hr=>hx.block r hr;have aa:y.os=wl.os:=hx.os;have au:iu y lb es:=gT.stay hs (hold lb (gT.lt hs));subst ak;have af:Ask.Ok ⟨mode,fb,gK⟩:=⟨HM.out.1,by show gK<256; have:=HM.out; omega,by rw[ar.out]; show(ir qb.data.toList).toArray.size<=_; rw[List.size_toArray,jH]; have:=HM.out; simp; omega⟩;obtain⟨av,aw,ax,ay⟩:=al;have ah:=ay ⟨mode,fb,gK⟩ af;refine gp.QY (A:=⟨mode,fb,gK⟩) (es:=es) (Ss:=Ss) (P:=P) (ms:=allM ⟨mode,fb,gK⟩ P es n) (sa:=sa) (n:=n) (sc:=sc) (lb:=lb) (xs:=#[.tmp 38,.tmp 42,.tmp 47]) (Gb _ _ _) rfl rfl rfl rfl (by simp[gR]) rfl (by kernel_rfl) af au ag (av.imp id λ⟨sb,so,c,e,f,h1,h2,h3,h4⟩=>⟨sb,so,c,e,f,h1,h2,by rw[hold _ (cM.1 h3).1]; exact h3,h4⟩) aw ax rfl ah.1 hl (λe he=>⟨by have:=(ad e he).1; unfold dg; omega,(ad e he).2⟩) ?_ ?_
 .intro l cp hr;obtain⟨rfl,rfl,_⟩:=id hr;have ac:vv y 4 (.slice none 0 0) 0 (kP []):=vv.nil y 4;have O:Px (allM ⟨mode,fb,gK⟩ P es n) []:=hr.2.2;have U:List.Perm [] (R.filter (Ask.has ⟨mode,fb,gK⟩)):=O.1.trans ah.2;have HH:dr _:=And.intro U (And.intro O.2 (And.intro hold (And.intro ae (And.intro aa (And.intro h5 (And.intro B (And.intro hn ac)))))));clear hb hs ag av aw ax ay ah hl ad B h5 hn ae hold aa au af O U ac HA ao an aq hx;rw[jf];go_simp
  (refine gH ?_; go_simp);refine gp.ie HK ?_;show gp _ (⟨_,_,[.code (Qs (ic f17))]⟩::_) _ _;obtain⟨U,az,hold,ae,aa,h5,B,hn,ac⟩:=HH.out;refine wG (L:=[]) hi ac rfl HM.out.2.2.1 HM.out.2.2.2.1 (by omega) (λe he y2 ab=>?_) (λw2 u h1 h2 h3 h4=>?_)
  .have Y:=(U.mem_iff.1 he);rw[bN]at Y;exact B e Y.1 (wC Y.2) y2 (λr hr=>(ab r hr).trans (hold r (by omega)))
  .refine hn w2 _ (λr hr=>(h1 r (by omega)).trans (hold r hr)) (by omega) (h3.trans aa) ⟨[],?_,az,u,rfl,mA h4 (by omega)⟩;rw[<-ar.out];exact U
 .intro off spot l cp cs e f hr a';obtain⟨rfl,rfl,rfl,rfl,L,a5,rfl,a6,a7,am,ai⟩:=hr;obtain⟨y2,ab⟩:∃y2:World,y2={y with heap:=y.heap.push (.cells cs 96 (0,0))}:=⟨_,rfl⟩;have aj:∀r,r<y.heap.size->y2.heap[r]?=y.heap[r]?:=λr hr=>by rw[ab]; show(y.heap.push _)[r]?=_; rw[Array.getElem?_push,if_neg (by omega)]
  have aA:y2.heap.size=y.heap.size+1:=by rw[ab]; simp
  have a8:y2.os=y.os:=by rw[ab]
  have a9:y2.heap[y.heap.size]?=some (.cells cs 96 (0,0)):=by rw[ab]; simp
  have ac:vv y2 4 (.slice (some ⟨y.heap.size,0,none⟩) L.length cp) L.length (kP L):=vv.lT (base:=0) (e:=96) ⟨by rw[xd],.inr ⟨y.heap.size,cp,cs,rfl,cY _,a9,a6,a7,am,ai⟩⟩;rw[<-ab];have hold:∀r,r<wl.heap.size->y2.heap[r]?=wl.heap[r]?:=λr hr=>(aj r (by omega)).trans (hold r hr);have ae:wl.heap.size<=y2.heap.size:=by omega
  have aa:y2.os=wl.os:=a8.trans aa;clear aj aA a8 a9 a6 a7 am ai a' ab;have O:Px (allM ⟨mode,fb,gK⟩ P es n) L:=a5;have U:List.Perm L (R.filter (Ask.has ⟨mode,fb,gK⟩)):=O.1.trans ah.2;have HH:dr _:=And.intro U (And.intro O.2 (And.intro hold (And.intro ae (And.intro aa (And.intro h5 (And.intro B (And.intro hn ac)))))));clear hb hs ag av aw ax ay ah hl ad B h5 hn ae hold aa au af O a5 U ac HA ao an aq hx;rw[jf];go_simp
  (refine gH ?_; go_simp);refine gp.ie HK ?_;show gp _ (⟨_,_,[.code (Qs (ic f17))]⟩::_) _ _;obtain⟨U,az,hold,ae,aa,h5,B,hn,ac⟩:=HH.out;refine wG (L:=L) hi ac rfl HM.out.2.2.1 HM.out.2.2.2.1 (by omega) (λe he y2 ab=>?_) (λw2 u h1 h2 h3 h4=>?_)
  .have Y:=(U.mem_iff.1 he);rw[bN]at Y;exact B e Y.1 (wC Y.2) y2 (λr hr=>(ab r hr).trans (hold r (by omega)))
  .refine hn w2 _ (λr hr=>(h1 r (by omega)).trans (hold r hr)) (by omega) (h3.trans aa) ⟨L,?_,az,u,rfl,mA h4 (by omega)⟩;rw[<-ar.out];exact U
end
end
section
section
variable {A:Ask} {P:Nat->List (Nat×gu)}
theorem It(B:∀j,(P j).length<=130):∀n,(mw A P n).length<=n*130
 |0=>by simp[mw]
 |n+1=>by
  have:=It B n
  have:=B n;simp only[mw,bT,cr];omega
theorem GK:∀n,∀m∈mw A P n,∃j,j<n/\∃p∈P j,m=sJ A j p
 |0,m,h=>by simp[mw]at h
 |n+1,m,h=>by
  rcases bP.1 h with h|h
  .obtain⟨p,B,rfl⟩:=bM.1 h
   exact⟨n,by omega,p,B,rfl⟩
  .obtain⟨j,O,x⟩:=GK n m h;exact⟨j,by omega,x⟩
theorem yB(B:∀j,((P j).map dL).Nodup):∀n,((mw A P n).map λm=>(m.yX,m.at')).Nodup
 |0=>List.Pairwise.nil
 |n+1=>by
  show((_++_:List oD).map _).Nodup
  rw[bR,cG]
  refine⟨?_,yB B n,?_⟩
  .rw[bO]
   have e:((λm=>(m.yX,m.at')) ∘ sJ A n)=(λk=>(n,k)) ∘ dL:=by
    funext p;simp only[Function.comp_apply,(kQ n p).1,(kQ n p).2.1]
   rw[e,<-bO];have h:=B n;unfold cx at h⊢;rw[bU];exact h.imp λh e=>h (Prod.mk.inj e).2
  .rintro x O y U rfl;rw[bO]at O;obtain⟨p,_,rfl⟩:=bM.1 O;obtain⟨m,hm,Y⟩:=bM.1 U;have:=vz n m hm;have:=(Prod.mk.inj Y).1;simp only[(kQ n p).1]at this;omega
theorem GS:∀n,∀e∈Gd P n,∃j,j<n/\e∈sn (P j)
 |0,e,h=>by simp[Gd]at h
 |n+1,e,h=>by
  rcases bP.1 h with h|h
  .exact⟨n,by omega,h⟩
  .obtain⟨j,B,x⟩:=GS n e (bN.1 h).1
   exact⟨j,by omega,x⟩
end
theorem K8(A:Ask)(l:List gu):(gD l).filter A.has=l.filter A.has:=by
 unfold gD;rw[ce];apply ch;intro e _
 cases h:A.has e with
 |false=>rfl
 |true=>rw[wC h]; rfl
theorem xu{e:gu}(h:QO e):e.name.length<=dg/\e.text.length<=1048576:=by
 have B:=(jV (tS h)).2;refine⟨by unfold dg; omega,?_⟩;rcases h with h|h
 .have:=(mD h.2.2.1);omega
 .rw[h.1]; simp
theorem Qu{buf:List gu}{ss:List (List gu)}(hI:Inv buf ss):∃P:Nat->List (Nat×gu),
  (∀j(h:j<ss.length),∃ps qs,lN (gZ ss[j]).length (gZ ss[j])=some (ps,qs)/\P j=ps++qs)/\
  ∀A:Ask,FD (allM A P buf ss.length)/\(ib (allM A P buf ss.length) (allM A P buf ss.length)).Perm ((ix ss buf).filter A.has):=by
 have ac:∀j,∃p:List (Nat×gu),∀h:j<ss.length,∃ps qs,lN (gZ ss[j]).length (gZ ss[j])=some (ps,qs)/\p=ps++qs/\(sn p).Perm ss[j]/\rY 0 (gZ ss[j]).length p:=by
  intro j;by_cases h:j<ss.length
  .obtain⟨gs,es,U,h2⟩:=B8 (hI.lg _ (bL h));obtain⟨ps,qs,h3,h4,h5,h6⟩:=DH U;exact⟨ps++qs,λ_=>⟨ps,qs,h3,rfl,by rw[show sn (ps++qs)=sn ps++sn qs from bR,h4,h5]; exact h2,h6⟩⟩
  .exact⟨[],λh'=>absurd h' h⟩
 obtain⟨P0,ab⟩:=Classical.axiomOfChoice ac;refine⟨P0,λj h=>?_,λA=>?_⟩
 .obtain⟨ps,qs,U,h2,_⟩:=ab j h;exact⟨ps,qs,U,h2⟩
 obtain⟨P,hP⟩:∃P:Nat->List (Nat×gu),P=λj=>if j<ss.length then P0 j else if j=ss.length then jz buf else []:=⟨_,rfl⟩
 have aa:P ss.length=jz buf:=by rw[hP]; simp
 have ji:allM A P0 buf ss.length=mw A P (ss.length+1):=by
  show _++_=_++_;rw[aa,zM (P:=P0) (Q:=P) ss.length λj hj=>by rw[hP]; simp[hj]]
 have af:(gD buf).length<=30:=cW (nE _ _) hI.all
 have ad:buf.length<=130:=by
  have U:=mq buf;have h2:=hI.gone;have:=rl buf;omega
 have ae:∀j(h:j<ss.length),ss[j].length<=130:=λj h=>pJ (hI.lg _ (bL h))
 have O:∀j,∃l:List gu,(sn (P j)).Perm l/\(l.map gu.name).Nodup/\l.length<=130/\(∀e∈l,QO e)/\((P j).map dL).Nodup/\(∀p∈P j,p.1<4611686018427387904)/\(∀h:j<(ss++[buf]).length,l=(ss++[buf])[j]):=by
  intro j;rcases Nat.lt_trichotomy j ss.length with h|h|h
  .obtain⟨ps,qs,_,_,h2,h3⟩:=ab j h;have e:P j=P0 j:=by rw[hP]; simp[h]
   have hs:=hI.lg _ (bL h);refine⟨ss[j],by rw[e]; exact h2,hs.nodup,ae j h,hs.each,?_,λp Y=>?_,λ_=>by rw[List.getElem_append_left h]⟩
   .rw[e];unfold cx;rw[bU];exact h3.2.2.imp λh=>Nat.ne_of_lt h
   .rw[e]at Y;have:=(h3.2.1 p Y).2;have:=ub hs;omega
  .subst h;refine⟨buf,by rw[aa]; show(cE _ _).Perm _; rw[I3]; exact ql buf,hI.nodup,ad,hI.each,?_,λp Y=>?_,λ_=>by simp⟩
   .rw[aa,BA,bO];exact(List.nodup_range).map _ (λ_ _ h e=>h e)
   .rw[aa,BA]at Y;obtain⟨k,hk,rfl⟩:=bM.1 Y;have:=ct.1 hk;omega
  .have e:P j=[]:=by rw[hP]; simp[show ¬j<ss.length by omega,show ¬j=ss.length by omega]
   exact⟨[],by rw[e]; exact .refl _,List.Pairwise.nil,by simp,by simp,by rw[e]; exact List.Pairwise.nil,by rw[e]; simp,λh'=>by simp at h'; omega⟩
 have hL:∀j,(P j).length<=130:=λj=>by
  obtain⟨l,U,_,h3,_⟩:=O j;have:=U.length_eq;rw[cr]at this;omega
 have hN:∀j,(mH _).Nodup:=λj=>by
  obtain⟨l,U,h2,_⟩:=O j;have:=(U.map _).nodup_iff.2 h2;rw[bO]at this;exact this
 have hG:∀j,∀p∈P j,QO _:=λj p Y=>by
  obtain⟨l,U,_,_,h4,_⟩:=O j;exact h4 _ (U.mem_iff.1 (bM.2 ⟨p,Y,rfl⟩))
 have ag:=hI.rz;have B:ib (allM A P0 buf ss.length) (allM A P0 buf ss.length)=(Gd P (ss.length+1)).filter A.has:=by rw[ji,BI]
 constructor
 .refine⟨?_,λm hm=>?_,?_,?_,?_⟩
  .rw[ji];have:=It (A:=A) hL (ss.length+1);omega
  .rw[ji]at hm;obtain⟨j,hj,p,Y,rfl⟩:=GK _ m hm;rw[(kQ j p).1,(kQ j p).2.1,(kQ j p).2.2.1];obtain⟨l,_,_,_,_,_,h6,_⟩:=O j;exact⟨by omega,h6 p Y,(xu (hG j p Y)).1⟩
  .rw[ji];exact yB (λj=>(O j).elim λl h=>h.2.2.2.2.1) _
  .rw[B];exact(BR hN _).sublist ((cv).map _)
  .rw[B];intro e he;obtain⟨j,_,h⟩:=GS _ e (bN.1 he).1;obtain⟨p,Y,rfl⟩:=bM.1 h;exact(xu (hG j p Y)).2
 .rw[B,jr,K8]
  have:=H5 (P:=P) (ss:=ss++[buf]) (λj h=>by
   obtain⟨l,U,_,_,_,_,_,h7⟩:=O j;rw[<-h7 h]
   exact U) (ss.length+1) (by simp)
  rw[bS (by simp)]at this;exact this.filter _
end
section
open Go.Conc Go.RowKit Go.Maps
variable {ops:Array Oper} {qb:ByteArray} {e:gu} {rest:List Nat} {i:Nat} {o:Oper}
theorem AU:∀(ss:List (List gu))(a:List gu),(a.map gu.name).Nodup->(∀s∈ss,(s.map gu.name).Nodup)->((ss.foldl gQ a).map gu.name).Nodup
 |[],_,h,_=>h
 |s::ss,a,h,B=>AU ss _ (rO h (B s (by simp))) λx O=>B x (by simp[O])
theorem tJ{buf:List gu}{ss:List (List gu)}(h:Inv buf ss):((ix ss buf).map gu.name).Nodup:=by
 rw[jr];refine pw (AU _ [] List.Pairwise.nil λs O=>?_);rcases bP.1 O with B|B
 .exact(h.lg s B).nodup
 .simp only[bV]at B;rw[B]; exact h.nodup
theorem ym{R L:List gu}{mode gK most:Nat}(B:(R.map gu.name).Nodup)(U:∀e∈R,e.gone=false)(hm:mode<=3)(ht:gK<=255)(Y:1<=most)(aa:most<=20)(hq:il qb.data.toList=true)
  (O:L.Perm (R.filter (Ask.has ⟨mode,⟨(ir qb.data.toList).toArray⟩,gK⟩))) (hs:L.Pairwise λx y=>ja x y=true):(L.take most).map jM=(xX R mode qb.data.toList gK most).1:=by
 have e1:R.filter (Ask.has ⟨mode,⟨(ir qb.data.toList).toArray⟩,gK⟩)=R.filter λe=>wq mode gK qb.data.toList e:=by
  refine ch λe he=>?_;unfold Ask.has wq gM;rw[U e he];simp
 rw[e1]at O;have h:=EL (mode:=mode) (gK:=gK) (most:=most) (q:=qb.data.toList) B hs (by simpa using O);unfold xX;rw[if_neg (by omega),if_pos hq];rw[h];simp
abbrev oM(w:World):Prop:=Lib.TabIs prog w "internal/strconv.uint64pow10" .u64 Lib.pow10Tab
theorem Je{w y:World}(h:oM w)(hb:∀r,r<5->y.heap[r]?=w.heap[r]?):oM y:=by
 unfold oM Lib.TabIs World.var? at h⊢;have O:∃g,g<5/\prog.globalNamed "internal/strconv.uint64pow10" = some g:=⟨2,by omega,by kernel_rfl⟩;obtain⟨g,B,e⟩:=O;rw[e]at h⊢;simp only[Option.bind_some]at h⊢;rw[hb g B];exact h
theorem PI(h:KZ e)(y:World)(O:oM y)(h5:5<=y.heap.size):dh prog 51 #[.agg #[.string ⟨e.name.toArray⟩,.string ⟨e.text.toArray⟩,.int .i64 e.gw,.int .i64 e.gK]] y λU w'=>U=.returned (.string ⟨(jM e).toArray⟩)/\iT y w':=by
 obtain⟨_,Y,h2,_,h3,h4,_⟩:=h;have hn:=(jV Y).2;have aa:=mD h2;refine Oq e y h3 (λy2 B=>?_) (by omega) (by omega) ?_
 .have:=Q6 e.gw.toNat (by omega) y2 (Je O λr hr=>B.block r (by omega));rw[show e.gw.toNat=e.gw by omega]at this;exact this
 .have:=OP 7 e.gw.toNat (by omega) (by omega);omega
theorem Lq:∀(L:List (List gu))(a:List gu){e:gu},e∈L.foldl gQ a->e∈a\/∃l∈L,e∈l
 |[],_,_,h=>.inl h
 |l::L,a,e,h=>by
  rcases Lq L _ h with h|⟨m,hm,h⟩
  .rcases nJ.1 h with h|h
   .exact .inl h.1
   .exact .inr ⟨l,by simp,h⟩
  .exact .inr ⟨m,by simp[hm],h⟩
theorem CD{buf:List gu}{ss:List (List gu)}(h:Inv buf ss)(Y:e∈ix ss buf):KZ e:=by
 rw[jr]at Y;obtain⟨h1,h2⟩:=bN.1 Y
 have B:QO e:=by
  rcases Lq _ _ h1 with O|⟨l,hl,O⟩
  .simp at O
  .rcases bP.1 hl with U|U
   .exact(h.lg l U).each e O
   .simp only[bV]at U;subst U;exact h.each e O
 rcases B with B|B
 .exact B
 .rw[B.1]at h2;simp at h2
theorem ul:f17.name≠ "runtime.NumGoroutine":=by
 decide
section
variable {Z:lQ prog} {W0:World} {Mp:Nat->Prop} {fn:dj} {tm:Array Value} {os:List OF} {wl w0:World} {k:List Item} {F1 F2:Nat->Prop} {b:Nat} {buf:List gu} {ss:List (List gu)} {ts:List (List Wd)}
theorem AW.Nj{mode gK most:Nat}(hi:ops[i]?=some o)(h:AW w0 wl F1 F2 b buf ss ts)(h5:5<=w0.heap.size)(ac:oM wl)
  (hm:mode<=3) (ht:gK<=255) (ag:1<=most) (ah:most<=20) (hq:il qb.data.toList=true)
  (hn:∀(w2:World)(u:Value)(L:List gu),AW w0 w2 F1 F2 b buf ss ts->qN wl w2->L.Perm ((ix ss buf).filter (Ask.has ⟨mode,⟨(ir qb.data.toList).toArray⟩,gK⟩))->(L.Pairwise λx y=>ja x y=true)->Kept w2 F1 F2 u ((L.take most).map jM)->gp (iK Z W0 Mp) (⟨fn,iF o.dst tm (.tuple #[u,.int .i64 0]),.inRegion ops rest::k⟩::os) w2 []) :
  gp (iK Z W0 Mp) (⟨17,#[.pointer (some ⟨b,0,none⟩),.int .i64 (mode:Int),.string qb,.int .i64 (gK:Int),.int .i64 (most:Int),dT,dT,dT,dT,dT,dT,dT,dT,dT,dT,dT,dT,dT,dT,dT,dT,dT,dT,dT,dT,dT,dT,dT,dT,dT,dT,dT,dT,dT,dT,dT,dT,dT,dT,dT,dT,dT,dT,dT,dT,dT,dT,dT,dT,dT,dT,dT,dT,dT,dT,dT,dT,dT,dT,dT,dT,dT,dT,dT,dT,dT,dT],[.code (ic f17)]⟩::⟨fn,tm,.inRegion ops (i::rest)::k⟩::os) wl []:=by
 obtain⟨⟨h1,h2,h3,Bb,vS,B,n,vK,kn,h4,h6⟩,k1,k2,k3⟩:=id h
 have ai:qb.size<=1000:=by
  have:=mD hq;have e:qb.size=qb.data.toList.length:=by show qb.data.size=_; rw[Array.length_toList]
  omega
 have aj:=cW h5 k3.size;have hI:=h4.inv;have ar:=ud hI
 have ak:∀e∈buf,e.name.length<=65536/\e.text.length<=1048576/\(e.gone=false->0<=e.gK/\e.gK<=255):=λe he=>by
  have O:=hI.each e he;have h1:=(jV (tS O)).2;refine⟨by omega,(xu O).2,λe0=>?_⟩;rcases O with O|O
  .exact⟨O.2.2.2.2.2.2.1,O.2.2.2.2.2.2.2⟩
  .rw[O.1]at e0; cases e0
 have ad:=h4.row;obtain⟨P,al,am⟩:=Qu hI
 have aa:∃sa sc,vS=.slice sa ss.length sc/\((sa=none/\ss.length=0)\/∃sb so c e f,sa=some ⟨sb,so,none⟩/\5<=sb/\wl.heap[sb]?=some (.cells c e f)/\∀j,j<ss.length->c[so+j]?=some (.string ⟨(gZ (ss.getD j [])).toArray⟩)):=by
  rcases ad.2 with⟨rfl,h0⟩|⟨g,cap,cur,rfl,_,O,c1,c2,c3,c4⟩
  .exact⟨none,0,by rw[h0],.inl ⟨rfl,h0⟩⟩
  .refine⟨_,cap,rfl,.inr ⟨g,0,cur,_,_,rfl,cW h5 (k1 g (h4.nT g rfl)),O,λj U=>?_⟩⟩;have ab:=kh (ss.map gZ) j (by simpa using U);rw[<-c4,cc,if_pos (by simpa using U)]at ab
   have e1:(ss.map gZ)[j]'(by simpa using U)=gZ (ss.getD j []):=by
    rw[List.getElem_map,bJ,bK U]; rfl
   rw[e1]at ab;simpa using ab
 obtain⟨sa,sc,an,ao⟩:=aa;refine MZ (es:=buf) (R:=ix ss buf) (P:=P) (Ss:=λj=>⟨(gZ _).toArray⟩) hi an h4.blk h4.say (cW h5 (k1 Bb h4.fB)) ⟨ao,hI.rz,λj U=>?_,λA _=>am A⟩ (by omega) ak hm ht ag ah hq ai (λe he O y hy=>?_) aj ?_
 .have e1:ss.getD j []=ss[j]:=by rw[bJ,bK U]; rfl
  have hl:=ub (hI.lg _ (bL U));obtain⟨ps,qs,q1,q2⟩:=al j U;simp only[e1];have e2:(⟨(gZ ss[j]).toArray⟩:ByteArray).size=(gZ ss[j]).length:=by simp[ByteArray.size]
  exact⟨by omega,ps,qs,q1,q2⟩
 .exact PI (CD hI he) y (Je ac hy) (by have:=hy 4 (by omega); rw[cN (show 4<wl.heap.size by omega)]at this; have:=(cM.1 this).1; omega)
 .intro w2 v hb hz ho ae;obtain⟨L,ap,aq,u,rfl,af⟩:=ae;have Y:qN wl w2:=⟨ho,hz,hb⟩;refine hn w2 u L (h.same Y) Y ap aq (Kept.new h ?_);rw[cr];exact af
theorem AW.SU{xs:Array Operand}{O:Array di}{mode gK most:Nat}(h:AW w0 wl F1 F2 b buf ss ts)(h5:5<=w0.heap.size)(B:oM wl)(hq:il qb.data.toList=true)
  (hn:∀(w2:World)(u:Value)(L:List gu),AW w0 w2 F1 F2 b buf ss ts->qN wl w2->L.Perm ((ix ss buf).filter (Ask.has ⟨mode,⟨(ir qb.data.toList).toArray⟩,gK⟩))->(L.Pairwise λx y=>ja x y=true)->Kept w2 F1 F2 u ((L.take most).map jM)->gp (iK Z W0 Mp) (⟨fn,iF o.dst tm (.tuple #[u,.int .i64 0]),.inRegion ops rest::k⟩::os) w2 [])
  (hi:ops[i]?=some o) (U:dy o (dp ops tm)=true) (ho:o.op=.call {callee:=.value (.func 17),args:=xs,argTypes:=O}) (Y:∀x∈xs.toList,gR (iK Z W0 Mp).je (iK Z W0 Mp).gl x)
  (ha:xs.map (ll tm)=#[.pointer (some ⟨b,0,none⟩),.int .i64 (mode:Int),.string qb,.int .i64 (gK:Int),.int .i64 (most:Int)]) (hm:mode<=3) (ht:gK<=255) (aa:1<=most) (ab:most<=20):gp (iK Z W0 Mp) (⟨fn,tm,.inRegion ops (i::rest)::k⟩::os) wl []:=by
 have hs:xs.size=5:=by have:=congrArg Array.size ha; simpa using this
 refine gp.qj _ (jQ:=f17) (c:=ic _) hi U func17 (by kernel_rfl) ul ho Y ?_ (h.Nj hi h5 B hm ht aa ab hq hn);rw[ha,hs];kernel_rfl
end
end
section
structure qX where
 name:Wd
 text:Wd
 gw:Int
 gK:Int
 there:Bool
def oy:qX:=⟨[],[],0,0,false⟩
structure Raw where
 name:Int
 text:Int
 gw:Int
 gK:Int
def Ez(k:qX):gu:=⟨k.name,false,k.text,k.gw,k.gK⟩
def nf(x:Raw):qX:=⟨zy (pk x.name 12),ES (pk x.text 258),(x.gw.natAbs % 1000001:Nat),(pk x.gK 256:Nat),true⟩
def sX(K:List qX)(x:Raw):List qX:=
 if x.gw<0 then K.set (pk x.name 12) {K.getD (pk x.name 12) oy with there:=false}else K.set (pk x.name 12) (nf x)
def Fv(l:List gu):Prop:=∀e∈l,∃k,k<12/\e.name=zy k
theorem Kk{i j:Nat}(hi:i<12)(U:j<12)(h:zy i=zy j):i=j:=by
 have B:=by simpa[zy]using h
 have O:=congrArg UInt8.toNat B;simp only[UInt8.toNat_ofNat']at O;omega
theorem OA{k:Nat}(h:k<12):jE (zy k)=true:=by
 rcases(by omega:k=0\/k=1\/k=2\/k=3\/k=4\/k=5\/k=6\/k=7\/k=8\/k=9\/k=10\/k=11)with rfl|rfl|rfl|rfl|rfl|rfl|rfl|rfl|rfl|rfl|rfl|rfl<;>decide
def Uy(n:Nat):Bool:=il (ES n) && !(ES n).isEmpty&&decide ((ES n).length<=20)
theorem TQ:(c6 258).all Uy=true:=by kernel_rfl
theorem Tl{n:Nat}(h:n<258):il (ES n)=true/\ES n≠[]/\(ES n).length<=20:=by
 have:=cJ.1 TQ n (ct.2 h);simp only[Uy,Bool.and_eq_true,decide_eq_true_eq,Bool.not_eq_true',List.isEmpty_eq_false_iff]at this;exact⟨this.1.1,this.1.2,this.2⟩
theorem Ox{l m:List Wd}(O:l.Nodup)(hm:m.Nodup)(h:∀x∈l,x∈m):l.length<=m.length:=by
 have U:(m.filter λx=>decide (x∈l)).Perm l:=by
  rw[c7 (hm.sublist cv) O];intro x;rw[bN];exact⟨λh=>of_decide_eq_true h.2,λB=>⟨h x B,decide_eq_true B⟩⟩
 have Y:=U.length_eq;have h2:=List.length_filter_le (λx=>decide (x∈l)) m;omega
theorem BK{l:List gu}(B:(l.map gu.name).Nodup)(h:Fv l):l.length<=12:=by
 have:=Ox B (m:=(c6 12).map zy) (by decide) λx O=>by
  obtain⟨e,U,rfl⟩:=bM.1 O;obtain⟨k,Y,e1⟩:=h e U;exact bM.2 ⟨k,ct.2 Y,e1.symm⟩
 simpa using this
theorem De{a b:List gu}(B:Fv a)(hb:Fv b):Fv (gQ a b):=λe O=>by
 rcases nJ.1 O with h|h
 .exact B e h.1
 .exact hb e h
theorem yl{a:List gu}(B:Fv a):Fv (gD a):=λe O=>B e (bN.1 O).1
structure Sk(K:List qX)(buf:List gu)(ss:List (List gu)):Prop where
 len:K.length=12
 inv:Inv buf ss
 rz:Fv buf
 Ff:∀s∈ss,Fv s
 zh:∀k(h:k<K.length),K[k].there=true->K[k].name=zy k/\(∃n,n<258/\K[k].text=ES n)/\0<=K[k].gw/\K[k].gw<=1000000/\0<=K[k].gK/\K[k].gK<=255
 there:∀e,e∈ix ss buf↔∃i,∃h:i<K.length,K[i].there=true/\e=Ez K[i]
theorem Sk.new:Sk (c5 12 oy) [] [] where
 len:=by simp
 inv:=LK;rz:=λe h=>by simp at h
 Ff:=λs h=>by simp at h
 zh:=λk h B=>by rw[cA]at B; cases B
 there:=λe=>by
  constructor
  .intro h; simp[ix,oE,gQ,gD]at h
  .rintro⟨i,h,B,_⟩; rw[cA]at B; cases B
section
variable {K:List qX} {buf:List gu} {ss:List (List gu)}
theorem Sk.Th(h:Sk K buf ss):(ix ss buf).length<=12:=BK (tJ h.inv) λe B=>by
 obtain⟨i,hi,O,rfl⟩:=(h.there e).1 B;exact⟨i,by rw[<-h.len]; exact hi,(h.zh i hi O).1⟩
theorem Sk.GN(h:Sk K buf ss){k:Nat}(hk:k<12){e:gu}{kn:qX}(hI:Inv (gQ buf [e]) ss)(hn:e.name=zy k)(hg:kn.there = !e.gone)
  (hq:kn.there=true->Ez kn=e/\(∃n,n<258/\kn.text=ES n)/\0<=kn.gw/\kn.gw<=1000000/\0<=kn.gK/\kn.gK<=255):Sk (K.set k kn) (gQ buf [e]) ss where
 len:=by rw[bX]; exact h.len
 inv:=hI
 rz:=De h.rz λx hx=>by
  simp only[bV]at hx;rw[hx]; exact⟨k,hk,hn⟩
 Ff:=h.Ff
 zh:=λi hi ht=>by
  rw[bX]at hi;rw[cq]at ht⊢;split at ht
  .rename_i Y;subst Y;simp only[if_true];obtain⟨B,O⟩:=hq ht;refine⟨?_,O⟩;rw[<-hn,<-B]; rfl
  .rename_i Y;rw[if_neg Y];exact h.zh i hi ht
 there:=λx=>by
  have hT:=h.there x;rw[qL,po];rw[jr]at hT;rw[bP,bN,kH,hT];have Y:x.name ∉ names [e]↔x.name≠zy k:=by simp[names,hn]
  rw[Y];constructor
  .rintro(⟨⟨i,hi,B,rfl⟩,O⟩|B)
   .refine⟨i,by rw[bX]; exact hi,?_⟩;rw[cq];have:k≠i:=λU=>O (by rw[show(Ez K[i]).name=K[i].name from rfl,(h.zh i hi B).1,U]);rw[if_neg this];exact⟨B,rfl⟩
   .obtain⟨O,h3⟩:=bN.1 B;simp only[bV]at O;subst O;have h4:kn.there=true:=by rw[hg]; exact h3
    refine⟨k,by rw[bX,h.len]; exact hk,?_⟩;rw[cq];simp only[if_true];exact⟨h4,(hq h4).1.symm⟩
  .rintro⟨i,hi,B,rfl⟩;rw[bX]at hi;rw[cq]at B⊢;split at B
   .rename_i U;subst U;simp only[if_true];refine .inr (bN.2 ?_);rw[(hq B).1];exact⟨by simp,by rw[<-hg]; exact B⟩
   .rename_i U;rw[if_neg U];refine .inl ⟨⟨i,hi,B,rfl⟩,λe3=>U ?_⟩;rw[show(Ez K[i]).name=K[i].name from rfl,(h.zh i hi B).1]at e3;exact(Kk (by rw[<-h.len]; exact hi) hk e3).symm
theorem Sk.Di(h:Sk K buf ss)(x:Raw)(Y:¬x.gw<0) :
  (kq buf ss (nf x).name (nf x).text (nf x).gw (nf x).gK).1=0/\Sk (sX K x) (kq buf ss (nf x).name (nf x).text (nf x).gw (nf x).gK).2 ss:=by
 have B:=sO x.name 12 (by omega);have O:=Tl (sO x.text _ (by omega));have hg:=sO x.gK 256 (by omega);have aa:=h.Th;have U:=Ex h.inv (nf x).name (nf x).text (nf x).gw (nf x).gK;have hw:(nf x).gw=((x.gw.natAbs % 1000001)):=rfl;have ab:(nf x).gK=((pk _ _)):=rfl
 have e:kq buf ss (nf x).name (nf x).text (nf x).gw (nf x).gK=(0,gQ buf [Ez (nf x)]):=by
  unfold kq;rw[if_pos (show jE (nf x).name=true from OA B),if_pos (show il (nf x).text=true/\(nf x).text≠[]from⟨O.1,O.2.1⟩),if_neg (by omega),if_neg (by omega)];rfl
 rw[e]at U⊢;refine⟨rfl,?_⟩;unfold sX;rw[if_neg Y];exact h.GN B U rfl rfl λ_=>⟨rfl,⟨_,sO _ _ (by omega),rfl⟩,by omega,by omega,by omega,by omega⟩
theorem Sk.del(h:Sk K buf ss)(x:Raw)(hx:x.gw<0) :
  (mI buf ss (zy (pk x.name 12))).1=(if(K.getD (pk x.name 12) oy).there then 0 else 5)/\Sk (sX K x) (mI buf ss (zy (pk x.name 12))).2 ss:=by
 have O:=sO x.name 12 (by omega);obtain⟨k,ek⟩:∃k,k=pk x.name 12:=⟨_,rfl⟩;rw[<-ek]at O;have B:k<K.length:=by rw[h.len]; exact O
 have hI:=Ll h.inv (zy k);have U:K.getD k oy=K[k]:=by rw[bJ,bK B]; rfl
 unfold sX;rw[<-ek,if_pos hx,U]
 cases Y:K[k].there with
 |false=>
  have hn:=s6 λhm=>by
   obtain⟨e,he,e1⟩:=bM.1 hm;obtain⟨i,hi,h1,rfl⟩:=(h.there e).1 he;rw[show(Ez _).name=K[i].name from rfl,(h.zh i hi h1).1]at e1;have:=Kk (by rw[<-h.len]; exact hi) O e1;subst this;rw[Y]at h1;cases h1
  have e:mI buf ss (zy k)=(5,buf):=by
   unfold mI;rw[if_pos (OA O),if_pos hn]
  rw[e]
  have e2:K.set k {K[k]with there:=false}=K:=by
   have:({K[k]with there:=false})=K[k]:=by rw[<-Y]
   rw[this,List.set_getElem_self]
  rw[e2];exact⟨rfl,h⟩
 |true=>
  have hn:=λhf=>xM hf (bM.2 ⟨Ez _,(h.there _).2 ⟨k,B,Y,rfl⟩,(h.zh k B Y).1⟩);have hb:=BK h.inv.nodup h.rz
  have e:mI buf ss (zy k)=(0,gQ buf [⟨zy k,true,[],0,0⟩]):=by
   unfold mI;rw[if_pos (OA O),if_neg hn,if_neg (by omega)]
  rw[e]at hI⊢;exact⟨rfl,h.GN O hI rfl rfl nofun⟩
theorem Sk.flush(h:Sk K buf ss):Sk K (iU buf ss).2.1 (iU buf ss).2.2/\
  (((iU buf ss).1=0/\((iU buf ss).2.2.length=ss.length+1\/(ss.length=0/\(iU buf ss).2.2.length=0)))\/(((iU buf ss).1=5\/(iU buf ss).1=4)/\(iU buf ss).2.2.length=ss.length)):=by
 have hI:=CC h.inv;unfold iU at hI⊢;split
 .exact⟨h,.inr ⟨.inl rfl,rfl⟩⟩
 .split
  .exact⟨h,.inr ⟨.inr rfl,rfl⟩⟩
  .rename_i hb h6;rw[if_neg hb,if_neg h6]at hI;simp only at hI⊢
   have hT:ix (if 0<(iX buf ss).length then ss++[iX buf ss]else ss) []=ix ss buf:=by
    by_cases B:ss.length=0
    .have:=cn.1 B;subst this;have O:iX buf []=gD buf:=by simp[iX]
     rw[O];split
     .rw[jr];show gD (gQ _ [])=gD (gQ [] buf);rw[rH,oT,oT,mM]
     .have Y:gD buf=[]:=cn.1 (by omega);show gD (gQ [] [])=gD (gQ [] buf);rw[oT,oT,Y];rfl
    .have O:iX buf ss=buf:=by simp[iX,B]
     rw[O,if_pos (by omega),jr,jr,jb _,rH]
   refine⟨⟨h.len,hI,nofun,λs hs=>?_,h.zh,λe=>by rw[hT]; exact h.there e⟩,.inl ⟨trivial,?_⟩⟩
   .split at hs
    .rcases bP.1 hs with U|U
     .exact h.Ff s U
     .simp only[bV]at U;rw[U];unfold iX;split
      .exact yl h.rz
      .exact h.rz
    .exact h.Ff s hs
   .split
    .simp
    .rename_i hz;right
     have B:ss.length=0:=by
      by_cases B:ss.length=0
      .exact B
      .have O:iX buf ss=buf:=by simp[iX,B]
       rw[O]at hz;omega
     exact⟨B,B⟩
theorem Sk.merge(h:Sk K buf ss)(n:Int):Sk K buf (iJ ss n).2/\
  (((iJ ss n).1=0/\((iJ ss n).2.length+1=ss.length\/(iJ ss n).2.length+2=ss.length))\/((iJ ss n).1=6/\(iJ ss n).2.length=ss.length)):=by
 have Y:=D2 h.inv n;by_cases h0:n<0\/ss.length-1<=n
 .have e:iJ ss n=(6,ss):=by unfold iJ; rw[if_pos h0]
  rw[e];exact⟨h,.inr ⟨rfl,rfl⟩⟩
 .obtain⟨k,rfl⟩:∃k:Nat,n=k:=⟨n.toNat,by omega⟩;have hk:k+1<ss.length:=by omega
  have ha:ss.getD k []∈ss:=by
   rw[bJ,bK (by omega)];exact bL _
  have hb:ss.getD (k+1) []∈ss:=by
   rw[bJ,bK hk];exact bL _
  have B:=De (h.Ff _ ha) (h.Ff _ hb);have O:=rO (h.inv.lg _ ha).nodup (h.inv.lg _ hb).nodup
  have hm:Fv (l9 ss k):=by
   unfold l9;split
   .exact yl B
   .exact B
  have hl:=by
   refine BK ?_ hm;unfold l9;split
   .exact pw O
   .exact O
  have e:iJ ss k=(0,ss.take k++(qZ k (ss.getD k []) (ss.getD (k+1) [])++ss.drop (k+2))):=by
   unfold iJ;rw[if_neg h0,Int.toNat_natCast,if_neg (by omega),Bv]
  rw[e]at Y⊢;simp only at Y⊢;refine⟨⟨h.len,Y,h.rz,λs hs=>?_,h.zh,λx=>?_⟩,.inl ⟨trivial,?_⟩⟩
  .rcases bP.1 hs with U|U
   .exact h.Ff s (cu U)
   .rcases bP.1 U with h2|h2
    .rw[(KU h2).1];exact hm
    .exact h.Ff s (cC h2)
  .have:=xY ss k hk [buf];rw[jr,this,<-jr];exact h.there x
  .have U:=LP k (ss.getD k []) (ss.getD (k+1) []);simp only[bT,cy,List.length_drop];omega
end
end
section
open Go.RowKit
variable {w y:World}
theorem pF{P:Program}{ops:Array Oper}{Q:Exit->Act->World->Prop}{a:Act}(h:Q .normal a w):pj P ops Q [] a w:=λ_ _ _=>⟨.normal,a,w,h,.one step_region_end⟩
def tK(x:Raw):Value:=.agg #[.int .i64 x.name,.int .i64 x.text,.int .i64 x.gw,.int .i64 x.gK]
def KN(k:qX):Value:=.agg #[.string ⟨k.name.toArray⟩,.string ⟨k.text.toArray⟩,.int .i64 k.gw,.int .i64 k.gK,.bool k.there]
structure Raw.Ok(x:Raw):Prop where
 n0 : -9223372036854775808<=x.name
 n1:x.name<=9223372036854775807
 t0 : -9223372036854775808<=x.text
 t1:x.text<=9223372036854775807
 w0 : -9223372036854775808<=x.gw
 w1:x.gw<=9223372036854775807
 g0 : -9223372036854775808<=x.gK
 g1:x.gK<=9223372036854775807
theorem xp(w:World)(o:Obj):(w.alloc o).heap[w.heap.size]?=some o:=by simp[World.alloc,-World.alloc_eq]
theorem ma{a:Addr}{v:Value}(h:nV w y)(B:w.cell? a=some v):y.cell? a=some v:=by
 obtain⟨τ,O⟩:=h;exact jK a v _ _ (show(tp w τ).cell? a=some v from B) O
theorem Gx(w:World)(a:Addr)(v:Value):(w.setCell a v).os=w.os:=rfl
theorem vV(w:World)(a:Addr)(v:Value):(w.setCell a v).tape=w.tape:=rfl
theorem Bl(w:World)(a:Addr)(v:Value):(w.setCell a v).output=w.output:=rfl
structure UT(y y5:World)(b o:Nat)(cs:Array Value)(t:di)(v0 v1 v2 v3 v4:Value):Prop where
 blk:y5.heap[b]?=some (.cells (((((cs.setIfInBounds o v0).setIfInBounds (o+1) v1).setIfInBounds (o+2) v2).setIfInBounds (o+3) v3).setIfInBounds (o+4) v4) t (0,0))
 other:∀k,k≠b->y5.heap[k]?=y.heap[k]?
 size:y5.heap.size=y.heap.size
 os:y5.os=y.os
 tape:y5.tape=y.tape
 output:y5.output=y.output
theorem Lc{b o:Nat}{cs:Array Value}{t:di}(h:y.heap[b]?=some (.cells cs t (0,0)))(B O U Y v4:Value):UT y (((((y.setCell ⟨b,o,none⟩ B).setCell ⟨b,o+1,none⟩ O).setCell ⟨b,o+2,none⟩ U).setCell ⟨b,o+3,none⟩ Y).setCell ⟨b,o+4,none⟩ v4) b o cs t B O U Y v4 where
 blk:=by
  have h0:=heap_set h o B;have h1:=heap_set h0 (o+1) O;have h2:=heap_set h1 (o+2) U;have h3:=heap_set h2 (o+3) Y;exact heap_set h3 (o+4) v4
 other k hk:=by rw[du _ _ _ _ hk,du _ _ _ _ hk,du _ _ _ _ hk,du _ _ _ _ hk,du _ _ _ _ hk]
 size:=by simp
 os:=by rw[Gx,Gx,Gx,Gx,Gx]
 tape:=by rw[vV,vV,vV,vV,vV]
 output:=by rw[Bl,Bl,Bl,Bl,Bl]
theorem Pz(h:nV w y)(B:y.tape=w.tape):iT w y:=by
 obtain⟨τ,O,h2,U,Y,h5⟩:=h;exact⟨O,B,U,Y,h5⟩
theorem JA(x:Raw)(hx:x.Ok)(w:World):dh prog 22 #[tK x] w λe w'=>e=.returned (KN (nf x))/\iT w w':=by
 obtain⟨xn,xt,Y,xg⟩:=x;obtain⟨n0,n1,t0,t1,w0,w1,g0,g1⟩:=hx;simp only at n0 n1 t0 t1 w0 w1 g0 g1;unfold tK;simp only;obtain⟨q,hq⟩:∃q:Int,q=((Y.natAbs % 1000001:Nat):Int):=⟨_,rfl⟩;have ac:0<=q:=by omega
 have ad:q<=1000000:=by omega
 obtain⟨wa,U⟩:∃wa,wa=(w.alloc (.cells #[.int .i64 xn,.int .i64 xt,.int .i64 Y,.int .i64 xg] 48)).alloc (.cells #[.string ⟨#[]⟩,.string ⟨#[]⟩,.int .i64 0,.int .i64 0,.bool false] 36):=⟨_,rfl⟩;have aa:dr (iT w wa):=by rw[U]; exact(iT.alloc _ _).trans (iT.alloc _ _)
 have hA:wa.heap[w.heap.size]?=some (.cells #[.int .i64 xn,.int .i64 xt,.int .i64 Y,.int .i64 xg] 48 (0,0)):=by rw[U,(iT.alloc _ _).block _ (by simp)]; exact xp _ _
 have hB:wa.heap[w.heap.size+1]?=some (.cells #[.string ⟨#[]⟩,.string ⟨#[]⟩,.int .i64 0,.int .i64 0,.bool false] 36 (0,0)):=by
  rw[U,<-dC]; exact xp _ _
 have HB:dr _:=hB;have d0:wa.cell? ⟨w.heap.size,0,none⟩=some (.int .i64 xn):=by rw[gq hA]; rfl
 have d1:wa.cell? ⟨w.heap.size,1,none⟩=some (.int .i64 xt):=by rw[gq hA]; rfl
 have d2:wa.cell? ⟨w.heap.size,2,none⟩=some (.int .i64 Y):=by rw[gq hA]; rfl
 have d3:wa.cell? ⟨w.heap.size,3,none⟩=some (.int .i64 xg):=by rw[gq hA]; rfl
 have HN:dr (∀y,dh prog 23 #[.int .i64 xn] y λe w'=>e=.returned (.string ⟨(zy (pk xn 12)).toArray⟩)/\y=w'):=λy=>CL xn y n0 n1;have HT:dr (∀y,dh prog 45 #[.int .i64 xt] y λe w'=>e=.returned (.string ⟨(ES (pk xt 258)).toArray⟩)/\iT y w'):=λy=>Ni xt y t0 t1;have HP:dr (∀y,dh prog 15 #[.int .i64 xg,.int .i64 256] y λe w'=>e=.returned (.int .i64 (pk xg 256:Nat))/\y=w'):=λy=>lK xg 256 y g0 g1 (by omega) (by omega)
 have HK:dr (KN (nf ⟨xn,xt,Y,xg⟩)=.agg #[.string ⟨(zy (pk xn 12)).toArray⟩,.string ⟨(ES (pk xt 258)).toArray⟩,.int .i64 q,.int .i64 (pk xg 256:Nat),.bool true]):=by
  show KN _=_;rw[hq]; rfl
 rw[HK.out];clear hA hB HK;generalize (⟨(zy (pk xn 12)).toArray⟩:ByteArray)=sn at *;generalize (⟨(ES (pk xt 258)).toArray⟩:ByteArray)=st at *;generalize ((pk xg 256:Nat):Int)=gg at *
 have key:(Y.tmod 1000001 = -q/\-q<0)\/(Y.tmod 1000001=q/\¬q<0):=by
  by_cases ab:0<=Y
  .have:=dE (a:=Y) (b:=1000001) ab;omega
  .have:=dE (a:=-Y) (b:=1000001) (by omega);rw[Int.neg_tmod]at this;omega
 have k1:IntKind.i64.wrap (-q) = -q:=by simp only[dI]; omega
 have k2:IntKind.i64.wrap q=q:=by simp only[dI]; omega
 clear hq;rcases key with⟨hr,hl⟩|⟨hr,hl⟩
 all_goals
  go_enter func22,ntmps22;go_wp2_with fail;rw[<-U];clear U;refine jI (Sd:=λa y=>y.tape=wa.tape->pj _ _ _ [11] a y) (last:=11) (tl:=[]) (by kernel_rfl) ?_ (λa y h ht=>h ht);refine gI 0 ?_ ?_<|gI 1 ?_ ?_ ?_
  any_goals(intro y O; have q0:=ma O d0; unfold jC; go_simp; refine⟨iT.refl _,?_⟩; with_reducible rfl)
  go_simp;refine gI 2 ?_ ?_ ?_;rotate_left
  .intro y O; unfold jC; go_simp; refine⟨rfl,(HN.out y).mono ?_⟩; rintro e y2 ⟨rfl,rfl⟩; refine⟨_,rfl,iT.refl _,?_⟩; with_reducible rfl
  go_simp;refine gI 3 ?_ ?_<|gI 4 ?_ ?_ ?_
  any_goals(intro y O; have q0:=ma O d1; unfold jC; go_simp; refine⟨iT.refl _,?_⟩; with_reducible rfl)
  go_simp;refine gI 5 ?_ ?_ ?_;rotate_left
  .intro y O; unfold jC; go_simp; refine⟨rfl,(HT.out y).mono ?_⟩; rintro e y2 ⟨rfl,h2⟩; refine⟨_,rfl,h2,?_⟩; with_reducible rfl
  go_simp;refine gI 6 ?_ ?_<|gI 7 ?_ ?_<|gI 8 ?_ ?_ ?_
  any_goals(intro y O; have q0:=ma O d3; unfold jC; go_simp; refine⟨iT.refl _,?_⟩; with_reducible rfl)
  go_simp;refine gI 9 ?_ ?_ ?_;rotate_left
  .intro y O; unfold jC; go_simp; refine⟨rfl,(HP.out y).mono ?_⟩; rintro e y2 ⟨rfl,rfl⟩; refine⟨_,rfl,iT.refl _,?_⟩; with_reducible rfl
  go_simp;refine gI 10 ?_ ?_ ?_
  any_goals(intro y O; unfold jC; go_simp; refine⟨iT.refl _,?_⟩; with_reducible rfl)
  go_simp;refine pn (by kernel_rfl) (λt=>EM (by kernel_rfl) _ _) ?_;intro y O ht;refine mc rfl rfl ?_
  have B:y.heap[w.heap.size+1]?=some (.cells #[.string ⟨#[]⟩,.string ⟨#[]⟩,.int .i64 0,.int .i64 0,.bool false] 36 (0,0)):=by
   obtain⟨τ,he⟩:=O;exact(he.block _ (cM.1 HB.out).1).trans HB.out
  have c0:y.cell? ⟨w.heap.size+1,0,none⟩=some (.string ⟨#[]⟩):=by rw[gq B]; rfl
  have c1:y.cell? ⟨w.heap.size+1,1,none⟩=some (.string ⟨#[]⟩):=by rw[gq B]; rfl
  have c2:y.cell? ⟨w.heap.size+1,2,none⟩=some (.int .i64 0):=by rw[gq B]; rfl
  have c3:y.cell? ⟨w.heap.size+1,3,none⟩=some (.int .i64 0):=by rw[gq B]; rfl
  have c4:y.cell? ⟨w.heap.size+1,4,none⟩=some (.bool false):=by rw[gq B]; rfl
  have f0:=gP B;unfold jC;go_simp;refine pF ?_;have S:=Lc (o:=0) B (.string sn) (.string st) (.int .i64 q) (.int .i64 gg) (.bool true);have hE:iT w y:=aa.out.trans (Pz O ht);clear c0 c1 c2 c3 c4 f0 B O ht;change UT y (((((y.setCell ⟨w.heap.size+1,0,none⟩ (.string sn)).setCell ⟨w.heap.size+1,1,none⟩ (.string st)).setCell ⟨w.heap.size+1,2,none⟩ (.int .i64 q)).setCell ⟨w.heap.size+1,3,none⟩ (.int .i64 gg)).setCell ⟨w.heap.size+1,4,none⟩ (.bool true)) _ _ _ _ _ _ _ _ _ at S;generalize ((((y.setCell ⟨w.heap.size+1,0,none⟩ (.string sn)).setCell ⟨w.heap.size+1,1,none⟩ (.string st)).setCell ⟨w.heap.size+1,2,none⟩ (.int .i64 q)).setCell ⟨w.heap.size+1,3,none⟩ (.int .i64 gg)).setCell ⟨w.heap.size+1,4,none⟩ (.bool true)=y5 at *;have e0:y5.cell? ⟨w.heap.size+1,0,none⟩=some (.string sn):=by rw[gq S.blk]; rfl
  have e1:y5.cell? ⟨w.heap.size+1,1,none⟩=some (.string st):=by rw[gq S.blk]; rfl
  have e2:y5.cell? ⟨w.heap.size+1,2,none⟩=some (.int .i64 q):=by rw[gq S.blk]; rfl
  have e3:y5.cell? ⟨w.heap.size+1,3,none⟩=some (.int .i64 gg):=by rw[gq S.blk]; rfl
  have e4:y5.cell? ⟨w.heap.size+1,4,none⟩=some (.bool true):=by rw[gq S.blk]; rfl
  have HE:dr (iT w y5):=⟨S.os.trans hE.os,S.tape.trans hE.tape,S.output.trans hE.output,by rw[S.size]; exact hE.size,λk hk=>(S.other k (by omega)).trans (hE.block k hk)⟩;clear S hE HN HT HP aa HB;go_wp2
  try simp only[Exit.inBlock,Exit.then]
  exact bodyPost_ret (v:=.agg #[.string sn,.string st,.int .i64 q,.int .i64 gg,.bool true]) (by simp[dm,results22,go_sem,e0,e1,e2,e3,e4]) rfl ⟨rfl,HE.out⟩
end
section
def ea:gu:=⟨[97],false,[78,101,119,32,89,111,114,107],50,1⟩
def eb:gu:=⟨[98],false,[78,101,119,97,114,107],70,3⟩
def ec:gu:=⟨[99],false,[89,111,114,107],60,1⟩
def gb:gu:=⟨[98],true,[],0,0⟩
theorem t1:kq [] [] ea.name ea.text 50 1=(0,[ea]):=by kernel_rfl
theorem t2:kq [ea] [] eb.name eb.text 70 3=(0,[ea,eb]):=by kernel_rfl
theorem t3:kq [ea,eb] [] ec.name ec.text 60 1=(0,[ea,eb,ec]):=by kernel_rfl
theorem t4:(xX (ix [] [ea,eb,ec]) 0 [110,101,119] 0 5).1=[jM eb,jM ea]:=by kernel_rfl
theorem t5:(xX (ix [] [ea,eb,ec]) 1 [89,79,82,75] 0 5).1=[jM ec,jM ea]:=by kernel_rfl
theorem t6:(xX (ix [] [ea,eb,ec]) 2 [110,119,101] 2 5).1=[jM eb]:=by kernel_rfl
theorem t7:(iU [ea,eb,ec] [])=(0,[],[[ea,eb,ec]]):=by kernel_rfl
theorem t8:mI [] [[ea,eb,ec]] [98]=(0,[gb]):=by kernel_rfl
theorem t9:(iU [gb] [[ea,eb,ec]])=(0,[],[[ea,eb,ec],[gb]]):=by kernel_rfl
theorem t10:tn [[ea,eb,ec],[gb]] 1=([1,1,98,0,0,0,0,0,0],0):=by kernel_rfl
theorem t11:(iJ [[ea,eb,ec],[gb]] 0).1=0/\(iJ [[ea,eb,ec],[gb]] 0).2.length=1:=by constructor<;>kernel_rfl
def VG:List (List Wd):=[[[116,104,101],[99,97,116],[115,97,116]]]
def VE:List (List Wd):=[[[116,104,101],[99,97,116],[115,97,116]],[[116,104,101],[99,97,116],[114,97,110]]]
theorem t12:vq [] [116,104,101,32,99,97,116,32,115,97,116]=(0,VG):=by kernel_rfl
theorem t13:vq VG [116,104,101,32,99,97,116,32,114,97,110]=(0,VE):=by kernel_rfl
theorem t14:xx VE [116,104,101,32,99,97,116] 2=([[114,97,110],[115,97,116]],0):=by kernel_rfl
theorem t15:jM ea=[97,32,53,48,32,78,101,119,32,89,111,114,107]:=by
 unfold jM;rw[show ea.gw.toNat=50 from rfl,rJ (by omega),tH (by omega)];rfl
theorem t16:jM eb=[98,32,55,48,32,78,101,119,97,114,107]:=by
 unfold jM;rw[show eb.gw.toNat=70 from rfl,rJ (by omega),tH (by omega)];rfl
theorem t17:jM ec=[99,32,54,48,32,89,111,114,107]:=by
 unfold jM;rw[show ec.gw.toNat=60 from rfl,rJ (by omega),tH (by omega)];rfl
end
section
open Go.Conc Go.RowKit Go.Maps
variable {ops:Array Oper} {rest:List Nat} {xs:List Wd} {c:Nat} {o:Oper} {y:World}
theorem uQ{w:World}(B:y.heap=w.heap)(O:y.os=w.os):qN w y:=⟨O,by rw[B]; exact cV _,λk _=>by rw[B]⟩
def WT(w:World):Prop:=NZ w/\oM w
theorem tV{w:World}(h:oM w/\5<=w.heap.size)(B:qN w y):oM y:=Je h.1 λr O=>B.block r (by omega)
theorem Rv{w:World}(h:WT w)(U:5<=w.heap.size)(O:qN w y):WT y:=by
 have B:∀j,y.cell? ⟨0,j,none⟩=w.cell? ⟨0,j,none⟩:=λj=>by simp only[dA]; rw[O.block 0 (by omega)]
 exact⟨⟨(B 0).trans h.1.1,(B 1).trans h.1.2.1,(B 2).trans h.1.2.2⟩,tV ⟨h.2,U⟩ O⟩
structure uf(w0 w:World)(b:Nat)(buf:List gu)(ss:List (List gu))(ts:List (List Wd))(us:List (Value×List Wd)):Prop where
 x:∃F1 F2:Nat->Prop,AW w0 w F1 F2 b buf ss ts/\∀p∈us,Kept w F1 F2 p.1 p.2
section
variable {w0 w w':World} {b:Nat} {buf buf':List gu} {ss ss':List (List gu)} {ts ts':List (List Wd)} {us:List (Value×List Wd)}
theorem uf.low(h:uf w0 w b buf ss ts us)(B:qN w w'):uf w0 w' b buf ss ts us:=by
 obtain⟨F1,F2,O,U⟩:=h;exact⟨F1,F2,O.same B,λp Y=>(U p Y).step (St.same B)⟩
theorem uf.of{f:dj}{args:Array Value}{r:Value}(h:uf w0 w b buf ss ts us)(U:∀F1 F2,AW w0 w F1 F2 b buf ss ts->dh prog f args w λe w'=>e=.returned r/\∃B O,AW w0 w' B O b buf' ss' ts'/\St w w' F1 F2 B O) :
  dh prog f args w λe w'=>e=.returned r/\uf w0 w' b buf' ss' ts' us:=by
 obtain⟨F1,F2,Y,h2⟩:=h;refine(U F1 F2 Y).mono ?_;rintro e w' ⟨rfl,B,O,k1,k2⟩;exact⟨rfl,B,O,k1,λp hp=>(h2 p hp).step k2⟩
theorem uf.Di(h:uf w0 w b buf ss ts us)(s t:ByteArray)(x y:Int)(e:kq buf ss s.data.toList t.data.toList x y=(c,buf'))(B:s.size<=dg:=by decide)(O:t.size<=dg:=by decide) :
  dh prog 38 #[.pointer (some ⟨b,0,none⟩),.string s,.string t,.int .i64 x,.int .i64 y] w λe w'=>e=.returned (.int .i64 c)/\uf w0 w' b buf' ss ts us:=
 h.of λF1 F2 k=>by
  have:=k.Di s t x y B O;rw[e]at this;exact this.mono λ_ _ ⟨h,U,k⟩=>⟨h,U,F2,k⟩
theorem uf.del(h:uf w0 w b buf ss ts us)(s:ByteArray)(e:mI buf ss s.data.toList=(c,buf'))(B:s.size<=dg:=by decide):dh prog 37 #[.pointer (some ⟨b,0,none⟩),.string s] w λe w'=>e=.returned (.int .i64 c)/\uf w0 w' b buf' ss ts us:=
 h.of λF1 F2 k=>by
  have:=k.del s B;rw[e]at this;exact this.mono λ_ _ ⟨h,O,k⟩=>⟨h,O,F2,k⟩
theorem uf.flush(h:uf w0 w b buf ss ts us)(e:iU buf ss=(c,buf',ss')):dh prog 29 #[.pointer (some ⟨b,0,none⟩)] w λe w'=>e=.returned (.int .i64 c)/\uf w0 w' b buf' ss' ts us:=
 h.of λF1 F2 k=>by
  have:=k.flush;rw[e]at this;exact this.mono λ_ _ ⟨h,B,k⟩=>⟨h,B,F2,k⟩
theorem uf.merge(h:uf w0 w b buf ss ts us)(n:Int)(e:iJ ss n=(c,ss')):dh prog 39 #[.pointer (some ⟨b,0,none⟩),.int .i64 n] w λe w'=>e=.returned (.int .i64 c)/\uf w0 w' b buf ss' ts us:=
 h.of λF1 F2 k=>by
  have:=k.merge n;rw[e]at this;exact this.mono λ_ _ ⟨h,B,k⟩=>⟨h,B,F2,k⟩
theorem uf.observe(h:uf w0 w b buf ss ts us)(s:ByteArray)(e:vq ts s.data.toList=(c,ts'))(B:jP ts<=16777216:=by exact db (by kernel_rfl))(O:s.size<=dg:=by decide):dh prog 34 #[.pointer (some ⟨b,0,none⟩),.string s] w λe w'=>e=.returned (.int .i64 c)/\uf w0 w' b buf ss ts' us:=
 h.of λF1 F2 k=>by
  have:=k.observe s B O;rw[e]at this;exact this.mono λ_ _ ⟨h,U,k⟩=>⟨h,F1,U,k⟩
theorem uf.Fs(h:uf w0 w b buf ss ts us)(O:WT w)(s:ByteArray)(most:Int)(e:xx ts s.data.toList most=(xs,0))(U:jP ts<=16777216:=by exact db (by kernel_rfl))(Y:s.size<=dg:=by decide) :
  dh prog 35 #[.pointer (some ⟨b,0,none⟩),.string s,.int .i64 most] w λe w'=>∃a n,e=.returned (.tuple #[.slice a xs.length n,.int .i64 (0:Nat)])/\uf w0 w' b buf ss ts ((.slice a xs.length n,xs)::us):=by
 obtain⟨F1,F2,h1,h2⟩:=h;have:=h1.Fs O.1 s most U Y;rw[e]at this;refine this.mono ?_;rintro e w' ⟨v,rfl,k1,k2,k3⟩;obtain⟨a,n,rfl,_⟩:=gU k1.1;refine⟨a,n,rfl,F1,F2,k2,λp B=>?_⟩;rcases cm.1 B with rfl|B
 .exact k1
 .exact(h2 p B).step (St.same k3)
theorem uf.kept(h:uf w0 w b buf ss ts us){v:Value}(B:(v,xs)∈us):∃F1 F2,Kept w F1 F2 v xs:=by
 obtain⟨F1,F2,U,O⟩:=h;exact⟨F1,F2,O _ B⟩
theorem uf.Um(h:uf w0 w b buf ss ts us):∃B O F1,vu B O w F1 b buf ss:=by
 obtain⟨F1,F2,U,h2⟩:=h;obtain⟨B,O,Y⟩:=U.Um;exact⟨B,O,F1,Y⟩
theorem uf.base(h:uf w0 w b buf ss ts us):qN w0 w:=by
 obtain⟨F1,F2,B,O⟩:=h;exact B.low
end
section
variable {Z:lQ prog} {W0:World} {Mp:Nat->Prop} {fn:dj} {tm:Array Value} {os:List OF} {wl:World} {k:List Item} {V:List (Nat×Option (List Value))}
theorem uf.comp{w0:World}{b:Nat}{buf:List gu}{ss:List (List gu)}{ts:List (List Wd)}{us:List (Value×List Wd)}{i:Nat}{xs:Array Operand}{aa:Array di}(mode gK most n:Nat)(qb:ByteArray){ls:List Wd}(h:uf w0 wl b buf ss ts us)(h5:5<=w0.heap.size)(O:oM wl)(e:(xX (ix ss buf) mode qb.data.toList gK most).1=ls)
  (hn:∀(w2:World)(a:Option Addr)(c:Nat),uf w0 w2 b buf ss ts ((.slice a n c,ls)::us)->gp (iK Z W0 Mp) (⟨fn,iF o.dst tm (.tuple #[.slice a n c,.int .i64 0]),.inRegion ops rest::k⟩::os) w2 []) (hl:ls.length=n:=by rfl) (hq:il qb.data.toList=true:=by decide)
  (hi:ops[i]?=some o:=by rfl) (ab:dy o (dp ops tm)=true:=by rfl) (ho:o.op=.call {callee:=.value (.func 17),args:=xs,argTypes:=aa}:=by rfl) (ac:∀x∈xs.toList,gR (iK Z W0 Mp).je (iK Z W0 Mp).gl x:=by simp[gR,Plain])
  (ha:xs.map (ll tm)=#[.pointer (some ⟨b,0,none⟩),.int .i64 (mode:Int),.string qb,.int .i64 (gK:Int),.int .i64 (most:Int)]:=by kernel_rfl) (hm:mode<=3:=by omega) (ht:gK<=255:=by omega) (U:1<=most:=by omega) (Y:most<=20:=by omega):gp (iK Z W0 Mp) (⟨fn,tm,.inRegion ops (i::rest)::k⟩::os) wl []:=by
 obtain⟨F1,F2,h1,h2⟩:=h;obtain⟨vM,vK,_,_,_,B⟩:=h1.Um;have hI:=B.inv;refine h1.SU h5 O hq (λw2 u L k1 ad B hs hk=>?_) hi ab ho ac ha hm ht U Y;rw[ym (tJ hI) (λe he=>(CD hI he).1) hm ht U Y hq B hs,e]at hk;obtain⟨a,c,rfl,_⟩:=gU hk.1;rw[hl];refine hn w2 a c ⟨F1,F2,k1,λp B=>?_⟩;rcases cm.1 B with rfl|B
 .rw[<-hl]; exact hk
 .exact(h2 p B).step (St.same ad)
theorem jp{c d:Code}(h:∀O,dr (O=.code d::k)->∀y,qN wl y->c.wp prog (GB (iK Z W0 Mp) fn O os V) ⟨tm,[]⟩ y)(B:my (λo=>Fx prog uu sf true o.op) c=true:=by kernel_rfl)(U:(Item.code d::k).all mJ=true:=by rfl):gp (iK Z W0 Mp) (⟨fn,tm,.code (.seq c d)::k⟩::os) wl V:=
 gp.seq (gp.GY (pN B) U (.inr nofun) λτ _=>h _ rfl _ ⟨rfl,cV _,λ_ _=>rfl⟩)
theorem iE{P:Program}{E:Env P}{tmps:Array Value}{w':World}{B:List Item}(O:dr (B=k))(h:gp E (⟨fn,tmps,k⟩::os) w' V):GB E fn B os V .normal ⟨tmps,[]⟩ w':=by
 rw[O.out];exact iA h
theorem KC{i:Nat}(hi:ops[i]?=some o)(hW:WT wl)(h5:5<=wl.heap.size)(hn:∀w2:World,qN wl w2->gp (iK Z W0 Mp) (⟨fn,iF o.dst tm (.bool true),.inRegion ops rest::k⟩::os) w2 []) :
  gp (iK Z W0 Mp) (⟨32,#[dT,dT,dT,dT,dT,dT,dT,dT,dT,dT,dT,dT,dT,dT,dT,dT,dT,dT,dT,dT,dT,dT,dT,dT,dT,dT,dT,dT,dT,dT,dT,dT,dT,dT,dT,dT,dT,dT,dT,dT,dT,dT,dT,dT,dT,dT,dT,dT,dT,dT,dT,dT,dT,dT,dT,dT,dT,dT,dT,dT,dT,dT,dT,dT,dT,dT,dT,dT,dT,dT,dT,dT,dT,dT,dT,dT,dT,dT,dT,dT,dT,dT,dT,dT,dT,dT,dT,dT,dT,dT,dT,dT,dT,dT,dT,dT,dT,dT,dT,dT,dT,dT,dT,dT,dT,dT,dT,dT,dT,dT,dT,dT,dT,dT,dT,dT,dT,dT,dT,dT,dT,dT,dT,dT,dT,dT,dT,dT,dT,dT,dT,dT,dT,dT,dT,dT,dT,dT,dT,dT,dT,dT,dT,dT,dT,dT,dT,dT,dT,dT,dT,dT,dT,dT],[.code (ic f32)]⟩::⟨fn,tm,.inRegion ops (i::rest)::k⟩::os) wl []:=by
 have HN:dr _:=And.intro hW (And.intro h5 hn);clear hW h5 hn;show gp _ (⟨_,_,[.code (.seq (.region 0 _ false) (.seq (.region 1 _ false) (.seq (.seq (.region 2 _ false) (.cond _ _ .skip)) (.seq (.region 4 _ false) (.seq (.region 5 _ false) (.seq (.region 6 _ false) (.seq (.region 7 _ false) (.seq (.region 8 _ false) (.seq (.region 9 _ false) (.seq (.region 10 _ false) (.seq (.region 11 _ false) (.seq (.region 12 _ false) (.seq (.region 13 _ false) (.seq (.region 14 _ false) (.seq (.region 15 _ false) (.seq (.region 16 _ false) (.seq (.region 17 _ false) (.seq (.seq (.region 18 _ false) (.cond _ _ .skip)) (.seq (.region 20 _ false) (.seq (.region 21 _ false) (.seq (.region 22 _ false) (.seq (.region 23 _ false) (.seq (.region 24 _ false) (.seq (.region 25 _ false) .ret))))))))))))))))))))))))]⟩::_) _ _;refine gp.sr λY B=>?_
 (refine gH ?_; go_simp);refine gp.ie B ?_;clear B Y;refine jp λY B y O=>?_;have C:=U5 y;have HL:dr _:=O;clear O;go_wp2_with fail;refine C.mono ?_;clear C;rintro e w ⟨b,F1,F2,rfl,hA,hb⟩
 have U:dr (uf wl w b [] [] [] []):=by
  have h0:=HL.out;exact⟨F1,F2,⟨hA.j,λk hk=>cW h0.size (hA.Vo k hk),λk hk=>cW h0.size (hA.S5 k hk),h0.trans hA.low⟩,λp hp=>by cases hp⟩
 clear hA hb HL;go_wp2;refine iE B ?_;clear B Y;refine gp.seq (gp.sr λY B=>?_)
 (iterate 2 (refine gH ?_; go_simp));refine gp.ie B ?_;clear B Y;refine gp.qv trivial rfl (gp.skip ?_);refine jp λY B y O=>?_;have C:=(U.out.low O).Di ⟨#[97]⟩ ⟨#[78,101,119,32,89,111,114,107]⟩ 50 1 t1;clear O;go_wp2_with fail;refine C.mono ?_;clear C;rintro e w ⟨rfl,hA⟩;have U:dr _:=hA;clear hA;go_wp2;refine iE B ?_;clear B Y;refine jp λY B y O=>?_;have C:=(U.out.low O).Di ⟨#[98]⟩ ⟨#[78,101,119,97,114,107]⟩ 70 3 t2;clear O;go_wp2_with fail;refine C.mono ?_;clear C;rintro e w ⟨rfl,hA⟩;have U:dr _:=hA;clear hA;go_wp2;refine iE B ?_;clear B Y;refine jp λY B y O=>?_;have C:=(U.out.low O).Di ⟨#[99]⟩ ⟨#[89,111,114,107]⟩ 60 1 t3;clear O;go_wp2_with fail;refine C.mono ?_;clear C;rintro e w ⟨rfl,hA⟩;have U:dr _:=hA;clear hA;go_wp2;refine iE B ?_;clear B Y;refine gp.sr λY B=>?_
 (refine gH ?_; go_simp);refine U.out.comp (i:=1) 0 0 5 2 ⟨#[110,101,119]⟩ HN.out.2.1 (tV ⟨HN.out.1.2,HN.out.2.1⟩ U.out.base) t4 λw a0 c0 hA=>?_;have U:dr _:=hA;clear hA;rw[jf];go_simp
 (iterate 5 (refine gH ?_; go_simp));refine gp.ie B ?_;clear B Y;refine gp.sr λY B=>?_
 (refine gH ?_; go_simp);refine U.out.comp (i:=1) 1 0 5 2 ⟨#[89,79,82,75]⟩ HN.out.2.1 (tV ⟨HN.out.1.2,HN.out.2.1⟩ U.out.base) t5 λw a1 c1 hA=>?_;have U:dr _:=hA;clear hA;rw[jf];go_simp
 (iterate 5 (refine gH ?_; go_simp));refine gp.ie B ?_;clear B Y;refine gp.sr λY B=>?_
 (refine gH ?_; go_simp);refine U.out.comp (i:=1) 2 2 5 1 ⟨#[110,119,101]⟩ HN.out.2.1 (tV ⟨HN.out.1.2,HN.out.2.1⟩ U.out.base) t6 λw a2 c2 hA=>?_;have U:dr _:=hA;clear hA;rw[jf];go_simp
 (iterate 5 (refine gH ?_; go_simp));refine gp.ie B ?_;clear B Y;refine jp λY B y O=>?_;have C:=(U.out.low O).flush t7;clear O;go_wp2_with fail;refine C.mono ?_;clear C;rintro e w ⟨rfl,hA⟩;have U:dr _:=hA;clear hA;go_wp2;refine iE B ?_;clear B Y;refine jp λY B y O=>?_;have C:=(U.out.low O).del ⟨#[98]⟩ t8;clear O;go_wp2_with fail;refine C.mono ?_;clear C;rintro e w ⟨rfl,hA⟩;have U:dr _:=hA;clear hA;go_wp2;refine iE B ?_;clear B Y;refine jp λY B y O=>?_;have C:=(U.out.low O).flush t9;clear O;go_wp2_with fail;refine C.mono ?_;clear C;rintro e w ⟨rfl,hA⟩;have U:dr _:=hA;clear hA;go_wp2;refine iE B ?_;clear B Y;refine jp λY B y O=>?_;obtain⟨vM,vK,F1,hp⟩:=(U.out.low O).Um;have C:=UE y F1 b [] [[ea,eb,ec],[gb]] 1 hp;rw[t10]at C;have U:dr _:=U.out.low O;clear hp;clear O;go_wp2_with fail;refine C.mono ?_;clear C;rintro e w ⟨rfl,rfl⟩;go_wp2;refine iE B ?_;clear B Y;refine jp λY B y O=>?_;have C:=(U.out.low O).merge 0 (Prod.ext t11.1 rfl);clear O;go_wp2_with fail;refine C.mono ?_;clear C;rintro e w ⟨rfl,hA⟩;have U:dr _:=hA;clear hA;go_wp2;refine iE B ?_;clear B Y;refine jp λY B y O=>?_;have C:=(U.out.low O).observe ⟨#[116,104,101,32,99,97,116,32,115,97,116]⟩ t12;clear O;go_wp2_with fail;refine C.mono ?_;clear C;rintro e w ⟨rfl,hA⟩;have U:dr _:=hA;clear hA;go_wp2;refine iE B ?_;clear B Y;refine jp λY B y O=>?_;have C:=(U.out.low O).observe ⟨#[116,104,101,32,99,97,116,32,114,97,110]⟩ t13;clear O;go_wp2_with fail;refine C.mono ?_;clear C;rintro e w ⟨rfl,hA⟩;have U:dr _:=hA;clear hA;go_wp2;refine iE B ?_;clear B Y;refine jp λY B y O=>?_;have A:=U.out.low O;have C:=A.Fs (Rv HN.out.1 HN.out.2.1 A.base) ⟨#[116,104,101,32,99,97,116]⟩ 2 t14;clear A;clear O;go_wp2_with fail;refine C.mono ?_;clear C;rintro e w ⟨a4,c4,rfl,hA⟩;have U:dr _:=hA;clear hA;go_wp2;refine iE B ?_;clear B Y;refine gp.seq (jp λY B y O=>?_);have U:dr _:=U.out.low O;clear O;go_wp2;refine iE B ?_;clear B Y;refine gp.qv trivial rfl (gp.skip ?_);refine jp λY B y O=>?_;have U:dr _:=U.out.low O;obtain⟨F1,F2,h⟩:=U.out.kept (.tail _ (.tail _ (.tail _ (.head _))));have C:=Qo _ _ h;simp only[t15,t16,t17]at C;clear h;clear O;go_wp2_with fail;refine C.mono ?_;clear C;rintro e w ⟨rfl,rfl⟩;go_wp2;refine iE B ?_;clear B Y;refine jp λY B y O=>?_;have U:dr _:=U.out.low O;obtain⟨F1,F2,h⟩:=U.out.kept (.tail _ (.tail _ (.head _)));have C:=Qo _ _ h;simp only[t15,t16,t17]at C;clear h;clear O;go_wp2_with fail;refine C.mono ?_;clear C;rintro e w ⟨rfl,rfl⟩;go_wp2;refine iE B ?_;clear B Y;refine jp λY B y O=>?_;have U:dr _:=U.out.low O;obtain⟨F1,F2,h⟩:=U.out.kept (.tail _ (.head _));have C:=Vk _ ⟨#[]⟩ h;simp only[t15,t16,t17]at C;clear h;clear O;go_wp2_with fail;refine C.mono ?_;clear C;rintro e w ⟨rfl,rfl⟩;go_wp2;refine iE B ?_;clear B Y;refine jp λY B y O=>?_;have U:dr _:=U.out.low O;obtain⟨F1,F2,h⟩:=U.out.kept (.head _);have C:=Qo _ _ h;clear h;clear O;go_wp2_with fail;refine C.mono ?_;clear C;rintro e w ⟨rfl,rfl⟩;go_wp2;refine iE B ?_;clear B Y;refine jp λY B y O=>?_;have U:dr _:=U.out.low O;obtain⟨vM,vK,F1,hp⟩:=U.out.Um;have C:=Da y F1 b [] (iJ [[ea,eb,ec],[gb]] 0).2 hp;rw[t11.2]at C;clear hp;clear O;go_wp2_with fail;refine C.mono ?_;clear C;rintro e w ⟨rfl,rfl⟩;go_wp2;refine iE B ?_;clear B Y;refine jp λY B y O=>?_;have U:dr _:=U.out.low O;clear O;go_wp2;refine iE B ?_;clear B Y;refine gp.back (v:=.bool true) (.inr ⟨_,rfl⟩) func32 hi (λτ=>by simp[dm,results32,go_sem]) ?_;exact HN.out.2.2 _ U.out.base
end
end
section
open Go.Conc Go.RowKit Go.Maps
theorem PJ.stay{w w':World}{F1 F2:Nat->Prop}{b:Nat}{buf:List gu}{ss:List (List gu)}{ts:List (List Wd)}(h:PJ w F1 F2 b buf ss ts)(U:w.heap.size<=w'.heap.size)(hb:∀k,F1 k\/F2 k->w'.heap[k]?=w.heap[k]?):PJ w' F1 F2 b buf ss ts:=by
 obtain⟨Y,h2,h3,Bb,vS,B,n,vK,kn,h4,h5⟩:=h;exact⟨λk O=>cX (Y k O) U,λk O=>cX (h2 k O) U,h3,Bb,vS,B,n,vK,kn,h4.stay λk O=>hb k (.inl O),h5.stay λk O=>hb k (.inr O)⟩
theorem JW:f32.name≠ "runtime.NumGoroutine":=by
 decide
section
variable {Z:lQ prog} {W0:World} {Mp:Nat->Prop} {fn:dj} {tm:Array Value} {os:List OF} {wl:World} {V:List (Nat×Option (List Value))} {k:List Item}
theorem rI{c:Code}(B:my (λo=>Fx prog uu sf true o.op) c=true)(U:k.all mJ=true)(h:∀O:World,O.heap=wl.heap->O.os=wl.os->c.wp prog (GB (iK Z W0 Mp) fn k os V) ⟨tm,[]⟩ O):gp (iK Z W0 Mp) (⟨fn,tm,.code c::k⟩::os) wl V:=
 gp.GY (pN B) U (.inr nofun) λτ _=>h _ rfl rfl
end
structure Cb(w:World)(ra:Option Addr)(rs:List Int):Prop where
 cell:∀j(h:j<rs.length),∃b off,ra=some ⟨b,off,none⟩/\w.cell? ⟨b,off+j,none⟩=some (.int .i64 rs[j])
 lo:∀x∈rs,-9223372036854775808<=x
 hi:∀x∈rs,x<=9223372036854775807
end
section
open Go.Conc Go.RowKit Go.Maps
variable {i k:Nat}
def nP(k:qX):Nat->Value
 |0=>.string ⟨k.name.toArray⟩
 |1=>.string ⟨k.text.toArray⟩
 |2=>.int .i64 k.gw
 |3=>.int .i64 k.gK
 |_=>.bool k.there
def tN(b:Nat)(K:List qX)(j:Nat):Value:=if j=0 then .pointer (some ⟨b,0,none⟩)else nP (K.getD ((j-1) / 5) oy) ((j-1) % 5)
def oF(b:Nat)(K:List qX):Array Value:=Array.ofFn (n:=61) λj=>tN b K j.val
theorem pb(b:Nat)(K:List qX)(j:Nat):(oF b K)[j]?=if j<61 then some (tN b K j)else none:=by
 unfold oF;rw[Array.getElem?_ofFn];split<;>rfl
theorem Lw(b:Nat)(K:List qX):(oF b K).size=61:=by unfold oF; simp
theorem QN{b:Nat}{K:List qX}(B:K.length=12)(O:k<12)(hi:i<5):(oF b K)[1+5*k+i]?=some (nP (K[k]'(by omega)) i):=by
 rw[pb,if_pos (by omega)];unfold tN;rw[if_neg (by omega),show(1+5*k+i-1) / 5=k by omega,show(1+5*k+i-1) % 5=i by omega,bJ,bK _];rfl
theorem Ir{b:Nat}{K:List qX}(U:K.length=12){j:Nat}(Y:k<12)(kn:qX)(B:∀i,i<5->j≠1+5*k+i):tN b (K.set k kn) j=tN b K j:=by
 unfold tN;split
 .rfl
 .have O:(j-1) / 5≠k:=λe=>B ((j-1) % 5) (by omega) (by omega);rw[bJ,bJ,List.getElem?_set_ne (by omega)]
theorem su{b:Nat}{K:List qX}(B:K.length=12)(O:k<12)(hi:i<5)(kn:qX):tN b (K.set k kn) (1+5*k+i)=nP kn i:=by
 unfold tN;rw[if_neg (by omega),show(1+5*k+i-1) / 5=k by omega,show(1+5*k+i-1) % 5=i by omega,bJ,List.getElem?_set_self (by omega)];rfl
theorem RN{b:Nat}{K:List qX}(B:K.length=12)(O:k<12)(kn:qX) :
  ((((((oF b K).setIfInBounds (1+5*k) (nP kn 0)).setIfInBounds (1+5*k+1) (nP kn 1)).setIfInBounds (1+5*k+2) (nP kn 2)).setIfInBounds (1+5*k+3) (nP kn 3)).setIfInBounds (1+5*k+4) (nP kn 4))=oF b (K.set k kn):=by
 apply cU;intro j;simp only[cR,Array.size_setIfInBounds,Lw,pb];by_cases U:1+5*k+4=j
 .subst U; simp only[if_true]; rw[if_pos (by omega),if_pos (by omega),su B O (by omega)]
 .rw[if_neg U];by_cases Y:1+5*k+3=j
  .subst Y; simp only[if_true]; rw[if_pos (by omega),if_pos (by omega),su B O (by omega)]
  .rw[if_neg Y];by_cases h2:1+5*k+2=j
   .subst h2; simp only[if_true]; rw[if_pos (by omega),if_pos (by omega),su B O (by omega)]
   .rw[if_neg h2];by_cases h1:1+5*k+1=j
    .subst h1; simp only[if_true]; rw[if_pos (by omega),if_pos (by omega),su B O (by omega)]
    .rw[if_neg h1];by_cases h0:1+5*k=j
     .subst h0; simp only[if_true]; rw[show 1+5*k=1+5*k+0 from rfl,su B O (by omega)]
     .rw[if_neg h0,Ir B O kn λi hi=>by omega]
theorem RE{b:Nat}{K:List qX}(U:K.length=12)(Y:k<12) :
  (oF b K).setIfInBounds (1+5*k+4) (.bool false)=oF b (K.set k {K.getD k oy with there:=false}):=by
 have B:K.getD k oy=K[k]'(by omega):=by rw[bJ,bK _]; rfl
 apply cU;intro j;simp only[cR,Lw,pb];by_cases h4:1+5*k+4=j
 .subst h4; simp only[if_true]; rw[if_pos (by omega),if_pos (by omega),su U Y (by omega)]; rfl
 .rw[if_neg h4];split
  .by_cases O:∃i,i<4/\j=1+5*k+i
   .obtain⟨i,hi,rfl⟩:=O;rw[su U Y (by omega),B];have:=QN (b:=b) U Y (show i<5 by omega);rw[pb,if_pos (by omega)]at this;rw[this];rcases(by omega:i=0\/i=1\/i=2\/i=3)with rfl|rfl|rfl|rfl<;>rfl
   .rw[Ir U Y _ λi hi e=>?_];by_cases h:i<4
    .exact O ⟨i,h,e⟩
    .exact h4 (by omega)
  .rfl
structure WB(w0 w:World)(F1 F2:Nat->Prop)(b W:Nat)(K:List qX):Prop where
 blk:w.heap[W]?=some (.cells (oF b K) 39 (0,0))
 a1:¬F1 W
 a2:¬F2 W
 hi:w0.heap.size<=W
section
variable {w0 w w':World} {F1 F2:Nat->Prop} {b W:Nat} {buf:List gu} {ss:List (List gu)} {ts:List (List Wd)} {K:List qX}
theorem WB.lt(h:WB w0 w F1 F2 b W K):W<w.heap.size:=(cM.1 h.blk).1
theorem WB.low(h:WB w0 w F1 F2 b W K)(B:qN w w'):WB w0 w' F1 F2 b W K:=⟨(B.block W h.lt).trans h.blk,h.a1,h.a2,h.hi⟩
theorem WB.step{B O:Nat->Prop}(h:WB w0 w F1 F2 b W K)(st:St w w' F1 F2 B O):WB w0 w' B O b W K:=by
 have:=h.lt;refine⟨(st.block W h.lt h.a1 h.a2).trans h.blk,λY=>?_,λY=>?_,h.hi⟩
 .rcases st.f1 W Y with U|U
  .exact h.a1 U
  .omega
 .rcases st.f2 W Y with U|U
  .exact h.a2 U
  .omega
theorem AW.other(h:AW w0 w F1 F2 b buf ss ts)(Y:¬F1 W)(h2:¬F2 W)(hi:w0.heap.size<=W)(U:w.heap.size<=w'.heap.size)(O:w'.os=w.os)(hb:∀k,k<w.heap.size->k≠W->w'.heap[k]?=w.heap[k]?):AW w0 w' F1 F2 b buf ss ts:=by
 refine⟨h.j.stay U λk B=>hb k (B.elim (h.j.Uq k) (h.j.Vv k)) λe=>?_,h.Vo,h.S5,⟨O.trans h.low.os,cW h.low.size U,λk B=>(hb k (cX B h.low.size) (by omega)).trans (h.low.block k B)⟩⟩;subst e;exact B.elim Y h2
theorem tq(h:nV w w'):qN w w':=by
 obtain⟨τ,B⟩:=h;exact⟨B.os,B.size,B.block⟩
end
end
section
open Go.Conc Go.RowKit Go.Maps
section
variable {w0 w w':World} {F1 F2:Nat->Prop} {b W:Nat} {buf:List gu} {ss:List (List gu)} {ts:List (List Wd)} {K:List qX}
theorem Ut{k:Nat}(h:k<12):pk (k:Int) 12=k:=by
 unfold pk;omega
theorem SH(hA:AW w0 w F1 F2 b buf ss ts)(hB:WB w0 w F1 F2 b W K)(hS:Sk K buf ss)(x:Raw)(hx:x.Ok)(aa:x.gw<0) :
  dh prog 43 #[.pointer (some ⟨W,0,none⟩),tK x] w λe w'=>e=.returned (.bool true)/\∃U buf',AW w0 w' U F2 b buf' ss ts/\WB w0 w' U F2 b W (sX K x)/\Sk (sX K x) buf' ss:=by
 have ad:=hS.del x aa;have ab:=hS.len;have ac:=sO x.name 12 (by omega);have Y:=RE (b:=b) ab ac;have al:sX K x=K.set (pk x.name 12) {K.getD (pk x.name 12) oy with there:=false}:=by unfold sX; rw[if_pos aa]
 rw[<-al]at Y;generalize sX K x=K' at *;obtain⟨xn,xt,xw,xg⟩:=x;obtain⟨n0,n1,t0,t1,q0,q1,g0,g1⟩:=hx;simp only at n0 n1 t0 t1 q0 q1 g0 g1 aa ad ac Y⊢;unfold tK;simp only;obtain⟨wa,ae⟩:∃wa,wa=w.alloc (.cells #[.int .i64 xn,.int .i64 xt,.int .i64 xw,.int .i64 xg] 48):=⟨_,rfl⟩;have ai:iT w wa:=by rw[ae]; exact iT.alloc _ _
 have aj:wa.heap[w.heap.size]?=some (.cells #[.int .i64 xn,.int .i64 xt,.int .i64 xw,.int .i64 xg] 48 (0,0)):=by rw[ae]; exact xp _ _
 have d0:wa.cell? ⟨w.heap.size,0,none⟩=some (.int .i64 xn):=by rw[gq aj]; rfl
 have d2:wa.cell? ⟨w.heap.size,2,none⟩=some (.int .i64 xw):=by rw[gq aj]; rfl
 have HA:dr _:=hA.same (.of ai);have HB:dr _:=hB.low (.of ai);have hp:=lK xn 12 wa n0 n1 (by omega) (by omega);obtain⟨k,hk⟩:∃k,k=pk xn 12:=⟨_,rfl⟩;rw[<-hk]at hp ac Y ad
 have HN:dr (∀y,dh prog 23 #[.int .i64 (k:Int)] y λe w'=>e=.returned (.string ⟨(zy k).toArray⟩)/\y=w'):=λy=>by
  have:=CL (k:Int) y (by omega) (by omega);rw[Ut ac]at this;exact this
 have HX:dr _:=And.intro ad Y;have HL:dr _:=And.intro ab ac;clear hA hB hS ad Y ai aj hk ab al;go_enter func43,ntmps43;go_wp2_with fail;rw[<-ae];refine hp.mono ?_;rintro e w1 ⟨rfl,rfl⟩;clear hp ae;go_wp2_with fail;have HU:dr (∀y,nV wa y->y.cell? ⟨W,0,none⟩=some (.pointer (some ⟨b,0,none⟩))):=λy hy=>ma hy (by rw[gq HB.out.blk,pb]; rfl);refine jI (Sd:=λa y=>pj _ _ _ [6,7] a y) (last:=6) (tl:=[7]) (by kernel_rfl) ?_ (λa y h _=>h);refine gI 0 ?_ ?_<|gI 1 ?_ ?_<|gI 2 ?_ ?_<|gI 3 ?_ ?_<|gI 4 ?_ ?_ ?_
 any_goals(intro y hy; have q0:=HU.out y hy; unfold jC; go_simp; refine⟨iT.refl _,?_⟩; with_reducible rfl)
 go_simp;refine gI 5 ?_ ?_ ?_;rotate_left
 .intro y hy; unfold jC; go_simp; refine⟨rfl,(HN.out y).mono ?_⟩; rintro e y2 ⟨rfl,rfl⟩; refine⟨_,rfl,iT.refl _,?_⟩; with_reducible rfl
 go_simp;refine pn (by kernel_rfl) (λt=>wH (by kernel_rfl) (by kernel_rfl) _ _) ?_;intro y hy;have am:dr _:=HA.out.same (tq hy);have an:dr _:=HB.out.low (tq hy);clear hy HA HB HU HN d0 d2;refine mc rfl rfl ?_;unfold jC;go_simp;refine⟨rfl,(am.out.del ⟨(zy k).toArray⟩ (by unfold dg; simp[zy,ByteArray.size])).mono ?_⟩;rintro e y2 ⟨rfl,U,ao,st⟩;have O:dr _:=an.out.step st;have ak:dr _:=ao;clear ao st am an;refine⟨_,rfl,?_⟩;refine mc rfl rfl ?_;unfold jC;go_simp;refine pF ?_;change dr (AW w0 y2 U F2 b (mI buf ss (zy k)).2 ss ts)at ak;have ag:K.getD k oy=K[k]'(by have:=HL.out; omega):=by rw[bJ,bK (by have:=HL.out; omega)]; rfl
 have c4:y2.cell? ⟨W,1+k*5+4,none⟩=some (.bool (K.getD k oy).there):=by
  have:=QN (b:=b) HL.out.1 HL.out.2 (show 4<5 by omega);rw[da 5 k]at this;rw[gq O.out.blk,this,ag];rfl
 have f4:=gP O.out.blk (1+k*5+4);obtain⟨y3,af⟩:∃y3,y2.setCell ⟨W,1+k*5+4,none⟩ (.bool false)=y3:=⟨_,rfl⟩
 have ah:dr (∃U buf',AW w0 y3 U F2 b buf' ss ts/\WB w0 y3 U F2 b W K'/\Sk K' buf' ss):=by
  refine⟨U,_,ak.out.other O.out.a1 O.out.a2 O.out.hi ?_ ?_ ?_,⟨?_,O.out.a1,O.out.a2,O.out.hi⟩,HX.out.1.2⟩
  .rw[<-af]; simp
  .rw[<-af]; rfl
  .intro j _ hj;rw[<-af,du _ _ _ _ hj]
  .rw[<-af,heap_set O.out.blk,da k 5,HX.out.2]
 have B:=HX.out.1.1;clear ak O HX ag
 cases ht:(K.getD k oy).there with
 |true=>
  rw[ht]at B c4;simp only[if_true]at B;rw[B];clear B ht;go_wp2;go_ret;exact⟨rfl,ah.out⟩
 |false=>
  rw[ht]at B c4;simp only[Bool.false_eq_true,if_false]at B;rw[B];clear B ht;go_wp2;go_ret;exact⟨rfl,ah.out⟩
end
end
section
open Go.Conc Go.RowKit Go.Maps
section
variable {w0 w w':World} {F1 F2:Nat->Prop} {b W:Nat} {buf:List gu} {ss:List (List gu)} {ts:List (List Wd)} {K:List qX}
theorem SK(hA:AW w0 w F1 F2 b buf ss ts)(hB:WB w0 w F1 F2 b W K)(hS:Sk K buf ss)(x:Raw)(hx:x.Ok)(ac:¬x.gw<0) :
  dh prog 43 #[.pointer (some ⟨W,0,none⟩),tK x] w λe w'=>e=.returned (.bool true)/\∃aa buf',AW w0 w' aa F2 b buf' ss ts/\WB w0 w' aa F2 b W (sX K x)/\Sk (sX K x) buf' ss:=by
 have aj:=hS.Di x ac;have ad:=hS.len;have ae:=sO x.name 12 (by omega);have Y:=RN (b:=b) ad ae (nf x);have ax:sX K x=K.set (pk x.name 12) (nf x):=by unfold sX; rw[if_neg ac]
 have ay:=(Tl (sO x.text 258 (by omega))).2.2;have hC:=λy=>JA x hx y;unfold KN at hC;rw[<-ax]at Y;generalize sX K x=K' at *;have az:(nf x).there=true:=rfl;have ak:(nf x).text.length<=20:=ay;have al:(nf x).name.length<=20:=by show[UInt8.ofNat (97+pk x.name 12)].length<=20; simp
 generalize nf x=kn at *;obtain⟨kN,kT,kW,kG,kB⟩:=kn;simp only at az ak al aj hC;subst az;simp only[nP]at Y;obtain⟨xn,xt,xw,xg⟩:=x;obtain⟨n0,n1,t0,t1,q0,q1,g0,g1⟩:=hx;simp only at n0 n1 t0 t1 q0 q1 g0 g1 ac ae Y hC;unfold tK at hC⊢;simp only at hC⊢;obtain⟨wa,ah⟩:∃wa,wa=w.alloc (.cells #[.int .i64 xn,.int .i64 xt,.int .i64 xw,.int .i64 xg] 48):=⟨_,rfl⟩;have am:iT w wa:=by rw[ah]; exact iT.alloc _ _
 have af:wa.heap[w.heap.size]?=some (.cells #[.int .i64 xn,.int .i64 xt,.int .i64 xw,.int .i64 xg] 48 (0,0)):=by rw[ah]; exact xp _ _
 have d0:wa.cell? ⟨w.heap.size,0,none⟩=some (.int .i64 xn):=by rw[gq af]; rfl
 have d1:wa.cell? ⟨w.heap.size,1,none⟩=some (.int .i64 xt):=by rw[gq af]; rfl
 have d2:wa.cell? ⟨w.heap.size,2,none⟩=some (.int .i64 xw):=by rw[gq af]; rfl
 have d3:wa.cell? ⟨w.heap.size,3,none⟩=some (.int .i64 xg):=by rw[gq af]; rfl
 have HA:dr _:=hA.same (.of am);have HB:dr _:=hB.low (.of am);have hp:=lK xn 12 wa n0 n1 (by omega) (by omega);obtain⟨k,hk⟩:∃k,k=pk xn 12:=⟨_,rfl⟩;rw[<-hk]at hp ae Y;have HX:dr _:=And.intro aj Y;have HL:dr _:=And.intro ad (And.intro ae (And.intro ak al));have HC:dr _:=hC;obtain⟨sn,an⟩:∃sn:ByteArray,sn=⟨kN.toArray⟩:=⟨_,rfl⟩;obtain⟨st,ao⟩:∃st:ByteArray,st=⟨kT.toArray⟩:=⟨_,rfl⟩;rw[<-an,<-ao]at HC HX;have HT:dr _:=And.intro an ao;clear hA hB hS aj Y am af hk ad ax ay ak al hC an ao;go_enter func43,ntmps43;go_wp2_with fail;rw[<-ah];refine hp.mono ?_;rintro e w1 ⟨rfl,rfl⟩;clear hp ah;go_wp2_with fail;refine(HC.out _).mono ?_;rintro e w1 ⟨rfl,ap⟩;have HA:dr _:=HA.out.same (.of ap);have HB:dr _:=HB.out.low (.of ap);clear ap d0 d1 d2 d3 HC;go_wp2_with fail;obtain⟨wb,ai⟩:∃wb,w1.alloc (.cells #[.string sn,.string st,.int .i64 kW,.int .i64 kG,.bool true] 36)=wb:=⟨_,rfl⟩;rw[ai];have aq:iT w1 wb:=by rw[<-ai]; exact iT.alloc _ _
 have ar:wb.heap[w1.heap.size]?=some (.cells #[.string sn,.string st,.int .i64 kW,.int .i64 kG,.bool true] 36 (0,0)):=by rw[<-ai]; exact xp _ _
 have au:dr (¬F1 w1.heap.size/\¬F2 w1.heap.size):=⟨λhf=>absurd (HA.out.j.Uq _ hf) (cZ _),λhf=>absurd (HA.out.j.Vv _ hf) (cZ _)⟩;have HA:dr _:=HA.out.same (.of aq);have HB:dr _:=HB.out.low (.of aq);have HE:dr (∀y,nV wb y->y.cell? ⟨W,0,none⟩=some (.pointer (some ⟨b,0,none⟩))/\y.heap[w1.heap.size]?=some (.cells #[.string sn,.string st,.int .i64 kW,.int .i64 kG,.bool true] 36 (0,0))):=λy B=>⟨ma B (by rw[gq HB.out.blk,pb]; rfl),((tq B).block _ (cM.1 ar).1).trans ar⟩
 have U:dr (∀y,nV wb y->y.cell? ⟨W,0,none⟩=some (.pointer (some ⟨b,0,none⟩))/\y.cell? ⟨w1.heap.size,0,none⟩=some (.string sn)/\y.cell? ⟨w1.heap.size,1,none⟩=some (.string st)/\y.cell? ⟨w1.heap.size,2,none⟩=some (.int .i64 kW)/\y.cell? ⟨w1.heap.size,3,none⟩=some (.int .i64 kG)/\y.cell? ⟨w1.heap.size,4,none⟩=some (.bool true)):=λy B=>by
  obtain⟨h1,h2⟩:=HE.out y B;exact⟨h1,by rw[gq h2]; rfl,by rw[gq h2]; rfl,by rw[gq h2]; rfl,by rw[gq h2]; rfl,by rw[gq h2]; rfl⟩
 clear ai aq ar;refine jI (Sd:=λa y=>pj _ _ _ [12,13] a y) (last:=12) (tl:=[13]) (by kernel_rfl) ?_ (λa y h _=>h);refine gI 0 ?_ ?_<|gI 1 ?_ ?_<|gI 2 ?_ ?_<|gI 3 ?_ ?_ ?_
 any_goals(intro y B; have q0:=(U.out y B).1; unfold jC; go_simp; refine⟨iT.refl _,?_⟩; with_reducible rfl)
 go_simp;refine gI 4 ?_ ?_<|gI 5 ?_ ?_ ?_
 any_goals(intro y B; have q0:=(U.out y B).2.1; unfold jC; go_simp; refine⟨iT.refl _,?_⟩; with_reducible rfl)
 go_simp;refine gI 6 ?_ ?_<|gI 7 ?_ ?_ ?_
 any_goals(intro y B; have q0:=(U.out y B).2.2.1; unfold jC; go_simp; refine⟨iT.refl _,?_⟩; with_reducible rfl)
 go_simp;refine gI 8 ?_ ?_<|gI 9 ?_ ?_ ?_
 any_goals(intro y B; have q0:=(U.out y B).2.2.2.1; unfold jC; go_simp; refine⟨iT.refl _,?_⟩; with_reducible rfl)
 go_simp;refine gI 10 ?_ ?_<|gI 11 ?_ ?_ ?_
 any_goals(intro y B; have q0:=(U.out y B).2.2.2.2.1; unfold jC; go_simp; refine⟨iT.refl _,?_⟩; with_reducible rfl)
 go_simp;refine pn (by kernel_rfl) (λt=>wH (by kernel_rfl) (by kernel_rfl) _ _) ?_;intro y B;have a0:dr _:=HA.out.same (tq B);have a3:dr _:=HB.out.low (tq B);have av:dr _:=(HE.out y B).2;clear B HA HB HE U;refine mc rfl rfl ?_;unfold jC;go_simp;refine⟨rfl,(a0.out.Di sn st kW kG ?_ ?_).mono ?_⟩
 .rw[HT.out.1]; have:=HL.out.2.2.2; unfold dg; show kN.toArray.size<=_; simp; omega
 .rw[HT.out.2]; have:=HL.out.2.2.1; unfold dg; show kT.toArray.size<=_; simp; omega
 rintro e y2 ⟨rfl,aa,a4,aw⟩;have a5:dr _:=a3.out.step aw;have a6:dr _:=a4;have U:dr (y2.heap[w1.heap.size]?=some (.cells #[.string sn,.string st,.int .i64 kW,.int .i64 kG,.bool true] 36 (0,0))):=(aw.block _ (cM.1 av.out).1 au.out.1 au.out.2).trans av.out;clear a4 aw a0 a3 av au;refine⟨_,rfl,?_⟩;refine mc rfl rfl ?_;unfold jC;go_simp;refine pF ?_;have ag:(kq buf ss sn.data.toList st.data.toList kW kG).1=0:=by rw[HT.out.1,HT.out.2]; exact HX.out.1.1
 have a7:dr (Sk K' (kq buf ss sn.data.toList st.data.toList kW kG).2 ss):=by show Sk _ _ _; rw[HT.out.1,HT.out.2]; exact HX.out.1.2
 rw[ag];clear ag;generalize (kq buf ss sn.data.toList st.data.toList kW kG).2=a' at *;go_wp2_with fail
 have HM:dr (∀y,nV y2 y->y.cell? ⟨w1.heap.size,0,none⟩=some (.string sn)/\y.cell? ⟨w1.heap.size,1,none⟩=some (.string st)/\y.cell? ⟨w1.heap.size,2,none⟩=some (.int .i64 kW)/\y.cell? ⟨w1.heap.size,3,none⟩=some (.int .i64 kG)/\y.cell? ⟨w1.heap.size,4,none⟩=some (.bool true)):=λy B=>by
  have h2:=((tq B).block _ (cM.1 U.out).1).trans U.out;exact⟨by rw[gq h2]; rfl,by rw[gq h2]; rfl,by rw[gq h2]; rfl,by rw[gq h2]; rfl,by rw[gq h2]; rfl⟩
 refine jI (Sd:=λa y=>pj _ _ _ [6] a y) (last:=6) (tl:=[]) (by kernel_rfl) ?_ (λa y h _=>h);refine gI 0 ?_ ?_<|gI 1 ?_ ?_ ?_
 any_goals(intro y B; unfold jC; go_simp; refine⟨iT.refl _,?_⟩; with_reducible rfl)
 go_simp;refine gI 2 ?_ ?_ ?_;rotate_left
 .intro y B; obtain⟨q0,q1,q2,q3,q4⟩:=HM.out y B; unfold jC; go_simp; refine⟨iT.refl _,?_⟩; with_reducible rfl
 go_simp;refine gI 3 ?_ ?_<|gI 4 ?_ ?_ ?_
 any_goals(intro y B; unfold jC; go_simp; refine⟨iT.refl _,?_⟩; with_reducible rfl)
 go_simp;refine gI 5 ?_ ?_ ?_;rotate_left
 .intro y B; have q:=ae; have q2:(k:Int)<12:=by omega
  unfold jC; go_simp; refine⟨iT.refl _,?_⟩; with_reducible rfl
 go_simp;refine pn (by kernel_rfl) (λt=>EM (by kernel_rfl) _ _) ?_;intro y B;have a8:dr _:=a6.out.same (tq B);have O:dr _:=a5.out.low (tq B);clear B a6 a5 U HM;refine mc rfl rfl ?_;have ab:=λi (hi:i<5)=>QN (b:=b) HL.out.1 HL.out.2.1 hi;rw[da 5 k]at ab;have c0:y.cell? ⟨W,1+k*5,none⟩=some (nP (K[k]'(by have:=HL.out; omega)) 0):=by rw[gq O.out.blk]; exact ab 0 (by omega)
 have c1:y.cell? ⟨W,1+k*5+1,none⟩=some (nP (K[k]'(by have:=HL.out; omega)) 1):=by rw[gq O.out.blk]; exact ab 1 (by omega)
 have c2:y.cell? ⟨W,1+k*5+2,none⟩=some (nP (K[k]'(by have:=HL.out; omega)) 2):=by rw[gq O.out.blk]; exact ab 2 (by omega)
 have c3:y.cell? ⟨W,1+k*5+3,none⟩=some (nP (K[k]'(by have:=HL.out; omega)) 3):=by rw[gq O.out.blk]; exact ab 3 (by omega)
 have c4:y.cell? ⟨W,1+k*5+4,none⟩=some (nP (K[k]'(by have:=HL.out; omega)) 4):=by rw[gq O.out.blk]; exact ab 4 (by omega)
 have f0:=gP O.out.blk;clear ab;unfold jC;go_simp;refine pF ?_;have S:=Lc (o:=1+k*5) O.out.blk (.string sn) (.string st) (.int .i64 kW) (.int .i64 kG) (.bool true);clear c0 c1 c2 c3 c4 f0;generalize ((((y.setCell ⟨W,1+k*5,none⟩ (.string sn)).setCell ⟨W,1+k*5+1,none⟩ (.string st)).setCell ⟨W,1+k*5+2,none⟩ (.int .i64 kW)).setCell ⟨W,1+k*5+3,none⟩ (.int .i64 kG)).setCell ⟨W,1+k*5+4,none⟩ (.bool true)=y5 at *
 have a9:dr (∃aa buf',AW w0 y5 aa F2 b buf' ss ts/\WB w0 y5 aa F2 b W K'/\Sk K' buf' ss):=by
  refine⟨aa,_,a8.out.other O.out.a1 O.out.a2 O.out.hi (by rw[S.size]; exact cV _) S.os (λj _ hj=>S.other j hj),⟨?_,O.out.a1,O.out.a2,O.out.hi⟩,a7.out⟩;rw[S.blk,da k 5,<-HX.out.2,HT.out.1,HT.out.2]
 clear S a8 O a7 HX HT HL;go_wp2;go_ret;exact⟨rfl,a9.out⟩
theorem OL(U:AW w0 w F1 F2 b buf ss ts)(Y:WB w0 w F1 F2 b W K)(hS:Sk K buf ss)(x:Raw)(hx:x.Ok) :
  dh prog 43 #[.pointer (some ⟨W,0,none⟩),tK x] w λe w'=>e=.returned (.bool true)/\∃O buf',AW w0 w' O F2 b buf' ss ts/\WB w0 w' O F2 b W (sX K x)/\Sk (sX K x) buf' ss:=by
 by_cases B:x.gw<0
 .exact SH U Y hS x hx B
 .exact SK U Y hS x hx B
end
end
section
open Go.Conc Go.RowKit Go.Maps
section
variable {w0 w w':World} {F1 F2:Nat->Prop} {b W:Nat} {buf:List gu} {ss:List (List gu)} {ts:List (List Wd)} {K:List qX}
theorem Kq(hA:AW w0 w F1 F2 b buf ss ts)(hB:WB w0 w F1 F2 b W K)(hS:Sk K buf ss)(c:Int)(c0 : -9223372036854775808<=c)(c1:c<=9223372036854775807)(hz:¬pk c 3=0) :
  dh prog 44 #[.pointer (some ⟨W,0,none⟩),.int .i64 c] w λe w'=>e=.returned (.bool true)/\∃O buf' ss',AW w0 w' O F2 b buf' ss' ts/\WB w0 w' O F2 b W K/\Sk K buf' ss':=by
 have u0:w.cell? ⟨W,0,none⟩=some (.pointer (some ⟨b,0,none⟩)):=by rw[gq hB.blk,pb]; rfl
 have hp:=lK c 3 w c0 c1 (by omega) (by omega);have ak:=sO c 3 (by omega);have hC:=hA.lg;have hF:=hA.flush;have B:=hS.flush;have ai:=hS.inv.rz;have ad:=B.1.inv.rz;generalize (iU buf ss).2.1=aj at *;generalize (iU buf ss).2.2=ae at *;generalize (iU buf ss).1=cd at *;obtain⟨B,U⟩:=B;generalize pk c 3=k at *;have al:¬(k:Int)=0:=by omega
 have HB:dr _:=hB;have af:dr _:=B;generalize hn:ss.length=n at *;generalize aa:ae.length=n2 at *;have ag:dr _:=aa;clear hA hB hS B hn aa;go_enter func44,ntmps44;go_wp2_with fail;refine hC.mono ?_;rintro e w1 ⟨rfl,rfl⟩;clear hC;go_wp2_with fail;refine hp.mono ?_;rintro e w1 ⟨rfl,rfl⟩;clear hp;go_wp2_with fail;refine hF.mono ?_;rintro e y2 ⟨rfl,O,Y,ab⟩;have ac:dr _:=HB.out.step ab;have ah:dr _:=Y;have hC:=Y.lg;rw[ag.out]at hC;have u1:y2.cell? ⟨W,0,none⟩=some (.pointer (some ⟨b,0,none⟩)):=by rw[gq ac.out.blk,pb]; rfl
 clear hF Y ab HB u0;go_wp2_with fail;refine hC.mono ?_;rintro e w1 ⟨rfl,rfl⟩;clear hC;rcases U with⟨rfl,rfl|⟨rfl,rfl⟩⟩|⟨rfl|rfl,rfl⟩
 all_goals
  go_wp2;go_ret;exact⟨rfl,O,_,_,ah.out,ac.out,af.out⟩
theorem Jb(hA:AW w0 w F1 F2 b buf ss ts)(hB:WB w0 w F1 F2 b W K)(hS:Sk K buf ss)(c:Int)(c0 : -9223372036854775808<=c)(c1:c<=9223372036854775807)(hz:pk c 3=0) :
  dh prog 44 #[.pointer (some ⟨W,0,none⟩),.int .i64 c] w λe w'=>e=.returned (.bool true)/\∃B buf' ss',AW w0 w' B F2 b buf' ss' ts/\WB w0 w' B F2 b W K/\Sk K buf' ss':=by
 have u0:w.cell? ⟨W,0,none⟩=some (.pointer (some ⟨b,0,none⟩)):=by rw[gq hB.blk,pb]; rfl
 have hp:=lK c 3 w c0 c1 (by omega) (by omega);obtain⟨d,hd⟩:∃d,c.tdiv 3=d:=⟨_,rfl⟩
 have ab : -9223372036854775808<=d/\d<=9223372036854775807:=by
  by_cases h0:0<=c
  .have:=dD (a:=c) (b:=3) h0;omega
  .have:=dD (a:=-c) (b:=3) (by omega);rw[dF]at this;omega
 have al:IntKind.i64.wrap d=d:=by simp only[dI]; omega
 have HP:dr (∀y,dh prog 15 #[.int .i64 d,.int .i64 7] y λe w'=>e=.returned (.int .i64 (pk d 7:Nat))/\y=w'):=λy=>lK d 7 y ab.1 ab.2 (by omega) (by omega);have hC:=hA.lg;have O:=hS.merge (pk d 7:Nat);have HF:dr (∀y,qN w y->dh prog 39 #[.pointer (some ⟨b,0,none⟩),.int .i64 (pk d 7:Nat)] y λe w'=>e=.returned (.int .i64 (iJ ss (pk d 7:Nat)).1)/\∃B,AW w0 w' B F2 b buf (iJ ss (pk d 7:Nat)).2 ts/\St y w' F1 F2 B F2):=λy U=>(hA.same U).merge _;have ak:=hS.inv.rz;have af:=O.1.inv.rz;generalize (iJ ss (pk d 7:Nat)).2=ag at *;generalize (iJ ss (pk d 7:Nat)).1=cd at *;obtain⟨O,Y⟩:=O;generalize ((pk d 7:Nat):Int)=dk at *;rw[hz]at hp;have HB:dr _:=hB;have ah:dr _:=O;generalize hn:ss.length=n at *;generalize ac:ag.length=n2 at *;have ai:dr _:=ac;clear hA hB hS O hn ac hz;go_enter func44,ntmps44;go_wp2_with fail;refine hC.mono ?_;rintro e w1 ⟨rfl,rfl⟩;clear hC;go_wp2_with fail;refine hp.mono ?_;rintro e w1 ⟨rfl,rfl⟩;clear hp;go_wp2_with fail;refine jI (Sd:=λa y=>pj _ _ _ [7,8] a y) (last:=7) (tl:=[8]) (by kernel_rfl) ?_ (λa y h _=>h);refine gI 0 ?_ ?_<|gI 1 ?_ ?_<|gI 2 ?_ ?_<|gI 3 ?_ ?_<|gI 4 ?_ ?_ ?_
 any_goals(intro y U; have q0:=ma U u0; unfold jC; go_simp; refine⟨iT.refl _,?_⟩; with_reducible rfl)
 go_simp;refine gI 5 ?_ ?_ ?_;rotate_left
 .intro y U; unfold jC; go_simp; refine⟨iT.refl _,?_⟩; with_reducible rfl
 go_simp;refine gI 6 ?_ ?_ ?_;rotate_left
 .intro y U; unfold jC; go_simp; refine⟨rfl,(HP.out y).mono ?_⟩; rintro e y2 ⟨rfl,rfl⟩; refine⟨_,rfl,iT.refl _,?_⟩; with_reducible rfl
 go_simp;refine pn (by kernel_rfl) (λt=>wH (by kernel_rfl) (by kernel_rfl) _ _) ?_;intro y U;have hF:=HF.out y (tq U);have HB:dr _:=HB.out.low (tq U);clear U u0 HF HP;refine mc rfl rfl ?_;unfold jC;go_simp;refine⟨rfl,hF.mono ?_⟩;rintro e y2 ⟨rfl,B,aa,ad⟩;have ae:dr _:=HB.out.step ad;have aj:dr _:=aa;have hC:=aa.lg;rw[ai.out]at hC;have u1:y2.cell? ⟨W,0,none⟩=some (.pointer (some ⟨b,0,none⟩)):=by rw[gq ae.out.blk,pb]; rfl
 clear hF aa ad HB;refine⟨_,rfl,?_⟩;refine mc rfl rfl ?_;unfold jC;go_simp;refine pF ?_;go_wp2_with fail;refine hC.mono ?_;rintro e w1 ⟨rfl,rfl⟩;clear hC;rcases Y with⟨rfl,rfl|rfl⟩|⟨rfl,rfl⟩
 all_goals
  go_wp2;go_ret;exact⟨rfl,B,_,_,aj.out,ae.out,ah.out⟩
theorem Nc(O:AW w0 w F1 F2 b buf ss ts)(U:WB w0 w F1 F2 b W K)(Y:Sk K buf ss)(c:Int)(c0 : -9223372036854775808<=c)(c1:c<=9223372036854775807) :
  dh prog 44 #[.pointer (some ⟨W,0,none⟩),.int .i64 c] w λe w'=>e=.returned (.bool true)/\∃B buf' ss',AW w0 w' B F2 b buf' ss' ts/\WB w0 w' B F2 b W K/\Sk K buf' ss':=by
 by_cases hz:pk c 3=0
 .exact Jb O U Y c c0 c1 hz
 .exact Kq O U Y c c0 c1 hz
end
end
section
open Go.Conc Go.RowKit Go.Maps
variable {ops:Array Oper} {rest:List Nat} {ls:List Raw} {o:Oper} {la:Option Addr} {w y:World}
theorem Ia:Tryz.f21.name≠ "runtime.NumGoroutine":=by
 decide
theorem AW.base{wl U:World}{F1 F2:Nat->Prop}{b:Nat}{buf:List gu}{ss:List (List gu)}{ts:List (List Wd)}(h:AW U w F1 F2 b buf ss ts)(B:qN wl U):AW wl w F1 F2 b buf ss ts:=
 ⟨h.j,λk O=>cW B.size (h.Vo k O),λk O=>cW B.size (h.S5 k O),B.trans h.low⟩
section
variable {Z:lQ prog} {W0:World} {Mp:Nat->Prop} {fn:dj} {tm:Array Value} {os:List OF} {wl:World} {k:List Item}
theorem Gj{i:Nat}(hi:ops[i]?=some o)(hW:WT wl)(h5:5<=wl.heap.size)
  (hn:∀(w2:World)(F1 F2:Nat->Prop)(b W:Nat),AW wl w2 F1 F2 b [] [] []->WB wl w2 F1 F2 b W (c5 12 oy)->gp (iK Z W0 Mp) (⟨fn,iF o.dst tm (.pointer (some ⟨W,0,none⟩)),.inRegion ops rest::k⟩::os) w2 []) :
  gp (iK Z W0 Mp) (⟨21,#[dT,dT,dT,dT,dT,dT,dT,dT,dT,dT,dT,dT,dT,dT],[.code (ic Tryz.f21)]⟩::⟨fn,tm,.inRegion ops (i::rest)::k⟩::os) wl []:=by
 have HN:dr _:=And.intro hW (And.intro h5 hn);clear hW h5 hn;show gp _ (⟨_,_,[.code (.seq (.region 0 _ false) (.seq (.region 1 _ false) (.seq (.region 2 _ false) (.seq (.seq (.region 3 _ false) (.cond _ _ .skip)) (.seq (.region 5 _ false) .ret)))))]⟩::_) _ _;refine gp.sr λU B=>?_
 (refine gH ?_; go_simp);refine gp.ie B ?_;clear B U;refine gp.sr λU B=>?_;refine gp.qj (#[dT,dT,dT,dT,dT,dT,dT,dT,dT,dT,dT,dT,dT,dT,dT,dT,dT,dT,dT,dT,dT,dT,dT,dT,dT,dT,dT,dT,dT,dT,dT,dT,dT,dT,dT,dT,dT,dT,dT,dT,dT,dT,dT,dT,dT,dT,dT,dT,dT,dT,dT,dT,dT,dT,dT,dT,dT,dT,dT,dT,dT,dT,dT,dT,dT,dT,dT,dT,dT,dT,dT,dT,dT,dT,dT,dT,dT,dT,dT,dT,dT,dT,dT,dT,dT,dT,dT,dT,dT,dT,dT,dT,dT,dT,dT,dT,dT,dT,dT,dT,dT,dT,dT,dT,dT,dT,dT,dT,dT,dT,dT,dT,dT,dT,dT,dT,dT,dT,dT,dT,dT,dT,dT,dT,dT,dT,dT,dT,dT,dT,dT,dT,dT,dT,dT,dT,dT,dT,dT,dT,dT,dT,dT,dT,dT,dT,dT,dT,dT,dT,dT,dT,dT,dT]:Array Value) (i:=0) (jQ:=f32) (c:=ic f32) rfl rfl func32 (by kernel_rfl) JW rfl (by simp[gR]) (by kernel_rfl) ?_;refine KC rfl HN.out.1 HN.out.2.1 λw1 O=>?_;have af:dr (qN _ _):=O;clear O;rw[jf];go_simp
 (refine gH ?_; go_simp);refine gp.ie B ?_;clear B U;refine gp.sc λU B=>?_;refine rI (by kernel_rfl) (by rw[B.out]; rfl) λy0 ac Y=>?_;have C:=U5 y0;have HL:dr (qN wl y0):=af.out.trans (uQ ac Y);clear ac Y;go_wp2_with fail;refine C.mono ?_;clear C;rintro e w2 ⟨b,F1,F2,rfl,hA,hb⟩;have HA:dr (AW wl w2 F1 F2 b [] [] []):=hA.base HL.out;clear hA hb;go_wp2;refine iA ?_;rw[B.out];clear B U;refine gp.seq (gp.sc λU B=>?_);refine rI (by kernel_rfl) (by rw[B.out]; rfl) λy1 ad aa=>?_;have HA:dr _:=HA.out.same (uQ ad aa);clear ad aa;go_wp2;refine iA ?_;rw[B.out];clear B U;refine gp.qv trivial rfl (gp.skip (gp.sc λU B=>?_));refine rI (by kernel_rfl) (by rw[B.out]; rfl) λy2 ae ab=>?_;have HA:dr _:=HA.out.same (uQ ae ab);clear ae ab;go_wp2;refine iA ?_;rw[B.out];refine gp.back (v:=.pointer (some ⟨y2.heap.size,0,none⟩)) (.inr ⟨_,rfl⟩) func21 hi (λτ=>by simp[dm,results21,go_sem]) ?_;refine HN.out.2.2 _ F1 F2 b _ (HA.out.same (.of (iT.alloc ..))) ⟨(xp ..).trans ?_,λhf=>absurd (HA.out.j.Uq _ hf) (cZ _),λhf=>absurd (HA.out.j.Vv _ hf) (cZ _),HA.out.low.size⟩;kernel_rfl
end
structure uJ(w:World)(la:Option Addr)(ls:List Raw):Prop where
 cell:∀j(h:j<ls.length),∃b off,la=some ⟨b,off,none⟩/\w.cell? ⟨b,off+j*4,none⟩=some (.int .i64 ls[j].name)/\w.cell? ⟨b,off+j*4+1,none⟩=some (.int .i64 ls[j].text)/\w.cell? ⟨b,off+j*4+2,none⟩=some (.int .i64 ls[j].gw)/\w.cell? ⟨b,off+j*4+3,none⟩=some (.int .i64 ls[j].gK)
 ok:∀x∈ls,x.Ok
theorem tf{a:Addr}{v:Value}(B:qN w y)(h:w.cell? a=some v):y.cell? a=some v:=by
 rw[<-h];exact World.cell?_of_block (B.block _ (dB w a h))
theorem uJ.low(h:uJ w la ls)(B:qN w y):uJ y la ls:=⟨λj O=>by
 obtain⟨b,off,e,U,Y,h3,h4⟩:=h.cell j O
 exact⟨b,off,e,tf B U,tf B Y,tf B h3,tf B h4⟩,h.ok⟩
theorem Cb.low{ls:List Int}(h:Cb w la ls)(B:qN w y):Cb y la ls:=⟨λj O=>by
 obtain⟨b,off,e,U⟩:=h.cell j O
 exact⟨b,off,e,tf B U⟩,h.lo,h.hi⟩
def oq(ls:List Raw)(c:Nat):List qX:=(ls.take c).foldl sX (c5 12 oy)
def Du(ls:List Raw):List qX:=oq ls 80
theorem GZ(ls:List Raw)(c:Nat)(h:c<ls.length):oq ls (c+1)=sX (oq ls c) ls[c]:=by
 unfold oq;rw[bW h,List.foldl_append];rfl
theorem GP:Tryz.f14.name≠ "runtime.NumGoroutine":=by
 decide
section
variable {Z:lQ prog} {W0:World} {Mp:Nat->Prop} {fn:dj} {tm:Array Value} {os:List OF} {wl:World} {k:List Item}
theorem Ij{i:Nat}{ta:Option Addr}{rs:List Int}{lc rc:Nat}(hi:ops[i]?=some o)(hW:WT wl)(h5:5<=wl.heap.size)(hL:uJ wl la ls)(hT:Cb wl ta rs)(ag:ls.length<=lc)(ah:rs.length<=rc)(ai:ls.length<=9223372036854775807)(aj:rs.length<=9223372036854775807)
  (hn:∀(w2:World)(F1 F2:Nat->Prop)(b W:Nat)(buf:List gu)(ss:List (List gu)),AW wl w2 F1 F2 b buf ss []->WB wl w2 F1 F2 b W (Du ls)->Sk (Du ls) buf ss->gp (iK Z W0 Mp) (⟨fn,iF o.dst tm (.pointer (some ⟨W,0,none⟩)),.inRegion ops rest::k⟩::os) w2 []) :
  gp (iK Z W0 Mp) (⟨14,#[.slice la ls.length lc,.slice ta rs.length rc,dT,dT,dT,dT,dT,dT,dT,dT,dT,dT,dT,dT,dT,dT,dT,dT,dT,dT,dT,dT,dT,dT,dT,dT,dT,dT,dT,dT,dT,dT,dT,dT,dT,dT,dT,dT,dT,dT,dT,dT,dT,dT,dT,dT,dT,dT,dT,dT,dT],[.code (ic Tryz.f14)]⟩::⟨fn,tm,.inRegion ops (i::rest)::k⟩::os) wl []:=by
 have HN:dr _:=And.intro hW (And.intro h5 hn);have HR:dr _:=And.intro hL (And.intro hT (And.intro ag (And.intro ah (And.intro ai aj))));clear hW h5 hn hL hT ag ah ai aj;show gp _ (⟨_,_,[.code (.seq (.region 0 _ false) (.seq (.region 1 _ false) (.seq (.seq (.region 2 _ false) (.cond _ _ .skip)) (.seq (.seq (.region 4 _ false) (.block 0 _)) (.seq (.region 14 _ false) .ret)))))]⟩::_) _ _;refine gp.sr λkk B=>?_
 (refine gH ?_; go_simp);refine gp.ie B ?_;clear B kk;refine gp.sr λkk B=>?_;refine gp.qj (#[dT,dT,dT,dT,dT,dT,dT,dT,dT,dT,dT,dT,dT,dT]:Array Value) (i:=0) (jQ:=Tryz.f21) (c:=ic Tryz.f21) rfl rfl func21 (by kernel_rfl) Ia rfl (by simp[gR]) (by kernel_rfl) ?_;refine Gj rfl HN.out.1 HN.out.2.1 λw1 F1 F2 b W O U=>?_;have HA:dr (AW _ _ _ _ _ _ _ _):=O;have HB:dr (WB _ _ _ _ _ _ _):=U;clear O U;rw[jf];go_simp
 (refine gH ?_; go_simp);refine gp.ie B ?_;clear B kk;refine gp.seq (gp.sc λkk B=>?_);refine rI (by kernel_rfl) (by rw[B.out]; rfl) λy1 ak Y=>?_;have HA:dr _:=HA.out.same (uQ ak Y);have HB:dr _:=HB.out.low (uQ ak Y);clear ak Y;go_wp2;refine iA ?_;rw[B.out];clear B kk;refine gp.qv trivial rfl (gp.skip (gp.sc λkk B=>?_));refine rI (by kernel_rfl) (by rw[B.out]; rfl) λy2 al aa=>?_;have HA:dr _:=HA.out.same (uQ al aa);have HB:dr _:=HB.out.low (uQ al aa);clear al aa;have ag:=HR.out.2.2.1;have ah:=HR.out.2.2.2.1;have ai:=HR.out.2.2.2.2.1;have aj:=HR.out.2.2.2.2.2;go_wp2;go_loopw [6] (λi wr=>∃(c:Nat)(ab:Nat->Prop)(buf:List gu)(ss:List (List gu)),c<=80/\c<=ls.length/\i=.int .i64 (c:Nat)/\AW wl wr ab F2 b buf ss []/\WB wl wr ab F2 b W (oq ls c)/\Sk (oq ls c) buf ss) (λi _=>ls.length-(intOf i).toNat)
 case atStart=>exact⟨0,F1,[],[],cY _,cY _,rfl,HA.out,HB.out,Sk.new⟩
 case round=>
  obtain⟨c,ab,buf,ss,ax,mP,rfl,O,U,hS⟩:=hrel;have ac:dr _:=O;have ae:dr _:=U;have af:dr _:=hS;clear O U hS HA HB;by_cases h1:c<ls.length
  .have ao:(c:Int)<(ls.length:Int):=by omega
   by_cases h2:c<80
   .have ap:(c:Int)<80:=by omega
    obtain⟨lb,lo,rfl,c0,c1,c2,c3⟩:=(HR.out.1.low ac.out.low).cell c h1;have C:=OL ac.out ae.out af.out ls[c] (HR.out.1.ok _ (bL h1));rw[<-GZ ls c h1]at C;unfold tK at C;generalize ls[c].name=xn at *;generalize ls[c].text=xt at *;generalize ls[c].gw=xw at *;generalize ls[c].gK=xg at *;clear ac ae af;go_wp2_with fail;refine C.mono ?_;clear C;rintro e w2 ⟨rfl,F3,buf2,O,U,hS⟩;have HA3:dr _:=O;have HB3:dr _:=U;have HS3:dr _:=hS;clear O U hS c0 c1 c2 c3;by_cases h3:c<rs.length
    .have aq:(c:Int)<(rs.length:Int):=by omega
     obtain⟨tb,ay,rfl,d0⟩:=(HR.out.2.1.low HA3.out.low).cell c h3;have ar:=HR.out.2.1.lo rs[c] (bL h3);have au:=HR.out.2.1.hi rs[c] (bL h3);generalize rs[c]=x at *;have C:dh prog 15 #[.int .i64 x,.int .i64 4] w2 λe w'=>e=.returned (.int .i64 (pk x 4:Nat))/\w2=w':=lK x 4 w2 ar au (by omega) (by omega);by_cases hz:pk x 4=0
     .rw[hz]at C;obtain⟨d,hd⟩:∃d,x.tdiv 4=d:=⟨_,rfl⟩
      have am : -9223372036854775808<=d/\d<=9223372036854775807:=by
       by_cases h0:0<=x
       .have:=dD (a:=x) (b:=4) h0;omega
       .have:=dD (a:=-x) (b:=4) (by omega);rw[dF]at this;omega
      have av:IntKind.i64.wrap d=d:=by simp only[dI]; omega
      have D:=Nc HA3.out HB3.out HS3.out d am.1 am.2;clear hz HA3 HB3 HS3 am;go_wp2_with fail;refine C.mono ?_;clear C;rintro e w3 ⟨rfl,rfl⟩;go_wp2_with fail;refine D.mono ?_;clear D;rintro e w3 ⟨rfl,F4,buf3,ss3,O,U,hS⟩;have HA4:dr _:=O;have HB4:dr _:=U;have HS4:dr _:=hS;clear O U hS d0 hd av;go_wp2;go_roundw
      case rel=>exact⟨c+1,F4,buf3,ss3,by omega,by omega,by go_num,HA4.out,HB4.out,HS4.out⟩
      case measure=>simp[intOf]; omega
     .generalize pk x 4=pz at *;have az:¬(pz:Int)=0:=by omega
      go_wp2_with fail;refine C.mono ?_;clear C;rintro e w3 ⟨rfl,rfl⟩;go_wp2;go_roundw
      case rel=>exact⟨c+1,F3,buf2,ss,by omega,by omega,by go_num,HA3.out,HB3.out,HS3.out⟩
      case measure=>simp[intOf]; omega
    .have aq:¬(c:Int)<(rs.length:Int):=by omega
     go_wp2;go_roundw
     case rel=>exact⟨c+1,F3,buf2,ss,by omega,by omega,by go_num,HA3.out,HB3.out,HS3.out⟩
     case measure=>simp[intOf]; omega
   .have ap:¬(c:Int)<80:=by omega
    have ad:dr (oq ls c=Du ls):=by
     show oq ls c=oq ls 80;rw[show c=80 by omega]
    go_wp2;refine iA ?_;rw[B.out];refine gp.seq ?_;refine oz λaw an=>?_;refine gp.region ?_
    (iterate 2 (refine gH ?_; go_simp));refine gp.inRegion ?_;rw[an.out];refine gp.back (v:=.pointer (some ⟨W,0,none⟩)) (.inr ⟨_,rfl⟩) func14 hi (λτ=>by simp[dm,results14,go_sem]) ?_;exact HN.out.2.2 _ ab F2 b W buf ss ac.out (ad.out▸ae.out) (ad.out▸af.out)
  .have ao:¬(c:Int)<(ls.length:Int):=by omega
   have ad:dr (oq ls c=Du ls):=by
    show oq ls c=oq ls 80;unfold oq;rw[bS (by omega),bS (by omega)]
   go_wp2;refine iA ?_;rw[B.out];refine gp.seq ?_;refine oz λaw an=>?_;refine gp.region ?_
   (iterate 2 (refine gH ?_; go_simp));refine gp.inRegion ?_;rw[an.out];refine gp.back (v:=.pointer (some ⟨W,0,none⟩)) (.inr ⟨_,rfl⟩) func14 hi (λτ=>by simp[dm,results14,go_sem]) ?_;exact HN.out.2.2 _ ab F2 b W buf ss ac.out (ad.out▸ae.out) (ad.out▸af.out)
end
end
section
open Go.Conc Go.RowKit Go.Maps
variable {ss:List (List gu)} {buf:List gu} {K:List qX}
def Uk(K:List qX):List gu:=(K.filter λk=>k.there).map Ez
theorem Li(h:Sk K buf ss):((Uk K).map gu.name).Nodup:=by
 unfold Uk;rw[bO];show(cE ..).Pairwise _;rw[bU,List.pairwise_filter,cf];intro i j hi B U Y h2 e;have O:K[i].name=K[j].name:=e;rw[(h.zh i hi Y).1,(h.zh j B h2).1]at O;have:=Kk (by rw[<-h.len]; exact hi) (by rw[<-h.len]; exact B) O;omega
theorem Oi{e:gu}:e∈Uk K↔∃i,∃h:i<K.length,K[i].there=true/\e=Ez K[i]:=by
 unfold Uk;rw[bM];constructor
 .rintro⟨a,O,rfl⟩;obtain⟨B,U⟩:=bN.1 O;obtain⟨i,hi,rfl⟩:=List.mem_iff_getElem.1 B;exact⟨i,hi,U,rfl⟩
 .rintro⟨i,hi,B,rfl⟩;exact⟨K[i],bN.2 ⟨bL hi,B⟩,rfl⟩
theorem sY{l:List gu}(h:(l.map gu.name).Nodup):l.Nodup:=by
 unfold cx at h⊢;rw[bU]at h;exact h.imp λh e=>h (by rw[e])
theorem Sk.perm(h:Sk K buf ss):(ix ss buf).Perm (Uk K):=by
 rw[c7 (sY (tJ h.inv)) (sY (Li h))];intro e;rw[h.there e,Oi]
end
section
open Go.Conc Go.RowKit Go.Maps
theorem vv.low{w w':World}{s n:Nat}{v:Value}{xs:List Value}(h:vv w s v n xs)(U:qN w w'):vv w' s v n xs:=h.later λa u B=>by
 have O:=dB w a B;simp only[dA]at B⊢;rw[U.block _ O];exact B
end
section
open Go.Conc Go.RowKit Go.Maps
theorem Np(Y vb:Value)(xs:List Wd)(w:World)(ha:vv w 1 Y xs.length (gr xs))(hb:vv w 1 vb xs.length (gr xs))(hx:xs.length<=1000000) :
  dh prog 19 #[Y,vb] w λe w'=>e=.returned (.bool true)/\Below w.heap.size w w':=by
 obtain⟨aa,ca,rfl,ac,O,_,hA⟩:=ha;obtain⟨ab,cb,rfl,ad,U,_,hB⟩:=hb;have HA:dr (∀j(h:j<xs.length),∃b off,aa=some ⟨b,off,none⟩/\w.cell? ⟨b,off+j,none⟩=some (.string ⟨xs[j].toArray⟩)):=λj h=>hA j _ (Is xs j h);have HB:dr (∀j(h:j<xs.length),∃b off,ab=some ⟨b,off,none⟩/\w.cell? ⟨b,off+j,none⟩=some (.string ⟨xs[j].toArray⟩)):=λj h=>hB j _ (Is xs j h);clear hA hB O U;go_enter func19,ntmps19;go_wp2;go_loopw [5] (λi wr=>∃n:Nat,n<=xs.length/\i=.int .i64 n/\Below _ w wr) (λi _=>xs.length-(intOf i).toNat)
 case atStart=>exact⟨0,cY _,rfl,dv ..⟩
 case round=>
  obtain⟨n,hn,rfl,hb⟩:=hrel;have HBW:dr _:=hb;by_cases B:n<xs.length
  .obtain⟨b1,o1,rfl,c1⟩:=HA.out n B;obtain⟨b2,o2,rfl,c2⟩:=HB.out n B;have d1:=dl HBW.out c1;have d2:=dl HBW.out c2;go_wp2;go_quiet (fail);go_wp2;go_roundw
   case rel=>exact⟨n+1,by omega,by go_num,lW HBW.out _⟩
   case measure=>simp[intOf]; omega
  .go_wp2;go_ret;exact⟨rfl,HBW.out⟩
end
end Go.Proofs.YtocbogeoffeolaaGreatDoor
