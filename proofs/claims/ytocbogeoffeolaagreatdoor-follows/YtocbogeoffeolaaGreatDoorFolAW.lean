import Derived.Test.YtocbogeoffeolaaGreatDoorFolAK
import Derived.Test.YtocbogeoffeolaaGreatDoorFolAV
set_option linter.unusedVariables false
set_option linter.unusedSimpArgs false
set_option maxHeartbeats 8000000
set_option maxRecDepth 1000000
open List renaming length_append->bbq,getElem?_eq_none->bD,mem_cons_self->bE,map_map->bF,getElem_mem->bG,pairwise_iff_getElem->bH,getElem?_eq_getElem->bI,mem_append_right->bJ,mem_of_mem_take->bK,map_congr_left->bL,getElem?_take->bM,pairwise_map->bN,ext_getElem?->bO,length_cons->bP,append_nil->bQ,map_cons->bR,mem_map->bS,Nodup->bT
open Array renaming getElem?_eq_some_iff->bU,getElem?_eq_getElem->bV,getElem?_toList->bW,getElem?_modify->bX
open Option.some renaming injEq->bY
open Nat renaming le_refl->bZ,zero_add->ca,mul_le_mul_right->cb,zero_le->cc
open Go.RowKit renaming Hid->cd
open Go renaming maxLen->ce,TypeId->cf,Calls->ch
open Go.Sort renaming putCells->ck,size_flatK->cm,flatK->cn
open Go.Value.slice renaming injEq->cq
open List.Perm renaming refl->cr
open Go.Value renaming ownBlock->ct
open Go renaming undef->cu
namespace Go.Proofs.YtocbogeoffeolaaGreatDoor
open Go.Proofs.Tryz
section
open Go.RowKit
variable {cs cs':Array Value} {f:Nat×Nat} {e e':cf} {F:Value->Prop} {w:World}
def oX(F:Value->Prop)(w:World)(v:Value):Prop:=∀g cs e f,v.ownBlock=some g->w.heap[g]?=some (.cells cs e f)->∀u∈cs.toList,F u
theorem Ji(F:Value->Prop)(w:World)(n c:Nat):oX F w (.slice none n c):=λ_ _ _ _ h=>by cases h
theorem oX.stay{w':World}{v:Value}(h:oX F w v)(B:∀g,v.ownBlock=some g->w'.heap[g]?=w.heap[g]?):oX F w' v:=λg cs e f y D=>h g cs e f y (by rw[<-B g y]; exact D)
theorem uh{y:Array Value}{k:Nat}{u:Value}(h:u∈(Builtin.zeroCells y k).toList):u∈y.toList:=by
 unfold Builtin.zeroCells at h;simp at h;obtain⟨i,hi,rfl⟩:=h
 have B:0<y.size:=by
  rcases Nat.eq_zero_or_pos y.size with h|h
  .rw[h]at hi; simp at hi
  .exact h
 have hm:i % y.size<y.size:=Nat.mod_lt _ B;rw[getElem!_pos y _ hm];simp
theorem J7(h:(w.drew.alloc (.cells cs e)).heap[w.heap.size]?=some (.cells cs' e' f)):cs'=cs:=by
 have y:(w.heap.push (.cells cs e))[w.heap.size]?=some (.cells cs' e' f):=h;simp at y;exact y.1.symm
theorem Hu{g:Nat}{cur:Array Value}{f':Nat×Nat}(y:w.heap[g]?=some (.cells cur e f))(h:(w.setRow g cs).heap[g]?=some (.cells cs' e' f')):cs'=cs:=by
 unfold World.setRow at h;simp only[bX,if_true,y,Option.map_some,bY,Obj.cells.injEq]at h;exact h.1.symm
theorem Hy{P:Program}{base:Nat}{t ty:cf}{i:TypeInfo}{z:Value}{size bytes:Nat}(ht:P.underlying t=some (.slice e))(hi:P.info? e=some i)(hz:i.zero=some z)
  (B:i.size=size) (ag:i.bytes=bytes) (ao:z.cells.size=size) (al:0<size)
  {v:Value} {n:Nat} {xs:List Value} (U:w.ownsRow base e size v n xs)
  {x:Value} {m:Nat} {news:List Value} (hx:pA w size x m news) (h1:∀u∈news,u.oneCell'=true)
  (O:(n+m)*bytes<=140737488355328) (ah:n+m<=ce) (am:0<m) {v':Value} {w':World} (hr:(Builtin.append_ #[t,t] ty #[v,x]).run P w=.ok v' w')
  (hF:oX F w v) (hN:∀u∈news,F u) (hZ:∀u∈z.cells.toList,F u):oX F w' v':=by
 obtain⟨a,cap,rfl,hc,hm,hl,ai⟩:=hx;have aj:0<news.length:=by rw[hl]; exact Nat.mul_pos am al
 obtain⟨b,off,ha,_⟩:=ai 0 news[0] (bI aj);subst ha
 have D:∀j u,news[j]?=some u->w.cell? ((⟨b,off,none⟩:Addr).add j)=some u:=by
  intro j u hj;obtain⟨b',an,he,ad⟩:=ai j u hj;simp only[bY,Addr.mk.injEq]at he;obtain⟨rfl,rfl,_⟩:=he;rw[Addr.add_lit]; exact ad
 have ac:news.length=m*i.size:=by rw[B]; exact hl
 rcases U.2 with⟨rfl,rfl⟩|⟨g,c,cur,rfl,ap,hg,aq,ar,ae,af⟩
 .have W:=run_append_nil (P:=P) w t ty e i z ht hi hz ⟨b,off,none⟩ m cap news ac D (by omega) (by simp only[ce]at ah; omega) (by rw[ag]; simp only[ca]at O; omega);rw[W]at hr;simp only[Result.ok.injEq]at hr;obtain⟨rfl,rfl⟩:=hr;intro g cs e' f hg ae u y;simp only[ct,bY]at hg;subst hg;have:=J7 ae;subst this;simp at y;rcases y with y|y
  .exact hN u y
  .exact hZ u (uh (by simpa using y))
 .by_cases Y:n+m<=c
  .have ak:n*i.size+news.length<=cur.size:=by rw[ac,ae,B,<-Nat.add_mul]; exact cb _ Y
   have W:=run_append_room (P:=P) w t ty e i ht hi g n c cur hg ⟨b,off,none⟩ m cap news ac D h1 Y ak;rw[W]at hr;simp only[Result.ok.injEq]at hr;obtain⟨rfl,rfl⟩:=hr;intro g' cs e' f aa ab u y;simp only[ct,bY]at aa;subst aa;have au:g<w.heap.size:=(bU.1 hg).1;have:=Hu hg ab;subst this;simp at y;rcases y with y|y|y
   .exact hF g cur e (0,0) rfl hg u (bK y)
   .exact hN u y
   .exact hF g cur e (0,0) rfl hg u (List.mem_of_mem_drop y)
  .have holds:∀j u,xs[j]?=some u->w.cell? ((⟨g,0,none⟩:Addr).add j)=some u:=U.cells (g:=g) rfl;have W:=run_append_grow (P:=P) w t ty e i z ht hi hz ⟨g,0,none⟩ n c xs (by rw[B]; exact U.1) holds ⟨b,off,none⟩ m cap news ac D (by omega) (by simp only[ce]at ah; omega) (by rw[ag]; exact growslice_fits (by omega) O);rw[W]at hr;simp only[Result.ok.injEq]at hr;obtain⟨rfl,rfl⟩:=hr;intro g' cs e' f aa ab u y;simp only[ct,bY]at aa;subst aa;have:=J7 ab;subst this;simp at y;rcases y with y|y|y
   .rw[<-af]at y;exact hF g cur e (0,0) rfl hg u (bK y)
   .exact hN u y
   .exact hZ u (uh (by simpa using y))
theorem xh{P:Program}(w:World){ops:Array Oper}{rest:List Oper}{o:Oper}{a:Act}{Q:Exit->Act->World->Prop}(ac:o.guard=none)(s x:Operand)(t:cf)
  (ho:o.op=.call {callee:=.builtin .append,args:=#[s,x],argTypes:=#[t,t]})
  (base:Nat) (e:cf) (i:TypeInfo) (z:Value) (size bytes:Nat) (ht:P.underlying t=some (.slice e)) (hi:P.info? e=some i) (hz:i.zero=some z)
  (D:i.size=size) (W:i.bytes=bytes) (Y:z.cells.size=size) (aa:0<size)
  (v:Value) (n:Nat) (xs:List Value) (hs:a.eval s=v) (O:w.ownsRow base e size v n xs)
  (y:Value) (m:Nat) (news:List Value) (hx:a.eval x=y) (hy:pA w size y m news) (h1:∀u∈news,u.oneCell'=true)
  (B:(n+m)*bytes<=140737488355328) (ab:n+m<=ce) (U:base<=w.heap.size) (ad:0<m) (hF:oX F w v) (hN:∀u∈news,F u) (hZ:∀u∈z.cells.toList,F u)
  (h:∀v' w',w'.ownsRow base e size v' (n+m) (xs++news)->w.grownBy w' v.ownBlock->oX F w' v'->wpList P ops Q rest (a.put o.dst v') w'):wpList P ops Q (o::rest) a w:=by
 refine wpList_plain ac λ_ hK=>?_;obtain⟨v',w',hr,h2,h3,h4⟩:=rJ (P:=P) w base t o.type e i z size bytes ht hi hz D W Y aa v n xs O y m news hy h1 B ab U;have h5:=Hy ht hi hz D W Y aa O hy h1 B ab ad hr hF hN hZ;unfold Oper.wp execOp;simp only[ho,resolve,invoke,builtin,Sem.run_bind,Sem.run_pure,Result.andThen_ok,List.map_toArray,bR,List.map_nil,hs,hx,hr];exact hK _ _ (h v' w' h2 h3 h5)
end
section
open Go.RowKit Go.Maps
theorem KU:(prog.info? 96).map (λi=>(i.zero,i.size,i.bytes))=some (some (.agg #[.string ⟨#[]⟩,.string ⟨#[]⟩,.int .i64 0,.int .i64 0]),4,48):=by kernel_rfl
theorem se{O:Type}{B D y es:List O}{e:O}(h:(B++D).Perm es)(U:D.Perm (e::y)):((B++[e])++y).Perm es:=by
 refine List.Perm.trans ?_ h;rw[List.append_assoc];exact(cr B).append U.symm
theorem yw{w:World}{base e size n:Nat}{v:Value}{xs:List Value}(h:w.ownsRow base e size v n xs)(o:Obj):(w.alloc o).ownsRow base e size v n xs:=kE h (λk y=>by rw[lD _ _ (h.lt k y).2])
theorem C8(x:gS):∀v∈oY x,Flat v:=by
 intro v y;simp[oY]at y;rcases y with rfl|rfl|rfl|rfl
 .exact .string _
 .exact .string _
 .exact .int _ _
 .exact .int _ _
theorem La:∀u∈(Value.agg #[.string ⟨#[]⟩,.string ⟨#[]⟩,.int .i64 0,.int .i64 0]).cells.toList,Flat u:=by
 intro v y;simp[Value.cells]at y;rcases y with rfl|rfl
 .exact .string _
 .exact .int _ _
theorem Nv{w:World}{b:Nat}{e:gS}{t:cf}(hb:b=w.heap.size):pA (w.alloc (.cells #[.string ⟨e.name.toArray⟩,.string ⟨e.text.toArray⟩,.int .i64 e.gT,.int .i64 e.il] t)) 4 (.slice (some ⟨b,0,none⟩) 1 1) 1 (oY e):=by
 refine⟨some ⟨b,0,none⟩,1,rfl,bZ _,by unfold ce; omega,rfl,λj u y=>⟨b,0,rfl,?_⟩⟩;rw[World.cell?_alloc_at _ _ _ _ hb,ca]
 match j,y with
 |0,y=>simpa[oY]using y
 |1,y=>simpa[oY]using y
 |2,y=>simpa[oY]using y
 |3,y=>simpa[oY]using y
 |j+4,y=>simp[oY]at y
theorem CV(B:Nat)(ms:List oW)(w:World)(hs:Qm w B ms)(hl:ms.length<=1048576)(aA:∀m∈ms,m.zf<=1000/\m.name.length<=ce) :
  ch prog 81 #[.map (some B)] w λen w'=>∃v D,en=.returned v/\List.Perm D ms/\w'.ownsRow w.heap.size 96 4 v (jl ms D).length (lh (jl ms D))/\Below w.heap.size w w'/\oX Flat w' v:=by
 obtain⟨i0,hi,aM,aN,aO⟩:=info_parts KU;have be:=@run_makeMap prog;have HS:cd (Qm _ _ _):=hs;have a3:cd (∀m∈ms,m.zf<=1000/\m.name.length<=ce):=aA;have bf:=hs.lt;obtain⟨w0,aw⟩:∃w0,w.alloc (.map #[] 0)=w0:=⟨_,rfl⟩;have a1:w0.heap.size=w.heap.size+1:=by rw[<-aw]; simp
 have hb0:Below w.heap.size w w0:=by rw[<-aw]; exact(Below.refl _ _).alloc (bZ _) _
 have hM0:ir prog 9 w0 w.heap.size []:=by rw[<-aw]; exact ir.made w
 have aB:cd (Qm w0 B ms):=mc.below hs hb0;clear hs aA;go_enter func81,ntmps81;go_wp2_with (first|(at_range; refine tX _ rfl _ rfl rfl aB.out ?_; intro w1 hrg0 hg0 aj));rw[a1]at hrg0 aj⊢;clear aw;go_frame;go_loopw [4] (λ_ wr=>∃(D Y:List oW)(nl:List (Wd×Value)),(D++Y).Perm ms/\Ag wr B (w.heap.size+1) ms Y/\ir prog 9 wr w.heap.size nl/\nl.length<=D.length/\(∀x,pM nl x (.int .i64 0)=.int .i64 (jT D x:Nat))/\Below w.heap.size w wr/\w.heap.size+2<=wr.heap.size) (λ_ wr=>wr.rangeLeft B (w.heap.size+1))
 case atStart=>exact⟨[],ms,[],cr _,hrg0,ir.kept hM0 hg0 (by simp),bZ _,λ_=>rfl,hb0.grown hg0 hb0.size (λk hk=>by cases hk),by omega⟩
 case round=>
  obtain⟨D,Y,nl,iS,hr,hm,aP,aC,hb,hz⟩:=hrel;have HP:cd ((D++Y).Perm ms):=iS;have HR:cd (Ag _ _ _ _ _):=hr;have HM:cd (ir _ _ _ _ _):=hm;have ax:cd (∀x,pM nl x (.int .i64 0)=.int .i64 (jT D x:Nat)):=aC;have HB:cd (Below _ _ _):=hb
  have aD:D.length<=ms.length:=by
   have h2:=iS.length_eq;rw[bbq]at h2;omega
  clear iS hr hb hm aC aB hM0 hb0 a1 hrg0 hg0 aj;go_wp2_with (first|(at_next; refine uU _ rfl _ rfl (w.heap.size+1) Y rfl HR.out ?_ ?_))
  .intro h0
   have hE:D.Perm ms:=by
    have:=HP.out;rw[h0,bQ]at this;exact this
   have aQ:cd (∀x,pM nl x (.int .i64 0)=.int .i64 (jT ms x:Nat)):=by
    intro x;rw[ax.out x,xX hE]
   have aE:cd (Qm wr B ms):=jL.owns HR.out;clear h0 hE HP HR ax;go_wp2_with (first|(at_range; refine tX _ rfl _ rfl rfl aE.out ?_; intro w1 hrg0 hg0 aj));have aF:w.heap.size+3<=w1.heap.size:=by omega
   have aG:wr.heap.size<w1.heap.size:=by omega
   have HB1:cd (Below w.heap.size w w1):=HB.out.grown hg0 HB.out.size (λk hk=>by cases hk);have HM1:cd (ir prog 9 w1 w.heap.size nl):=ir.kept HM.out hg0 (by simp);have HR1:cd (Ag _ _ _ _ _):=hrg0;obtain⟨r,hr⟩:∃r,r=wr.heap.size:=⟨_,rfl⟩;rw[<-hr]at HR1 aG hz aj⊢;have bg:w.heap.size+2<=r:=hz;clear hrg0 hg0 aE HM HB aP aD hz HS;clear hr;generalize wr=wo at *;go_frame;go_loopw [6] (λg wr=>∃(D Y:List oW),(D++Y).Perm ms/\Ag wr B r ms Y/\ir prog 9 wr w.heap.size nl/\wr.ownsRow (r+1) 96 4 g (jl ms D).length (lh (jl ms D))/\Below w.heap.size w wr/\r+1<=wr.heap.size/\oX Flat wr g) (λ_ wr=>wr.rangeLeft B r)
   case atStart=>exact⟨[],ms,cr _,HR1.out,HM1.out,World.ownsRow_nil _ _ _ _,HB1.out,by omega,Ji _ _ _ _⟩
   case round=>
    obtain⟨y,ak,iS,hr,hm,al,hb,hz,aH⟩:=hrel;have HP:cd ((y++ak).Perm ms):=iS;have HR:cd (Ag _ _ _ _ _):=hr;have HM:cd (ir _ _ _ _ _):=hm;obtain⟨ag,cg,rfl,bh⟩:=lS al;have HO:cd (wr.ownsRow (r+1) 96 4 (.slice ag (jl ms y).length cg) (jl ms y).length (lh (jl ms y))):=al;have HB:cd (Below _ _ _):=hb;have HF:cd (oX Flat wr (.slice ag (jl ms y).length cg)):=aH;clear aH
    have aD:(jl ms y).length<=ms.length:=by
     have h1:=Cn ms y;have h2:=iS.length_eq;rw[bbq]at h2;omega
    clear iS hr hb hm al HR1 HM1 HB1 aj aF aG;go_wp2_with (first|(at_next; refine uU _ rfl _ rfl r ak rfl HR.out ?_ ?_))
    .intro h0
     have hE:y.Perm ms:=by
      have:=HP.out;rw[h0,bQ]at this;exact this
     have HE:cd _:=hE;clear h0 hE HP HR;go_wp2;go_ret;exact⟨_,y,rfl,HE.out,mH HO.out (by omega),HB.out,HF.out⟩
    .intro m O w2 af aa ac ab a4 am;have an:=jL.lt aa;have ao:=mc.lt (jL.owns aa);have HB1:cd (Below w.heap.size w w2):=ox HB.out ab (by omega);have HR1:cd (Ag _ _ _ _ _):=aa;have HM1:cd (ir prog 9 w2 w.heap.size nl):=ir.stay HM.out (ab.block _ (by omega) (by simp; omega));have a5:cd (w2.rangeLeft B r<wr.rangeLeft B r):=ac;have ap:cd (ak.Perm (m::O)):=af;have a6:cd (w2.ownsRow (r+1) 96 4 (.slice ag (jl ms y).length cg) (jl ms y).length (lh (jl ms y))):=kE HO.out (λk hk=>ab.block k (HO.out.lt k hk).2 (by have:=(HO.out.lt k hk).1; intro e; cases e; omega));have aR:cd (oX Flat w2 (.slice ag (jl ms y).length cg)):=HF.out.stay (λk hk=>ab.block k (HO.out.lt k hk).2 (by have:=(HO.out.lt k hk).1; intro e; cases e; omega));have aI:r+1<=w2.heap.size:=by omega
     have aq:=a3.out m (HP.out.mem_iff.1 (bJ _ (af.mem_iff.2 (bE ..))));have ar:cd _:=Fu ms y m;have ay:cd _:=aq;have bi:jT ms m.name<=1000:=wK ms m.name (λm hm=>(a3.out m hm).1);clear af aa ac ab a4 aq HR HM HB HO;obtain⟨sg,at',W,wd,n2,tx,wt,tg⟩:=m;simp only[oW.val,Pj]at am⊢;obtain⟨wa,ad⟩:∃wa,wa=((w2.alloc (.cells #[.int .i64 (sg:Int),.int .i64 (at':Int)] 170)).alloc (.cells #[.int .i64 (sg:Int),.int .i64 (at':Int),.string ⟨W.toArray⟩,.bool wd,.string ⟨n2.toArray⟩,.string ⟨tx.toArray⟩,.int .i64 wt,.int .i64 tg] 172)):=⟨_,rfl⟩;have U:Below w2.heap.size w2 wa:=by rw[ad]; exact(((Below.refl _ _).alloc (bZ _) _).alloc (by simp) _)
     have bj:wa.heap.size=w2.heap.size+2:=by rw[ad]; simp
     have az:cd (Ag wa B r ms O):=jL.stay HR1.out (U.block B ao) (U.block _ an);have a0:cd (ir prog 9 wa w.heap.size nl):=ir.below HM1.out U;have ah:cd (wa.ownsRow (r+1) 96 4 (.slice ag (jl ms y).length cg) (jl ms y).length (lh (jl ms y))):=kE a6.out (λk hk=>U.block k (a6.out.lt k hk).2);have a7:cd (oX Flat wa (.slice ag (jl ms y).length cg)):=aR.out.stay (λk hk=>U.block k (a6.out.lt k hk).2);have a8:cd (Below w.heap.size w wa):=HB1.out.trans (U.mono (by omega))
     have HLa:cd (wa.rangeLeft B r<wr.rangeLeft B r):=by
      show _<_;rw[iP.mJ (U.block B ao) (U.block _ an)];exact a5.out
     cases wd with
     |false=>
      have ae:cd (jl ms (y++[⟨sg,at',W,false,n2,tx,wt,tg⟩])=jl ms y):=by show _=_; rw[ar.out]; simp
      clear U;go_wp2;rw[<-ad];go_roundw
      case rel=>
       exact⟨y++[⟨sg,at',W,false,n2,tx,wt,tg⟩],O,se HP.out ap.out,az.out,a0.out,by rw[ae.out]; exact ah.out,a8.out,by omega,a7.out⟩
      case measure=>exact HLa.out
     |true=>
      have ai:=(a0.out.look (z:=.int .i64 0) underlying9 underlying179 (by kernel_rfl) W ay.out.2).1;rw[aQ.out W,ad]at ai;by_cases hq:sg=jT ms W
      .have ae:cd (jl ms (y++[⟨sg,at',W,true,n2,tx,wt,tg⟩])=jl ms y++[⟨n2,false,tx,wt,tg⟩]):=by show _=_; rw[ar.out]; simp[hq,oW.Kp]
       rw[<-hq]at ai;clear U hq
       go_wp2_with (first
        |(at_builtin; rw[<-ad]; refine xh (F:=Flat) _ rfl _ _ 82 rfl (r+1) 96 i0 _ 4 48 underlying82 hi aM aN aO rfl (by decide) _ _ _ rfl (yw ah.out _) _ 1 _ rfl (Nv (e:=⟨n2,false,tx,wt,tg⟩) (by omega)) (F4 _) ?c1 ?c2 ?c3 (by decide) (a7.out.stay (λk hk=>lD _ _ (ah.out.lt k hk).2)) (C8 _) La ?_))
       case c1=>omega
       case c2=>unfold ce; omega
       case c3=>first|omega|(simp; omega)
       intro v3 w3 au av a2;rw[<-ad]at av;have bd:wa.heap.size<=w3.heap.size:=by have:=av.size; simp at this; omega
       have hold:∀j,j<wa.heap.size->j<r+1->w3.heap[j]?=wa.heap[j]?:=λj hj bk=>by
        rw[av.block j (by simp; omega) (λe=>by have:=(ah.out.lt j e.symm).1; omega),lD _ _ hj]
       have aJ:B<wa.heap.size:=mc.lt (jL.owns az.out);have aS:cd (Ag w3 B r ms O):=jL.stay az.out (hold B aJ (by omega)) (hold r (by omega) (by omega));have aT:cd (ir prog 9 w3 w.heap.size nl):=ir.stay a0.out (hold _ (by omega) (by omega))
       have aU:cd (w3.ownsRow (r+1) 96 4 v3 (jl ms (y++[⟨sg,at',W,true,n2,tx,wt,tg⟩])).length (lh (jl ms (y++[⟨sg,at',W,true,n2,tx,wt,tg⟩])))):=by
        show w3.ownsRow _ _ _ _ _ _;rw[ae.out,IJ,bbq];exact au
       have aV:cd (Below w.heap.size w w3):=(a8.out.alloc (by omega) _).grown av (by simp; omega) (λb hb=>by have:=(ah.out.lt b hb).1; omega)
       have HL3:cd (w3.rangeLeft B r<wr.rangeLeft B r):=by
        show _<_;rw[iP.mJ (hold B aJ (by omega)) (hold r (by omega) (by omega))];exact HLa.out
       have aW:cd (oX Flat w3 v3):=a2;clear a2 au av hold ai am ad;go_wp2;go_roundw
       case rel=>
        exact⟨y++[⟨sg,at',W,true,n2,tx,wt,tg⟩],O,se HP.out ap.out,aS.out,aT.out,aU.out,aV.out,by omega,aW.out⟩
       case measure=>exact HL3.out
      .have ae:cd (jl ms (y++[⟨sg,at',W,true,n2,tx,wt,tg⟩])=jl ms y):=by show _=_; rw[ar.out]; simp[hq]
       have bl:¬((sg:Int)=(jT ms W:Int)):=by omega
       clear U;go_wp2;rw[<-ad];go_roundw
       case rel=>
        exact⟨y++[⟨sg,at',W,true,n2,tx,wt,tg⟩],O,se HP.out ap.out,az.out,a0.out,by rw[ae.out]; exact ah.out,a8.out,by omega,a7.out⟩
       case measure=>exact HLa.out
  .intro m O w2 af aa ac ab a4 am;have an:=jL.lt aa;have ao:=mc.lt (jL.owns aa);have HB1:cd (Below w.heap.size w w2):=ox HB.out ab (by omega);have HR1:cd (Ag _ _ _ _ _):=aa;have HM1:cd (ir prog 9 w2 w.heap.size nl):=ir.stay HM.out (ab.block _ (by omega) (by simp));have a5:cd (w2.rangeLeft B (w.heap.size+1)<wr.rangeLeft B (w.heap.size+1)):=ac;have ap:cd (Y.Perm (m::O)):=af;have aI:w.heap.size+2<=w2.heap.size:=by omega
   have aq:=a3.out m (HP.out.mem_iff.1 (bJ _ (af.mem_iff.2 (bE ..))));have aK:=Fa D m;have ar:cd _:=aK;have ay:cd _:=aq;clear af aa ac ab a4 aK aq;obtain⟨sg,at',W,wd,n2,tx,wt,tg⟩:=m;simp only[oW.val,Pj]at am⊢
   have a9:cd (ir prog 9 ((w2.alloc (.cells #[.int .i64 (sg:Int),.int .i64 (at':Int)] 170)).alloc (.cells #[.int .i64 (sg:Int),.int .i64 (at':Int),.string ⟨W.toArray⟩,.bool wd,.string ⟨n2.toArray⟩,.string ⟨tx.toArray⟩,.int .i64 wt,.int .i64 tg] 172)) w.heap.size nl):=
    ir.below HM1.out (((Below.refl _ _).alloc (bZ _) _).alloc (by simp) _)
   have ai:=(a9.out.look (z:=.int .i64 0) underlying9 underlying179 (by kernel_rfl) W ay.out.2).1;rw[ax.out W]at ai;go_wp2_with (first|(at_mapUpdate; refine m5 _ rfl _ _ _ 179 rfl 3 underlying9 underlying179 rfl a9.out ?c1 W ay.out.2 rfl _ rfl ?_))
   case c1=>unfold ce; omega
   intro w5 aL a' bm;have aX:cd _:=aL;have U:Below w2.heap.size w2 ((w2.alloc (.cells #[.int .i64 (sg:Int),.int .i64 (at':Int)] 170)).alloc (.cells #[.int .i64 (sg:Int),.int .i64 (at':Int),.string ⟨W.toArray⟩,.bool wd,.string ⟨n2.toArray⟩,.string ⟨tx.toArray⟩,.int .i64 wt,.int .i64 tg] 172)):=(((Below.refl _ _).alloc (bZ _) _).alloc (by simp) _);have hold:∀j,j<w2.heap.size->j≠w.heap.size->w5.heap[j]?=w2.heap[j]?:=λj hj aY=>(a'.block j (by simp; omega) (by simp; exact λe=>aY e)).trans (U.block j hj);have aZ:cd (Ag w5 B (w.heap.size+1) ms O):=jL.stay HR1.out (hold B ao (by omega)) (hold _ an (by omega))
   have HL5:cd (w5.rangeLeft B (w.heap.size+1)<wr.rangeLeft B (w.heap.size+1)):=by
    show _<_;rw[iP.mJ (hold B ao (by omega)) (hold _ an (by omega))];exact a5.out
   have ba:cd (Below w.heap.size w w5):=by
    show Below _ _ _;refine(HB1.out.trans (U.mono (by omega))).grown a' (by simp; omega) (λb hb=>?_);cases hb;exact bZ _
   have bc:w.heap.size+2<=w5.heap.size:=by omega
   clear ai a' aL hold U a9 am;go_wp2;go_roundw
   case rel=>
    refine⟨D++[⟨sg,at',W,wd,n2,tx,wt,tg⟩],O,_,se HP.out ap.out,aZ.out,aX.out,?_,λx=>?_,ba.out,bc⟩
    .have:=NY nl W (.int .i64 (max (jT D W:Int) (sg:Int)));rw[bbq,List.length_singleton];omega
    .rw[KE,ar.out x,ax.out x];by_cases e:x=W
     .subst e;rw[if_pos rfl,if_pos rfl];simp;omega
     .rw[if_neg e,if_neg (λh=>e h.symm)]
   case measure=>exact HL5.out
end
section
open Go.RowKit Go.Sort D
variable {F cur:Array Value}
theorem Qe(x y:Int):Du x y<0↔x<y:=by
 unfold Du;split
 .exact⟨λ_=>by assumption,λ_=>by omega⟩
 .split<;>constructor<;>intro h<;>omega
theorem Ca(x y:Int):Du x y=0↔x=y:=by
 unfold Du;split
 .constructor<;>intro h<;>omega
 .split<;>constructor<;>intro h<;>omega
theorem RV(x y:gS):ltOf S5 x y=true↔jw x y=true:=by
 unfold ltOf S5 jw;rw[decide_eq_true_eq];by_cases h:x.gT=y.gT
 .rw[if_pos h,if_neg (by rw[ne_eq,Classical.not_not]; exact(Ca _ _).2 h.symm)];by_cases B:ie x=ie y
  .rw[if_pos B,if_neg (by rw[ne_eq,Classical.not_not]; exact(tw _ _).2 B),yR]
  .rw[if_neg B,if_pos (λe=>B ((tw _ _).1 e)),yR]
 .rw[if_neg h,if_pos (λe=>h ((Ca _ _).1 e).symm),Qe];simp
theorem BJ(x y:gS):jw x y=true\/(x.gT=y.gT/\ie x=ie y/\x.name=y.name)\/jw y x=true:=by
 unfold jw;by_cases h:x.gT=y.gT
 .rw[if_pos h,if_pos h.symm];by_cases D:ie x=ie y
  .rw[if_pos D,if_pos D.symm];rcases kS x.name y.name with B|B|B
   .exact .inl B
   .exact .inr (.inl ⟨h,D,B⟩)
   .exact .inr (.inr B)
  .rw[if_neg D,if_neg (λe=>D e.symm)];rcases kS (ie x) (ie y)with B|B|B
   .exact .inl B
   .exact absurd B D
   .exact .inr (.inr B)
 .rw[if_neg h,if_neg (λe=>h e.symm)];simp only[decide_eq_true_eq];omega
theorem IG{x y z:gS}(h:x.gT=y.gT/\ie x=ie y/\x.name=y.name)(B:jw x z=true):jw y z=true:=by
 unfold jw at *;rw[<-h.1,<-h.2.1,<-h.2.2];exact B
def qf(e:gS):gS:={e with text:=e.text.take 1048576}
theorem D3{e:gS}(h:e.text.length<=1048576):qf e=e:=by
 unfold qf;rw[List.take_of_length_le h]
theorem Gc(e:gS):(qf e).text.length<=1048576:=by
 show(e.text.take 1048576).length<=_;rw[List.length_take];omega
def Rp(x y:gS):Int:=S5 (qf x) (qf y)
def vI(e:gS):List Value:=oY (qf e)
theorem ww(x y:gS):ltOf Rp x y=true↔jw (qf x) (qf y)=true:=RV (qf x) (qf y)
theorem Qz:SWO (ltOf Rp) where
 irrefl x:=by
  cases h:ltOf Rp x x with
  |false=>rfl
  |true=>rw[ww,vz]at h; cases h
 trans x y z h1 h2:=by rw[ww]at *; exact ql h1 h2
 ntrans x y z h1 h2:=by
  cases B:ltOf Rp x z with
  |false=>rfl
  |true=>
   rw[ww]at B;have D:¬jw (qf x) (qf y)=true:=by rw[<-ww,h1]; simp
   have n2:¬jw (qf y) (qf z)=true:=by rw[<-ww,h2]; simp
   rcases BJ (qf x) (qf y)with h|h|h
   .exact absurd h D
   .exact absurd (IG h B) n2
   .exact absurd (ql h B) n2
theorem Nr(blk off size:Nat)(w:World):CmpLays prog 84 #[] vI 4 Rp blk off size w:=by
 intro m os B _ x y;refine(Fo (qf x) (qf y) _ (Gc x) (Gc y)).mono ?_;rintro e w' ⟨rfl,h⟩;exact⟨rfl,NO h⟩
theorem O0(x:gS):∀v∈vI x,v.oneCell'=true:=F4 (qf x)
theorem xc(es:List gS):(lh es).length=es.length*4:=by
 induction es with
 |nil=>rfl
 |cons a l y=>
  have e:lh (a::l)=oY a++lh l:=by simp[lh]
  rw[e,bbq,y];simp[oY];omega
theorem zX(es:List gS)(h:∀e∈es,e.text.length<=1048576):(cn vI 4 es.toArray).toList=lh es:=by
 apply bO;intro j;by_cases D:j<es.length*4
 .have O:j<(cn vI 4 es.toArray).size:=by rw[cm]; simpa using D
  have B:j / 4<es.length:=by omega
  have U:es.toArray[j / 4]! = es[j / 4]:=by rw[getElem!_pos _ _ (by simpa using B)]; simp
  have g:=get_flatK vI 4 es.toArray j (by simpa using D);rw[U]at g;have y:qf es[j / 4]=es[j / 4]:=D3 (h _ (bG B));unfold vI at g;rw[y]at g;have:=CB es (j / 4) (j % 4) B (by omega);rw[show j / 4*4+j % 4=j by omega]at this;rw[this];have y:j % 4<(oY es[j / 4]).length:=by simp[oY]; omega
  rw[getElem!_pos (oY es[j / 4]) (j % 4) y,getElem!_pos _ j O]at g;rw[bI y,<-g,bW,bV O];rfl
 .rw[bD (by simp; omega),bD (by rw[xc]; omega)]
theorem KH{w:World}{base e n m cap g:Nat}{ws:List gS}(h:w.ownsRow base e 4 (.slice (some ⟨g,0,none⟩) m cap) n (lh ws))(hn:n=ws.length)(hb:∀e∈ws,e.text.length<=1048576):HoldsK vI 4 w g 0 ws.toArray:=by
 subst hn;intro j B;rw[cm]at B;have aa:j<ws.length*4:=by simpa using B
 have O:j<(cn vI 4 ws.toArray).size:=by rw[cm]; simpa using B
 have y:(lh ws)[j]?=some ((cn vI 4 ws.toArray)[j]!):=by
  rw[<-zX ws hb,getElem!_pos _ j O,bW,bV O]
 rcases h.2 with⟨h0,_⟩|⟨g',U,cur,W,_,Y,_,_,ab,D⟩
 .simp at h0
 .simp only[cq,bY,Addr.mk.injEq]at W;obtain⟨⟨rfl,_⟩,_,rfl⟩:=W;refine⟨?_,?_⟩
  .rw[Ps Y];rw[<-D,bM,if_pos (by omega)]at y;rw[ca];simpa using y
  .simp[World.frozen?,Y]
theorem NS(h:F.size<=cur.size):(ck id 0 F cur).toList.take F.size=F.toList:=by
 apply bO;intro j;by_cases y:j<F.size
 .rw[bM,if_pos y,bW];unfold ck;rw[Array.getElem?_mapIdx,bV (by omega)];simp only[Option.map_some,cc,ca,true_and,y,if_true,Nat.sub_zero,id];rw[getElem!_pos F j y,bW,bV y]
 .rw[bD (by simp; omega),bD (by simp; omega)]
theorem PN{u:Value}(h:u∈(ck id 0 F cur).toList):u∈F.toList\/u∈cur.toList:=by
 unfold ck at h;simp at h;obtain⟨i,hi,rfl⟩:=h;split
 .rename_i y;left;rw[getElem!_pos F i y];simp
 .right; simp
theorem OU(base:Nat)(au:Option Addr)(W:Nat)(es:List gS)(w:World)(D:w.ownsRow base 96 4 (.slice au es.length W) es.length (lh es))(ak:(es.map gS.name).Nodup)(hl:es.length<=1048576)(hb:∀e∈es,e.text.length<=1048576)(af:oX Flat w (.slice au es.length W)) :
  ch prog 83 #[.slice au es.length W,.func (.func 84) #[] #[]] w λe w2=>e=.returned (.tuple #[])/\Below base w w2/\
   ∃L:List gS,L.Perm es/\L.Pairwise (λx y=>jw x y=true)/\w2.ownsRow base 96 4 (.slice au es.length W) es.length (lh L)/\oX Flat w2 (.slice au es.length W):=by
 rcases D.2 with⟨he,hn⟩|⟨g,cap,cur,he,O,aa,h1,h2,h3,h4⟩
 .have hG:es=[]:=List.length_eq_zero_iff.1 (by simpa using hn);subst hG;have B:=AnyF.slices_SortFunc_none JZ au W (.func (.func 84) #[] #[]) w;change ch prog 83 _ _ _ at B;refine B.mono ?_;rintro e w2 ⟨rfl,rfl⟩;exact⟨rfl,Below.refl _ _,[],cr _,List.Pairwise.nil,D,af⟩
 .simp only[cq]at he;obtain⟨rfl,_,rfl⟩:=he;have ab:g<w.heap.size:=(bU.1 aa).1
  have B:=AnyQ.slices_SortFunc JZ 4 isAgg96 sizeOf96 vI (λ_=>rfl) O0 Rp Qz 84 #[] g 0 W es.toArray w
   (enters_of func84 (by kernel_rfl) rfl) (Nr g 0 _ w) (KH D rfl hb) ab (by simp; omega)
  change ch prog 83 _ _ _ at B;refine B.mono ?_;rintro e w2 ⟨rfl,d',nq,os,hp,hs,rfl⟩;have ac:d'.size=es.length:=by rw[hp.1]; simp
  have ag:(sortWorldK vI 4 w g 0 nq d' os).heap[g]?=some (.cells (ck id 0 (cn vI 4 d') cur) 96 (0,0)):=by
   unfold sortWorldK putRowK;rw[heap_grow_old _ _ (by simpa using ab)];simp[putRow,mapBlock,Sort.ahead,bX,aa,onCells]
  have iS:d'.toList.Perm es:=by
   have e1:d'.extract 0 es.toArray.size=d':=by rw[<-hp.1]; simp
   have e2:es.toArray.extract 0 es.toArray.size=es.toArray:=by simp
   have p3:=hp.2.2;rw[e1,e2]at p3;exact p3
  have ad:∀e∈d'.toList,e.text.length<=1048576:=λe he=>hb e (iS.mem_iff.1 he)
  have hF:(cn vI 4 d').toList=lh d'.toList:=by
   have:=zX d'.toList ad;simpa using this
  have ah:(cn vI 4 d').size=es.length*4:=by rw[cm,ac]
  have ae:d'.toList.Pairwise (λx y=>jw x y=true):=by
   have Y:(d'.toList.map gS.name).Nodup:=(iS.map _).nodup_iff.2 ak;rw[bH];intro i j hi hj ai;have al:d'.toList.length=es.toArray.size:=by simpa using ac
   have h:=hs i j (cc _) ai (by omega);have gi:d'[i]! = d'.toList[i]:=by rw[getElem!_pos d' i (by simpa using hi)]; rfl
   have gj:d'[j]! = d'.toList[j]:=by rw[getElem!_pos d' j (by simpa using hj)]; rfl
   rw[gi,gj]at h;have ci:qf d'.toList[i]=d'.toList[i]:=D3 (ad _ (bG hi));have cj:qf d'.toList[j]=d'.toList[j]:=D3 (ad _ (bG hj));rcases BJ d'.toList[i] d'.toList[j]with h'|h'|h'
   .exact h'
   .rw[bT,bN,bH]at Y;exact absurd h'.2.2 (Y i j hi hj ai)
   .have:ltOf Rp d'.toList[j] d'.toList[i]=true:=(ww _ _).2 (by rw[ci,cj]; exact h');rw[h]at this;cases this
  refine⟨rfl,xl O ab,d'.toList,iS,ae,⟨by rw[xc]; simp[ac],.inr ⟨g,W,_,rfl,O,ag,h1,h2,by simp[ck,h3],?_⟩⟩,?_⟩
  .rw[<-ah,NS (by rw[ah,h3]; exact cb _ h1),hF]
  .intro g' cs e' f aj U u hu;simp only[ct,bY]at aj;subst aj;rw[ag]at U;simp only[bY,Obj.cells.injEq]at U;obtain⟨rfl,_⟩:=U;rcases PN hu with h|h
   .rw[hF]at h;unfold lh at h;obtain⟨x,_,hx⟩:=List.mem_flatMap.1 h;exact C8 x u hx
   .exact af g cur _ _ rfl aa u h
end
section
open Go.Conc Go.RowKit Go.Maps
variable {n:Nat} {cl:Nat->Option Nat}
theorem DC(w:World)(a:Addr)(v:Value):(w.setCell a v).heap.size=w.heap.size:=by simp
def MF(c:Code):Code:=match c with
 |.seq _ (.seq _ (.seq _ y))=>y
 |_=>.skip
theorem MT:f80.name≠ "runtime.NumGoroutine":=by
 have:f80.name = "hint/search.askBuffer":=by kernel_rfl
 rw[this];decide
theorem GA:f82.name≠ "runtime.NumGoroutine":=by
 have:f82.name = "hint/search.gather":=by kernel_rfl
 rw[this];decide
def tZ(cl:Nat->Option Nat)(n r:Nat):Nat->Option Nat:=λk=>if k=n then some r else cl k
theorem Qv{r:Nat}(h:n<7):(qD cl).set! n (.chan (some r))=qD (tZ cl n r):=by
 rcases(by omega:n=0\/n=1\/n=2\/n=3\/n=4\/n=5\/n=6)with rfl|rfl|rfl|rfl|rfl|rfl|rfl<;>rfl
def nH(A:Ask)(num:Nat)(p:Nat×gS):oW:=if A.has p.2=true then⟨num,p.1,p.2.name,true,Bq p.2,p.2.text,p.2.gT,p.2.il⟩else⟨num,p.1,p.2.name,false,[],[],0,0⟩
theorem MB(A:Ask)(num:Nat)(p:Nat×gS):(nH A num p).val=tO A num p:=by
 unfold nH tO;split<;>rfl
structure N6(ms:List oW):Prop where
 len:ms.length<=1048576
 each:∀m∈ms,m.zf<=1000/\m.at'<4611686018427387904/\m.name.length<=ce
 places:(ms.map λm=>(m.zf,m.at')).Nodup
 names:((jl ms ms).map gS.name).Nodup
 texts:∀e∈jl ms ms,e.text.length<=1048576
theorem Q0{a b c d:Nat}(h:Pj a b=Pj c d):a=c/\b=d:=by
 unfold Pj at h;simp only[Value.agg.injEq,Array.mk.injEq,List.cons.injEq,Value.int.injEq,true_and,and_true]at h;omega
theorem N6.all{ms:List oW}(h:N6 ms):O6 (ms.map oW.val) where
 met:=λv D=>by
  obtain⟨m,hm,rfl⟩:=bS.1 D;have:=h.each m hm;exact⟨m.zf,m.at',_,_,_,_,_,_,by omega,this.2.1,rfl⟩
 nodup:=by
  rw[bF];have B:=h.places;rw[bT,bN]at B⊢;refine B.imp fun {x y} hne e=>hne ?_;have:=Q0 (a:=x.zf) (b:=x.at') (c:=y.zf) (d:=y.at') e;rw[this.1,this.2]
 len:=by
  rw[List.length_map];have:=h.len;unfold ce;omega
theorem QM{ms:List oW}{l:List (Value×Value)}(B:(l.map Prod.snd).Perm (ms.map oW.val))(D:∀p∈l,p.1=Jr p.2):l.Perm (ms.map oW.kv):=by
 have e:l=(l.map Prod.snd).map λv=>(Jr v,v):=by
  rw[bF];conv=>lhs; rw[<-List.map_id l]
  refine bL λp O=>?_;show p=(Jr p.2,p.2);rw[<-D p O]
 have y:=B.map λv=>(Jr v,v);rw[bF (l:=ms)]at y;rw[e];exact y
def Pg(ms:List oW)(L:List gS):Prop:=L.Perm (jl ms ms)/\L.Pairwise λx y=>jw x y=true
def FX(ms:List oW)(l cp:Nat):Prop:=l=0/\cp=0/\Pg ms []
def Ge(ms:List oW)(off:Nat)(spot:Option Nat)(l cp:Nat)(cs:Array Value)(e:cf)(f:Nat×Nat):Prop:=
 off=0/\spot=none/\e=96/\f=(0,0)/\∃L,Pg ms L/\l=L.length/\l<=cp/\cp<=ce/\cs.size=cp*4/\cs.toList.take (l*4)=lh L
section
variable {Z:ob prog} {w:World} {T:List Frame} {dd q K:Nat} {wl:World} {V:Vs}
theorem D2{A:Ask}{es:List gS}{ex:Obj}{sa:Option Addr}{sc bx b s:Nat}{ms ms0:List oW}{a2 a3 a4 a6 a8 a9 bc bd be bf bg bh bi bj bk bl bm bn bo bp bq br bs bt bu bv bw bz b0 b1 b2 b3 b4 b5 b6 b7 b8:Value}(hT:∀ps,T=[ps]->ps.mode≠.panicking [goexitEntry])
  (hs:s=wl.heap.size) (hA:A.Ok) (hK:K<=s+5) (h5:5<=s) (ae:dd<s) (af:5<=q) (hq:q<w.heap.size) (U:w.heap[q]?=some ex) (hM:vD ex es) (W:∀(r:Nat)a c,wl.heap[r]?≠some (.map a c))
  (hl:es.length<=100000) (ag:∀e∈es,e.name.length<=ce/\e.text.length<=1048576/\(e.gone=false->0<=e.il/\e.il<=255)) (hn:n<=6) (hV:∀x∈V,x.1<s)
  (ah:wl.heap[bx]?=some (.cells #[.int .i64 A.m,.string A.q,.int .i64 A.t] 94 (0,0))) (hb:wl.heap[b]?=some (.cells (qD cl) 125 (0,0)))
  (ai:∀k,n<=k->cl k=none) (mL:∀k r,k<7->cl k=some r->∃vs,(r,some vs)∈V) (jO:∀x∈V,∃k vs,k<7/\cl k=some x.1/\x.2=some vs) (yf:∀k k' r,k<7->k'<7->cl k=some r->cl k'=some r->k=k') (kg:(V.map Prod.fst).Nodup) (Y:V.length=n)
  (aj:vn V=ms0.map oW.val) (ak:ms=(ja es).map (nH A n)++ms0) (aa:N6 ms)
  (fin:∀(Uf:Env prog)aK aG aL,Uf.Z=Z->Uf.T=T->Uf.w0=w->(aG=[]\/∃k2,aG=.code .ret::k2)->Fi prog Uf Tryz.f49 aK aL (FX ms) (Ge ms)->gP Uf [⟨49,aK,aG⟩] aL []) :
  gP (tu prog Z w T dd q K false) [⟨49,#[.slice sa n sc,.map (some dd),a2,a3,a4,.pointer (some ⟨bx,0,none⟩),a6,.pointer (some ⟨b,0,none⟩),a8,a9,bc,bd,be,bf,bg,bh,bi,bj,bk,bl,bm,bn,bo,bp,bq,br,bs,bt,bu,bv,bw,bz,b0,b1,b2,b3,b4,b5,b6,b7,b8],[.code (MF (jc Tryz.f49))]⟩] wl V:=by
 have HA:cd _:=And.intro hs (And.intro hA (And.intro hK (And.intro h5 (And.intro ae (And.intro af (And.intro hq (And.intro U (And.intro hM (And.intro W (And.intro hl (And.intro ag (And.intro hn (And.intro hV (And.intro ah hb))))))))))))));have HC:cd _:=And.intro ai (And.intro mL (And.intro jO (And.intro yf (And.intro kg (And.intro Y (And.intro aj (And.intro ak (And.intro aa (And.intro fin hT)))))))));clear hs hA hK h5 ae af hq U hM W hl ag hn hV ah hb ai mL jO yf kg Y aj ak aa fin hT;show gP _ [⟨_,_,[.code (.seq (.region 7 _ false) (.seq (.region 8 _ false) (.seq (.region 9 _ false) (.seq (.region 10 _ false) .ret))))]⟩] _ _;refine gP.seq ?_;refine gZ λkk ab=>?_;have HK:cd _:=ab;clear ab;refine gP.region ?_
 (refine j8 rfl (by rfl) (by kernel_rfl) λτ=>?_; unfold jh; go_simp; simp only[ik]; refine gP.ij τ ?_)
 (refine j8 rfl (by rfl) (by kernel_rfl) λτ=>?_; unfold jh; go_simp; simp only[ik]; refine gP.ij τ ?_)
 (refine j8 rfl (by rfl) (by kernel_rfl) λτ=>?_; unfold jh; go_simp; simp only[ik]; refine gP.ij τ ?_)
 (refine j8 rfl (by rfl) (by kernel_rfl) λτ=>?_; unfold jh; go_simp; simp only[ik]; refine gP.ij τ ?_)
 (refine j8 rfl (by rfl) (by kernel_rfl) λτ=>?_; unfold jh; go_simp; simp only[ik]; refine gP.ij τ ?_);refine ta rfl (by rfl) (by kernel_rfl) λy0 D am=>?_;have e0:y0.cell? ⟨bx,0,none⟩=some (.int .i64 A.m):=by rw[Ps (by rw[D]; exact HA.out.2.2.2.2.2.2.2.2.2.2.2.2.2.2.1)]; rfl
 have e1:y0.cell? ⟨bx,1,none⟩=some (.string A.q):=by rw[Ps (by rw[D]; exact HA.out.2.2.2.2.2.2.2.2.2.2.2.2.2.2.1)]; rfl
 have e2:y0.cell? ⟨bx,2,none⟩=some (.int .i64 A.t):=by rw[Ps (by rw[D]; exact HA.out.2.2.2.2.2.2.2.2.2.2.2.2.2.2.1)]; rfl
 have HY:cd (y0.heap=wl.heap/\y0.os=wl.os):=⟨D,am⟩;clear D am;unfold jh;go_simp;simp only[ik];obtain⟨hs,hA,hK,h5,ae,af,hq,U,hM,W,hl,ag,hn,hV,ah,hb⟩:=HA.out;rw[<-HY.out.1]at hs W ah hb;clear e0 e1 e2;refine gP.uk #[.int .i64 (n:Int),.map (some dd),.agg #[.int .i64 A.m,.string A.q,.int .i64 A.t],cu,cu,cu,cu,cu,cu,cu,cu] (i:=6) (jZ:=f80) (c:=jc f80) rfl rfl func80 (by kernel_rfl) MT rfl (by simp[iH]) (by kernel_rfl) ?_;refine ze n A es ex s hs rfl hA hK h5 ae af hq U hM W hl ag (by omega) hV λw2 z2 o2 aM p2=>?_;obtain⟨ai,mL,jO,yf,kg,Y,aj,ak,aa,fin,hT⟩:=HC.out;have ar:b<s:=by rw[hs]; exact(bU.1 hb).1
 have a5:w2.heap[b]?=some (.cells (qD cl) 125 (0,0)):=(o2 b ar).trans hb;have aN:n<7:=by omega
 have H2:cd _:=And.intro z2 (And.intro o2 (And.intro p2 (And.intro a5 ar)));clear ai mL jO yf kg Y aj ak aa fin hT hs hA hK h5 ae af hq U hM W hl ag hV ah hb hn z2 o2 aM p2 a5 ar;rw[lR];go_simp;have aO:(n:Int)<7:=by omega
 (refine j8 rfl (by rfl) (by kernel_rfl) λτ=>?_; unfold jh; go_simp; simp only[ik]; refine gP.ij τ ?_);clear aO;refine ta rfl (by rfl) (by kernel_rfl) λy1 al an=>?_;have gb:y1.heap[b]?=some (.cells (qD cl) 125 (0,0)):=by rw[al]; exact H2.out.2.2.2.1
 have e0:y1.cell? ⟨b,n,none⟩=some (.chan (cl n)):=by
  rw[Ps gb];rcases(by omega:n=0\/n=1\/n=2\/n=3\/n=4\/n=5\/n=6)with rfl|rfl|rfl|rfl|rfl|rfl|rfl<;>rfl
 have f0:y1.frozen? ⟨b,n,none⟩=false:=Ue gb n;have a7:cd (y1.heap=w2.heap/\y1.os=w2.os):=⟨al,an⟩;have HG:cd _:=gb;clear al an gb;unfold jh;go_simp;simp only[ik];clear e0 f0;obtain⟨w3,aq⟩:∃w3,w3=y1.setCell ⟨b,n,none⟩ (.chan (some (s+3))):=⟨_,rfl⟩;have g3:w3.heap[b]?=some (.cells (qD (tZ cl n (s+3))) 125 (0,0)):=by rw[aq,heap_set HG.out n (.chan (some (s+3))),<-Qv aN]; simp only[Array.set!_eq_setIfInBounds]
 have o3:∀r,r≠b->w3.heap[r]?=w2.heap[r]?:=λr hr=>by rw[aq,Below.heap_setCell _ _ _ _ hr,a7.out.1]
 have z3:w3.heap.size=s+5:=by rw[aq,DC,a7.out.1]; exact H2.out.1
 have p3:w3.os=w2.os:=by rw[aq,uL]; exact a7.out.2
 rw[<-aq];clear aq HG a7 y1;have H3:cd _:=And.intro g3 (And.intro o3 (And.intro z3 p3));clear g3 o3 z3 p3;refine gP.inRegion ?_;rw[HK.out];clear HK kk;refine gP.seq ?_;refine gZ λkk ab=>?_;have HK:cd _:=ab;clear ab;refine gP.region ?_
 (refine j8 rfl (by rfl) (by kernel_rfl) λτ=>?_; unfold jh; go_simp; simp only[ik]; refine gP.ij τ ?_)
 (refine j8 rfl (by rfl) (by kernel_rfl) λτ=>?_; unfold jh; go_simp; simp only[ik]; refine gP.ij τ ?_)
 (refine j8 rfl (by rfl) (by kernel_rfl) λτ=>?_; unfold jh; go_simp; simp only[ik]; refine gP.ij τ ?_);have aP:IntKind.i64.wrap ((n:Int)+1)=(n:Int)+1:=by simp only[IntKind.wrap_i64]; omega
 rw[aP];clear aP;obtain⟨ai,mL,jO,yf,kg,Y,aj,ak,aa,fin,hT⟩:=HC.out;obtain⟨hs,hA,hK,h5,ae,af,hq,U,hM,W,hl,ag,hn,hV,ah,hb⟩:=HA.out;obtain⟨g3,o3,z3,p3⟩:=H3.out;obtain⟨z2,o2,p2,a5,ar⟩:=H2.out;obtain⟨V2,ac⟩:∃V2,V2=(s+3,some ((ja es).map (tO A n)))::V:=⟨_,rfl⟩;have aQ:(n:Int)+1=(V2.length:Int):=by rw[ac,bP,Y]; rfl
 have au:vn V2=ms.map oW.val:=by
  rw[ac];show(ja es).map (tO A n)++vn V=_;rw[aj,ak,List.map_append,bF];congr 1;refine bL λp _=>(MB A n p).symm
 have aH:∀k r,cl k=some r->k<7->r≠s+3:=λk r hr hk e=>by
  obtain⟨vs,h⟩:=mL k r hk hr;have:=hV _ h;simp only at this;omega
 have aC:∀k r,k<7->tZ cl n (s+3) k=some r->∃vs,(r,some vs)∈V2:=λk r hk hr=>by
  unfold tZ at hr;rw[ac];split at hr
  .cases hr;exact⟨_,bE ..⟩
  .obtain⟨vs,h⟩:=mL k r hk hr;exact⟨vs,List.mem_cons_of_mem _ h⟩
 have av:∀x∈V2,∃k vs,k<7/\tZ cl n (s+3) k=some x.1/\x.2=some vs:=λx hx=>by
  rw[ac]at hx;rcases List.mem_cons.1 hx with rfl|hx
  .exact⟨n,_,aN,by unfold tZ; rw[if_pos rfl],rfl⟩
  .obtain⟨k,vs,a1,a2,a3⟩:=jO x hx;refine⟨k,vs,a1,?_,a3⟩;have:k≠n:=λe=>by rw[e,ai n (bZ _)]at a2; cases a2
   unfold tZ;rw[if_neg this];exact a2
 have aD:∀k k' r,k<7->k'<7->tZ cl n (s+3) k=some r->tZ cl n (s+3) k'=some r->k=k':=λk k' r hk aR h1 h2=>by
  unfold tZ at h1 h2;split at h1<;>split at h2
  .omega
  .cases h1;exact absurd rfl (aH k' _ h2 aR)
  .cases h2;exact absurd rfl (aH k _ h1 hk)
  .exact yf k k' r hk aR h1 h2
 have ao:(V2.map Prod.fst).Nodup:=by
  rw[ac,bR,List.nodup_cons];refine⟨λh=>?_,kg⟩;obtain⟨x,hx,e⟩:=bS.1 h;have:=hV x hx;simp only at e;omega
 rw[aQ,<-ac];refine gP.uk (#[.pointer (some ⟨b,0,none⟩),.int .i64 (V2.length:Int),cu,cu,cu,cu,cu,cu,cu,cu,cu,cu,cu,cu,cu,cu,cu,cu,cu,cu,cu,cu,cu,cu,cu,cu,cu,cu,cu,cu]:Array Value) (i:=3) (jZ:=f82) (c:=jc f82) rfl rfl func82 (by kernel_rfl) GA rfl (by simp[iH]) (by kernel_rfl) ?_;refine EZ (mb:=s+5) rfl aa.all z3.symm (by omega) g3 aC av aD ao (by rw[ac,bP,Y]; omega) au ?_;intro w4 l aS aT aU _ _;have aI:Qm w4 (s+5) ms:=aU.perm (QM aS aT);have aV:=aI.lt;have aW:cd _:=And.intro aI aV
 have aX:∀b,w.heap[b]?=some qM->b<w.heap.size/\(true=true->b≠q):=λb hb=>⟨(bU.1 hb).1,λ_ e=>by
  obtain⟨a,c,hx⟩:=hM.isMap;rw[e,U,hx]at hb
  cases hb⟩
 have b9:cd _:=aX;clear ai mL jO yf kg Y aj ak hs hA hK h5 ae af hq U hM W hl ag hn hV ah hb g3 o3 z3 p3 z2 o2 p2 a5 ar ac aQ au aH aC av aD ao aS aT aU aI aV HA HC H2 H3;have HF:cd _:=And.intro aa (And.intro fin hT);clear aa fin hT aX;show gP _ [⟨_,jg _ _ _,_⟩] _ _;rw[lR];go_simp;refine ta rfl (by rfl) (by kernel_rfl) λy0 D am=>?_;have aY:Qm y0 (s+5) ms:=mc.stay aW.out.1 (by rw[D]);have aw:s+6<=y0.heap.size:=by rw[D]; exact aW.out.2
 have aE:=CV (s+5) ms y0 aY HF.out.1.len λm hm=>⟨(HF.out.1.each m hm).1,(HF.out.1.each m hm).2.2⟩;clear D am aY;unfold jh;go_simp;simp only[ik];refine⟨trivial,aE.mono ?_⟩;clear aE;rintro e w5 ⟨v,ad,rfl,y,B,a',ax⟩;refine⟨v,rfl,?_⟩;obtain⟨aJ,aA,rfl,aZ⟩:=lS B;have HO:cd _:=And.intro y (And.intro B (And.intro a' (And.intro ax aw)));clear y B a' ax aw aZ
 (refine j8 rfl (by rfl) (by kernel_rfl) λτ=>?_; unfold jh; go_simp; simp only[ik]; refine gP.ij τ ?_);refine gP.inRegion ?_;rw[HK.out];clear HK kk;refine gP.seq ?_;refine gZ λkk ab=>?_;have HK:cd _:=ab;clear ab;refine gP.region ?_
 (refine j8 rfl (by rfl) (by kernel_rfl) λτ=>?_; unfold jh; go_simp; simp only[ik]; refine gP.ij τ ?_);refine ta rfl (by rfl) (by kernel_rfl) λy1 al an=>?_;obtain⟨y,B,a',ax,aw⟩:=HO.out;have iS:(jl ms ad).Perm (jl ms ms):=FW y;have ay:y1.ownsRow y0.heap.size 96 4 (.slice aJ (jl ms ad).length aA) (jl ms ad).length (lh (jl ms ad)):=kE B (λk hk=>by rw[al]);have az:=OU y0.heap.size aJ aA (jl ms ad) y1 ay ((iS.map _).nodup_iff.2 HF.out.1.names) (by have h1:=Cn ms ad; have h2:=y.length_eq; have h3:=HF.out.1.len; omega) (λe he=>HF.out.1.texts e (iS.mem_iff.1 he)) (ax.stay λg hg=>by rw[al]);have HP:cd _:=And.intro iS aw;clear y B a' ax aw iS ay al an HO;unfold jh;go_simp;simp only[ik];refine⟨trivial,az.mono ?_⟩;clear az;rintro e w6 ⟨rfl,b',L,a0,aB,O,ap⟩;refine⟨_,rfl,?_⟩;have H6:cd _:=And.intro a0 (And.intro aB (And.intro O ap));clear b' a0 aB O ap;refine gP.inRegion ?_;rw[HK.out];clear HK kk;refine gP.seq ?_;refine gP.region ?_
 (refine j8 rfl (by rfl) (by kernel_rfl) λτ=>?_; unfold jh; go_simp; simp only[ik]; refine gP.ij τ ?_)
 (refine j8 rfl (by rfl) (by kernel_rfl) λτ=>?_; unfold jh; go_simp; simp only[ik]; refine gP.ij τ ?_);refine gP.inRegion ?_;refine HF.out.2.1 _ _ _ _ rfl rfl rfl (.inr ⟨_,rfl⟩) ⟨⟨.slice aJ (jl ms ad).length aA,λτ=>by simp[results,results49,go_sem],?_⟩,b9.out⟩;obtain⟨a0,aB,O,ap⟩:=H6.out;have hL:L.length=(jl ms ad).length:=a0.length_eq;have aF:Pg ms L:=⟨a0.trans HP.out.1,aB⟩;rcases O.2 with⟨he,bC⟩|⟨g,cap,cur,he,bA,ba,h1,h2,h3,h4⟩
 .left;simp only[cq]at he;refine⟨_,_,?_,he.2.1,he.2.2,?_⟩
  .rw[he.1]
  .have:L=[]:=List.eq_nil_of_length_eq_zero (by omega);rw[<-this];exact aF
 .right;simp only[cq]at he;obtain⟨rfl,_,rfl⟩:=he;refine⟨g,0,none,_,aA,cur,_,_,rfl,ba,ap g cur _ _ rfl ba,λm hm bB=>?_,rfl,rfl,rfl,rfl,L,aF,hL.symm,h1,h2,h3,h4⟩;have:=hm.x.2.2 g bB;have:=HP.out.2;omega
end
end
end Go.Proofs.YtocbogeoffeolaaGreatDoor
