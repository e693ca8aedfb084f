import Derived.Test.YtocbogeoffeolaaGreatDoorFolAJ
import Derived.Laws.CopyOwn
set_option linter.unusedVariables false
set_option linter.unusedSimpArgs false
set_option maxHeartbeats 8000000
set_option maxRecDepth 1000000
open List renaming mem_singleton->bb,length_take->bd,length_append->be,getElem?_append_left->bf,getElem?_append_right->bg,getElem?_take->bh,getElem?_map->bi,append_assoc->bj,length_drop->bk,getElem?_toArray->bl,map_toArray->bm,length_nil->bn,length_map->bo,map_cons->bp,map_nil->bq,filter_sublist->br,getElem?_drop->bs,mem_nil_iff->bt,nil_prefix->bu,append_nil->bv,mem_cons->bw
open Go renaming wpAnyH_all->bx,wpOp_step->bz,cell_later->b0,maxLen->b1,TypeId->b2,wpAnyH_done->b3,wp_region_held->b4,setRow_heap->b5,Calls->b6,info_parts->b7,resolve->b8,setRow_self->b9,execOp->b'
open Nat renaming le_refl->bA,zero_le->bB,min_eq_left->bC,add_sub_cancel_left->bD,lt_of_lt_of_le->bE
open Go.RowKit.Below renaming heap_alloc->bF,refl->bG,heap_setCell->bH
open Go.Oper renaming wp->bI
open Go.Builtin renaming zeroCells->bJ,clear_->bK,copy_->bL,append_->bM
open Go.Proofs.Tryz renaming underlying31->bN,ntmps29->bO,func29->bP,underlying85->bQ,zeroValue9->bR
open Go.RowKit renaming Hid->bS
open Go.World renaming setCell->bT,cell?_alloc_at->bU
open Array renaming getElem?_toList->bV,toArray_toList->bW
open Option.some renaming injEq->bX
open Go.Sem renaming run_pure->bY,run_bind->bZ
open Go.Result renaming andThen_ok->ca
namespace Go.Proofs.YtocbogeoffeolaaGreatDoor
open Go.Proofs.Tryz
section
open Go.RowKit Go.Maps Go.Sort
variable {u:Value} {w w':World}
theorem Bv{P:Program}(w:World){o:Oper}{a:Act}{K:Act->World->Prop}{Q:Exit->Act->World->Prop}(s x:Operand)(t:b2)
  (ho:o.op=.call {callee:=.builtin .append,args:=#[s,x],argTypes:=#[t,t]})
  (base:Nat) (e:b2) (i:TypeInfo) (z:Value) (size bytes:Nat) (ht:P.underlying t=some (.slice e)) (hi:P.info? e=some i) (hz:i.zero=some z)
  (D:i.size=size) (W:i.bytes=bytes) (Y:z.cells.size=size) (aa:0<size)
  (v:Value) (n:Nat) (xs:List Value) (hs:a.eval s=v) (U:w.ownsRow base e size v n xs)
  (y:Value) (m:Nat) (news:List Value) (hx:a.eval x=y) (hy:pA w size y m news) (h1:∀u∈news,u.oneCell'=true)
  (B:(n+m)*bytes<=140737488355328) (ab:n+m<=b1) (O:base<=w.heap.size)
  (h:∀v' w',w'.ownsRow base e size v' (n+m) (xs++news)->w.grownBy w' v.ownBlock->(v'.ownBlock=v.ownBlock\/(v'.ownBlock=some w.heap.size/\Below w.heap.size w w'))->K (a.put o.dst v') w'):bI P o a w K Q:=by
 obtain⟨v',w',hr,h2,h3,h4⟩:=rJ (P:=P) w base t o.type e i z size bytes ht hi hz D W Y aa v n xs U y m news hy h1 B ab O;unfold bI b';simp only[ho,b8,invoke,builtin,bZ,bY,ca,bm,bp,bq,hs,hx,hr];exact h v' w' h2 h3 h4
theorem MI:(prog.info? 237).map (λi=>(i.zero,i.size,i.bytes))=some (some (.agg #[.string ⟨#[]⟩,.string ⟨#[]⟩,.string ⟨#[]⟩,.int .i64 0,.int .i64 0]),5,64):=by kernel_rfl
theorem NI{x y z v:Value}{t:b2}{g:Nat}(B:g=w.heap.size):pA (w.alloc (.cells #[x,y,z,u,v] t)) 5 (.slice (some ⟨g,0,none⟩) 1 1) 1 [x,y,z,u,v]:=by
 subst B;refine⟨some ⟨w.heap.size,0,none⟩,1,rfl,bA _,by unfold b1; omega,rfl,λj u h=>⟨w.heap.size,0,rfl,?_⟩⟩;rw[bU _ _ _ _ rfl]
 match j,h with
 |0,h=>simpa using h
 |1,h=>simpa using h
 |2,h=>simpa using h
 |3,h=>simpa using h
 |4,h=>simpa using h
 |j+5,h=>simp at h
theorem rU{row:Option Nat}{k o:Nat}(B:w.grownBy w' row)(h:w.cell? ⟨k,o,none⟩=some u)(y:some k≠row):w'.cell? ⟨k,o,none⟩=some u:=by
 have hb:=B.block k (PQ h) y;simp only[World.cell?]at h⊢;rw[hb];exact h
theorem uq.Sh{B r:Nat}{es y:List gS}(h:uq w B r es y)(hb:Below w.heap.size w w'):uq w' B r es y:=iP.kept (row:=none) h ⟨hb.os,hb.tape,hb.output,hb.size,λk D _=>hb.block k D⟩ (by simp) (by simp)
theorem Jh(B:Nat)(es:List gS)(w:World)(hs:je w B es)(hl:es.length<=1048576)(ax:∀e∈es,e.text.length<=1099511627776) :
  b6 prog 133 #[.map (some B)] w λen w'=>∃v L,en=.returned v/\L.Perm (gR es)/\kT L/\wc w' v L/\Below w.heap.size w w':=by
 obtain⟨i0,hi,aE,aF,aG⟩:=b7 MI;have ay:=hs.nodup;have HS:bS (je _ _ _):=hs;have aH:bS ((es.map gS.name).Nodup):=ay;have aI:bS (∀e∈es,e.text.length<=1099511627776):=ax;have aU:=ir.lt hs;clear hs ay ax;go_enter func133,ntmps133;go_wp2_with (first|(at_range; refine mP _ rfl _ rfl rfl HS.out ?_; intro w1 hrg0 hg0 aV));go_frame;go_loopw [3] (λg wr=>∃(h ad:List gS),(h++ad).Perm es/\uq wr B w.heap.size es ad/\wr.ownsRow (w.heap.size+1) 237 5 g (gR h).length (l9 (gR h))/\Below w.heap.size w wr/\w.heap.size+1<=wr.heap.size) (λ_ wr=>wr.rangeLeft B w.heap.size)
 case atStart=>exact⟨[],es,List.Perm.refl _,hrg0,World.ownsRow_nil _ _ _ _,(bG _ _).grown hg0 (bA _) (λk hk=>by cases hk),by omega⟩
 case round=>
  obtain⟨h,ad,iS,hr,af,hb,hz⟩:=hrel;have HP:bS ((h++ad).Perm es):=iS;have HR:bS (uq _ _ _ _ _):=hr;obtain⟨ag,cg,rfl,aW⟩:=lS af;have HO:bS (wr.ownsRow (w.heap.size+1) 237 5 (.slice ag (gR h).length cg) (gR h).length (l9 (gR h))):=af;have HB:bS (Below _ _ _):=hb
  have aX:(gR h).length<=es.length:=by
   have h1:=pG h;have h2:=iS.length_eq;rw[be]at h2;omega
  clear iS hr hb af;go_wp2_with (first|(at_next; refine nK _ rfl _ rfl w.heap.size ad rfl HR.out ?_ ?_))
  .intro h0
   have hE:h.Perm es:=by
    have:=HP.out;rw[h0,bv]at this;exact this
   have az:=Kq (w.heap.size+1) ag cg (gR h) wr HO.out (by
    have h1:(h.map gS.name).Nodup:=(hE.map _).nodup_iff.2 aH.out
    exact h1.sublist (br.map _)) (by omega)
   have HE:bS ((gR h).Perm (gR es)):=xJ hE;clear h0 hE;go_wp2_with fail;refine az.mono ?_;rintro e2 w2 ⟨rfl,a0,L,a1,a2,a3⟩;have aJ:bS (Below w.heap.size w w2):=HB.out.trans (a0.mono (by omega));have HL:bS (L.Perm (gR es)):=a1.trans HE.out;have aK:bS (kT L):=a2;have aL:bS (wc _ _ _):=a3;clear az a0 a1 a2 a3;go_wp2;go_ret;exact⟨_,L,rfl,HL.out,aK.out,aL.out,aJ.out⟩
  .intro e Y w2 ap ai an aq aM aY;have a4:=iP.lt ai;have a5:=ir.lt (iP.owns ai);have a6:bS (Below w.heap.size w w2):=ox HB.out aq (bA _);have a7:bS (uq _ _ _ _ _):=ai;have a8:bS (w2.rangeLeft B w.heap.size<wr.rangeLeft B w.heap.size):=an;have a9:bS (ad.Perm (e::Y)):=ap;have U:bS (w2.ownsRow (w.heap.size+1) 237 5 (.slice ag (gR h).length cg) (gR h).length (l9 (gR h))):=kE HO.out (λk hk=>aq.block k (HO.out.lt k hk).2 (by have:=(HO.out.lt k hk).1; intro e; cases e; omega));have aj:=xV h e;have aN:e.text.length<=1099511627776:=aI.out e (HP.out.mem_iff.1 (List.mem_append_right _ (ap.mem_iff.2 (List.mem_cons_self ..))));have aT:w.heap.size+1<=w2.heap.size:=by omega
   clear ap ai an aq aM;obtain⟨W,gn,tx,wt,tg⟩:=e
   cases gn with
   |true=>
    have ar:bS (gR (h++[⟨W,true,tx,wt,tg⟩])=gR h):=by show _=_; rw[aj]; simp
    clear aj;go_wp2;go_roundw
    case rel=>
     exact⟨h++[⟨W,true,tx,wt,tg⟩],Y,lW HP.out a9.out,a7.out.alloc _,by rw[ar.out]; exact U.out.alloc _,a6.out.alloc (by omega) _,by simp; omega⟩
    case measure=>
     rw[lL a5 a4];exact a8.out
   |false=>
    have ar:bS (gR (h++[⟨W,false,tx,wt,tg⟩])=gR h++[⟨W,false,tx,wt,tg⟩]):=by show _=_; rw[aj]; simp
    clear aj;go_wp2_with fail;rw[show Bq ⟨W,false,tx,wt,tg⟩=W from rfl];obtain⟨wa,ak⟩:∃wa,wa=w2.alloc (.cells #[.bool false,.string ⟨W.toArray⟩,.string ⟨tx.toArray⟩,.int .i64 wt,.int .i64 tg] 111):=⟨_,rfl⟩;rw[<-ak];obtain⟨k,hk⟩:∃k,k=w2.heap.size:=⟨_,rfl⟩;rw[<-hk];have au:Below w2.heap.size w2 wa:=by rw[ak]; exact(bG _ _).alloc (bA _) _
    have ah:wa.heap[k]?=some (.cells #[.bool false,.string ⟨W.toArray⟩,.string ⟨tx.toArray⟩,.int .i64 wt,.int .i64 tg] 111 (0,0)):=by rw[ak,hk]; exact heap_alloc_new w2 _
    have hS:(λw':World=>w'.cell? ⟨k,1,none⟩=some (.string ⟨W.toArray⟩)/\w'.cell? ⟨k,2,none⟩=some (.string ⟨tx.toArray⟩)/\w'.cell? ⟨k,3,none⟩=some (.int .i64 wt)/\w'.cell? ⟨k,4,none⟩=some (.int .i64 tg)) wa.drew:=⟨by show wa.cell? _=_; rw[Ps ah]; rfl,by show wa.cell? _=_; rw[Ps ah]; rfl,by show wa.cell? _=_; rw[Ps ah]; rfl,by show wa.cell? _=_; rw[Ps ah]; rfl⟩;have av:=qV ⟨tx.toArray⟩ wa.drew (by show tx.toArray.size<=_; simpa using aN);change b6 _ _ _ _ (λe w'=>e=.returned (.string ⟨(iD tx).toArray⟩)/\Below wa.heap.size wa.drew w')at av;have aO:bS (k=w2.heap.size):=hk;clear ak ah hk;refine b4 (S:=λw'=>w'.cell? ⟨k,1,none⟩=some (.string ⟨W.toArray⟩)/\w'.cell? ⟨k,2,none⟩=some (.string ⟨tx.toArray⟩)/\w'.cell? ⟨k,3,none⟩=some (.int .i64 wt)/\w'.cell? ⟨k,4,none⟩=some (.int .i64 tg)) (by kernel_rfl) ?_;refine iV 0 ?_ hS ?_<|iV 1 ?_ hS ?_<|iV 2 ?_ hS ?_<|iV 3 ?_ hS ?_<|iV 5 ?_ hS ?_<|iV 6 ?_ hS ?_ ?_
    any_goals(rintro w' ⟨s0,s1,s2,s3⟩; go_simp; first|done|with_reducible rfl)
    refine bx (rs:=[4]) (by kernel_rfl) (by simp) ?_;intro i hi;simp only[bb]at hi;subst hi;refine bz (by rfl) λK' aa=>?_;rw[if_pos (by rfl)];unfold bI;go_simp;refine av.mono ?_;rintro e w3 ⟨rfl,y⟩;have ab:(λw':World=>w'.cell? ⟨k,1,none⟩=some (.string ⟨W.toArray⟩)/\w'.cell? ⟨k,2,none⟩=some (.string ⟨tx.toArray⟩)/\w'.cell? ⟨k,3,none⟩=some (.int .i64 wt)/\w'.cell? ⟨k,4,none⟩=some (.int .i64 tg)) w3:=⟨b0 y hS.1,b0 y hS.2.1,b0 y hS.2.2.1,b0 y hS.2.2.2⟩;refine aa _ _ ⟨ab,?_⟩;clear aa;refine iV 7 ?_ ab ?_ ?_;rotate_left
    .rintro w' ⟨s0,s1,s2,s3⟩; go_simp; first|done|with_reducible rfl
    refine bx (rs:=[8]) (by kernel_rfl) (by simp) ?_;intro i hi;simp only[bb]at hi;subst hi;refine bz (by rfl) λK' aa=>?_;rw[if_pos (by rfl)];unfold bI;go_simp;obtain⟨w4,al⟩:∃w4,w4=w3.alloc (.cells #[.string ⟨(iD tx).toArray⟩,.string ⟨W.toArray⟩,.string ⟨tx.toArray⟩,.int .i64 wt,.int .i64 tg] 237):=⟨_,rfl⟩;rw[<-al];have ac:Below w3.heap.size w3 w4:=by rw[al]; exact(bG _ _).alloc (bA _) _
    have a':pA w4 5 (.slice (some ⟨w3.heap.size,0,none⟩) 1 1) 1 (nB ⟨W,false,tx,wt,tg⟩):=by rw[al]; exact NI rfl
    have ae:(λw':World=>w'.cell? ⟨k,1,none⟩=some (.string ⟨W.toArray⟩)/\w'.cell? ⟨k,2,none⟩=some (.string ⟨tx.toArray⟩)/\w'.cell? ⟨k,3,none⟩=some (.int .i64 wt)/\w'.cell? ⟨k,4,none⟩=some (.int .i64 tg)) w4:=⟨b0 ac ab.1,b0 ac ab.2.1,b0 ac ab.2.2.1,b0 ac ab.2.2.2⟩;refine aa _ _ ⟨ae,?_⟩;clear aa;have aZ:wa.heap.size<=w3.heap.size:=y.size;have ba:=ac.size;have aP:=au.size
    have O:Below w2.heap.size w2 w4:=by
     have h1:Below wa.heap.size wa w3:=⟨y.os,y.tape,y.output,y.size,y.block⟩;exact(au.trans (h1.mono aP)).trans (ac.mono (by omega))
    have aA:w4.ownsRow (w.heap.size+1) 237 5 (.slice ag (gR h).length cg) (gR h).length (l9 (gR h)):=kE U.out (λj hj=>O.block j (U.out.lt j hj).2);have ao:Below w.heap.size w w4:=a6.out.trans (O.mono (by omega));clear al ac y;refine bx (rs:=[9]) (by kernel_rfl) (by simp) ?_;intro i aB;simp only[bb]at aB;subst aB;refine bz (by rfl) λK' aa=>?_;rw[if_pos (by rfl)];refine Bv _ _ _ 190 rfl (w.heap.size+1) 237 i0 _ 5 64 underlying190 hi aE aF aG rfl (by decide) _ _ _ rfl aA _ 1 _ rfl a' (Cp _) (by omega) (by unfold b1; omega) (by omega) ?_;intro v5 w5 aC D _;have am:some k≠(Value.slice ag (gR h).length cg).ownBlock:=λe=>by have:=(U.out.lt k e.symm).2; have:=aO.out; omega
    have aw:(λw':World=>w'.cell? ⟨k,1,none⟩=some (.string ⟨W.toArray⟩)/\w'.cell? ⟨k,2,none⟩=some (.string ⟨tx.toArray⟩)/\w'.cell? ⟨k,3,none⟩=some (.int .i64 wt)/\w'.cell? ⟨k,4,none⟩=some (.int .i64 tg)) w5:=⟨rU D ae.1 am,rU D ae.2.1 am,rU D ae.2.2.1 am,rU D ae.2.2.2 am⟩;refine aa _ _ ⟨aw,?_⟩;clear aa;refine iV 10 ?_ aw ?_ ?_;rotate_left
    .rintro w' ⟨s0,s1,s2,s3⟩; go_simp; first|done|with_reducible rfl
    refine b3 (by kernel_rfl) ?_ _;have bc:=D.size;have aQ:bS (Below w.heap.size w w5):=ao.grown D (by omega) (λb hb=>by have:=(U.out.lt b hb).1; omega);have aD:uq w4 B w.heap.size es Y:=a7.out.Sh O;have aR:bS (uq w5 B w.heap.size es Y):=iP.kept aD D (λe=>by have:=(U.out.lt B e.symm).1; omega) (λe=>by have:=(U.out.lt _ e.symm).1; omega)
    have aS:bS (w5.ownsRow (w.heap.size+1) 237 5 v5 (gR (h++[⟨W,false,tx,wt,tg⟩])).length (l9 (gR (h++[⟨W,false,tx,wt,tg⟩])))):=by
     show w5.ownsRow _ _ _ _ _ _;rw[ar.out,B4,be];exact aC
    have HL5:bS (w5.rangeLeft B w.heap.size<wr.rangeLeft B w.heap.size):=by
     show _<_;rw[iP.mJ (D.block B (by omega) (λe=>by have:=(U.out.lt B e.symm).1; omega)) (D.block w.heap.size (by omega) (λe=>by have:=(U.out.lt _ e.symm).1; omega)),iP.mJ (O.block B a5) (O.block _ a4)];exact a8.out
    clear aC D ao aA aD a' hS ab ae aw av au O;go_wp2;go_roundw
    case rel=>
     exact⟨_,_,_,_,_,_,_,_,_,_,_,_,_,_,_,_,_,_,_,⟨h++[⟨W,false,tx,wt,tg⟩],Y,lW HP.out a9.out,aR.out,aS.out,aQ.out,by omega⟩,rfl⟩
    case measure=>exact HL5.out
end
section
open Go.RowKit Go.Maps
theorem Hz{es L:List gS}(y:(es.map gS.name).Nodup)(B:L.Perm (gR es))(O:kT L):ix es=xq es++(io []++lz 26 0 L):=by
 have D:=P5 26 [] L O (λe _=>bu)
 have h:(L.map gS.name).Nodup:=by
  have:((gR es).map gS.name).Nodup:=y.sublist (br.map _);exact(B.map _).nodup_iff.2 this
 have U:jo L=(jo es).filter λe=>!e.gone:=by
  rw[rR,E0 h B];rfl
 rw[bn]at D;rw[D,U];unfold ix xq js;rw[bo,List.flatMap_map];simp
theorem MO(B:Nat)(es:List gS)(w:World)(hs:je w B es)(y:qn es) :
  b6 prog 91 #[.map (some B)] w λen w'=>en=.returned (.string ⟨(ix es).toArray⟩)/\Below w.heap.size w w':=by
 have an:=BQ y
 have ao:es.length<=130:=by
  have h1:=y.gone;have h2:=y.there;have h3:=np es;have h4:(gR es).length<=30:=h2;omega
 have aj:=y.nodup;have HS:bS (je _ _ _):=hs;have ac:bS (qn _):=y
 have hG:=A4 B es w hs (by omega) (by have:=y.gone; unfold kV; omega) (λe he hg=>by
  rcases y.each e he with h|h
  .rw[h.1]at hg; cases hg
  .have:=(lA h.2).2; omega)
 clear hs y;go_enter func91,ntmps91;go_wp2_with fail;refine hG.mono ?_;rintro e1 w1 ⟨v1,rfl,W,D⟩;obtain⟨a1,c1,rfl⟩:=W.form;have ad:bS (lj _ _ _ _):=W;have ae:bS (Below _ _ _):=D;have ak:=D.size
 have hL:=Jh B es w1 (ir.below HS.out D) (by omega) (λe he=>by
  rcases ac.out.each e he with h|h
  .have:=pJ h.2.2.1; omega
  .rw[h.1]; simp)
 clear hG W D;go_wp2_with fail;refine hL.mono ?_;rintro e2 w2 ⟨v2,L,rfl,O,Y,af,U⟩;have ag:bS (Below w.heap.size w w2):=ae.out.trans (U.mono ak);have aa:bS (lj w2 w.heap.size (.slice a1 (xq es).length c1) (xq es)):=ad.out.below U;have ap:=U.size;have ah:bS (ix es=xq es++(io []++lz 26 0 L)):=Hz aj O Y
 have hN:=R3 26 w.heap.size _ (xq es) ⟨#[]⟩ [] _ L w2 aa.out af (by omega) (λe he=>⟨by
   have hm:=O.mem_iff.1 he;unfold gR at hm;rw[List.mem_filter]at hm;rcases ac.out.each e hm.1 with h|h
   .exact h
   .have:=hm.2;rw[h.1]at this
    simp at this,bu⟩) Y (by
   have h1:=O.length_eq;have h2:=pG es
   omega) (by simp) (by simp) (by
   have h1:=congrArg List.length ah.out;rw[be]at h1;change (xq es).length+(io []++lz 26 0 L).length<=_
   omega) (bB _)
 change b6 _ _ #[_,.string ⟨#[]⟩,.int .i64 0,v2] _ (MP w.heap.size w2 _ (xq es) (io []++lz 26 0 L))at hN;clear hL U af ad ae O Y;go_wp2_with fail;refine hN.mono ?_;rintro e3 w3 ⟨v3,rfl,ab,ai⟩;have al:bS (Below w.heap.size w w3):=ai.low ag.out aa.out (bA _);rw[<-ah.out]at ab;have am:=He ab underlying60 underlying5 underlying9;clear hN ab ai aa ag;go_wp2;go_ret;exact⟨rfl,al.out⟩
end
section
open Go.RowKit Go.Maps
theorem mD{P:Program}(w:World){o:Oper}{a:Act}{K:Act->World->Prop}{Q:Exit->Act->World->Prop}(s x:Operand)(t:b2)
  (ho:o.op=.call {callee:=.builtin .append,args:=#[s,x],argTypes:=#[t,t]})
  (base:Nat) (e:b2) (i:TypeInfo) (z:Value) (bytes:Nat) (ht:P.underlying t=some (.slice e)) (hi:P.info? e=some i) (hz:i.zero=some z)
  (D:i.size=1) (W:i.bytes=bytes) (Y:z.cells.size=1)
  (v:Value) (n:Nat) (xs:List Value) (hs:a.eval s=v) (U:w.ownsRow base e 1 v n xs)
  (y:Value) (news:List Value) (hx:a.eval x=y) (hy:Rd w y news) (h1:∀u∈news,u.oneCell'=true)
  (B:(n+news.length)*bytes<=140737488355328) (aa:n+news.length<=b1) (O:base<=w.heap.size)
  (h:∀v' w',w'.ownsRow base e 1 v' (n+news.length) (xs++news)->w.grownBy w' v.ownBlock->(v'.ownBlock=v.ownBlock\/v'.ownBlock=some w.heap.size)->K (a.put o.dst v') w'):bI P o a w K Q:=by
 obtain⟨v',w',hr,h2,h3,h4⟩:=s6 (P:=P) w base t o.type e i z bytes ht hi hz D W Y v n xs U y news hy h1 B aa O;unfold bI b';simp only[ho,b8,invoke,builtin,bZ,bY,ca,bm,bp,bq,hs,hx,hr];exact h v' w' h2 h3 h4
def jd(es:List gS):List Wd:=if 0<es.length then [ix es]else []
theorem yG(B:Nat)(es:List gS)(w:World)(U:je w B es)(y:0<es.length->qn es) :
  b6 prog 63 #[.map (some B)] w λen w'=>∃v,en=.returned v/\Rd w' v (gQ (jd es))/\Below w.heap.size w w':=by
 have h:=λ(ty:b2)=>ir.len U bQ ty;rw[bo]at h;by_cases O:0<es.length
 .have W:bS (jd es=[ix es]):=by show jd es=_; unfold jd; rw[if_pos O]
  have Y:=MO B es w U (y O);have D:((es.length:Int)==0)=false:=beq_eq_false_iff_ne.2 (by omega);clear U y O;go_enter func63,ntmps63;go_wp2_with fail;refine Y.mono ?_;rintro e w1 ⟨rfl,hb⟩;have HB:bS (Below _ _ _):=hb;have hz:=hb.size;clear Y hb;go_wp2;go_ret;refine⟨_,rfl,?_,HB.out.alloc hz _⟩;rw[W.out];exact Rd.one ki
 .have W:bS (jd es=[]):=by show jd es=_; unfold jd; rw[if_neg O]
  have D:es.length=0:=by omega
  rw[D]at h;clear U y O D;go_enter func63,ntmps63;go_wp2;go_ret;refine⟨_,rfl,?_,bG _ _⟩;rw[W.out];exact Rd.Hb rfl (by unfold b1; omega)
end
section
open Go.RowKit Go.Maps
variable {ss':List (List gS)} {Bb b:Nat} {F:Nat->Prop} {v' vK vM:Value} {w:World}
theorem FA.nv{w2 w3:World}{W:List gS}{ss:List (List gS)}{vS:Value}(U:FA w F b W ss Bb vS vM vK)(hF:∀k,F k->k<w.heap.size)(hb:Below w.heap.size w w2)
  (hg:gV (λk=>vS.ownBlock=some k) w2 w3) (y:w3.ownsRow 0 9 1 v' ss'.length (gQ (ss'.map ix))) (hv:∀k,v'.ownBlock=some k->vS.ownBlock=some k\/w2.heap.size<=k) :
  (w3.setCell ⟨b,1,none⟩ v').heap[b]?=some (.cells #[.map (some Bb),v',vM,vK] 90 (0,0))/\je (w3.setCell ⟨b,1,none⟩ v') Bb W/\(w3.setCell ⟨b,1,none⟩ v').ownsRow 0 9 1 v' ss'.length (gQ (ss'.map ix))/\
   gV F w (w3.setCell ⟨b,1,none⟩ v')/\(∀k,v'.ownBlock=some k->(F k\/w.heap.size<=k)/\k<w3.heap.size):=by
 have aa:w2.heap[b]?=some (.cells #[.map (some Bb),vS,vM,vK] 90 (0,0)):=by rw[hb.block b (hF b U.fb)]; exact U.blk
 have ad:b<w2.heap.size:=iN aa;have ae:Bb<w2.heap.size:=bE (hF Bb U.fB) hb.size;have B:w2.ownsRow 0 9 1 vS ss.length (gQ (ss.map ix)):=iB U.row (λk Y=>hb.block k (hF k (U.mo k Y)));have D:je w2 Bb W:=ir.stay U.say (hb.block Bb (hF Bb U.fB));have ab:w3.heap[b]?=some (.cells #[.map (some Bb),vS,vM,vK] 90 (0,0)):=by rw[hg.block b ad (nu aa B (by decide))]; exact aa
 have O:je w3 Bb W:=ir.stay D (hg.block Bb ae (λe=>rM B D e.symm));have ac:∀k,k≠b->(w3.setCell ⟨b,1,none⟩ v').heap[k]?=w3.heap[k]?:=λk Y=>bH _ _ _ _ (λe=>Y e);refine⟨by rw[heap_set ab]; rfl,ir.stay O (ac Bb (λe=>ir.pK O ab e)),iB y (λk Y=>ac k (λe=>nu ab y (by decide) (by rw[Y,e]))),?_,λk Y=>⟨?_,(y.lt k Y).2⟩⟩
 .exact((gV.jk hb).trans hg (λi _ hi=>U.mo i hi)).then (n9 U.fb)
 .rcases hv k Y with h|h
  .exact Or.inl (U.mo k h)
  .exact Or.inr (Nat.le_trans hb.size h)
def l8(ss:List (List gS))(l:List gS):List (List gS):=if 0<l.length then ss++[l]else ss
theorem rP(ss:List (List gS))(l:List gS):(l8 ss l).length=ss.length+(gQ (jd l)).length:=by
 unfold l8 jd;split<;>simp[gQ]
theorem qi(ss:List (List gS))(l:List gS):gQ ((l8 ss l).map ix)=gQ (ss.map ix)++gQ (jd l):=by
 unfold l8 jd;split<;>simp[gQ]
theorem kO(es:List gS):(jd es).length<=1:=by unfold jd; split<;>simp
theorem gV.tk{w':World}{o:Option Nat}(h:w.grownBy w' o):gV (λk=>o=some k) w w':=⟨h.os,h.tape,h.output,h.size,λk y B=>h.block k y (λe=>B e.symm)⟩
theorem rW{w4:World}(fb:F b)(O:w4.heap[b]?=some (.cells #[.map (some Bb),v',vM,vK] 90 (0,0)))
  (p3:w4.ownsRow 0 9 1 v' ss'.length (gQ (ss'.map ix))) (p4:gV F w w4) (U:∀k,v'.ownBlock=some k->(F k\/w.heap.size<=k)/\k<w4.heap.size) (hi:Inv [] ss') :
  ∃F':Nat->Prop,we vM vK ((w4.alloc (.map #[] 0)).setCell ⟨b,0,none⟩ (.map (some w4.heap.size))) F' b [] ss'/\(∀k,F' k->F k\/w.heap.size<=k)/\gV F w ((w4.alloc (.map #[] 0)).setCell ⟨b,0,none⟩ (.map (some w4.heap.size))):=by
 have y:Below w4.heap.size w4 (w4.alloc (.map #[] 0)):=(bG _ _).alloc (bA _) _;have W:je (w4.alloc (.map #[] 0)) w4.heap.size []:=ir.made w4;have Y:(w4.alloc (.map #[] 0)).heap.size=w4.heap.size+1:=by simp
 generalize (w4.alloc (.map #[] 0))=B at *;have aa:=iN O;have ab:B.heap[b]?=some (.cells #[.map (some Bb),v',vM,vK] 90 (0,0)):=by rw[y.block b aa]; exact O
 have D:∀k,k≠b->(B.setCell ⟨b,0,none⟩ (.map (some w4.heap.size))).heap[k]?=B.heap[k]?:=λk h=>bH _ _ _ _ (λe=>h e);have ac:(B.setCell ⟨b,0,none⟩ (.map (some w4.heap.size))).heap.size=B.heap.size:=by simp[bT]
 refine⟨λk=>(F k\/w.heap.size<=k)/\k<w4.heap.size+1,⟨λk h=>by rw[ac,Y]; exact h.2,w4.heap.size,v',?_⟩,λk h=>h.1,?_⟩
 .exact {
   blk:=by rw[heap_set ab]; rfl
   fb:=⟨Or.inl fb,by omega⟩,fB:=⟨Or.inr p4.size,by omega⟩,say:=ir.stay W (D _ (by omega)),row:=iB p3 (λk h=>by rw[D k (λe=>nu O p3 (by decide) (by rw[h,e])),y.block k (U k h).2]),mo:=λk h=>⟨(U k h).1,by have:=(U k h).2; omega⟩
   inv:=hi}
 .exact(p4.then (gV.jk y)).then (n9 fb)
theorem OJ(w:World)(F:Nat->Prop)(b:Nat)(y:List gS)(ss:List (List gS))(hP:we vM vK w F b y ss) :
  b6 prog 29 #[.pointer (some ⟨b,0,none⟩)] w λe w'=>e=.returned (.int .i64 (kF y ss).1)/\
   ∃F':Nat->Prop,we vM vK w' F' b (kF y ss).2.1 (kF y ss).2.2/\(∀k,F' k->F k\/w.heap.size<=k)/\gV F w w':=by
 have HP:bS (we _ _ _ _ _ _ _):=hP;obtain⟨i9,a0,a1,a2,a4⟩:=b7 tW;have aH:=@run_makeMap prog;obtain⟨hF,Bb,vS,hE⟩:=hP;obtain⟨aS,cS,rfl,aI⟩:=ib hE.row;have HE:bS (FA _ _ _ _ _ _ _ _ _):=hE;have HF:bS (∀k,F k->k<w.heap.size):=hF;have aJ:w.cell? ⟨b,0,none⟩=some (.map (some Bb)):=by rw[Ps hE.blk]; rfl
 have aG:w.cell? ⟨b,1,none⟩=some (.slice aS ss.length cS):=by rw[Ps hE.blk]; rfl
 have aK:w.frozen? ⟨b,1,none⟩=false:=Ue hE.blk 1;have aw:=λ(ty:b2)=>ir.len hE.say bQ ty;rw[bo]at aw;have h6:=hE.inv.yE;have HI:bS (Inv (kF y ss).2.1 (kF y ss).2.2):=LP hE.inv;have aL:=tj hE.inv;have a5:=hF b hE.fb;clear hF hE;by_cases h0:y.length=0
 .have HU:bS (kF y ss=(5,y,ss)):=by show kF _ _=_; unfold kF; rw[if_pos h0]
  rw[h0]at aw;clear h0;go_enter bP,bO;go_wp2;go_ret;refine⟨iJ (by rw[HU.out]; rfl),F,?_,λk hk=>Or.inl hk,gV.refl _ _⟩;rw[HU.out];exact HP.out
 .have aC:((y.length:Int)==0)=false:=beq_eq_false_iff_ne.2 (by omega);by_cases ax:6<=ss.length
  .have HU:bS (kF y ss=(4,y,ss)):=by show kF _ _=_; unfold kF; rw[if_neg h0,if_pos ax]
   have a6:(6:Int)<=(ss.length:Int):=by omega
   clear h0 ax;go_enter bP,bO;go_wp2;go_ret;refine⟨iJ (by rw[HU.out]; rfl),F,?_,λk hk=>Or.inl hk,gV.refl _ _⟩;rw[HU.out];exact HP.out
  .have HU:bS (kF y ss=(0,[],if 0<(lm y ss).length then ss++[lm y ss]else ss)):=by show kF _ _=_; unfold kF; rw[if_neg h0,if_neg ax]
   have a6:¬(6:Int)<=(ss.length:Int):=by omega
   have aD:bS (0<(lm y ss).length->qn (lm y ss)):=by
    intro hp;have hi:=HI.out;rw[HU.out]at hi;simp only[if_pos hp]at hi;exact hi.nv _ (by simp)
   clear h0;by_cases a7:ss.length=0
   .have ay:bS (lm y ss=gR y):=by show lm _ _=_; unfold lm; rw[if_pos a7]
    have az:((ss.length:Int)==0)=true:=beq_iff_eq.2 (by omega);have aE:=sW Bb y w HE.out.say (by omega) (λe he=>BI HE.out.inv y (by simp) e he);have ah:bS (kF y ss=(0,[],l8 ss (gR y))):=by show kF _ _=_; rw[HU.out,ay.out]; rfl
    have ap:bS (Inv [] (l8 ss (gR y))):=by have:=HI.out; rw[ah.out]at this; exact this
    clear ax a7;go_enter bP,bO;go_wp2_with fail;refine aE.mono ?_;rintro e w1 ⟨C,rfl,hC,aF,aq⟩;have ao:bS (Below w.heap.size w w1.drew):=⟨aq.os,aq.tape,aq.output,aq.size,aq.block⟩;have aM:w1.cell? ⟨b,1,none⟩=some (.slice aS ss.length cS):=b0 aq aG;have an:=yG C (gR y) w1.drew aF (by rw[<-ay.out]; exact aD.out);clear aE aF aq;go_wp2_with fail;clear aw aC a6 az;refine b4 (S:=λw'=>True) (by kernel_rfl) ?_;refine iV 0 ?_ trivial ?_<|iV 1 ?_ trivial ?_<|iV 2 ?_ trivial ?_<|iV 3 ?_ trivial ?_<|iV 5 ?_ trivial ?_ ?_
    any_goals(rintro w' _; go_simp; first|done|with_reducible rfl)
    refine bx (rs:=[4,6]) (by kernel_rfl) (by simp) ?_;intro i hi;simp only[bw,bt,or_false]at hi;rcases hi with rfl|rfl
    .refine bz (by rfl) λK' B=>?_;rw[if_pos (by rfl)];unfold bI;go_simp;refine B _ _ ⟨trivial,?_⟩;clear B;refine bx (rs:=[6]) (by kernel_rfl) (by simp) ?_;intro i hi;simp only[bb]at hi;subst hi;refine bz (by rfl) λK' B=>?_;rw[if_pos (by rfl)];unfold bI;go_simp;refine an.mono ?_;rintro e w2 ⟨v2,rfl,ai,aj⟩;have D:Below w.heap.size w w2:=ao.out.trans (aj.mono ao.out.size);have a8:=D.size;have O:w2.heap[b]?=some (.cells #[.map (some Bb),.slice aS ss.length cS,vM,vK] 90 (0,0)):=by rw[D.block b a5]; exact HE.out.blk
     have aa:w2.ownsRow 0 9 1 (.slice aS ss.length cS) ss.length (gQ (ss.map ix)):=iB HE.out.row (λk hk=>D.block k (HF.out k (HE.out.mo k hk)));have a9:w2.cell? ⟨b,1,none⟩=some (.slice aS ss.length cS):=by rw[Ps O]; rfl
     refine B _ _ ⟨trivial,?_⟩;clear B an aj;refine bx (rs:=[7]) (by kernel_rfl) (by simp) ?_;intro i ak;simp only[bb]at ak;subst ak;refine bz (by rfl) λK' B=>?_;rw[if_pos (by rfl)];refine mD _ _ _ 31 rfl 0 9 i9 (.string ⟨#[]⟩) 16 bN a0 a1 a2 a4 rfl _ _ _ rfl aa _ _ rfl ai kX ?c1 ?c2 (bB _) ?_
     case c1=>rw[gY]; have:=kO (gR y); omega
     case c2=>rw[gY]; have:=kO (gR y); unfold b1; omega
     intro v3 w3 ab ac al;obtain⟨a3,c3,rfl,a'⟩:=ib ab;have ad:w3.heap[b]?=some (.cells #[.map (some Bb),.slice aS ss.length cS,vM,vK] 90 (0,0)):=by rw[ac.block b (iN O) (λe=>nu O aa (by decide) e.symm)]; exact O
     refine B _ _ ⟨trivial,?_⟩;clear B
     have U:w3.ownsRow 0 9 1 (.slice a3 (ss.length+(gQ (jd (gR y))).length) c3) (l8 ss (gR y)).length (gQ ((l8 ss (gR y)).map ix)):=by
      rw[qi,rP];exact ab
     have W:=HE.out.nv HF.out D (gV.tk ac) U (λk hk=>by
      rcases al with h|h
      .exact Or.inl (h.symm.trans hk)
      .have ar:=h.symm.trans hk; cases ar; exact Or.inr (bA _))
     refine iV 8 ?_ trivial ?_<|iV 9 ?_ trivial ?_ ?_
     any_goals(rintro w' _; go_simp; first|done|with_reducible rfl)
     have au:w3.cell? ⟨b,1,none⟩=some (.slice aS ss.length cS):=by rw[Ps ad]; rfl
     have av:w3.frozen? ⟨b,1,none⟩=false:=Ue ad 1;clear ab ac al U ad aa ai O D;refine bx (rs:=[10]) (by kernel_rfl) (by simp) ?_;intro i hi;simp only[bb]at hi;subst hi;refine bz (by rfl) λK' B=>?_;rw[if_pos (by rfl)];unfold bI;go_simp;refine B _ _ ⟨trivial,b3 (by kernel_rfl) ?_ _⟩;clear B au av;obtain⟨w4,ae⟩:∃w4,w4=w3.setCell ⟨b,1,none⟩ (.slice a3 (ss.length+(gQ (jd (gR y))).length) c3):=⟨_,rfl⟩;have am:w4.heap.size=w3.heap.size:=by rw[ae]; simp[bT]
     rw[<-ae]at W⊢;obtain⟨p1,p2,p3,p4,p5⟩:=W;rw[<-am]at p5;have Y:=rW HE.out.fb p1 p3 p4 p5 ap.out;have af:(w4.alloc (.map #[] 0)).heap[b]?=some (.cells #[.map (some Bb),.slice a3 (ss.length+(gQ (jd (gR y))).length) c3,vM,vK] 90 (0,0)):=by rw[bF _ _ _ (iN p1)]; exact p1
     have aA:(w4.alloc (.map #[] 0)).cell? ⟨b,0,none⟩=some (.map (some Bb)):=by rw[Ps af]; rfl
     have aB:(w4.alloc (.map #[] 0)).frozen? ⟨b,0,none⟩=false:=Ue af 0;have ag:bS (∃F':Nat->Prop,we vM vK ((w4.alloc (.map #[] 0)).setCell ⟨b,0,none⟩ (.map (some w4.heap.size))) F' b [] (l8 ss (gR y))/\(∀k,F' k->F k\/w.heap.size<=k)/\gV F w ((w4.alloc (.map #[] 0)).setCell ⟨b,0,none⟩ (.map (some w4.heap.size)))):=Y;clear ae am p1 p2 p3 p4 p5 Y af;go_wp2;go_ret;refine⟨iJ (by rw[ah.out]; rfl),?_⟩;rw[ah.out];exact ag.out
    .refine bz (by rfl) λK' B=>?_;rw[if_pos (by rfl)];unfold bI;go_simp;refine an.mono ?_;rintro e w2 ⟨v2,rfl,ai,aj⟩;have D:Below w.heap.size w w2:=ao.out.trans (aj.mono ao.out.size);have a8:=D.size;have O:w2.heap[b]?=some (.cells #[.map (some Bb),.slice aS ss.length cS,vM,vK] 90 (0,0)):=by rw[D.block b a5]; exact HE.out.blk
     have aa:w2.ownsRow 0 9 1 (.slice aS ss.length cS) ss.length (gQ (ss.map ix)):=iB HE.out.row (λk hk=>D.block k (HF.out k (HE.out.mo k hk)));have a9:w2.cell? ⟨b,1,none⟩=some (.slice aS ss.length cS):=by rw[Ps O]; rfl
     refine B _ _ ⟨trivial,?_⟩;clear B an aj;refine bx (rs:=[4]) (by kernel_rfl) (by simp) ?_;intro i hi;simp only[bb]at hi;subst hi;refine bz (by rfl) λK' B=>?_;rw[if_pos (by rfl)];unfold bI;go_simp;refine B _ _ ⟨trivial,?_⟩;clear B;refine bx (rs:=[7]) (by kernel_rfl) (by simp) ?_;intro i ak;simp only[bb]at ak;subst ak;refine bz (by rfl) λK' B=>?_;rw[if_pos (by rfl)];refine mD _ _ _ 31 rfl 0 9 i9 (.string ⟨#[]⟩) 16 bN a0 a1 a2 a4 rfl _ _ _ rfl aa _ _ rfl ai kX ?c1 ?c2 (bB _) ?_
     case c1=>rw[gY]; have:=kO (gR y); omega
     case c2=>rw[gY]; have:=kO (gR y); unfold b1; omega
     intro v3 w3 ab ac al;obtain⟨a3,c3,rfl,a'⟩:=ib ab;have ad:w3.heap[b]?=some (.cells #[.map (some Bb),.slice aS ss.length cS,vM,vK] 90 (0,0)):=by rw[ac.block b (iN O) (λe=>nu O aa (by decide) e.symm)]; exact O
     refine B _ _ ⟨trivial,?_⟩;clear B
     have U:w3.ownsRow 0 9 1 (.slice a3 (ss.length+(gQ (jd (gR y))).length) c3) (l8 ss (gR y)).length (gQ ((l8 ss (gR y)).map ix)):=by
      rw[qi,rP];exact ab
     have W:=HE.out.nv HF.out D (gV.tk ac) U (λk hk=>by
      rcases al with h|h
      .exact Or.inl (h.symm.trans hk)
      .have ar:=h.symm.trans hk; cases ar; exact Or.inr (bA _))
     refine iV 8 ?_ trivial ?_<|iV 9 ?_ trivial ?_ ?_
     any_goals(rintro w' _; go_simp; first|done|with_reducible rfl)
     have au:w3.cell? ⟨b,1,none⟩=some (.slice aS ss.length cS):=by rw[Ps ad]; rfl
     have av:w3.frozen? ⟨b,1,none⟩=false:=Ue ad 1;clear ab ac al U ad aa ai O D;refine bx (rs:=[10]) (by kernel_rfl) (by simp) ?_;intro i hi;simp only[bb]at hi;subst hi;refine bz (by rfl) λK' B=>?_;rw[if_pos (by rfl)];unfold bI;go_simp;refine B _ _ ⟨trivial,b3 (by kernel_rfl) ?_ _⟩;clear B au av;obtain⟨w4,ae⟩:∃w4,w4=w3.setCell ⟨b,1,none⟩ (.slice a3 (ss.length+(gQ (jd (gR y))).length) c3):=⟨_,rfl⟩;have am:w4.heap.size=w3.heap.size:=by rw[ae]; simp[bT]
     rw[<-ae]at W⊢;obtain⟨p1,p2,p3,p4,p5⟩:=W;rw[<-am]at p5;have Y:=rW HE.out.fb p1 p3 p4 p5 ap.out;have af:(w4.alloc (.map #[] 0)).heap[b]?=some (.cells #[.map (some Bb),.slice a3 (ss.length+(gQ (jd (gR y))).length) c3,vM,vK] 90 (0,0)):=by rw[bF _ _ _ (iN p1)]; exact p1
     have aA:(w4.alloc (.map #[] 0)).cell? ⟨b,0,none⟩=some (.map (some Bb)):=by rw[Ps af]; rfl
     have aB:(w4.alloc (.map #[] 0)).frozen? ⟨b,0,none⟩=false:=Ue af 0;have ag:bS (∃F':Nat->Prop,we vM vK ((w4.alloc (.map #[] 0)).setCell ⟨b,0,none⟩ (.map (some w4.heap.size))) F' b [] (l8 ss (gR y))/\(∀k,F' k->F k\/w.heap.size<=k)/\gV F w ((w4.alloc (.map #[] 0)).setCell ⟨b,0,none⟩ (.map (some w4.heap.size)))):=Y;clear ae am p1 p2 p3 p4 p5 Y af;go_wp2;go_ret;refine⟨iJ (by rw[ah.out]; rfl),?_⟩;rw[ah.out];exact ag.out
   .have ay:bS (lm y ss=y):=by show lm _ _=_; unfold lm; rw[if_neg a7]
    have az:((ss.length:Int)==0)=false:=beq_eq_false_iff_ne.2 (by omega);have an:=yG Bb y w.drew HE.out.say (by rw[<-ay.out]; exact aD.out);change b6 _ _ _ _ (λen w'=>∃v,en=.returned v/\Rd w' v (gQ (jd y))/\Below w.heap.size w.drew w')at an;clear ax;go_enter bP,bO;go_wp2_with fail;clear aw aC a6 az;have ah:bS (kF y ss=(0,[],l8 ss y)):=by show kF _ _=_; rw[HU.out,ay.out]; rfl
    have ap:bS (Inv [] (l8 ss y)):=by have:=HI.out; rw[ah.out]at this; exact this
    have ao:bS (Below w.heap.size w w.drew):=⟨rfl,rfl,rfl,bA _,λ_ _=>rfl⟩;refine b4 (S:=λw'=>True) (by kernel_rfl) ?_;refine iV 0 ?_ trivial ?_<|iV 1 ?_ trivial ?_<|iV 2 ?_ trivial ?_<|iV 3 ?_ trivial ?_<|iV 5 ?_ trivial ?_ ?_
    any_goals(rintro w' _; go_simp; first|done|with_reducible rfl)
    refine bx (rs:=[4,6]) (by kernel_rfl) (by simp) ?_;intro i hi;simp only[bw,bt,or_false]at hi;rcases hi with rfl|rfl
    .refine bz (by rfl) λK' B=>?_;rw[if_pos (by rfl)];unfold bI;go_simp;refine B _ _ ⟨trivial,?_⟩;clear B;refine bx (rs:=[6]) (by kernel_rfl) (by simp) ?_;intro i hi;simp only[bb]at hi;subst hi;refine bz (by rfl) λK' B=>?_;rw[if_pos (by rfl)];unfold bI;go_simp;refine an.mono ?_;rintro e w2 ⟨v2,rfl,ai,aj⟩;have D:Below w.heap.size w w2:=ao.out.trans (aj.mono ao.out.size);have a8:=D.size;have O:w2.heap[b]?=some (.cells #[.map (some Bb),.slice aS ss.length cS,vM,vK] 90 (0,0)):=by rw[D.block b a5]; exact HE.out.blk
     have aa:w2.ownsRow 0 9 1 (.slice aS ss.length cS) ss.length (gQ (ss.map ix)):=iB HE.out.row (λk hk=>D.block k (HF.out k (HE.out.mo k hk)));have a9:w2.cell? ⟨b,1,none⟩=some (.slice aS ss.length cS):=by rw[Ps O]; rfl
     refine B _ _ ⟨trivial,?_⟩;clear B an aj;refine bx (rs:=[7]) (by kernel_rfl) (by simp) ?_;intro i ak;simp only[bb]at ak;subst ak;refine bz (by rfl) λK' B=>?_;rw[if_pos (by rfl)];refine mD _ _ _ 31 rfl 0 9 i9 (.string ⟨#[]⟩) 16 bN a0 a1 a2 a4 rfl _ _ _ rfl aa _ _ rfl ai kX ?c1 ?c2 (bB _) ?_
     case c1=>rw[gY]; have:=kO (y); omega
     case c2=>rw[gY]; have:=kO (y); unfold b1; omega
     intro v3 w3 ab ac al;obtain⟨a3,c3,rfl,a'⟩:=ib ab;have ad:w3.heap[b]?=some (.cells #[.map (some Bb),.slice aS ss.length cS,vM,vK] 90 (0,0)):=by rw[ac.block b (iN O) (λe=>nu O aa (by decide) e.symm)]; exact O
     refine B _ _ ⟨trivial,?_⟩;clear B
     have U:w3.ownsRow 0 9 1 (.slice a3 (ss.length+(gQ (jd (y))).length) c3) (l8 ss (y)).length (gQ ((l8 ss (y)).map ix)):=by
      rw[qi,rP];exact ab
     have W:=HE.out.nv HF.out D (gV.tk ac) U (λk hk=>by
      rcases al with h|h
      .exact Or.inl (h.symm.trans hk)
      .have ar:=h.symm.trans hk; cases ar; exact Or.inr (bA _))
     refine iV 8 ?_ trivial ?_<|iV 9 ?_ trivial ?_ ?_
     any_goals(rintro w' _; go_simp; first|done|with_reducible rfl)
     have au:w3.cell? ⟨b,1,none⟩=some (.slice aS ss.length cS):=by rw[Ps ad]; rfl
     have av:w3.frozen? ⟨b,1,none⟩=false:=Ue ad 1;clear ab ac al U ad aa ai O D;refine bx (rs:=[10]) (by kernel_rfl) (by simp) ?_;intro i hi;simp only[bb]at hi;subst hi;refine bz (by rfl) λK' B=>?_;rw[if_pos (by rfl)];unfold bI;go_simp;refine B _ _ ⟨trivial,b3 (by kernel_rfl) ?_ _⟩;clear B au av;obtain⟨w4,ae⟩:∃w4,w4=w3.setCell ⟨b,1,none⟩ (.slice a3 (ss.length+(gQ (jd (y))).length) c3):=⟨_,rfl⟩;have am:w4.heap.size=w3.heap.size:=by rw[ae]; simp[bT]
     rw[<-ae]at W⊢;obtain⟨p1,p2,p3,p4,p5⟩:=W;rw[<-am]at p5;have Y:=rW HE.out.fb p1 p3 p4 p5 ap.out;have af:(w4.alloc (.map #[] 0)).heap[b]?=some (.cells #[.map (some Bb),.slice a3 (ss.length+(gQ (jd (y))).length) c3,vM,vK] 90 (0,0)):=by rw[bF _ _ _ (iN p1)]; exact p1
     have aA:(w4.alloc (.map #[] 0)).cell? ⟨b,0,none⟩=some (.map (some Bb)):=by rw[Ps af]; rfl
     have aB:(w4.alloc (.map #[] 0)).frozen? ⟨b,0,none⟩=false:=Ue af 0;have ag:bS (∃F':Nat->Prop,we vM vK ((w4.alloc (.map #[] 0)).setCell ⟨b,0,none⟩ (.map (some w4.heap.size))) F' b [] (l8 ss (y))/\(∀k,F' k->F k\/w.heap.size<=k)/\gV F w ((w4.alloc (.map #[] 0)).setCell ⟨b,0,none⟩ (.map (some w4.heap.size)))):=Y;clear ae am p1 p2 p3 p4 p5 Y af;go_wp2;go_ret;refine⟨iJ (by rw[ah.out]; rfl),?_⟩;rw[ah.out];exact ag.out
    .refine bz (by rfl) λK' B=>?_;rw[if_pos (by rfl)];unfold bI;go_simp;refine an.mono ?_;rintro e w2 ⟨v2,rfl,ai,aj⟩;have D:Below w.heap.size w w2:=ao.out.trans (aj.mono ao.out.size);have a8:=D.size;have O:w2.heap[b]?=some (.cells #[.map (some Bb),.slice aS ss.length cS,vM,vK] 90 (0,0)):=by rw[D.block b a5]; exact HE.out.blk
     have aa:w2.ownsRow 0 9 1 (.slice aS ss.length cS) ss.length (gQ (ss.map ix)):=iB HE.out.row (λk hk=>D.block k (HF.out k (HE.out.mo k hk)));have a9:w2.cell? ⟨b,1,none⟩=some (.slice aS ss.length cS):=by rw[Ps O]; rfl
     refine B _ _ ⟨trivial,?_⟩;clear B an aj;refine bx (rs:=[4]) (by kernel_rfl) (by simp) ?_;intro i hi;simp only[bb]at hi;subst hi;refine bz (by rfl) λK' B=>?_;rw[if_pos (by rfl)];unfold bI;go_simp;refine B _ _ ⟨trivial,?_⟩;clear B;refine bx (rs:=[7]) (by kernel_rfl) (by simp) ?_;intro i ak;simp only[bb]at ak;subst ak;refine bz (by rfl) λK' B=>?_;rw[if_pos (by rfl)];refine mD _ _ _ 31 rfl 0 9 i9 (.string ⟨#[]⟩) 16 bN a0 a1 a2 a4 rfl _ _ _ rfl aa _ _ rfl ai kX ?c1 ?c2 (bB _) ?_
     case c1=>rw[gY]; have:=kO (y); omega
     case c2=>rw[gY]; have:=kO (y); unfold b1; omega
     intro v3 w3 ab ac al;obtain⟨a3,c3,rfl,a'⟩:=ib ab;have ad:w3.heap[b]?=some (.cells #[.map (some Bb),.slice aS ss.length cS,vM,vK] 90 (0,0)):=by rw[ac.block b (iN O) (λe=>nu O aa (by decide) e.symm)]; exact O
     refine B _ _ ⟨trivial,?_⟩;clear B
     have U:w3.ownsRow 0 9 1 (.slice a3 (ss.length+(gQ (jd (y))).length) c3) (l8 ss (y)).length (gQ ((l8 ss (y)).map ix)):=by
      rw[qi,rP];exact ab
     have W:=HE.out.nv HF.out D (gV.tk ac) U (λk hk=>by
      rcases al with h|h
      .exact Or.inl (h.symm.trans hk)
      .have ar:=h.symm.trans hk; cases ar; exact Or.inr (bA _))
     refine iV 8 ?_ trivial ?_<|iV 9 ?_ trivial ?_ ?_
     any_goals(rintro w' _; go_simp; first|done|with_reducible rfl)
     have au:w3.cell? ⟨b,1,none⟩=some (.slice aS ss.length cS):=by rw[Ps ad]; rfl
     have av:w3.frozen? ⟨b,1,none⟩=false:=Ue ad 1;clear ab ac al U ad aa ai O D;refine bx (rs:=[10]) (by kernel_rfl) (by simp) ?_;intro i hi;simp only[bb]at hi;subst hi;refine bz (by rfl) λK' B=>?_;rw[if_pos (by rfl)];unfold bI;go_simp;refine B _ _ ⟨trivial,b3 (by kernel_rfl) ?_ _⟩;clear B au av;obtain⟨w4,ae⟩:∃w4,w4=w3.setCell ⟨b,1,none⟩ (.slice a3 (ss.length+(gQ (jd (y))).length) c3):=⟨_,rfl⟩;have am:w4.heap.size=w3.heap.size:=by rw[ae]; simp[bT]
     rw[<-ae]at W⊢;obtain⟨p1,p2,p3,p4,p5⟩:=W;rw[<-am]at p5;have Y:=rW HE.out.fb p1 p3 p4 p5 ap.out;have af:(w4.alloc (.map #[] 0)).heap[b]?=some (.cells #[.map (some Bb),.slice a3 (ss.length+(gQ (jd (y))).length) c3,vM,vK] 90 (0,0)):=by rw[bF _ _ _ (iN p1)]; exact p1
     have aA:(w4.alloc (.map #[] 0)).cell? ⟨b,0,none⟩=some (.map (some Bb)):=by rw[Ps af]; rfl
     have aB:(w4.alloc (.map #[] 0)).frozen? ⟨b,0,none⟩=false:=Ue af 0;have ag:bS (∃F':Nat->Prop,we vM vK ((w4.alloc (.map #[] 0)).setCell ⟨b,0,none⟩ (.map (some w4.heap.size))) F' b [] (l8 ss (y))/\(∀k,F' k->F k\/w.heap.size<=k)/\gV F w ((w4.alloc (.map #[] 0)).setCell ⟨b,0,none⟩ (.map (some w4.heap.size)))):=Y;clear ae am p1 p2 p3 p4 p5 Y af;go_wp2;go_ret;refine⟨iJ (by rw[ah.out]; rfl),?_⟩;rw[ah.out];exact ag.out
end
section
open Go.RowKit Go.Maps
theorem To{w:World}{C D:Nat}{B lb:List gS}{t:b2}{g:Nat}(O:g=w.heap.size)(U:je w C B)(W:je w D lb):Pb (w.alloc (.cells #[.map (some C),.map (some D)] t)) (.slice (some ⟨g,0,none⟩) 2 2) [C,D] [B,lb] where
 rd:=by
  subst O;refine⟨some ⟨w.heap.size,0,none⟩,2,rfl,bA _,by unfold b1; omega,λj u y=>⟨w.heap.size,0,rfl,?_⟩⟩;rw[bU _ _ _ _ rfl]
  match j,y with
  |0,y=>simpa[Eh]using y
  |1,y=>simpa[Eh]using y
  |j+2,y=>simp at y
 len:=rfl
 each:=λi h Y=>by
  have hb:Below w.heap.size w (w.alloc (.cells #[.map (some C),.map (some D)] t)):=(bG _ _).alloc (bA _) _
  match i,h,Y with
  |0,_,_=>exact ir.below U hb
  |1,_,_=>exact ir.below W hb
  |i+2,h,_=>exact absurd h (by simp)
theorem tH{w w4:World}{F:Nat->Prop}{b:Nat}{y:List gS}{ss ss':List (List gS)}{Bb:Nat}{W vM vK v':Value}(D:FA w F b y ss Bb W vM vK)(hF:∀k,F k->k<w.heap.size)
  (h:w4.heap[b]?=some (.cells #[.map (some Bb),v',vM,vK] 90 (0,0))/\je w4 Bb y/\w4.ownsRow 0 9 1 v' ss'.length (gQ (ss'.map ix))/\gV F w w4/\(∀k,v'.ownBlock=some k->(F k\/w.heap.size<=k)/\k<w4.heap.size)) (hi:Inv y ss') :
  ∃O:Nat->Prop,we vM vK w4 O b y ss'/\(∀k,O k->F k\/w.heap.size<=k)/\gV F w w4:=by
 obtain⟨U,p2,p3,p4,Y⟩:=h;refine⟨λk=>(F k\/w.heap.size<=k)/\k<w4.heap.size,⟨λk B=>B.2,Bb,v',?_⟩,λk B=>B.1,p4⟩
 exact {
  blk:=U,fb:=⟨Or.inl D.fb,iN U⟩,fB:=⟨Or.inl D.fB,bE (hF Bb D.fB) p4.size⟩,say:=p2,row:=p3,mo:=λk B=>Y k B
  inv:=hi}
end
section
open Go.RowKit Go.Maps
theorem ui{P:Program}(w:World)(t ty elem:b2)(g off k c:Nat)(z:Value)(h:Array Value)(T:b2)(hu:P.underlying t=some (.slice elem))(hz:(zeroValue elem).run P w=.ok z w)(B:z.cells=#[z])(h1:z.oneCell'=true)
  (hg:w.heap[g]?=some (.cells h T (0,0))) (hk:0<k) (W:off+k<=h.size) :
  ∃D:List Value,D.length=h.size/\(∀j,j<off->D[j]?=h[j]?)/\(bK #[t] ty #[.slice (some ⟨g,off,none⟩) k c]).run P w=.ok (.tuple #[]) (w.setRow g D.toArray):=by
 obtain⟨k',rfl⟩:∃k',k=k'+1:=⟨k-1,by omega⟩;have y:(bJ #[z] (k'+1)).toList.length=k'+1:=by simp[size_zeroCells]
 have O:∀v∈(bJ #[z] (k'+1)).toList,v.oneCell'=true:=by
  intro v Y;simp[bJ,Nat.mod_one]at Y;rw[<-Y.2];exact h1
 have U:=run_storeCells_at P g off T (bJ #[z] (k'+1)).toList 0 h w hg (by rw[y]; omega) O;refine⟨h.toList.take (off+0)++(bJ #[z] (k'+1)).toList++h.toList.drop (off+0+(bJ #[z] (k'+1)).toList.length),?_,?_,?_⟩
 .rw[be,be,y,bd,bk];simp;omega
 .intro j hj;rw[bj,bf (by rw[bd]; simp; omega),bh,if_pos (by omega)];simp
 .unfold bK;simp[run_underlying hu,hz,B,U]
theorem qX{w:World}{g:Nat}{cs:Array Value}:gV (· = g) w (w.setRow g cs):=⟨rfl,rfl,rfl,by simp[World.setRow],λk _ h=>setRow_other w g k cs (λe=>h (by omega))⟩
theorem tV{w':World}{e m:Nat}{g cap:Nat}{ys:List Value}{y:Array Value}(hm:m<=cap)(h:cap<=b1)(O:ys.length=m)(B:w'.heap[g]?=some (.cells y e (0,0)))(U:y.size=cap)(D:∀j,j<m->y[j]?=ys[j]?):w'.ownsRow 0 e 1 (.slice (some ⟨g,0,none⟩) m cap) m ys:=by
 refine⟨by omega,Or.inr ⟨g,cap,y,rfl,bB _,B,hm,h,by omega,?_⟩⟩;apply List.ext_getElem?;intro j;rw[bh];split
 .rw[bV];exact D j (by omega)
 .rw[List.getElem?_eq_none (by omega)]
theorem y8{P:Program}(w:World)(t ty e:b2)(i:TypeInfo)(ht:P.underlying t=some (.slice e))(hi:P.info? e=some i)(h:i.size=1)(g n c:Nat)(y:Array Value)(hg:w.heap[g]?=some (.cells y e (0,0)))(D:y.size=c)
  (x:Value) (news:List Value) (hx:Rd w x news) (h1:∀u∈news,u.oneCell'=true) (B:n+news.length<=c) :
  ∃l':List Value,l'.length=c/\(∀j,j<n->l'[j]?=y[j]?)/\(∀j,j<news.length->l'[n+j]?=news[j]?)/\(bM #[t,t] ty #[.slice (some ⟨g,0,none⟩) n c,x]).run P w=.ok (.slice (some ⟨g,0,none⟩) (n+news.length) c) (w.setRow g l'.toArray):=by
 obtain⟨a,cap,rfl,hc,hm,Y⟩:=hx
 cases a with
 |none=>
  have hn:news=[]:=by
   cases news with
   |nil=>rfl
   |cons u us=>obtain⟨b,off,he,_⟩:=Y 0 u rfl; simp at he
  subst hn;refine⟨y.toList,by simpa using D,λj _=>by simp,λj O=>by simp at O,?_⟩;have:=mY (P:=P) w t ty e i ht hi (some ⟨g,0,none⟩) n c cap (by simp at B; omega);simp only[bn,Nat.add_zero];rw[this,bW,b9 w g y e (0,0) hg]
 |some ad=>
  have U:∀j u,news[j]?=some u->w.cell? (ad.add j)=some u:=by
   intro j u O;obtain⟨b,off,he,W⟩:=Y j u O;simp only[bX]at he;subst he;rw[Addr.add_lit]; exact W
  have hl:news.length=news.length*i.size:=by rw[h]; omega
  have aa:=run_append_room (P:=P) w t ty e i ht hi g n c y hg ad news.length cap news hl U h1 B (by rw[D,h]; omega);rw[h,Nat.mul_one]at aa;have mL:y.toList.length=c:=by simpa using D
  refine⟨_,?_,?_,?_,aa⟩
  .simp only[be,bd,bk,mL];omega
  .intro j O;rw[bj,bf (by rw[bd,mL]; omega),bh,if_pos O];simp
  .intro j O;rw[bj,bg (by rw[bd,mL]; omega),bd,mL,bC (by omega),bD,bf O]
theorem uE{P:Program}(w:World){ops:Array Oper}{rest:List Oper}{o:Oper}{a:Act}{Q:Exit->Act->World->Prop}(W:o.guard=none)(s x:Operand)(t:b2)
  (ho:o.op=.call {callee:=.builtin .append,args:=#[s,x],argTypes:=#[t,t]}) (e:b2) (i:TypeInfo) (ht:P.underlying t=some (.slice e)) (hi:P.info? e=some i) (D:i.size=1) (g n c:Nat) (B:Array Value) (hg:w.heap[g]?=some (.cells B e (0,0))) (Y:B.size=c)
  (hs:a.eval s=.slice (some ⟨g,0,none⟩) n c) (y:Value) (news:List Value) (hx:a.eval x=y) (hy:Rd w y news) (h1:∀u∈news,u.oneCell'=true) (O:n+news.length<=c)
  (h:∀U:List Value,U.length=c->(∀j,j<n->U[j]?=B[j]?)->(∀j,j<news.length->U[n+j]?=news[j]?)->wpList P ops Q rest (a.put o.dst (.slice (some ⟨g,0,none⟩) (n+news.length) c)) (w.setRow g U.toArray)):wpList P ops Q (o::rest) a w:=by
 refine wpList_plain W λ_ hK=>?_;obtain⟨U,h2,h3,h4,hr⟩:=y8 (P:=P) w t o.type e i ht hi D g n c B hg Y y news hy h1 O;unfold bI b';simp only[ho,b8,invoke,builtin,bZ,bY,ca,bm,bp,bq,hs,hx,hr];exact hK _ _ (h U h2 h3 h4)
theorem FB(w:World)(g n cap:Nat)(xs:List Wd)(v:Value)(ps:List Wd)(O:w.ownsRow 0 9 1 (.slice (some ⟨g,0,none⟩) xs.length cap) xs.length (gQ xs))(hv:Rd w v (gQ ps))(aA:ps.length<=1)(hn:n+2=xs.length)(ap:xs.length<=6) :
  b6 prog 74 #[.slice (some ⟨g,0,none⟩) xs.length cap,.int .i64 n,.int .i64 ((n:Int)+2),v] w λe w'=>∃v',e=.returned v'/\w'.ownsRow 0 9 1 v' (xs.take n++ps).length (gQ (xs.take n++ps))/\gV (· = g) w w'/\∀k,v'.ownBlock=some k->k=g\/w.heap.size<=k:=by
 obtain⟨i9,aq,_,ar,_⟩:=b7 tW;obtain⟨av,cv,rfl,au,hmv,aw⟩:=id hv;rw[gY]at au⊢;rcases O.2 with⟨he,_⟩|⟨g',a8,h,he,_,hg,ax,hcm,ay,ac⟩
 .cases he
 simp only[Value.slice.injEq,bX,Addr.mk.injEq,and_true,true_and]at he;obtain⟨rfl,rfl⟩:=he
 have ad:∀j,j<n->h[j]?=(gQ (xs.take n))[j]?:=by
  intro j hj;have h1:=congrArg (λl:List Value=>l[j]?) ac;simp only[bh]at h1;rw[if_pos (by omega),bV]at h1;rw[h1];unfold gQ;rw[bi,bi,bh,if_pos hj]
 obtain⟨L,hL⟩:∃L,L=xs.length:=⟨_,rfl⟩;rw[<-hL]at ap hn ax⊢;have HV:bS (Rd w (.slice av ps.length cv) (gQ ps)):=by have:=hv; rw[gY]at this; exact this
 have HG:bS (w.heap[g]?=some (.cells h 9 (0,0))):=hg;have U:h.size=cap:=by omega
 have HC:bS (h.size=cap):=U;have hj:IntKind.i64.wrap ((n:Int)+2)=(n:Int)+2:=by simp only[IntKind.wrap_i64]; omega
 have aB:((n:Int)==(n:Int)+2)=false:=beq_eq_false_iff_ne.2 (by omega);have aC:(((n:Int)+2)==(L:Int))=true:=beq_iff_eq.2 (by omega);have a9:(n:Int)+2<=(cap:Int):=by omega
 have aD:¬cap=n:=by omega
 have y:bS (n+2=L):=hn;have ae:bS (L=xs.length):=hL;have az:bS (∀j,j<n->h[j]?=(gQ (xs.take n))[j]?):=ad;unfold b1 at hcm hmv;clear hv O aw hg ay ac ad hL U hn;go_enter func74,ntmps74;have af:n+(gQ ps).length<=cap:=by rw[gY]; omega
 go_wp2_with (first
  |(at_builtin; refine uE _ rfl _ _ 31 rfl 9 i9 bN aq ar g n cap h HG.out HC.out rfl _ _ rfl HV.out kX af ?_))
 intro W ag ah ab;rw[gY]at ab⊢;obtain⟨w1,B⟩:∃w1,w1=w.setRow g W.toArray:=⟨_,rfl⟩;rw[<-B];have ai:bS (w1.heap[g]?=some (.cells W.toArray 9 (0,0))):=by show _=_; rw[B]; exact b5 w g _ _ _ _ HG.out
 have a0:bS (gV (· = g) w w1):=by show gV _ _ _; rw[B]; exact qX
 have a1:bS (∀j,j<n->W[j]?=h[j]?):=ah;have a2:bS (∀j,j<ps.length->W[n+j]?=(gQ ps)[j]?):=ab;have aj:bS (W.length=cap):=ag;have aE:((n+ps.length:Nat):Int)<(L:Int):=by have:=y.out; omega
 have a':¬cap=n+ps.length:=by have:=y.out; omega
 clear ag ah ab B af;have ak:0<L-(n+ps.length):=by have:=y.out; omega
 have Y:n+ps.length+(L-(n+ps.length))<=W.toArray.size:=by have:=y.out; have:=aj.out; simp; omega
 obtain⟨l2,al,am,a3⟩:=ui (P:=prog) w1 31 0 9 g (n+ps.length) (L-(n+ps.length)) (cap-(n+ps.length)) (.string ⟨#[]⟩) W.toArray 9 bN (bR w1) rfl rfl ai.out ak Y;obtain⟨w2,D⟩:∃w2,w2=w1.setRow g l2.toArray:=⟨_,rfl⟩;rw[<-D]at a3;have a4:bS (w2.heap[g]?=some (.cells l2.toArray 9 (0,0))):=by show _=_; rw[D]; exact b5 w1 g _ _ _ _ ai.out
 have a5:bS (gV (· = g) w w2):=by show gV _ _ _; rw[D]; exact a0.out.then qX
 have a6:bS (∀j,j<n+ps.length->l2[j]?=W[j]?):=λj hj=>by have:=am j hj; simpa using this
 have a7:bS (l2.length=cap):=by show _=_; rw[al]; simpa using aj.out
 clear al am D ak Y;go_wp2;go_ret;refine⟨_,rfl,?_,a5.out,λk hk=>Or.inl (by simp[Value.ownBlock]at hk; exact hk.symm)⟩
 have aa:(xs.take n++ps).length=n+ps.length:=by
  have:=ae.out;have:=y.out;rw[be,bd];omega
 rw[aa];refine tV (by have:=y.out; omega) (by unfold b1; omega) (by rw[gY,aa]) a4.out (by simpa using a7.out) (λj hj=>?_);have e1:(gQ (xs.take n++ps))[j]?=(gQ (xs.take n)++gQ ps)[j]?:=by rw[show gQ (xs.take n++ps)=gQ (xs.take n)++gQ ps by simp[gQ]]
 have an:(gQ (xs.take n)).length=n:=by
  have:=ae.out;have:=y.out;rw[gY,bd];omega
 rw[e1,bl,a6.out j hj];by_cases ao:j<n
 .rw[a1.out j ao,bf (by omega),az.out j ao]
 .rw[bg (by omega),an,<-a2.out (j-n) (by omega),show n+(j-n)=j by omega]
end
section
open Go.RowKit Go.Maps
theorem ug{P:Program}(w:World)(t ty e:b2)(ht:P.underlying t=some (.slice e))(hi:(P.info? e).map (·.size)=some 1)(g off U dc c:Nat)(h:Array Value)(hg:w.heap[g]?=some (.cells h e (0,0)))(aa:h.size=c)
  (x:Value) (news:List Value) (hx:Rd w x news) (h1:∀u∈news,u.oneCell'=true) (hd:news.length<=U) (ab:off+news.length<=c) :
  ∃W:List Value,W.length=c/\(∀j,j<off\/off+news.length<=j->W[j]?=h[j]?)/\(∀j,j<news.length->W[off+j]?=news[j]?)/\(bL #[t,t] ty #[.slice (some ⟨g,off,none⟩) U dc,x]).run P w=.ok (.int .i64 (news.length:Int)) (w.setRow g W.toArray):=by
 obtain⟨a,cap,rfl,hc,hm,O⟩:=hx;have mL:h.toList.length=c:=by simpa using aa
 cases a with
 |none=>
  have hn:news=[]:=by
   cases news with
   |nil=>rfl
   |cons u us=>obtain⟨b,off,Y,_⟩:=O 0 u rfl; simp at Y
  subst hn;refine⟨h.toList,mL,λj _=>by simp,λj y=>by simp at y,?_⟩;have:=run_copy_none (P:=P) w t t ty e (some ⟨g,off,none⟩) none U dc 0 cap ht hi (by simp);simp only[bn];rw[this,bW,b9 w g h e (0,0) hg];rfl
 |some ad=>
  have B:∀j u,news[j]?=some u->w.cell? (ad.add j)=some u:=by
   intro j u y;obtain⟨b,off,Y,D⟩:=O j u y;simp only[bX]at Y;subst Y;rw[Addr.add_lit]; exact D
  have ac:=run_copy_row (P:=P) w t t ty e g off U dc ad news.length cap h e news ht hi hg (bC hd).symm B (by omega) h1;refine⟨_,?_,?_,?_,ac⟩
  .simp only[be,bd,bk,mL];omega
  .intro j y;rcases y with y|y
   .rw[bj,bf (by rw[bd,mL]; omega),bh,if_pos y];simp
   .rw[bg (by simp only[be,bd,mL]; omega),bs];simp only[be,bd,mL];rw[bC (by omega),show off+news.length+(j-(off+news.length))=j by omega];simp
  .intro j y;rw[bj,bg (by rw[bd,mL]; omega),bd,mL,bC (by omega),bD,bf y]
theorem TI:(prog.info? 9).map (·.size)=some 1:=by kernel_rfl
theorem E4(w:World)(g n q cap:Nat)(xs:List Wd)(v:Value)(ps:List Wd)(W:w.ownsRow 0 9 1 (.slice (some ⟨g,0,none⟩) xs.length cap) xs.length (gQ xs))(hv:Rd w v (gQ ps))(aU:ps.length<=1)(hn:xs.length=n+2+q)(hq:0<q)(a1:xs.length<=6) :
  b6 prog 74 #[.slice (some ⟨g,0,none⟩) xs.length cap,.int .i64 n,.int .i64 ((n:Int)+2),v] w λe w'=>∃v',e=.returned v'/\w'.ownsRow 0 9 1 v' (xs.take n++(ps++xs.drop (n+2))).length (gQ (xs.take n++(ps++xs.drop (n+2))))/\gV (· = g) w w'/\∀k,v'.ownBlock=some k->k=g\/w.heap.size<=k:=by
 obtain⟨av,cv,rfl,a2,hmv,a3⟩:=id hv;rw[gY]at a2⊢;rcases W.2 with⟨he,_⟩|⟨g',aO,h,he,_,hg,a4,hcm,a5,ai⟩
 .cases he
 simp only[Value.slice.injEq,bX,Addr.mk.injEq,and_true,true_and]at he;obtain⟨rfl,rfl⟩:=he
 have aj:∀j,j<xs.length->h[j]?=(gQ xs)[j]?:=by
  intro j y;have h1:=congrArg (λl:List Value=>l[j]?) ai;simp only[bh]at h1;rw[if_pos (by omega),bV]at h1;exact h1
 have ab:bS (xs.length=n+2+q):=hn;have HV:bS (Rd w (.slice av ps.length cv) (gQ ps)):=by have:=hv; rw[gY]at this; exact this
 have HG:bS (w.heap[g]?=some (.cells h 9 (0,0))):=hg;have Y:h.size=cap:=by omega
 have HC:bS (h.size=cap):=Y;have ak:bS (∀j,j<xs.length->h[j]?=(gQ xs)[j]?):=aj;rw[hn]at a1 a4⊢;have aV:((n:Int)==(n:Int)+2)=false:=beq_eq_false_iff_ne.2 (by omega);have aW:(((n:Int)+2)==((n+2+q:Nat):Int))=false:=beq_eq_false_iff_ne.2 (by omega);have aP:(((n:Int)+2)==(n:Int)+2+(q:Int))=false:=beq_eq_false_iff_ne.2 (by omega);have aQ:(n:Int)+2<=(cap:Int):=by omega
 have aX:¬cap=n:=by omega
 have aR:¬cap=n+2:=by omega
 unfold b1 at hcm hmv;clear hv W a3 hg a5 ai aj Y hn;go_enter func74,ntmps74;go_wp2_with fail;go_quiet (fail);have al:bS ((w.drewN nq).heap[g]?=some (.cells h 9 (0,0))):=HG.out;have a6:bS (Rd (w.drewN nq) (.slice av ps.length cv) (gQ ps)):=HV.out;have a7:bS (gV (· = g) w (w.drewN nq)):=⟨rfl,rfl,rfl,bA _,λ_ _ _=>rfl⟩;generalize w.drewN nq=wd at *;obtain⟨l1,am,ac,ad,ae⟩:=ug (P:=prog) wd 31 3 9 bN TI g n (n+ps.length+q-n) (cap-n) cap h al.out HC.out (.slice av ps.length cv) (gQ ps) a6.out kX (by rw[gY]; omega) (by rw[gY]; omega);rw[gY]at ac ad ae;obtain⟨w1,B⟩:∃w1,w1=wd.setRow g l1.toArray:=⟨_,rfl⟩;rw[<-B]at ae;have af:bS (w1.heap[g]?=some (.cells l1.toArray 9 (0,0))):=by show _=_; rw[B]; exact b5 wd g _ _ _ _ al.out
 have a8:bS (gV (· = g) w w1):=by show gV _ _ _; rw[B]; exact a7.out.then qX
 have an:bS (∀j,j<n\/n+ps.length<=j->l1[j]?=h[j]?):=ac;have a9:bS (∀j,j<ps.length->l1[n+j]?=(gQ ps)[j]?):=ad;have a':bS (l1.length=cap):=am;have aS:¬cap=n+ps.length:=by omega
 have aY:(n:Int)+(ps.length:Int)<=(n:Int)+2:=by omega
 clear am ac ad B;go_wp2_with fail;clear ae;have aA:IntKind.i64.wrap ((n:Int)+(ps.length:Int))=(n:Int)+(ps.length:Int):=by simp only[IntKind.wrap_i64]; omega
 have hA:(0:Int)<=(n:Int)+(ps.length:Int):=by omega
 have hB:(n:Int)+(ps.length:Int)<=(n:Int)+(ps.length:Int)+(q:Int):=by omega
 have hT:((n:Int)+(ps.length:Int)).toNat=n+ps.length:=by omega
 have aB:(0:Int)<=(n:Int)+2:=by omega
 have aC:(n:Int)+2<=(n:Int)+2+(q:Int):=by omega
 have aD:((n:Int)+2).toNat=n+2:=by omega
 refine b4 (S:=λw'=>True) (by kernel_rfl) ?_;refine iV 0 ?_ trivial ?_<|iV 1 ?_ trivial ?_<|iV 2 ?_ trivial ?_<|iV 3 ?_ trivial ?_<|iV 4 ?_ trivial ?_<|iV 5 ?_ trivial ?_<|iV 6 ?_ trivial ?_<|iV 7 ?_ trivial ?_<|iV 8 ?_ trivial ?_ ?_
 any_goals(rintro w' _; go_simp; first|done|with_reducible rfl)
 refine bx (rs:=[9]) (by kernel_rfl) (by simp) ?_;intro i hi;simp only[bb]at hi;subst hi;refine bz (by rfl) λK' ao=>?_;rw[if_pos (by rfl)];unfold bI;go_simp;have D:(gQ (xs.drop (n+2))).length=q:=by rw[gY,bk,ab.out]; omega
 have ap:Rd w1.drew (.slice (some ⟨g,n+2,none⟩) q (cap-(n+2))) (gQ (xs.drop (n+2))):=by
  refine⟨some ⟨g,n+2,none⟩,cap-(n+2),by rw[D],by rw[D]; omega,by unfold b1; omega,λj u y=>⟨g,n+2,rfl,?_⟩⟩
  have aZ:j<q:=by
   have:=(List.getElem?_eq_some_iff.1 y).1;omega
  show w1.cell? _=_;rw[Ps af.out];show l1.toArray[n+2+j]?=_;rw[bl,an.out _ (Or.inr (by omega)),ak.out _ (by rw[ab.out]; omega),<-y];unfold gQ;rw[bi,bi,bs]
 obtain⟨l2,aq,ag,ah,ar⟩:=ug (P:=prog) w1.drew 31 3 9 bN TI g (n+ps.length) q (cap-(n+ps.length)) cap l1.toArray af.out (by simpa using a'.out) _ _ ap kX (by omega) (by omega);rw[ar];rw[D]at ag ah;obtain⟨w2,O⟩:∃w2,w2=w1.drew.setRow g l2.toArray:=⟨_,rfl⟩;rw[<-O];have au:bS (w2.heap[g]?=some (.cells l2.toArray 9 (0,0))):=by show _=_; rw[O]; exact b5 w1.drew g _ _ _ _ af.out
 have aE:bS (gV (· = g) w w2):=by
  show gV _ _ _;rw[O];have h1:gV (· = g) w1 w1.drew:=⟨rfl,rfl,rfl,bA _,λ_ _ _=>rfl⟩;exact(a8.out.then h1).then qX
 have aw:bS (∀j,j<n+ps.length\/n+ps.length+q<=j->l2[j]?=l1[j]?):=λj y=>by have:=ag j y; simpa using this
 have aF:bS (∀j,j<q->l2[n+ps.length+j]?=(gQ (xs.drop (n+2)))[j]?):=ah;have ax:bS (l2.length=cap):=aq;clear aq ag ah ar O ap D;refine ao _ _ ⟨trivial,b3 (by kernel_rfl) ?_ _⟩;clear ao aA hA hB hT aB aC aD;have aT:¬cap=n+ps.length+q:=by omega
 obtain⟨l3,ay,az,aG⟩:=ui (P:=prog) w2 31 0 9 g (n+ps.length+q) (n+2+q-(n+ps.length+q)) (cap-(n+ps.length+q)) (.string ⟨#[]⟩) l2.toArray 9 bN (bR w2) rfl rfl au.out (by omega) (by have:=ax.out; simp; omega);obtain⟨w3,U⟩:∃w3,w3=w2.setRow g l3.toArray:=⟨_,rfl⟩;rw[<-U]at aG;have aH:bS (w3.heap[g]?=some (.cells l3.toArray 9 (0,0))):=by show _=_; rw[U]; exact b5 w2 g _ _ _ _ au.out
 have aI:bS (gV (· = g) w w3):=by show gV _ _ _; rw[U]; exact aE.out.then qX
 have aJ:bS (∀j,j<n+ps.length+q->l3[j]?=l2[j]?):=λj y=>by have:=az j y; simpa using this
 have aK:bS (l3.length=cap):=by show _=_; rw[ay]; simpa using ax.out
 clear ay az U;go_wp2;go_ret;refine⟨_,rfl,?_,aI.out,λk hk=>Or.inl (by simp[Value.ownBlock]at hk; exact hk.symm)⟩;have ba:=ab.out
 have aa:(xs.take n++(ps++xs.drop (n+2))).length=n+ps.length+q:=by
  rw[be,be,bd,bk];omega
 have aL:(gQ (xs.take n)).length=n:=by rw[gY,bd]; omega
 have aM:(gQ ps).length=ps.length:=gY ps;rw[aa];refine tV (by omega) (by unfold b1; omega) (by rw[gY,aa]) aH.out (by simpa using aK.out) (λj y=>?_);rw[show gQ (xs.take n++(ps++xs.drop (n+2)))=gQ (xs.take n)++(gQ ps++gQ (xs.drop (n+2))) by simp[gQ],bl,aJ.out j y];by_cases a0:j<n
 .rw[aw.out j (Or.inl (by omega)),an.out j (Or.inl a0),ak.out j (by omega),bf (by omega)];unfold gQ;rw[bi,bi,bh,if_pos a0]
 .rw[bg (by omega),aL];by_cases aN:j<n+ps.length
  .rw[aw.out j (Or.inl aN),bf (by omega),<-a9.out (j-n) (by omega),show n+(j-n)=j by omega]
  .rw[bg (by omega),aM,<-aF.out (j-n-ps.length) (by omega),show n+ps.length+(j-n-ps.length)=j by omega]
theorem qv(w:World)(g n cap:Nat)(xs:List Wd)(v:Value)(ps:List Wd)(y:w.ownsRow 0 9 1 (.slice (some ⟨g,0,none⟩) xs.length cap) xs.length (gQ xs))(O:Rd w v (gQ ps))(B:ps.length<=1)(U:n+2<=xs.length)(D:xs.length<=6) :
  b6 prog 74 #[.slice (some ⟨g,0,none⟩) xs.length cap,.int .i64 n,.int .i64 ((n:Int)+2),v] w λe w'=>∃v',e=.returned v'/\w'.ownsRow 0 9 1 v' (xs.take n++(ps++xs.drop (n+2))).length (gQ (xs.take n++(ps++xs.drop (n+2))))/\gV (· = g) w w'/\∀k,v'.ownBlock=some k->k=g\/w.heap.size<=k:=by
 by_cases h:n+2=xs.length
 .have e:xs.drop (n+2)=[]:=List.drop_eq_nil_of_le (by omega);rw[e,bv];exact FB w g n cap xs v ps y O B h D
 .exact E4 w g n (xs.length-(n+2)) cap xs v ps y O B (by omega) (by omega) D
end
end Go.Proofs.YtocbogeoffeolaaGreatDoor
