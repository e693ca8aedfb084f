import Derived.Test.YtocbogeoffeolaaGreatDoorRefAD
import Derived.Test.YtocbogeoffeolaaGreatDoorRefAH
set_option linter.all false
set_option maxHeartbeats 8000000
set_option maxRecDepth 1000000
open Go renaming rounds_succ->ah,cell_later->ai,wp_loop_rounds->aj,Calls->ak
open List renaming getD_eq_getElem?_getD->al,getElem?_eq_getElem->am,pairwise_cons->an,mem_singleton->ao,mem_range->ap
open Option.some renaming injEq->aq
open Go.World renaming cell?_alloc_at->ar
open UInt8 renaming ofNat->au
namespace Go.Proofs.YtocbogeoffeolaaGreatDoor
open Go.Proofs.Tryz
section
open Go.RowKit
def uX(n:Nat):Wd:=if h:n<=9 then [48+au n]else uX (n / 10)++[48+au (n % 10)]
termination_by n
decreasing_by omega
theorem tH{n:Nat}(h:n<=9):uX n=[48+au n]:=by rw[uX,dif_pos h]
theorem rJ{n:Nat}(h:¬n<=9):uX n=uX (n / 10)++[48+au (n % 10)]:=by rw[uX,dif_neg h]
theorem OP:∀(k n:Nat),n<10 ^ k->1<=k->(uX n).length<=k:=by
 intro k
 induction k with
 |zero=>omega
 |succ k O=>
  intro n h _;by_cases B:n<=9
  .rw[tH B]; simp
  .rw[rJ B]
   have U:1<=k:=by
    rcases Nat.eq_zero_or_pos k with e|e
    .subst e; omega
    .exact e
   have:=O (n / 10) (by omega) U;simp; omega
end
section
open Go.RowKit
variable {x y:gu} {l:List gu} {told:List Nat} {ok:Nat->Bool}
theorem wk(x:gu):ja x x=false:=by
 unfold ja;rw[if_pos rfl,if_pos rfl,kJ]
theorem qI{z:gu}(O:ja x y=true)(B:ja y z=true):ja x z=true:=by
 unfold ja at *;by_cases a:x.gw=y.gw
 .rw[if_pos a]at O;by_cases b:y.gw=z.gw
  .rw[if_pos b]at B;rw[if_pos (a.trans b)];by_cases c:gM x=gM y
   .rw[if_pos c]at O;by_cases d:gM y=gM z
    .rw[if_pos d]at B;rw[if_pos (c.trans d)];exact oJ _ _ _ O B
    .rw[if_neg d]at B;rw[if_neg (λe=>d (c.symm.trans e)),c];exact B
   .rw[if_neg c]at O;by_cases d:gM y=gM z
    .rw[if_neg (λe=>c (e.trans d.symm)),<-d];exact O
    .rw[if_neg d]at B;have U:=oJ _ _ _ O B;rw[if_neg (CG U)];exact U
  .rw[if_neg b]at B;rw[if_neg (λe=>b (a.symm.trans e)),a];exact B
 .rw[if_neg a,decide_eq_true_eq]at O;by_cases b:y.gw=z.gw
  .rw[if_neg (λe=>a (e.trans b.symm)),decide_eq_true_eq];omega
  .rw[if_neg b,decide_eq_true_eq]at B;rw[if_neg (by omega),decide_eq_true_eq];omega
theorem G7(h:x.name≠y.name):ja x y=true\/ja y x=true:=by
 unfold ja;by_cases a:x.gw=y.gw
 .rw[if_pos a,if_pos a.symm];by_cases c:gM x=gM y
  .rw[if_pos c,if_pos c.symm];rcases kR .. with B|B|B
   .exact Or.inl B
   .exact absurd B h
   .exact Or.inr B
  .rw[if_neg c,if_neg (λe=>c e.symm)];rcases kR .. with B|B|B
   .exact Or.inl B
   .exact absurd B c
   .exact Or.inr B
 .rw[if_neg a,if_neg (λe=>a e.symm),decide_eq_true_eq,decide_eq_true_eq];omega
theorem J6(h:ja x y=true):ja y x=false:=by
 rw[Bool.eq_false_iff];intro B;have:=qI h B;rw[wk]at this;cases this
def mQ:gu:=⟨[],false,[],0,0⟩
def vG(l:List gu)(ok:Nat->Bool):Nat->Option Nat
 |0=>none
 |k+1=>match vG l ok k with
  |none=>if ok k=true then some k else none
  |some b=>if ok k=true/\ja (l.getD k mQ) (l.getD b mQ)=true then some k else some b
def rW(l:List gu)(ok:Nat->Bool):Nat->List Nat->List Nat
 |0,_=>[]
 |n+1,told=>match vG l (λi=>ok i && !told.contains i) l.length with
  |none=>[]
  |some b=>b::rW l ok n (told++[b])
theorem Bt:∀k,vG l ok k=none->∀i,i<k->ok i=false:=by
 intro k
 induction k with
 |zero=>omega
 |succ k O=>
  intro h i hi;rw[vG]at h
  cases hb:vG l ok k with
  |none=>
   rw[hb]at h;simp only at h;split at h
   .cases h
   .rename_i U;rcases Nat.lt_or_ge i k with B|B
    .exact O hb i B
    .have e:i=k:=by omega
     subst e;simpa using U
  |some b=>
   rw[hb]at h;simp only at h;split at h<;>cases h
theorem JM(hn:(l.map gu.name).Nodup):∀k b,k<=l.length->vG l ok k=some b->b<k/\ok b=true/\∀i,i<k->ok i=true->i≠b->ja (l.getD b mQ) (l.getD i mQ)=true:=by
 have Y:∀i j,i<l.length->j<l.length->i≠j->(l.getD i mQ).name≠(l.getD j mQ).name:=λi j hi hj h e=>by
  rw[al,al,am hi,am hj]at e;exact h ((List.getElem_inj (h₀:=by simpa using hi) (h₁:=by simpa using hj) hn).1 (by simpa using e))
 intro k
 induction k with
 |zero=>intro b _ h; cases h
 |succ k ih=>
  intro b hk h;rw[vG]at h
  cases hb:vG l ok k with
  |none=>
   rw[hb]at h;simp only at h;split at h
   .rename_i B;simp only[aq]at h;subst h;refine⟨by omega,B,λi hi O U=>?_⟩;have:=Bt k hb i (by omega);rw[this]at O; cases O
   .cases h
  |some c=>
   rw[hb]at h;simp only at h;obtain⟨c1,c2,c3⟩:=ih c (by omega) hb;split at h
   .rename_i B;simp only[aq]at h;subst h;refine⟨by omega,B.1,λi hi O U=>?_⟩;by_cases e:i=c
    .subst e; exact B.2
    .exact qI B.2 (c3 i (by omega) O e)
   .rename_i B;simp only[aq]at h;subst h;refine⟨by omega,c2,λi hi O U=>?_⟩;rcases Nat.lt_or_ge i k with h3|h3
    .exact c3 i h3 O U
    .have e:i=k:=by omega
     subst e;rcases G7 (Y i c (by omega) (by omega) U)with h4|h4
     .exact absurd ⟨O,h4⟩ B
     .exact h4
def qg(l:List gu)(ok:Nat->Bool)(told:List Nat):List Nat:=(List.range l.length).filter λi=>ok i && !told.contains i
theorem I4{i:Nat}:i∈qg l ok told↔i<l.length/\(ok i && !told.contains i)=true:=by
 unfold qg;rw[List.mem_filter,ap]
theorem MP{b:Nat}(hb:b∈qg l ok told):(qg l ok told).Perm (b::qg l ok (told++[b])):=by
 have O:(qg l ok told).Nodup:=List.Nodup.sublist List.filter_sublist List.nodup_range
 have e:qg l ok (told++[b])=(qg l ok told).erase b:=by
  rw[O.erase_eq_filter];unfold qg;rw[List.filter_filter];refine List.filter_congr λi _=>?_;rw[Bool.eq_iff_iff];simp only[Bool.and_eq_true,Bool.not_eq_true',bne_iff_ne,List.contains_eq_mem,List.mem_append,ao,decide_eq_false_iff_not];constructor
  .rintro⟨U,B⟩; exact⟨λh=>B (Or.inr h),U,λh=>B (Or.inl h)⟩
  .rintro⟨U,B,Y⟩; exact⟨B,λh=>h.elim Y U⟩
 rw[e];exact List.perm_cons_erase hb
theorem C6(l:List gu)(hn:(l.map gu.name).Nodup)(ok:Nat->Bool):∀(n:Nat)(told:List Nat)(S:List gu),S.Pairwise (λx y=>ja x y=true)->S.Perm ((qg l ok told).map λi=>l.getD i mQ)->(rW l ok n told).map (λi=>l.getD i mQ)=S.take n:=by
 intro n
 induction n with
 |zero=>simp[rW]
 |succ n ih=>
  intro told S hs U;rw[rW]
  cases hb:vG l .. with
  |none=>
   have Y:=Bt _ hb
   have hc:qg l ok told=[]:=by
    unfold qg;rw[List.filter_eq_nil_iff];intro i hi;rw[Y i (ap.1 hi)];simp
   rw[hc]at U;have:=List.Perm.eq_nil U;subst this;simp
  |some b=>
   obtain⟨b1,b2,b3⟩:=JM hn _ b (Nat.le_refl _) hb;have BS:=I4.2 ⟨b1,b2⟩;have aa:=(MP BS).map (λi=>l.getD i mQ);have B:=U.trans aa
   cases S with
   |nil=>exact absurd B.symm.eq_nil (by simp)
   |cons h S'=>
    have hh:h=l.getD b mQ:=by
     refine Classical.byContradiction λO=>?_
     have m1:l.getD b mQ∈S':=by
      have:l.getD b mQ∈h::S':=B.mem_iff.2 (by simp);rcases List.mem_cons.1 this with e|e
      .exact absurd e.symm O
      .exact e
     have a1:=(an.1 hs).1 _ m1;have m2:h∈(qg l ok told).map _:=U.mem_iff.1 (by simp);obtain⟨i,hi,e⟩:=List.mem_map.1 m2;have S5:=I4.1 hi;have ab:i≠b:=λe2=>O (by rw[<-e,e2]);have a2:=b3 i S5.1 S5.2 ab;rw[e]at a2;rw[J6 a1]at a2;cases a2
    subst hh;simp only[List.map_cons,List.take_succ_cons];rw[ih _ S' (an.1 hs).2 ((List.perm_cons _).1 B)]
end
section
open Go.RowKit
def sk(t e:Nat):Bool:=e &&& t==t
def jM(e:gu):Wd:=e.name++(32::(uX e.gw.toNat++(32::e.text)))
def wq(mode gK:Nat)(q:Wd)(e:gu):Bool:=sk gK e.gK.toNat&&ns mode (ir q) (gM e)
def xX(l:List gu)(mode:Int)(q:Wd)(gK most:Int):List Wd×Nat:=
 if mode<0\/3<mode\/gK<0\/255<gK\/most<1\/20<most then([],3)
 else if il q=true then((rW l (λi=>wq mode.toNat gK.toNat q (l.getD i mQ)) most.toNat []).map (λi=>jM (l.getD i mQ)),0)else([],2)
theorem EL{l S:List gu}(O:(l.map gu.name).Nodup){mode gK most:Int}{q:Wd}(U:S.Pairwise (λx y=>ja x y=true))(Y:S.Perm (l.filter λe=>wq mode.toNat gK.toNat q e)) :
  (rW l (λi=>wq mode.toNat gK.toNat q (l.getD i mQ)) most.toNat []).map (λi=>jM (l.getD i mQ))=(S.take most.toNat).map jM:=by
 have hc:(qg l (λi=>wq mode.toNat gK.toNat q (l.getD i mQ)) []).map (λi=>l.getD i mQ)=l.filter λe=>wq mode.toNat gK.toNat q e:=by
  unfold qg
  have B:(λi=>wq mode.toNat gK.toNat q (l.getD i mQ) && !([]).contains i)=(λe=>wq mode.toNat gK.toNat q e) ∘ λi=>l.getD i mQ:=by
   funext i; simp
  rw[B,<-List.filter_map];congr 1;apply List.ext_getElem
  .simp
  .intro i B h2;simp[al,h2]
 have h:=C6 l O _ most.toNat [] S U (by rw[hc]; exact Y);have e:(λi=>jM _)=jM ∘ λi=>l.getD i mQ:=rfl;rw[e,<-List.map_map,h]
end
namespace D
open Go.RowKit Go.Sort
theorem Ol{w y:World}(h:iT w y):∃q os,y=grow (w.drewN q) os:=by
 obtain⟨⟨B,O,U,h4,Y⟩,h6⟩:=h;refine⟨y.drawn-w.drawn,y.heap.extract w.heap.size y.heap.size,?_⟩;obtain⟨yh,yt,yd,yo,yu⟩:=y;obtain⟨wh,wt,wd,wo,wu⟩:=w;simp only at B O U h4 Y h6;subst B O U;unfold grow World.drewN;simp only[World.mk.injEq,and_true,true_and];constructor
 .apply Array.ext_getElem?;intro i;by_cases hi:i<wh.size
  .rw[Array.getElem?_append_left hi];exact Y i hi
  .rw[Array.getElem?_append_right (by omega),Array.getElem?_extract];by_cases h:i<yh.size
   .rw[if_pos (by omega)];congr 1;omega
   .rw[if_neg (by omega)];exact Array.getElem?_eq_none (by omega)
 .omega
def Ep(x y:Int):Int:=if x<y then -1 else if y<x then 1 else 0
theorem Jj(x y:Int)(w:World):ak prog 127 #[.int .i64 x,.int .i64 y] w λe w'=>e=.returned (.int .i64 (Ep x y))/\w=w':=by
 unfold Ep;by_cases B:x<y
 .go_wp2;go_ret;exact⟨rfl,rfl⟩
 .by_cases O:y<x
  .go_wp2;go_ret;exact⟨rfl,rfl⟩
  .go_wp2;go_ret;exact⟨rfl,rfl⟩
theorem R2(x y z:Int)(g:Nat)(w:World)(h0:w.cell? ⟨g,0,none⟩=some (.int .i64 x))(h1:w.cell? ⟨g,1,none⟩=some (.int .i64 y))(h2:w.cell? ⟨g,2,none⟩=some (.int .i64 z)):ak prog 126 #[.slice (some ⟨g,0,none⟩) 3 3] w λe w'=>e=.returned (.int .i64 (if x≠0 then x else if y≠0 then y else z))/\w=w':=by
 by_cases B:x=0
 .subst B;rw[if_neg (by simp)];by_cases O:y=0
  .subst O;rw[if_neg (by simp)];by_cases U:z=0
   .subst U;go_enter func126,ntmps126;go_wp2;refine aj 4 ?_;rw[ah];go_wp2;rw[ah];go_wp2;rw[ah];go_wp2;rw[ah];go_wp2;go_ret;exact⟨rfl,rfl⟩
   .have Y:(z==0)=false:=by simpa using U
    go_enter func126,ntmps126;go_wp2;refine aj 3 ?_;rw[ah];go_wp2;rw[ah];go_wp2;rw[ah];go_wp2;go_ret;exact⟨rfl,rfl⟩
  .have aa:(y==0)=false:=by simpa using O
   rw[if_pos O];go_enter func126,ntmps126;go_wp2;refine aj 2 ?_;rw[ah];go_wp2;rw[ah];go_wp2;go_ret;exact⟨rfl,rfl⟩
 .rw[if_pos B];have ab:(x==0)=false:=by simpa using B
  go_enter func126,ntmps126;go_wp2;refine aj 1 ?_;rw[ah];go_wp2;go_ret;exact⟨rfl,rfl⟩
theorem U4{w:World}{x y z:Value}{t:TypeId}{g:Nat}(B:g=w.heap.size):((w.alloc (.cells #[x,y,z] t)).cell? ⟨g,0,none⟩=some x/\(w.alloc (.cells #[x,y,z] t)).cell? ⟨g,1,none⟩=some y)/\(w.alloc (.cells #[x,y,z] t)).cell? ⟨g,2,none⟩=some z:=by
 subst B;refine⟨⟨?_,?_⟩,?_⟩<;>rw[ar _ _ _ _ rfl]<;>rfl
def UI(x y:gu):Int:=if Ep y.gw x.gw≠0 then Ep y.gw x.gw else if uo (gM x) (gM y)≠0 then uo (gM x) (gM y)else uo x.name y.name
theorem FV(x y:gu)(w:World)(hx:x.text.length<=1048576)(B:y.text.length<=1048576):ak prog 84 #[.agg #[.string ⟨x.name.toArray⟩,.string ⟨x.text.toArray⟩,.int .i64 x.gw,.int .i64 x.gK],.agg #[.string ⟨y.name.toArray⟩,.string ⟨y.text.toArray⟩,.int .i64 y.gw,.int .i64 y.gK]] w λe w'=>e=.returned (.int .i64 (UI x y))/\iT w w':=by
 obtain⟨z1,aa⟩:∃z,z=Ep y.gw x.gw:=⟨_,rfl⟩;obtain⟨z2,ab⟩:∃z,z=uo (gM x) (gM y):=⟨_,rfl⟩;obtain⟨z3,ac⟩:∃z,z=uo x.name y.name:=⟨_,rfl⟩;obtain⟨uS,O⟩:∃uS,uS=if z1≠0 then z1 else if z2≠0 then z2 else z3:=⟨_,rfl⟩
 have e:UI x y=uS:=by rw[O,aa,ab,ac]; rfl
 rw[e];clear e;obtain⟨kx,ad⟩:∃k,k=gM x:=⟨_,rfl⟩;obtain⟨ky,ae⟩:∃k,k=gM y:=⟨_,rfl⟩;have H1:Hid (∀W,ak prog 127 #[.int .i64 y.gw,.int .i64 x.gw] W λe w'=>e=.returned (.int .i64 z1)/\W=w'):=λW=>by rw[aa]; exact Jj _ _ W
 have H2:Hid (∀W,ak prog 128 #[.string ⟨kx.toArray⟩,.string ⟨ky.toArray⟩] W λe w'=>e=.returned (.int .i64 z2)/\W=w'):=λW=>by rw[ab,<-ad,<-ae]; exact sH _ _ W
 have H3:Hid (∀W,ak prog 128 #[.string ⟨x.name.toArray⟩,.string ⟨y.name.toArray⟩] W λe w'=>e=.returned (.int .i64 z3)/\W=w'):=λW=>by rw[ac]; exact sH _ _ W
 have HX:Hid (∀W,ak prog 50 #[.string ⟨x.text.toArray⟩] W λe w'=>e=.returned (.string ⟨kx.toArray⟩)/\iT W w'):=λW=>by
  have h:=va ⟨x.text.toArray⟩ W (by show x.text.toArray.size<=_; simp; omega);rw[ad];exact h
 have HY:Hid (∀W,ak prog 50 #[.string ⟨y.text.toArray⟩] W λe w'=>e=.returned (.string ⟨ky.toArray⟩)/\iT W w'):=λW=>by
  have h:=va ⟨y.text.toArray⟩ W (by show y.text.toArray.size<=_; simp; omega);rw[ae];exact h
 have HO:Hid (∀(g:Nat)(W:World),W.cell? ⟨g,0,none⟩=some (.int .i64 z1)->W.cell? ⟨g,1,none⟩=some (.int .i64 z2)->W.cell? ⟨g,2,none⟩=some (.int .i64 z3)->ak prog 126 #[.slice (some ⟨g,0,none⟩) 3 3] W λe w'=>e=.returned (.int .i64 uS)/\W=w'):=λg W k0 k1 k2=>by
  rw[O];exact R2 z1 z2 z3 g W k0 k1 k2
 clear O aa ab ac ad ae hx B;obtain⟨nx,_,tx,wx,gx⟩:=x;obtain⟨ny,_,ty,wy,gy⟩:=y;simp only at H1 H3 HX HY⊢;obtain⟨w0,U⟩:∃w0,w0=(w.alloc (.cells #[.string ⟨nx.toArray⟩,.string ⟨tx.toArray⟩,.int .i64 wx,.int .i64 gx] 96)).alloc (.cells #[.string ⟨ny.toArray⟩,.string ⟨ty.toArray⟩,.int .i64 wy,.int .i64 gy] 96):=⟨_,rfl⟩
 have hA:∀j,w0.cell? ⟨w.heap.size,j,none⟩=(#[Value.string ⟨nx.toArray⟩,.string ⟨tx.toArray⟩,.int .i64 wx,.int .i64 gx]:Array Value)[j]?:=λj=>by
  rw[U,World.cell?_alloc_past _ _ _ (by simp),ar _ _ _ _ rfl]
 have Y:∀j,w0.cell? ⟨w.heap.size+1,j,none⟩=(#[Value.string ⟨ny.toArray⟩,.string ⟨ty.toArray⟩,.int .i64 wy,.int .i64 gy]:Array Value)[j]?:=λj=>by
  rw[U,ar _ _ _ _ (by simp)]
 have af:Hid (iT w w0):=by rw[U]; exact(iT.alloc _ _).trans (iT.alloc _ _)
 have a0:w0.cell? ⟨w.heap.size,0,none⟩=some (.string ⟨nx.toArray⟩):=hA 0;have a1:w0.cell? ⟨w.heap.size,1,none⟩=some (.string ⟨tx.toArray⟩):=hA 1;have a2:w0.cell? ⟨w.heap.size,2,none⟩=some (.int .i64 wx):=hA 2;have b0:w0.cell? ⟨w.heap.size+1,0,none⟩=some (.string ⟨ny.toArray⟩):=Y 0;have b1:w0.cell? ⟨w.heap.size+1,1,none⟩=some (.string ⟨ty.toArray⟩):=Y 1;have b2:w0.cell? ⟨w.heap.size+1,2,none⟩=some (.int .i64 wy):=Y 2;clear hA Y;go_enter func84,ntmps84;go_wp2_with fail;rw[<-U];clear U;refine oS (by kernel_rfl) ?_;refine gO 0 ?_ ?_<|gO 1 ?_ ?_<|gO 2 ?_ ?_<|gO 3 ?_ ?_ ?_
 any_goals(intro y B; have q:=ai B.1 b2; have q1:=ai B.1 a2; unfold jC; go_simp; refine⟨iT.refl _,?_⟩; with_reducible rfl)
 go_simp;refine gO 4 ?_ ?_ ?_;rotate_left
 .intro y B; unfold jC; go_simp; refine⟨rfl,(H1.out y).mono ?_⟩; rintro e y2 ⟨rfl,rfl⟩; refine⟨_,rfl,iT.refl _,?_⟩; with_reducible rfl
 refine gO 5 ?_ ?_<|gO 6 ?_ ?_ ?_
 any_goals(intro y B; have q:=ai B.1 a1; unfold jC; go_simp; refine⟨iT.refl _,?_⟩; with_reducible rfl)
 go_simp;refine gO 7 ?_ ?_ ?_;rotate_left
 .intro y B; unfold jC; go_simp; refine⟨rfl,(HX.out y).mono ?_⟩; rintro e y2 ⟨rfl,h2⟩; refine⟨_,rfl,h2,?_⟩; with_reducible rfl
 refine gO 8 ?_ ?_<|gO 9 ?_ ?_ ?_
 any_goals(intro y B; have q:=ai B.1 b1; unfold jC; go_simp; refine⟨iT.refl _,?_⟩; with_reducible rfl)
 go_simp;refine gO 10 ?_ ?_ ?_;rotate_left
 .intro y B; unfold jC; go_simp; refine⟨rfl,(HY.out y).mono ?_⟩; rintro e y2 ⟨rfl,h2⟩; refine⟨_,rfl,h2,?_⟩; with_reducible rfl
 go_simp;refine gO 11 ?_ ?_ ?_;rotate_left
 .intro y B; unfold jC; go_simp; refine⟨rfl,(H2.out y).mono ?_⟩; rintro e y2 ⟨rfl,rfl⟩; refine⟨_,rfl,iT.refl _,?_⟩; with_reducible rfl
 refine gO 12 ?_ ?_<|gO 13 ?_ ?_<|gO 14 ?_ ?_<|gO 15 ?_ ?_ ?_
 any_goals(intro y B; have q:=ai B.1 a0; have q1:=ai B.1 b0; unfold jC; go_simp; refine⟨iT.refl _,?_⟩; with_reducible rfl)
 go_simp;refine gO 16 ?_ ?_ ?_;rotate_left
 .intro y B; unfold jC; go_simp; refine⟨rfl,(H3.out y).mono ?_⟩; rintro e y2 ⟨rfl,rfl⟩; refine⟨_,rfl,iT.refl _,?_⟩; with_reducible rfl
 go_simp;refine Uf (rs:=[17]) (by kernel_rfl) (by simp) ?_;intro i hi;simp only[ao]at hi;subst hi;refine Sz (λg=>.slice (some ⟨g,0,none⟩) 3 3) (λg y=>(y.cell? ⟨g,0,none⟩=some (.int .i64 z1)/\y.cell? ⟨g,1,none⟩=some (.int .i64 z2))/\y.cell? ⟨g,2,none⟩=some (.int .i64 z3)) rfl (ju _) (λg=>((jK _ _).and (jK _ _)).and (jK _ _)) (by rfl) ?_ ?_
 .intro y B; unfold jC; go_simp; exact⟨iT.alloc _ _,rfl,U4 rfl⟩
 intro g;go_simp;refine gO 18 ?_ ?_ ?_ (hC:=((ju _).and (((jK _ _).and (jK _ _)).and (jK _ _))));rotate_left
 .intro y B; obtain⟨_,⟨k0,k1⟩,k2⟩:=B; unfold jC; go_simp; refine⟨rfl,(HO.out _ y k0 k1 k2).mono ?_⟩; rintro e y2 ⟨rfl,rfl⟩; refine⟨_,rfl,iT.refl _,?_⟩; with_reducible rfl
 go_simp;refine gO 19 ?_ ?_ ?_ (hC:=((ju _).and (((jK _ _).and (jK _ _)).and (jK _ _))));rotate_left
 .intro y B; unfold jC; go_simp; refine⟨iT.refl _,?_⟩; with_reducible rfl
 refine zw (by kernel_rfl) ?_ _;rintro y ⟨B,_⟩;have ag:Hid (iT w y):=iT.trans af.out B;clear B;go_simp;go_wp2;go_ret;exact⟨rfl,ag.out⟩
end D
end Go.Proofs.YtocbogeoffeolaaGreatDoor
