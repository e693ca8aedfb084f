import Derived.Test.YtocbogeoffeolaaGreatDoorFolAJ
import Derived.Test.YtocbogeoffeolaaGreatDoorFolAQ
set_option linter.unusedVariables false
set_option linter.unusedSimpArgs false
set_option maxHeartbeats 8000000
set_option maxRecDepth 1000000
open Go renaming rounds_succ->ag,cell_later->ah,wp_loop_rounds->ai,Calls->aj
open List renaming getD_eq_getElem?_getD->ak,getElem?_eq_getElem->al,pairwise_cons->am,mem_singleton->an,mem_range->ao,map_cons->ap
open Option.some renaming injEq->aq
open Go.World renaming cell?_alloc_at->ar
open UInt8 renaming ofNat->au
namespace Go.Proofs.YtocbogeoffeolaaGreatDoor
open Go.Proofs.Tryz
section
open Go.RowKit
def uN(n:Nat):Wd:=if h:n<=9 then [48+au n]else uN (n / 10)++[48+au (n % 10)]
termination_by n
decreasing_by omega
theorem sY{n:Nat}(h:n<=9):uN n=[48+au n]:=by rw[uN,dif_pos h]
theorem rn{n:Nat}(h:¬n<=9):uN n=uN (n / 10)++[48+au (n % 10)]:=by rw[uN,dif_neg h]
theorem MY:∀(k n:Nat),n<10 ^ k->1<=k->(uN n).length<=k:=by
 intro k
 induction k with
 |zero=>intro n _ h; omega
 |succ k D=>
  intro n h _;by_cases B:n<=9
  .rw[sY B]; simp
  .rw[rn B,List.length_append]
   have O:1<=k:=by
    rcases Nat.eq_zero_or_pos k with e|e
    .subst e; simp at h; omega
    .exact e
   have:=D (n / 10) (by rw[Nat.pow_succ]at h; omega) O
   simp; omega
end
section
open Go.RowKit
variable {x y:gS} {l:List gS} {told:List Nat} {ok:Nat->Bool}
theorem vz(x:gS):jw x x=false:=by
 unfold jw;rw[if_pos rfl,if_pos rfl,kN]
theorem ql{z:gS}(B:jw x y=true)(h:jw y z=true):jw x z=true:=by
 unfold jw at *;by_cases a:x.gT=y.gT
 .rw[if_pos a]at B;by_cases b:y.gT=z.gT
  .rw[if_pos b]at h;rw[if_pos (a.trans b)];by_cases c:ie x=ie y
   .rw[if_pos c]at B;by_cases d:ie y=ie z
    .rw[if_pos d]at h;rw[if_pos (c.trans d)];exact oN _ _ _ B h
    .rw[if_neg d]at h;rw[if_neg (λe=>d (c.symm.trans e)),c];exact h
   .rw[if_neg c]at B;by_cases d:ie y=ie z
    .rw[if_neg (λe=>c (e.trans d.symm)),<-d];exact B
    .rw[if_neg d]at h;have D:=oN _ _ _ B h;rw[if_neg (CC D)];exact D
  .rw[if_neg b]at h;rw[if_neg (λe=>b (a.symm.trans e)),a];exact h
 .rw[if_neg a,decide_eq_true_eq]at B;by_cases b:y.gT=z.gT
  .rw[if_neg (λe=>a (e.trans b.symm)),decide_eq_true_eq];omega
  .rw[if_neg b,decide_eq_true_eq]at h;rw[if_neg (by omega),decide_eq_true_eq];omega
theorem G1(h:x.name≠y.name):jw x y=true\/jw y x=true:=by
 unfold jw;by_cases a:x.gT=y.gT
 .rw[if_pos a,if_pos a.symm];by_cases c:ie x=ie y
  .rw[if_pos c,if_pos c.symm];rcases kS x.name y.name with B|B|B
   .exact Or.inl B
   .exact absurd B h
   .exact Or.inr B
  .rw[if_neg c,if_neg (λe=>c e.symm)];rcases kS (ie x) (ie y)with B|B|B
   .exact Or.inl B
   .exact absurd B c
   .exact Or.inr B
 .rw[if_neg a,if_neg (λe=>a e.symm),decide_eq_true_eq,decide_eq_true_eq];omega
theorem IF(h:jw x y=true):jw y x=false:=by
 rw[Bool.eq_false_iff];intro B
 have:=ql h B
 rw[vz]at this;cases this
def mh:gS:=⟨[],false,[],0,0⟩
def vA(l:List gS)(ok:Nat->Bool):Nat->Option Nat
 |0=>none
 |k+1=>match vA l ok k with
  |none=>if ok k=true then some k else none
  |some b=>if ok k=true/\jw (l.getD k mh) (l.getD b mh)=true then some k else some b
def uK(l:List gS)(ok:Nat->Bool):Nat->List Nat->List Nat
 |0,_=>[]
 |n+1,told=>match vA l (λi=>ok i && !told.contains i) l.length with
  |none=>[]
  |some b=>b::uK l ok n (told++[b])
theorem Ap:∀k,vA l ok k=none->∀i,i<k->ok i=false:=by
 intro k
 induction k with
 |zero=>intro _ i hi; omega
 |succ k D=>
  intro h i hi;rw[vA]at h
  cases hb:vA l ok k with
  |none=>
   rw[hb]at h;simp only at h;split at h
   .cases h
   .rename_i O;rcases Nat.lt_or_ge i k with B|B
    .exact D hb i B
    .have e:i=k:=by omega
     subst e;simpa using O
  |some b=>
   rw[hb]at h;simp only at h;split at h<;>cases h
theorem I9(hn:(l.map gS.name).Nodup):∀k b,k<=l.length->vA l ok k=some b->b<k/\ok b=true/\∀i,i<k->ok i=true->i≠b->jw (l.getD b mh) (l.getD i mh)=true:=by
 have U:∀i j,i<l.length->j<l.length->i≠j->(l.getD i mh).name≠(l.getD j mh).name:=λi j hi Y h e=>by
  rw[ak,ak,al hi,al Y]at e;simp only[Option.getD_some]at e;exact h ((List.getElem_inj (h₀:=by simpa using hi) (h₁:=by simpa using Y) hn).1 (by simpa using e))
 intro k
 induction k with
 |zero=>intro b _ h; cases h
 |succ k ih=>
  intro b hk h;rw[vA]at h
  cases hb:vA l ok k with
  |none=>
   rw[hb]at h;simp only at h;split at h
   .rename_i B;simp only[aq]at h;subst h;refine⟨by omega,B,λi hi D O=>?_⟩
    have:=Ap k hb i (by omega)
    rw[this]at D; cases D
   .cases h
  |some c=>
   rw[hb]at h;simp only at h;obtain⟨c1,c2,c3⟩:=ih c (by omega) hb;split at h
   .rename_i B;simp only[aq]at h;subst h;refine⟨by omega,B.1,λi hi D O=>?_⟩;by_cases e:i=c
    .subst e; exact B.2
    .exact ql B.2 (c3 i (by omega) D e)
   .rename_i B;simp only[aq]at h;subst h;refine⟨by omega,c2,λi hi D O=>?_⟩;rcases Nat.lt_or_ge i k with h3|h3
    .exact c3 i h3 D O
    .have e:i=k:=by omega
     subst e;rcases G1 (U i c (by omega) (by omega) O)with W|W
     .exact absurd ⟨D,W⟩ B
     .exact W
def pj(l:List gS)(ok:Nat->Bool)(told:List Nat):List Nat:=(List.range l.length).filter λi=>ok i && !told.contains i
theorem Fh{i:Nat}:i∈pj l ok told↔i<l.length/\(ok i && !told.contains i)=true:=by
 unfold pj;rw[List.mem_filter,ao]
theorem Ku{b:Nat}(hb:b∈pj l ok told):(pj l ok told).Perm (b::pj l ok (told++[b])):=by
 have D:(pj l ok told).Nodup:=List.Nodup.sublist List.filter_sublist List.nodup_range
 have e:pj l ok (told++[b])=(pj l ok told).erase b:=by
  rw[D.erase_eq_filter];unfold pj;rw[List.filter_filter];refine List.filter_congr λi _=>?_;rw[Bool.eq_iff_iff];simp only[Bool.and_eq_true,Bool.not_eq_true',bne_iff_ne,List.contains_eq_mem,List.mem_append,an,decide_eq_false_iff_not];constructor
  .rintro⟨O,B⟩; exact⟨λh=>B (Or.inr h),O,λh=>B (Or.inl h)⟩
  .rintro⟨O,B,U⟩; exact⟨B,λh=>h.elim U O⟩
 rw[e];exact List.perm_cons_erase hb
theorem B6(l:List gS)(hn:(l.map gS.name).Nodup)(ok:Nat->Bool):∀(n:Nat)(told:List Nat)(S:List gS),S.Pairwise (λx y=>jw x y=true)->S.Perm ((pj l ok told).map λi=>l.getD i mh)->(uK l ok n told).map (λi=>l.getD i mh)=S.take n:=by
 intro n
 induction n with
 |zero=>intro told S _ _; simp[uK]
 |succ n ih=>
  intro told S hs U;rw[uK]
  cases hb:vA l (λi=>ok i && !told.contains i) l.length with
  |none=>
   have W:=Ap _ hb
   have hc:pj l ok told=[]:=by
    unfold pj;rw[List.filter_eq_nil_iff];intro i hi;rw[W i (ao.1 hi)];simp
   rw[hc]at U;have:S=[]:=List.Perm.eq_nil U;subst this;simp
  |some b=>
   obtain⟨b1,b2,b3⟩:=I9 hn _ b (Nat.le_refl _) hb;have AX:b∈pj l ok told:=Fh.2 ⟨b1,b2⟩;have D:=(Ku AX).map (λi=>l.getD i mh);rw[ap]at D;have B:=U.trans D
   cases S with
   |nil=>exact absurd B.symm.eq_nil (by simp)
   |cons h Y=>
    have hh:h=l.getD b mh:=by
     refine Classical.byContradiction λO=>?_
     have m1:l.getD b mh∈Y:=by
      have:l.getD b mh∈h::Y:=B.mem_iff.2 (by simp);rcases List.mem_cons.1 this with e|e
      .exact absurd e.symm O
      .exact e
     have a1:=(am.1 hs).1 _ m1;have m2:h∈(pj l ok told).map λi=>l.getD i mh:=U.mem_iff.1 (by simp);obtain⟨i,hi,e⟩:=List.mem_map.1 m2;have Rl:=Fh.1 hi;have aa:i≠b:=λe2=>O (by rw[<-e,e2]);have a2:=b3 i Rl.1 Rl.2 aa;rw[e]at a2;rw[IF a1]at a2;cases a2
    subst hh;simp only[ap,List.take_succ_cons];rw[ih (told++[b]) Y (am.1 hs).2 ((List.perm_cons _).1 B)]
end
section
open Go.RowKit
def r8(t e:Nat):Bool:=e &&& t==t
def jH(e:gS):Wd:=e.name++(32::(uN e.gT.toNat++(32::e.text)))
def uc(mode il:Nat)(q:Wd)(e:gS):Bool:=r8 il e.il.toNat&&nD mode (iD q) (ie e)
def vZ(l:List gS)(mode:Int)(q:Wd)(il most:Int):List Wd×Nat:=
 if mode<0\/3<mode\/il<0\/255<il\/most<1\/20<most then([],3)
 else if iX q=true then((uK l (λi=>uc mode.toNat il.toNat q (l.getD i mh)) most.toNat []).map (λi=>jH (l.getD i mh)),0)else([],2)
theorem Dz{l S:List gS}(D:(l.map gS.name).Nodup){mode il most:Int}{q:Wd}(O:S.Pairwise (λx y=>jw x y=true))(U:S.Perm (l.filter λe=>uc mode.toNat il.toNat q e)) :
  (uK l (λi=>uc mode.toNat il.toNat q (l.getD i mh)) most.toNat []).map (λi=>jH (l.getD i mh))=(S.take most.toNat).map jH:=by
 have W:(pj l (λi=>uc mode.toNat il.toNat q (l.getD i mh)) []).map (λi=>l.getD i mh)=l.filter λe=>uc mode.toNat il.toNat q e:=by
  unfold pj
  have B:(λi=>uc mode.toNat il.toNat q (l.getD i mh) && !([]:List Nat).contains i)=(λe=>uc mode.toNat il.toNat q e) ∘ λi=>l.getD i mh:=by
   funext i; simp
  rw[B,<-List.filter_map];congr 1;apply List.ext_getElem
  .simp
  .intro i B Y;simp[ak,Y]
 have h:=B6 l D (λi=>uc mode.toNat il.toNat q (l.getD i mh)) most.toNat [] S O (by rw[W]; exact U);have e:(λi=>jH (l.getD i mh))=jH ∘ λi=>l.getD i mh:=rfl;rw[e,<-List.map_map,h]
end
namespace D
open Go.RowKit Go.Sort
theorem NO{w y:World}(h:kC w y):∃q os,y=grow (w.drewN q) os:=by
 obtain⟨⟨B,D,O,W,U⟩,Y⟩:=h;refine⟨y.drawn-w.drawn,y.heap.extract w.heap.size y.heap.size,?_⟩;obtain⟨yh,yt,yd,yo,yu⟩:=y;obtain⟨wh,wt,wd,wo,wu⟩:=w;simp only at B D O W U Y;subst B D O;unfold grow World.drewN;simp only[World.mk.injEq,and_true,true_and];constructor
 .apply Array.ext_getElem?;intro i;by_cases hi:i<wh.size
  .rw[Array.getElem?_append_left hi];exact U i hi
  .rw[Array.getElem?_append_right (by omega),Array.getElem?_extract];by_cases h:i<yh.size
   .rw[if_pos (by omega)];congr 1;omega
   .rw[if_neg (by omega)];exact Array.getElem?_eq_none (by omega)
 .omega
def Du(x y:Int):Int:=if x<y then -1 else if y<x then 1 else 0
theorem Hg(x y:Int)(w:World):aj prog 127 #[.int .i64 x,.int .i64 y] w λe w'=>e=.returned (.int .i64 (Du x y))/\w=w':=by
 unfold Du;by_cases h:x<y
 .rw[if_pos h];go_enter func127,ntmps127;go_wp2;go_ret;exact⟨rfl,rfl⟩
 .rw[if_neg h];by_cases B:y<x
  .rw[if_pos B];go_enter func127,ntmps127;go_wp2;go_ret;exact⟨rfl,rfl⟩
  .rw[if_neg B];go_enter func127,ntmps127;go_wp2;go_ret;exact⟨rfl,rfl⟩
theorem QE(x y z:Int)(g:Nat)(w:World)(Y:w.cell? ⟨g,0,none⟩=some (.int .i64 x))(h1:w.cell? ⟨g,1,none⟩=some (.int .i64 y))(h2:w.cell? ⟨g,2,none⟩=some (.int .i64 z)):aj prog 126 #[.slice (some ⟨g,0,none⟩) 3 3] w λe w'=>e=.returned (.int .i64 (if x≠0 then x else if y≠0 then y else z))/\w=w':=by
 by_cases h:x=0
 .subst h;rw[if_neg (by simp)];by_cases B:y=0
  .subst B;rw[if_neg (by simp)];by_cases D:z=0
   .subst D;go_enter func126,ntmps126;go_wp2;refine ai 4 ?_;rw[ag];go_wp2;rw[ag];go_wp2;rw[ag];go_wp2;rw[ag];go_wp2;go_ret;exact⟨rfl,rfl⟩
   .have O:(z==0)=false:=by simpa using D
    go_enter func126,ntmps126;go_wp2;refine ai 3 ?_;rw[ag];go_wp2;rw[ag];go_wp2;rw[ag];go_wp2;go_ret;exact⟨rfl,rfl⟩
  .have U:(y==0)=false:=by simpa using B
   rw[if_pos B];go_enter func126,ntmps126;go_wp2;refine ai 2 ?_;rw[ag];go_wp2;rw[ag];go_wp2;go_ret;exact⟨rfl,rfl⟩
 .rw[if_pos h];have W:(x==0)=false:=by simpa using h
  go_enter func126,ntmps126;go_wp2;refine ai 1 ?_;rw[ag];go_wp2;go_ret;exact⟨rfl,rfl⟩
theorem Tl{w:World}{x y z:Value}{t:TypeId}{g:Nat}(h:g=w.heap.size):((w.alloc (.cells #[x,y,z] t)).cell? ⟨g,0,none⟩=some x/\(w.alloc (.cells #[x,y,z] t)).cell? ⟨g,1,none⟩=some y)/\(w.alloc (.cells #[x,y,z] t)).cell? ⟨g,2,none⟩=some z:=by
 subst h;refine⟨⟨?_,?_⟩,?_⟩<;>rw[ar _ _ _ _ rfl]<;>rfl
def S5(x y:gS):Int:=if Du y.gT x.gT≠0 then Du y.gT x.gT else if tS (ie x) (ie y)≠0 then tS (ie x) (ie y)else tS x.name y.name
theorem Fo(x y:gS)(w:World)(hx:x.text.length<=1048576)(B:y.text.length<=1048576):aj prog 84 #[.agg #[.string ⟨x.name.toArray⟩,.string ⟨x.text.toArray⟩,.int .i64 x.gT,.int .i64 x.il],.agg #[.string ⟨y.name.toArray⟩,.string ⟨y.text.toArray⟩,.int .i64 y.gT,.int .i64 y.il]] w λe w'=>e=.returned (.int .i64 (S5 x y))/\kC w w':=by
 obtain⟨z1,Y⟩:∃z,z=Du y.gT x.gT:=⟨_,rfl⟩;obtain⟨z2,aa⟩:∃z,z=tS (ie x) (ie y):=⟨_,rfl⟩;obtain⟨z3,ab⟩:∃z,z=tS x.name y.name:=⟨_,rfl⟩;obtain⟨ux,D⟩:∃ux,ux=if z1≠0 then z1 else if z2≠0 then z2 else z3:=⟨_,rfl⟩
 have e:S5 x y=ux:=by rw[D,Y,aa,ab]; rfl
 rw[e];clear e;obtain⟨kx,ac⟩:∃k,k=ie x:=⟨_,rfl⟩;obtain⟨ky,ad⟩:∃k,k=ie y:=⟨_,rfl⟩;have H1:Hid (∀W,aj prog 127 #[.int .i64 y.gT,.int .i64 x.gT] W λe w'=>e=.returned (.int .i64 z1)/\W=w'):=λW=>by rw[Y]; exact Hg _ _ W
 have H2:Hid (∀W,aj prog 128 #[.string ⟨kx.toArray⟩,.string ⟨ky.toArray⟩] W λe w'=>e=.returned (.int .i64 z2)/\W=w'):=λW=>by rw[aa,<-ac,<-ad]; exact sk _ _ W
 have H3:Hid (∀W,aj prog 128 #[.string ⟨x.name.toArray⟩,.string ⟨y.name.toArray⟩] W λe w'=>e=.returned (.int .i64 z3)/\W=w'):=λW=>by rw[ab]; exact sk _ _ W
 have HX:Hid (∀W,aj prog 50 #[.string ⟨x.text.toArray⟩] W λe w'=>e=.returned (.string ⟨kx.toArray⟩)/\kC W w'):=λW=>by
  have h:=zK ⟨x.text.toArray⟩ W (by show x.text.toArray.size<=_; simp; omega);rw[ac];exact h
 have HY:Hid (∀W,aj prog 50 #[.string ⟨y.text.toArray⟩] W λe w'=>e=.returned (.string ⟨ky.toArray⟩)/\kC W w'):=λW=>by
  have h:=zK ⟨y.text.toArray⟩ W (by show y.text.toArray.size<=_; simp; omega);rw[ad];exact h
 have HO:Hid (∀(g:Nat)(W:World),W.cell? ⟨g,0,none⟩=some (.int .i64 z1)->W.cell? ⟨g,1,none⟩=some (.int .i64 z2)->W.cell? ⟨g,2,none⟩=some (.int .i64 z3)->aj prog 126 #[.slice (some ⟨g,0,none⟩) 3 3] W λe w'=>e=.returned (.int .i64 ux)/\W=w'):=λg W k0 k1 k2=>by
  rw[D];exact QE z1 z2 z3 g W k0 k1 k2
 clear D Y aa ab ac ad hx B;obtain⟨nx,_,tx,wx,gx⟩:=x;obtain⟨ny,_,ty,wy,gy⟩:=y;simp only at H1 H3 HX HY⊢;obtain⟨w0,O⟩:∃w0,w0=(w.alloc (.cells #[.string ⟨nx.toArray⟩,.string ⟨tx.toArray⟩,.int .i64 wx,.int .i64 gx] 96)).alloc (.cells #[.string ⟨ny.toArray⟩,.string ⟨ty.toArray⟩,.int .i64 wy,.int .i64 gy] 96):=⟨_,rfl⟩
 have hA:∀j,w0.cell? ⟨w.heap.size,j,none⟩=(#[Value.string ⟨nx.toArray⟩,.string ⟨tx.toArray⟩,.int .i64 wx,.int .i64 gx]:Array Value)[j]?:=λj=>by
  rw[O,World.cell?_alloc_past _ _ _ (by simp),ar _ _ _ _ rfl]
 have U:∀j,w0.cell? ⟨w.heap.size+1,j,none⟩=(#[Value.string ⟨ny.toArray⟩,.string ⟨ty.toArray⟩,.int .i64 wy,.int .i64 gy]:Array Value)[j]?:=λj=>by
  rw[O,ar _ _ _ _ (by simp)]
 have ae:Hid (kC w w0):=by rw[O]; exact(kC.alloc _ _).trans (kC.alloc _ _)
 have a0:w0.cell? ⟨w.heap.size,0,none⟩=some (.string ⟨nx.toArray⟩):=hA 0;have a1:w0.cell? ⟨w.heap.size,1,none⟩=some (.string ⟨tx.toArray⟩):=hA 1;have a2:w0.cell? ⟨w.heap.size,2,none⟩=some (.int .i64 wx):=hA 2;have b0:w0.cell? ⟨w.heap.size+1,0,none⟩=some (.string ⟨ny.toArray⟩):=U 0;have b1:w0.cell? ⟨w.heap.size+1,1,none⟩=some (.string ⟨ty.toArray⟩):=U 1;have b2:w0.cell? ⟨w.heap.size+1,2,none⟩=some (.int .i64 wy):=U 2;clear hA U;go_enter func84,ntmps84;go_wp2_with fail;rw[<-O];clear O;refine n8 (by kernel_rfl) ?_;refine ic 0 ?_ ?_<|ic 1 ?_ ?_<|ic 2 ?_ ?_<|ic 3 ?_ ?_ ?_
 any_goals(intro y B; have q:=ah B.1 b2; have q1:=ah B.1 a2; unfold jh; go_simp; refine⟨kC.refl _,?_⟩; with_reducible rfl)
 go_simp;refine ic 4 ?_ ?_ ?_;rotate_left
 .intro y B; unfold jh; go_simp; refine⟨rfl,(H1.out y).mono ?_⟩; rintro e y2 ⟨rfl,rfl⟩; refine⟨_,rfl,kC.refl _,?_⟩; with_reducible rfl
 refine ic 5 ?_ ?_<|ic 6 ?_ ?_ ?_
 any_goals(intro y B; have q:=ah B.1 a1; unfold jh; go_simp; refine⟨kC.refl _,?_⟩; with_reducible rfl)
 go_simp;refine ic 7 ?_ ?_ ?_;rotate_left
 .intro y B; unfold jh; go_simp; refine⟨rfl,(HX.out y).mono ?_⟩; rintro e y2 ⟨rfl,h2⟩; refine⟨_,rfl,h2,?_⟩; with_reducible rfl
 refine ic 8 ?_ ?_<|ic 9 ?_ ?_ ?_
 any_goals(intro y B; have q:=ah B.1 b1; unfold jh; go_simp; refine⟨kC.refl _,?_⟩; with_reducible rfl)
 go_simp;refine ic 10 ?_ ?_ ?_;rotate_left
 .intro y B; unfold jh; go_simp; refine⟨rfl,(HY.out y).mono ?_⟩; rintro e y2 ⟨rfl,h2⟩; refine⟨_,rfl,h2,?_⟩; with_reducible rfl
 go_simp;refine ic 11 ?_ ?_ ?_;rotate_left
 .intro y B; unfold jh; go_simp; refine⟨rfl,(H2.out y).mono ?_⟩; rintro e y2 ⟨rfl,rfl⟩; refine⟨_,rfl,kC.refl _,?_⟩; with_reducible rfl
 refine ic 12 ?_ ?_<|ic 13 ?_ ?_<|ic 14 ?_ ?_<|ic 15 ?_ ?_ ?_
 any_goals(intro y B; have q:=ah B.1 a0; have q1:=ah B.1 b0; unfold jh; go_simp; refine⟨kC.refl _,?_⟩; with_reducible rfl)
 go_simp;refine ic 16 ?_ ?_ ?_;rotate_left
 .intro y B; unfold jh; go_simp; refine⟨rfl,(H3.out y).mono ?_⟩; rintro e y2 ⟨rfl,rfl⟩; refine⟨_,rfl,kC.refl _,?_⟩; with_reducible rfl
 go_simp;refine MZ (rs:=[17]) (by kernel_rfl) (by simp) ?_;intro i hi;simp only[an]at hi;subst hi;refine Jz (λg=>.slice (some ⟨g,0,none⟩) 3 3) (λg y=>(y.cell? ⟨g,0,none⟩=some (.int .i64 z1)/\y.cell? ⟨g,1,none⟩=some (.int .i64 z2))/\y.cell? ⟨g,2,none⟩=some (.int .i64 z3)) rfl (j5 _) (λg=>((k7 _ _).and (k7 _ _)).and (k7 _ _)) (by rfl) ?_ ?_
 .intro y B; unfold jh; go_simp; exact⟨kC.alloc _ _,rfl,Tl rfl⟩
 intro g;go_simp;refine ic 18 ?_ ?_ ?_ (hC:=((j5 _).and (((k7 _ _).and (k7 _ _)).and (k7 _ _))));rotate_left
 .intro y B; obtain⟨_,⟨k0,k1⟩,k2⟩:=B; unfold jh; go_simp; refine⟨rfl,(HO.out _ y k0 k1 k2).mono ?_⟩; rintro e y2 ⟨rfl,rfl⟩; refine⟨_,rfl,kC.refl _,?_⟩; with_reducible rfl
 go_simp;refine ic 19 ?_ ?_ ?_ (hC:=((j5 _).and (((k7 _ _).and (k7 _ _)).and (k7 _ _))));rotate_left
 .intro y B; unfold jh; go_simp; refine⟨kC.refl _,?_⟩; with_reducible rfl
 refine tD (by kernel_rfl) ?_ _;rintro y ⟨B,_⟩;have af:Hid (kC w y):=kC.trans ae.out B;clear B;go_simp;go_wp2;go_ret;exact⟨rfl,af.out⟩
end D
end Go.Proofs.YtocbogeoffeolaaGreatDoor
