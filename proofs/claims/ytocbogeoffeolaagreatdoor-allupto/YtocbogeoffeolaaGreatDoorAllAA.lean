import Derived.Test.YtocbogeoffeolaaGreatDoorProg
import Derived.Test.YtocbogeoffeolaaGreatDoorAll0
set_option linter.all false
set_option maxHeartbeats 8000000
set_option maxRecDepth 1000000
open List renaming replicate->c5,takeWhile_cons->eg,eq_nil_of_length_eq_zero->ex,nil_prefix->e4,range->e8,prefix_refl->fa,map_toArray->fd,sum_append->fm,prefix_of_prefix_length_le->f',pairwise_append->gg,count_append->g9,all_append->hJ,length_replicate->hM,getElem_of_mem->ie,dropWhile_cons->iv,getElem?_drop->i1,any_eq_false->i6,ext_getElem->jt,perm_ext_iff_of_nodup->j1,mem_of_find?_eq_some->j2,prefix_iff_eq_take->j',length_pos_of_mem->kb,set_append_right->kc,replicate_succ'->kf,count_singleton->ko,drop_succ_cons->kt,prefix_append->kv,ne_nil_of_mem->kx,getElem_range->ky,Nodup->k9,take_prefix->k',flatMap_map->ld,prefix_nil->lf,count_cons->lk,take_take->ln,any_cons->lo,length->lp
open Nat renaming mul_right_comm->nv,mul_assoc->ny,shiftLeft_add_eq_or_of_lt->n7,mul_lt_mul_of_pos_right->n8,mul_le_mul->nL,add_assoc->nU,lt_trichotomy->og,mod_eq_of_lt->oi,div_eq_of_lt->oj,min_eq_left->on,le_antisymm->oo,sub_self->op,add_zero->o5,mul_pos->o6,add_mul->o7
open Bool renaming not_eq_true'->pd,not_eq_false'->pp,false_or->ps
open Option renaming map->q5
open Array renaming toList_inj->s5,getElem?_setIfInBounds->s6,ext_getElem?->s'
open UInt8 renaming ofNat->v5,toNat_add->v8
open Prod.mk renaming injEq->yu
open ByteArray renaming ext->z4,size_append->z5
open List.Perm renaming eq_of_pairwise->Bk,refl->B0,eq_nil->B1
open Prod renaming fst->B3
open Array renaming setIfInBounds->S?
open Bool renaming false->f?,true->t?
open List renaming length->l?,toArray->a?
open Option renaming none->x?,some->y?
namespace Go.Proofs.YtocbogeoffeolaaGreatDoor
open Go renaming maxLen->ls,Calls->lw,run_underlying->l0,wpList->l1,run_append_own->l3,below_drewN->l4,bodyPost_ret->lE,execOp->mi,run_append_room->mp,run_append_grow->mr,run_append_nil->mv,growslice_fits->mx,keyOf->m0,results->m4,resolve->m5,run_convert_bytes_string->m7,zeroValue->m8,madeCells->m9,wpAnyH->m',goInt->nc,yielded->ne,storeCells->nl
open World renaming setCell->pu,cell?_of_block->px,frozen?->p4,cell?_alloc_past->p5,cell?->p6,ownsMap_made->p7,drewN->p'
open RowKit.Below renaming refl->qr
open Op renaming bytesLess->q6
open Proofs.Tryz renaming underlying31->q7,underlying60->q8,underlying9->q',underlying86->rf,ntmps103->ro,underlying143->rr,results95->rs,underlying75->rt,underlying72->rv,func103->rx,underlying5->r4,ntmps207->r5,ntmps114->r6,underlying145->r',underlying141->sa,underlying26->sb,ntmps69->sd,ntmps35->sg,func207->si,func114->sl,func69->sm,func35->so
open Instr renaming lookup->tb,mapUpdate->td,mapEntry->te,entryStore->tg,entry->ti,next->tl
open MapKept renaming run_getObj_map->tt,run_setObj_map->tx,stamped_iff->ua
open Result.ok renaming injEq->uc
open Result renaming andThen->un,andThen_ok->ut
open Value renaming ownBlock->u'
open Lib renaming compareBytes->uL,spansFromP->vc,closeSpans->vx,bytesWorld_size->v4
open Builtin renaming append_->vA,firstCells->vL,lenOf->vM,len_->wa,copy_->wd
open Addr renaming add_lit->wh,add->wl
open Sem renaming run_pure->wn,run_bind->wo
open Go.Sort renaming alloc_eq_grow->wy,grow_grow->w9,mapBlock->wS,putRowK->xt,putRow->yb
open IntKind renaming wrap_u64->yd,wrap_u8->yg,signed->yh,min->yo,max->ys,bits->yt
open Value.slice renaming injEq->y6
open Maps renaming string_keyed->y7,size->y8,atKey_put_other->y9,atKey_put_same->zk,has->zs
open RowKit renaming wrap64->z1
open Oper renaming wp->z3
open Region renaming wanted->z7,ready->z8
open Obj.cells renaming injEq->z9
open IntWalk renaming i64_in->A',wrap64_in->Bb
open Go renaming Program->P?,Value->v?,World->w?
open Ending renaming returned->e?
open IntKind renaming i64->i?
open Obj renaming cells->c?
open Value renaming int->n?,ownBlock->O?,pointer->p?,string->s?
open World renaming cell?->C?,ownsRow->R?
open Proofs.Tryz
section
open RowKit
def eS(c:UInt8):Bool:=decide<|(97<=c.toNat/\c.toNat<=122)\/(48<=c.toNat/\c.toNat<=57)
def nA(c:UInt8):Bool:=decide<|32<=c.toNat/\c.toNat<=126
def eh(l:List UInt8):Bool:=decide (l? l<=24)&&l.all nA
def Gz(c:UInt8):UInt8:=if 65<=c.toNat/\c.toNat<=90 then c+32 else c
def dP(l:List UInt8):List UInt8:=l.map Gz
def rZ(s:b?)(k)(h):s.1.1.take (k+1)=s.1.1.take k++[s[k]]:=by rw[IS _];rfl
def eB(l):(dP l).length=l? l:=by simp[dP]
def Bh(l)(c):dP (l++[c])=dP l++[Gz c]:=by simp[dP]
def eX(l:List UInt8):List v?:=l.map λc=>Value.int .u8 c.toNat
def o8(l):(eX l).length=l? l:=by simp[eX]
def DW(l)(c):eX (l++[c])=eX l++[Value.int .u8 c.toNat]:=by simp[eX]
def Om(c)(h:65<=c.toNat/\c.toNat<=90):((Gz c).toNat)=(c.toNat:Int)+32:=by unfold Gz;rw[if_pos h,v8];have:(32:UInt8).toNat=32:=rfl;omega
def Oc(c)(h:¬(65<=c.toNat/\c.toNat<=90)):Gz c=c:=by unfold Gz;rw[if_neg h]
def fp(l:List UInt8)(i:Nat):Bool:=eS (l.getD i 0)&&(decide (i=0) || !eS (l.getD (i-1) 0))
def yQ(l:List UInt8)(i:Nat):List UInt8:=(l.drop i).takeWhile eS
def iF(l:List UInt8)(k:Nat):List<|List UInt8:=((e8 k).filter<|fp l).map<|yQ l
def eR(l:List UInt8):List<|List UInt8:=iF l l.length
def du(ws:List<|List UInt8):List v?:=ws.map λb=>Value.string ⟨a? b⟩
def dz(ws):(du ws).length=l? ws:=by simp[du]
def iN(ws)(b):du (ws++[b])=du ws++[Value.string ⟨a? b⟩]:=by simp[du]
def rR(l)(k)(h:fp l k=t?):iF l (k+1)=iF l k++[yQ l k]:=by simp[iF,D!,h]
def lZ(l)(k)(h:fp l k=f?):iF l (k+1)=iF l k:=by simp[iF,D!,h]
def pQ(l)(k):(iF l k).length<=k:=by unfold iF;have:=No (fp l)<|e8 k;simpa using this
def ir(s:b?)(k)(h):s.1.1.getD k 0=s[k]:=by rw[AS,BY _];rfl
def zj(l:List UInt8)(i too:Nat):Prop:=i<=too/\too<=l? l/\∀j,i<=j->j<too->eS (l.getD j 0)=t?
def Eg(p):∀(l:List UInt8)(n),n<=l? l->(∀j,j<n->p (l.getD j 0)=t?)->(n=l? l\/p (l.getD n 0)=f?)->l.takeWhile p=l.take n:=by
 intro l;induction l with
 |nil=>simp|cons c l U=>
  intro n h fu B
  cases n with
  |zero=>
   obtain J|J:=B
   simp at J;simp at J;simp[J]
  |succ n=>
   have J:=fu 0 o!;simp at J;rw[eg,J,Z?];simp only[if_true];rw[U n (u! h) (λj V=>by have:=fu (j+1) o!;simpa using this) ?_];obtain O|O:=B
   left;simpa using O;right;simpa using O
def MS(l)(i too)(h:zj l i too)(B:too=l? l\/eS (l.getD too 0)=f?):yQ l i=(l.drop i).take (too-i):=by
 obtain⟨U,V,O⟩:=h;have J:∀j,(l.drop i).getD j 0=l.getD (i+j) 0:=by simp[AS,i1]
 refine Eg eS _ _ j! (λj W=>?_) ?_;rw[J];exact O _ o! o!;obtain h|h:=B
 simp;omega;right;rwa[J,(o!:i+(too-i)=too)]
def Aa(l)(k)(B:k<=l? l):zj l k k:=⟨Zu _,B,λ_ _ _=>o!⟩
def ww(l)(k t)(h:zj l k t)(J:t<l? l)(O:eS (l.getD t 0)=t?):zj l k<|t+1:=
 ⟨by have:=h.1;omega,o!,λj B U=>by
   by_cases e:j=t;rwa[e]
   exact h.2.2 j B o!⟩
def pw(f:b?)(k t)(h:zj f.1.1 k t)(B:t=f.size\/eS (f.1.1.getD t 0)=f?) :
  f.extract k t=⟨(yQ f.1.1 k).toArray⟩:=by
 rw[MS _ k t h<|u! B];apply z4;apply s5.1;simp
def xh(s:b?)(k)(h:k<s.size):s[k]∈s.1.1:=by exact Zw _
def dW{a b}(h:a=b):Ending.returned (.bool a)=e? (.bool b):=by rw[h]
def xv{a b:b?}(h:a=b):Ending.returned (s? a)=e? (s? b):=by rw[h]
def dQ{k a b}(h:a=b):Ending.returned (n? k a)=e? (n? k b):=by rw[h]
def eu{P}(w){ops rest o a Q}(aa:o.6=x?)(s x)(t)
  (ho:o.2=.call {callee:=.builtin .append,args:=#[s,x],argTypes:=#[t,t]})
  (base) (e) (i) (z) (bytes) (ht:P.underlying t=y? (.slice e)) (hi:P.info? e=y? i) (hz:i.8=y? z)
  (J:i.3=1) (ab:i.4=bytes) (ac:z.cells.size=1)
  (v) (n) (xs:L?) (hs:a.eval s=v) (W:R? w base e 1 v n xs)
  (ad) (y) (hx:a.eval x=.slice (y? ad) 1 1) (O:C? w ad=y? y) (h1:y.oneCell'=t?)
  (B:(n+1)*bytes<=140737488355328) (ae:n+1<=ls) (U:base<=w.1.size)
  (h:∀Y w',R? w' base e 1 Y (n+1) (xs++[y])->w.grownBy w' (O? v)->Y≠.slice x? 0 0->l1 P ops Q rest (a.put o.1 Y) w'):l1 P ops Q (o::rest) a w:=by
 refine wpList_append_own w aa s x t ho base e i z 1 bytes ht hi hz J ab ac d! v n xs hs W ad 1 1 [y] hx q? ?_ ?_ ae B U ?_;intro j u V;match j,V with
 |0,V=>simp at V;subst V;simpa[wl]using O|j+1,V=>simp at V
 intro u hu;simp at hu;subst hu;exact h1;intro Y w' h2 h3 h4;apply h Y w' h2 h3;intro he;have:=h4.1 he;simp at this
def fF{w:w?}{v t}:C? (w.alloc<|c? #[v] t) ⟨w.1.size,0,x?⟩=y? v:=by rw[Zl _ _ _ _ rfl];rfl
def Ct:∀(l:List UInt8)(s:b?),(l.map λc=>(c.toNat:Int)).foldl (λr n=>r.push<|v5 n.toNat) s=⟨s.1++l.toArray⟩:=by
 intro l;induction l with
 |nil=>simp|cons c l B=>intro s;rw[ZK,G?,B];simp
def vW{P w}{base u8 src B n:Nat}{v l}(h:R? w base u8 1 v n<|eX l)
  (U:P.underlying src=y? (.slice u8)) (V:P.underlying u8=y? (.int .u8)) (W:P.underlying B=y? .string) :
  (convert src B v).run P w=.ok (s? ⟨a? l⟩) w:=by
 let ⟨J,h⟩:=h;obtain⟨rfl,rfl⟩|⟨g,cap,cur,rfl,_,hg,_,_,Y,aa⟩:=h
 have:=by simpa[eX]using J
 subst this;rw[m7 w src B u8 _ _ _ U V W];rfl;rw[m7 w src B u8 _ _ _ U V W];have hn:n=l? l:=by rw[o8]at J;omega
 have O:=run_loadCells_list (P:=P) w _ _<|(h).cells q?;rw[o8,<-hn]at O;have e:eX l=(l.map λc=>c.toNat).map (Value.int .u8):=by simp[eX]
 rw[e]at O;rw[run_bytesToString w _ _ _ _ O,Ct];simp
def qn(c)(w) :
  lw prog 199 #[n? .u8 c.toNat] w λe w'=>e=e? (.bool<|eS c)/\w=w':=by
 go_enter func199,ntmps199;go_wp2
 all_goals
  go_ret;refine⟨dW ?_,q?⟩;unfold eS;rw[Z8];simp only[decide_eq_true_eq,Z7,true_iff,false_iff,Zk];omega
def gY(s:b?)(w)(hs:s.size<=ls) :
  lw prog 142 #[s? s] w λe w'=>e=e? (.bool<|eh s.1.1)/\w=w':=by
 unfold ls at hs;by_cases V:s.size<=24
 .have hd:decide (24<(s.size:Int))=f?:=j!;go_enter func142,ntmps142;go_wp2;go_loop [3] (λi=>∃k:Nat,k<=s.size/\i=n? i? k/\(s.1.1.take k).all nA=t?) (λi=>s.size-(intOf i).toNat);exact⟨0,ZP _,q?,q?⟩;obtain⟨k,hk,rfl,fu⟩:=hrel;have Y:=h! fu;clear fu;by_cases J:k<s.size
  .have O:=rZ s k J;have HS:=h! O;clear O;by_cases B:nA s[k]=t?
   .have W:=h! B;have U:32<=(s[k].toNat:Int):=by simp[nA]at B;omega
    have h2:(s[k].toNat:Int)<=126:=by simp[nA]at B;omega
    clear B;go_wp2;go_round
    .exact⟨k+1,o!,by go_num,by rw[HS.o,hJ,Y.o];simp[W.o]⟩
    exact M!
   have W:=h! B;have U:(s[k].toNat:Int)<32\/126<(s[k].toNat:Int):=by simp[nA]at B;omega
   clear B;obtain U|U:=U
   all_goals
    go_wp2;go_ret;refine⟨dW ?_,q?⟩;symm;rw[j?];intro hq;apply W;simp only[eh,IT]at hq;exact Zy.1 hq.2 _<|xh s k J
  go_wp2;go_ret;refine⟨dW ?_,q?⟩;have:=Y.o;rw[If j!]at this;simp[eh,this];exact V
 go_enter func142,ntmps142;go_wp2;go_ret;refine⟨dW ?_,q?⟩;simp[eh];omega
def F0:(prog.info? 5).map (λi=>(i.8,i.3,i.4))=y? (y?<|n? .u8 0,1,1):=by kernel_rfl
def pZ(s:b?)(w)(hs:s.size<=1099511627776) :
  lw prog 200 #[s? s] w λe w'=>e=e? (s? ⟨(dP s.1.1).toArray⟩)/\B? w w':=by
 obtain⟨i0,hi,aa,ab,ac⟩:=Zz F0;go_enter func200,ntmps200;go_wp2;go_loopw [3,4] (λv i wr=>∃k:Nat,k<=s.size/\i=n? i? k/\R? wr w.1.size 5 1 v k (eX (dP (s.1.1.take k)))/\B? w wr) (λ_ i _=>s.size-(intOf i).toNat);exact⟨0,ZP _,q?,Z9 _ _ _ _,qr _ _⟩;obtain⟨k,hk,rfl,J,U⟩:=hrel;have HS:=U.4;have hl:(eX<|dP<|s.1.1.take k).length=k:=by rw[o8,eB];simp;omega
 by_cases ad:k<s.size
 .have HE:J?<|eX (dP<|s.1.1.take<|k+1)=eX (dP<|s.1.1.take k)++[n? .u8 (Gz s[k]).toNat]:=by
   rw[rZ s k ad,Bh,DW];rfl
  by_cases V:65<=s[k].toNat/\s[k].toNat<=90
  .have h1:65<=(s[k].toNat:Int):=o!;have h2:(s[k].toNat:Int)<=90:=o!;have HL:=h!<|Om _ V;clear V
   go_wp2_with (first
    |(at_builtin;refine eu _ q? _ _ 60 q? _ 5 i0 _ 1 q8 hi aa ab ac q? _ _ _ q? (J.alloc _) _ _ q? fF q? ?c1 ?c2 ?c3 ?_))
   case c1=>omega
   case c2=>unfold ls;omega
   case c3=>first|omega|(simp;omega)
   intro v' w1 B O _;rw[<-HL.o,<-HE.o]at B;have W:=(U.alloc HS _).grown O j!<|λb hb=>(J.lt b hb).1;go_wp2;go_roundw
   .exact⟨k+1,o!,by go_num,B,W⟩
   exact M!
  have HL:=h!<|Oc _ V;have ae:(s[k].toNat:Int)<65\/90<(s[k].toNat:Int):=o!;clear V;obtain h1|h1:=ae
  all_goals
   go_wp2_with (first
    |(at_builtin;refine eu _ q? _ _ 60 q? _ 5 i0 _ 1 q8 hi aa ab ac q? _ _ _ q? (J.alloc _) _ _ q? fF q? ?c1 ?c2 ?c3 ?_))
   case c1=>omega
   case c2=>unfold ls;omega
   case c3=>first|omega|(simp;omega)
   intro v' w1 B O _;have Y:=HE.o;rw[HL.o]at Y;rw[<-Y]at B;have W:=(U.alloc HS _).grown O j!<|λb hb=>(J.lt b hb).1;clear Y;go_wp2;go_roundw
   .exact⟨k+1,o!,by go_num,B,W⟩
   exact M!
 have ek:k=s.size:=o!;subst ek;have af:=vW J q8 r4 q';go_wp2;go_ret;refine⟨xv ?_,U⟩;rw[If i!]
def wB(s:b?)(k)(w)(hs:s.size<=1099511627776)(hk:k<s.size) :
  lw prog 207 #[s? s,n? i? k] w λe w'=>e=e? (.bool<|fp s.1.1 k)/\w=w':=by
 have B:=ir s k hk;by_cases O:eS s[k]=t?
 .by_cases W:k=0
  .subst W;have J:J?<|fp s.1.1 0=t?:=by unfold fp;rw[B,O];rfl
   clear B;go_enter si,r5;go_wp2_with (go_at_call 199;apply g!<|qn _ _);go_ret;exact⟨dW<|by rw[J.o],q?⟩
  have U:k-1<s.size:=o!;have Y:=ir s _ U;have hb:((k:Int)==0)=f?:=j!;have J:J?<|fp s.1.1 k = !eS s[k-1]:=by show fp s.1.1 k=_;unfold fp;rw[B,O,Y];simp[W]
  clear B Y;go_enter si,r5;go_wp2_with fail;apply g!<|qn _ _;go_wp2_with fail;apply g!<|qn _ _;go_wp2;go_ret;exact⟨dW<|by rw[J.o],q?⟩
 have V:eS s[k]=f?:=by simpa using O
 have J:J?<|fp s.1.1 k=f?:=by unfold fp;rw[B,V];rfl
 clear B;go_enter si,r5;go_wp2_with (go_at_call 199;apply g!<|qn _ _);go_ret;exact⟨dW<|by rw[J.o],q?⟩
def rH:(prog.info? 9).map (λi=>(i.8,i.3,i.4))=y? (y?<|s? ⟨#[]⟩,1,16):=by kernel_rfl
def E0(s:b?)(w)(hs:s.size<=1099511627776) :
  lw prog 155 #[s? s] w λe w'=>∃v,e=e? v/\
   R? w' w.1.size 9 1 v (eR<|dP s.1.1).length (du<|eR<|dP s.1.1)/\B? w w':=by
 obtain⟨i0,hi,ad,ae,af⟩:=Zz rH;go_enter func155,ntmps155;go_wp2_with fail;apply (pZ s w hs).mono;rintro e w0 ⟨rfl,ag⟩;obtain⟨f,hf⟩:∃f:b?,f=⟨(dP s.1.1).toArray⟩:=⟨_,q?⟩;have ah:f.size<=1099511627776:=by rw[hf];show(dP s.1.1).length<=_;rw[eB];simpa using hs
 have HF:J?<|dP s.1.1=f.1.1:=by show dP s.1.1=f.1.1;rw[hf]
 rw[<-hf];clear hf hs;have aj:=ag.4;go_wp2;go_loopw [4,5] (λv i wr=>∃k:Nat,k<=f.size/\i=n? i? k/\R? wr w.1.size 9 1 v (iF f.1.1 k).length (du (iF f.1.1 k))/\B? w wr) (λ_ i _=>f.size-(intOf i).toNat);exact⟨0,ZP _,q?,Z9 _ _ _ _,ag⟩;obtain⟨k,hk,rfl,U,J⟩:=hrel;have HS:=J.4;have ak:=pQ f.1.1 k;by_cases ai:k<f.size
 .by_cases V:fp f.1.1 k=t?
  .have HE:=h!<|rR _ _ V;go_wp2_with fail;apply g!<|wB f k _ ah ai;rw[V];clear V;go_wp2_with fail;go_loop [7] (λi=>∃t:Nat,i=n? i? t/\t<=f.size/\zj f.1.1 k t) (λi=>f.size-(intOf i).toNat);exact⟨k,q?,hk,Aa _ _<|u! hk⟩;obtain⟨t,rfl,ht,Y⟩:=hrel;have HR:=h! Y;clear Y;by_cases aa:t<f.size
   .have hc:((97<=(f[t].toNat:Int)/\(f[t].toNat:Int)<=122)\/((f[t].toNat:Int)<97/\48<=(f[t].toNat:Int)/\(f[t].toNat:Int)<=57))\/((f[t].toNat:Int)<48\/122<(f[t].toNat:Int)\/((f[t].toNat:Int)<97/\57<(f[t].toNat:Int))):=o!;obtain hc|hc:=hc
    .have HL:J?<|eS (f.1.1.getD t 0)=t?:=h!<|by rw[ir f t aa,eS,decide_eq_true_iff];omega
     obtain⟨h1,h2⟩|⟨h1,h2,h3⟩:=hc
     all_goals
      go_wp2;go_round
      .exact⟨t+1,by go_num,o!,ww _ _ _ HR (u! aa) HL⟩
      exact M!
    have HX:=h!<|pw f k t HR<|.inr (by rw[ir f t aa,eS,decide_eq_false_iff_not];omega);have al:=HR.1;obtain h1|h1|⟨h1,h2⟩:=hc
    all_goals
     go_wp2_with (first
      |(at_builtin;refine eu _ q? _ _ 31 q? _ 9 i0 _ 16 q7 hi ad ae af q? _ _ _ q? (U.alloc _) _ _ q? fF q? ?c1 ?c2 ?c3 ?_))
     case c1=>omega
     case c2=>unfold ls;omega
     case c3=>first|omega|(simp;omega)
     intro v' w1 B O _;rw[HX.o,<-iN,<-HE.o]at B;have ab:=(J.alloc HS _).grown O j!<|λb hb=>(U.lt b hb).1;have ac:J?<|(iF f.1.1 k).length+1=(iF f.1.1<|k+1).length:=h!<|by rw[HE.o];simp
     rw[ac.o]at B;go_wp2;go_roundw
     .exact⟨k+1,o!,by go_num,B,ab⟩
     exact M!
   have et:t=f.size:=o!;subst et;have HX:=h!<|pw f k f.size HR<|.inl q?
   go_wp2_with (first
    |(at_builtin;refine eu _ q? _ _ 31 q? _ 9 i0 _ 16 q7 hi ad ae af q? _ _ _ q? (U.alloc _) _ _ q? fF q? ?c1 ?c2 ?c3 ?_))
   case c1=>omega
   case c2=>unfold ls;omega
   case c3=>first|omega|(simp;omega)
   intro v' w1 B O _;rw[HX.o,<-iN,<-HE.o]at B;have ab:=(J.alloc HS _).grown O j!<|λb hb=>(U.lt b hb).1;have ac:J?<|(iF f.1.1 k).length+1=(iF f.1.1<|k+1).length:=h!<|by rw[HE.o];simp
   rw[ac.o]at B;go_wp2;go_roundw
   .exact⟨k+1,o!,by go_num,B,ab⟩
   exact M!
  have W:fp f.1.1 k=f?:=by simpa using V
  have HE:=h!<|lZ _ _ W;clear V;go_wp2_with fail;apply g!<|wB f k _ ah ai;rw[W];clear W;go_wp2;go_roundw
  .exact⟨k+1,o!,by go_num,by rwa[HE.o],J⟩
  exact M!
 have ek:k=f.size:=o!;subst ek;go_wp2;go_ret;refine⟨_,q?,?_,J⟩;rw[HF.o];have e:eR f.1.1=iF f.1.1 f.size:=by unfold eR;simp
 rwa[e]
def pe(c)(w) :
  lw prog 98 #[n? .u8 c.toNat] w λe w'=>e=e? (.bool<|eS c)/\w=w':=by
 go_wp2
 all_goals
  go_ret;refine⟨dW ?_,q?⟩;unfold eS;rw[Z8];simp only[decide_eq_true_eq,Z7,true_iff,false_iff,Zk];omega
def qC(s:b?)(w)(hs:s.size<=ls) :
  lw prog 48 #[s? s] w λe w'=>e=e? (.bool<|eh s.1.1)/\w=w':=by
 unfold ls at hs;by_cases V:s.size<=24
 .have hd:decide (24<(s.size:Int))=f?:=j!;go_enter func48,ntmps48;go_wp2;go_loop [9] (λi=>∃k:Nat,k<=s.size/\i=n? i? k/\(s.1.1.take k).all nA=t?) (λi=>s.size-(intOf i).toNat);exact⟨0,ZP _,q?,q?⟩;obtain⟨k,hk,rfl,fu⟩:=hrel;have Y:=h! fu;clear fu;by_cases J:k<s.size
  .have O:=rZ s k J;have HS:=h! O;clear O;by_cases B:nA s[k]=t?
   .have W:=h! B;have U:32<=(s[k].toNat:Int):=by simp[nA]at B;omega
    have h2:(s[k].toNat:Int)<=126:=by simp[nA]at B;omega
    clear B;go_wp2;go_round
    .exact⟨k+1,o!,by go_num,by rw[HS.o,hJ,Y.o];simp[W.o]⟩
    exact M!
   have W:=h! B;have U:(s[k].toNat:Int)<32\/126<(s[k].toNat:Int):=by simp[nA]at B;omega
   clear B;obtain U|U:=U
   all_goals
    go_wp2;go_ret;refine⟨dW ?_,q?⟩;symm;rw[j?];intro hq;apply W;simp only[eh,IT]at hq;exact Zy.1 hq.2 _<|xh s k J
  go_wp2;go_ret;refine⟨dW ?_,q?⟩;have:=Y.o;rw[If j!]at this;simp[eh,this];exact V
 go_enter func48,ntmps48;go_wp2;go_ret;refine⟨dW ?_,q?⟩;simp[eh];omega
def sY(s:b?)(w)(U:s.size<=ls) :
  lw prog 65 #[s? s] w λe w'=>e=e? (.bool<|decide<|eh s.1.1=t?/\s.1.1≠[])/\w=w':=by
 by_cases B:s.1.1=[]
 .have J:s=⟨#[]⟩:=by
   apply z4;apply s5.1;exact B
  subst J;go_wp2;go_ret;exact⟨dW i!,q?⟩
 have O:s.toList.isEmpty=f?:=by
  rw[X!]
  cases h:s.1.1 with
  |nil=>exact absurd h B|cons a l=>rfl
 have V:J?<|decide (eh s.1.1=t?/\s.1.1≠[])=eh s.1.1:=by rw[Z8,decide_eq_true_eq];exact⟨λh=>h.1,λh=>⟨h,B⟩⟩
 go_enter func65,ntmps65;go_wp2_with fail;apply g!<|qC _ _ U;go_wp2;go_ret;exact⟨dW<|by rw[V.o],q?⟩
def xE(w:w?)(g:Nat)(l:List UInt8):Prop:=∀j(h:j<l? l),C? w ⟨g,j,x?⟩=y? (n? .u8 l[j].toNat)/\w.frozen? ⟨g,j,x?⟩=f?
def xE.set{w g l}(h:xE w g l)(k)(c)(v)(J:v=n? .u8 c.toNat):xE (w.setCell ⟨g,k,x?⟩ v) g<|l.set k c:=by subst J;intro j O;let ⟨B,V⟩:=h j<|u! O;refine⟨?_,by rwa[World.frozen?_setCell]⟩;by_cases e:k=j;subst e;rw[World.cell?_setCell_same _ _ _ B];simp;rw[World.cell?_setCell_other _ _ _ _ (by intro U;simp at U),B];simp[e]
def lM(l:List UInt8)(k:Nat):List UInt8:=dP (l.take k)++l.drop k
def BQ(l)(k):(lM l k).length=l? l:=by simp[lM,dP];omega
def CX(l)(k)(h):(lM l k)[k]'(by rwa[BQ])=l[k]:=by unfold lM;simp[dP,on<|Nat.le_of_lt h]
def Kl(l)(k)(h):lM l (k+1)=(lM l k).set k (Gz l[k]):=by
 unfold lM;rw[IS h,Bh];have B:(dP<|l.take k).length=k:=by rw[eB];simp;omega
 rw[kc _ _ o!,B,op,Zq];rw[M? h];rfl
def Nf(l):lM l l.length=dP l:=by simp[lM]
def IJ(l):lM l 0=l:=by simp[lM,dP]
def drawn_setCell(w:w?)(a)(v):(w.setCell a v).3=w.3:=by unfold pu;split <;>(try split) <;>(try split)<;>rfl
def vR(s:b?)(w)(hs:s.size<=1099511627776) :
  lw prog 50 #[s? s] w λe w'=>e=e? (s? ⟨(dP s.1.1).toArray⟩)/\B? w w'/\w.3<=w'.3:=by
 have aa:=Lib.run_convert_string_bytes w 9 60 5 s q' q8 r4;go_enter func50,ntmps50;obtain⟨U,B⟩:∃U,Lib.bytesWorld w 5 s=U:=⟨_,q?⟩
 have ab:B? w U:=by subst B;exact⟨q?,q?,q?,by rw[v4];omega,λk hk=>Lib.bytesWorld_at_old w _ s k hk⟩
 have ac:w.3<=U.3:=by subst B;exact Nat.le_succ _
 have ad:w.1.size<U.1.size:=by subst B;rw[v4];omega
 have ae:xE U w.1.size<|lM s.1.1 0:=by
  rw[IJ];intro j hj;have af:j<s.size:=by simpa using hj
  subst B;refine⟨?_,?_⟩;rw[Lib.bytesWorld_cell w _ s j af,AS,BY hj];rfl;simp[p4,Lib.bytesWorld_at_new];intro h;simp[Lib.bytesCells]at h;omega
 rw[B]at aa;clear B;go_wp2;go_loopw [10] (λi wr=>∃k:Nat,k<=s.size/\i=n? i? k/\xE wr w.1.size (lM s.1.1 k)/\B? w wr/\w.1.size<wr.1.size/\w.3<=wr.3) (λi _=>s.size-(intOf i).toNat);exact⟨0,ZP _,q?,ae,ab,ad,ac⟩;obtain⟨k,hk,rfl,W,hb,hz,hd⟩:=hrel;have HD:=h! hd;clear hd;by_cases ag:k<s.size
 .have V:k<l? s.1.1:=by simpa using ag
  let ⟨hc,hf⟩:=W k (by rwa[BQ]);rw[CX _ _ V]at hc;have HE:=h!<|Kl _ _ V;have HG:J?<|l? s.1.1=s.size:=h!<|by simp
  have Y:=h!<|CX _ _ V;have HA:=h! W;generalize s.1.1[k]=c at *;clear W;by_cases J:65<=c.toNat/\c.toNat<=90
  .have h1:65<=(c.toNat:Int):=o!;have h2:(c.toNat:Int)<=90:=o!;have HL:=h!<|Om _ J;clear J;go_wp2;go_roundw
   .exact⟨k+1,o!,by go_num,by rw[HE.o];exact HA.set k _ _ (by rw[HL.o];go_num),Below.setCell hb (Zu _) _,by simpa[pu]using hz,by rw[drawn_setCell];exact HD⟩
   exact M!
  have ah:(c.toNat:Int)<65\/90<(c.toNat:Int):=o!
  have HS:J?<|lM s.1.1 (k+1)=lM s.1.1 k:=by show _=_;rw[HE.o,(h!<|Oc _ J).o,<-Y.o];simp
  clear J;obtain h1|h1:=ah
  all_goals
   go_wp2;go_roundw
   .exact⟨k+1,o!,by go_num,by rw[HS.o];exact HA,hb,hz,HD⟩
   exact M!
 have ek:k=s.size:=o!;subst ek;have V:(dP s.1.1).length=s.size:=by rw[eB];simp
 have e1:lM s.1.1 s.size=dP s.1.1:=by have:s.size=l? s.1.1:=i!;rw[this,Nf]
 rw[e1]at W
 have O:=run_convert_bytes_back wr 60 9 5 _ (grownCap w s.size 0 5) _ q8 r4 q' (λj hj=>by
  have:=(W j hj).1
  have e2:(⟨w.1.size,0,x?⟩:Addr).add j=⟨w.1.size,j,x?⟩:=by unfold wl;split;rename_i h;rw[h];simp
  rwa[e2])
 rw[V]at O;clear V e1;go_wp2;go_ret;exact⟨q?,hb,HD⟩
def rJ(s:b?)(w)(B:s.size<=1099511627776) :
  lw prog 50 #[s? s] w λe w'=>e=e? (s? ⟨(dP s.1.1).toArray⟩)/\B? w w':=(vR s w B).mono λ_ _ h=>⟨h.1,h.2.1⟩
end
section
open Shelf
def zH:Go.Shelf.Ren:=⟨fun|229=>135|n=>n,fun|9=>9|40=>194|31=>31|152=>244|3=>3|0=>0|4=>4|21=>21|154=>246|n=>n,fun|n=>n⟩
def V8:Go.Proofs.Lays.n229 prog zH:=by constructor<;>intros<;>kernel_rfl
def IQ:Go.Shelf.Ren:=⟨fun|264=>195|n=>n,fun|53=>141|46=>184|n=>n,fun|n=>n⟩
def Oy:Go.Proofs.Lays.n264 prog IQ:=by constructor<;>intros<;>kernel_rfl
def Kz:Go.Shelf.Ren:=⟨fun|106=>139|213=>197|265=>232|n=>n,fun|9=>9|3=>3|n=>n,fun|n=>n⟩
def Wa:Go.Proofs.Lays.n106 prog Kz:=by constructor<;>intros<;>kernel_rfl
def Hf:Go.Shelf.Ren:=⟨fun|6=>96|15=>125|14=>137|28=>172|29=>173|20=>187|21=>188|22=>189|23=>190|24=>191|25=>192|26=>193|27=>194|46=>228|47=>219|48=>220|49=>229|50=>230|57=>265|n=>n,fun|22=>145|24=>150|25=>152|3=>3|39=>184|0=>0|53=>229|55=>141|4=>4|46=>222|45=>221|50=>226|5=>5|9=>9|66=>272|70=>276|76=>292|77=>212|n=>n,fun|n=>n⟩
def Lf:Go.Proofs.SlLaysF0.n6 prog Hf:=by refine' {f6:=⟨f96.1,d!,k? func96⟩,f14:=⟨f137.1,d!,k? func137⟩,f20:=⟨f187.1,d!,k? func187⟩,f21:=⟨f188.1,d!,k? func188⟩,f22:=⟨f189.1,d!,k? func189⟩,f23:=⟨f190.1,d!,k? func190⟩,f24:=⟨f191.1,d!,k? func191⟩,f25:=⟨f192.1,d!,k? func192⟩,f26:=⟨f193.1,d!,k? func193⟩,f27:=⟨f194.1,d!,k? func194⟩,f46:=⟨f228.1,d!,k? func228⟩,f49:=⟨f229.1,d!,k? func229⟩,f50:=⟨f230.1,d!,k? func230⟩,f57:=⟨f265.1,d!,k? func265⟩,..}<;>intros<;>kernel_rfl
end
section
open RowKit
abbrev Wd:=List UInt8
abbrev W?:=List Wd
def mj(t ws:W?)(k j:Nat):Bool:=decide<|(t.drop k).take j=ws.take j
def pK(t ws:W?)(k:Nat):Bool:=mj t ws k ws.length
def iW(t ws:W?)(k:Nat):Nat:=((e8 k).filter<|pK t ws).length
def qJ(t ws:W?):Nat:=iW t ws<|l? t+1-l? ws
def fo(B:List<|W?)(ws:W?):Nat:=(B.map λt=>qJ t ws).sum
def eK(B:List<|W?):Nat:=(B.map λt=>l? t+1).sum
def II(t ws:W?)(k):mj t ws k 0=t?:=by simp[mj]
def Kg(t ws:W?)(k j)(h1)(B:j<l? ws) :
  mj t ws k (j+1)=(mj t ws k j&&(t[k+j]==ws[j])):=by
 unfold mj
 have J:(t.drop k).take (j+1)=(t.drop k).take j++[t[k+j]]:=by rw[IS j!];simp
 rw[J,IS B,Z8];simp only[IT,decide_eq_true_eq,beq_iff_eq];constructor;intro h;have:=List.append_inj' h rfl;exact⟨this.1,u! this.2⟩;rintro⟨a,b⟩;rw[a,b]
def vw(t ws:W?)(k)(h:pK t ws k=t?):iW t ws (k+1)=iW t ws k+1:=by simp[iW,D!,h]
def wW(t ws:W?)(k)(h:pK t ws k=f?):iW t ws (k+1)=iW t ws k:=by simp[iW,D!,h]
def wZ(t ws:W?)(k):iW t ws k<=k:=by have:=No (pK t ws)<|e8 k;simpa[iW]using this
def LG(t ws:W?):qJ t ws<=l? t+1:=by have:=wZ t ws<|l? t+1-l? ws;unfold qJ;omega
def Ji(B:List<|W?)(ws:W?)(i)(h):fo (B.take<|i+1) ws=fo (B.take i) ws+qJ B[i] ws:=by unfold fo;rw[IS h,Z4,fm];rfl
def ql(B:List<|W?)(i)(h):eK (B.take<|i+1)=eK (B.take i)+(B[i].length+1):=by unfold eK;rw[IS h,Z4,fm];rfl
def qi(B:List<|W?)(i):eK (B.take i)<=eK B:=by
 have:eK B=eK (B.take i)+eK (B.drop i):=by unfold eK;rw[<-fm,<-Z4,S!]
 omega
def jI(B:List<|W?)(ws:W?):fo B ws<=eK B:=by
 induction B with
 |nil=>simp[fo,eK]|cons t B J=>have h:=LG t ws;simp only[fo,eK,ZK,J!]at J⊢;omega
def me(B:List<|W?):l? B<=eK B:=by
 induction B with
 |nil=>simp|cons t B J=>simp only[eK,ZK,J!,w!]at J⊢;omega
def xG(B:List<|W?)(i)(h:i<l? B):B[i].length+1<=eK B:=by have:=ql B i h;have:=qi B<|i+1;omega
def A6(out:W?)(x:Wd):Nat:=(out.takeWhile λy=>q6 y x).length
def mG(out:W?)(x:Wd):List Wd:=if out[A6 out x]?=y? x then out else out.take (A6 out x)++([x]++out.drop (A6 out x))
def mS(out:W?)(t:W?)(k:Nat):List Wd:=(t.take k).foldl mG out
def eP(B:List<|W?):List Wd:=B.foldl (λout t=>t.foldl mG out) []
def Zby(out:W?)(x):A6 out x<=l? out:=(Q? _).length_le
def lT{J:Type}(p:J->Bool):∀(l:List J)(n)(B:n<=l? l),(∀j(h:j<n),p (l[j]'o!)=t?)->(∀h:n<l? l,p l[n]=f?)->(l.takeWhile p).length=n:=by
 intro l;induction l with
 |nil=>intro n B _ _;simp at B;simp[B]|cons c l W=>
  intro n B O U
  cases n with
  |zero=>have:=U i!;simp at this;simp[this]|succ n=>have V:=O 0 o!;simp at V;rw[eg,V];simp only[if_true,w!];rw[W n (u! B) (λj hj=>by have:=O (j+1) o!;simpa using this) (λY=>by have:=U<|u! Y;simpa using this)]
def OH(out:W?)(x:Wd)(n)(B:n<=l? out)(J:∀j(h:j<n),q6 (out[j]'o!) x=t?)(O:∀h:n<l? out,q6 out[n] x=f?):A6 out x=n:=
 lT _ out n B J O
def Tk(out:W?)(x):(mG out x).length<=l? out+1:=by unfold mG;split;omega;simp;omega
def GF(out t:W?)(k)(h):mS out t (k+1)=mG (mS out t k) t[k]:=by unfold mS;rw[IS h,b!];rfl
def Af(B:List<|W?)(i)(h):eP (B.take<|i+1)=mS (eP<|B.take i) B[i] B[i].length:=by unfold eP mS;rw[IS h,b!,o?];rfl
def DO(t:W?):∀out,(t.foldl mG out).length<=l? out+l? t:=by
 induction t with
 |nil=>simp|cons x t B=>intro out;have:=B<|mG out x;have:=Tk out x;simp only[G?,w!];omega
def zz(out t:W?)(k):(mS out t k).length<=l? out+k:=by have:=DO (t.take k) out;unfold mS;simp at this⊢;omega
def sI(B:List<|W?)(i)(J:i<=l? B):(eP<|B.take i).length<=eK (B.take i):=by
 induction i with
 |zero=>simp[eP]|succ i O=>rw[Af B i o!,ql B i o!];have:=zz (eP<|B.take i) B[i] B[i].length;omega
def lL(B:List<|W?):Nat:=(B.map λt=>l? t).sum
def XR(B:List<|W?)(l:W?)(x:Wd):Nat:=fo B [l.getD (l? l-2) [],l.getD (l? l-1) [],x]
def Ww(B:List<|W?)(l:W?)(x:Wd):Nat:=fo B [l.getD (l? l-1) [],x]
def fU(B:List<|W?)(l:W?)(x:Wd):Nat×Nat:=
 if 1<l? l/\0<XR B l x then(XR B l x,fo B [l.getD (l? l-2) [],l.getD (l? l-1) []])
 else if 0<l? l/\0<Ww B l x then(4*Ww B l x,10*fo B [l.getD (l? l-1) []])
 else(16*fo B [x],100*lL B)
def Kq(B:List<|W?)(i)(h):lL (B.take<|i+1)=lL (B.take i)+B[i].length:=by unfold lL;rw[IS h,Z4,fm];rfl
def uE(B:List<|W?):lL B<=eK B:=by
 induction B with
 |nil=>simp[lL,eK]|cons t B J=>simp only[lL,eK,ZK,J!]at J⊢;omega
abbrev Fr:=Nat×Nat
def sD(B:List Fr)(i j:Nat):Bool:=decide<|(B.getD j (0,0)).1*(B.getD i (0,0)).2<(B.getD i (0,0)).1*(B.getD j (0,0)).2
def fP(B:List Fr)(told:List Bool):Nat->Option Nat
 |0=>x?|i+1=>if told.getD i f?=t? then fP B told i else
  match fP B told i with
  |none=>y? i|some j=>if sD B i j=t? then y? i else y? j
def oW(B:List Fr):List Bool->Nat->List Nat
 |_,0=>[]
 |told,n+1=>match fP B told B.length with
  |none=>[]
  |some b=>b::oW B (told.set b t?) n
def mJ(B:List Fr):List Bool->Nat->List Bool
 |told,0=>told|told,n+1=>match fP B told B.length with
  |none=>told|some b=>mJ B (told.set b t?) n
def abL(B:List<|W?)(l:W?):List Fr:=(eP B).map<|fU B l
def gN(B:List<|W?)(l:W?)(most:Nat):List Wd:=
 (oW (abL B l) (c5 (eP B).length f?)<|min most (eP B).length).map λi=>(eP B).getD i []
def uY(U)(told):∀(i j),fP U told i=y? j->j<i/\told.getD j f?=f?:=by
 intro i;induction i with
 |zero=>intro j h;simp[fP]at h|succ i J=>intro j h;unfold fP at h;split at h;have:=J j h;exact⟨o!,this.2⟩;rename_i O;split at h;simp at h;subst h;exact⟨o!,u! O⟩;rename_i V B;split at h;simp at h;subst h;exact⟨o!,u! O⟩;simp at h;subst h;have:=J V B;exact⟨o!,this.2⟩
def tV(B)(told):∀(i),fP B told i=x?->∀j,j<i->told.getD j f?=t?:=by
 intro i;induction i with
 |zero=>omega|succ i J=>intro h j U;unfold fP at h;split at h;rename_i O;by_cases e:j=i;subst e;exact O;exact J h j o!;split at h;simp at h;split at h<;>simp at h
def count_set(told):∀b,b<l? told->told.getD b f?=f?->(told.set b t?).count t?=told.count t?+1:=by
 induction told with
 |nil=>intro b h;simp at h|cons t told J=>
  intro b O B
  cases b with
  |zero=>subst B;simp
  |succ b=>have:=J b (u! O)<|u! B;simp only[List.set_cons_succ,lk,this];omega
def C9(told)(h:∀j,j<l? told->told.getD j f?=t?):told.count t?=l? told:=by
 induction told with
 |nil=>rfl|cons t told B=>have J:=h 0 i!;subst J;have:=B (λj O=>by have:=h (j+1)<|u! O;simpa using this);simp[this]
def Rj(B)(told)(J:l? told=l? B)(O:told.count t?<l? B):∃b,fP B told B.length=y? b:=by
 cases h:fP B told _ with
 |some b=>exact⟨b,q?⟩|none=>have:=C9 told<|λj U=>tV B told _ h j o!;omega
def B5(B):∀(r)(told)(b),fP B (mJ B told r) B.length=y? b->
  oW B told (r+1)=oW B told r++[b]/\mJ B told (r+1)=(mJ B told r).set b t?:=by
 intro r;induction r with
 |zero=>intro told b h;simp only[mJ]at h;simp[oW,mJ,h]|succ r O=>
  intro told b h
  cases J:fP B told B.length with
  |none=>simp only[mJ,J]at h;exact absurd h i!|some U=>
   have:=O _ b (by simpa only[mJ,J]using h);constructor;rw[oW,J];simp only;rw[this.1];conv=>rhs;rw[oW,J]
   rfl;rw[mJ,J];simp only;rw[this.2];conv=>rhs;rw[mJ,J]
def Mz(B):∀(r)(told),(mJ B told r).length=l? told:=by
 intro r;induction r with
 |zero=>intro told;rfl|succ r J=>intro told;unfold mJ;split;rfl;rw[J];simp
def yz(B:List<|W?)(l:W?)(x):(fU B l x).1<=16*eK B/\(fU B l x).2<=100*eK B:=by have J:=uE B;unfold fU;split;have:=jI B [l.getD (l? l-2) [],l.getD (l? l-1) [],x];have:=jI B [l.getD (l? l-2) [],l.getD (l? l-1) []];unfold XR;exact⟨o!,o!⟩;split;have:=jI B [l.getD (l? l-1) [],x];have:=jI B [l.getD (l? l-1) []];unfold Ww;exact⟨o!,o!⟩;have:=jI B [x];exact⟨o!,o!⟩
def kV(B:List<|W?)(l ws:W?)(k:Nat):List Nat:=((ws.take k).map<|fU B l).map (·.1)
def kT(B:List<|W?)(l ws:W?)(k:Nat):List Nat:=((ws.take k).map<|fU B l).map (·.2)
def Gc(B:List<|W?)(l ws:W?)(k)(h):kV B l ws (k+1)=kV B l ws k++[(fU B l ws[k]).1]:=by unfold kV;rw[IS h,Z4,Z4];rfl
def Gq(B:List<|W?)(l ws:W?)(k)(h):kT B l ws (k+1)=kT B l ws k++[(fU B l ws[k]).2]:=by unfold kT;rw[IS h,Z4,Z4];rfl
def Ia(B:List<|W?)(l ws:W?):(kV B l ws ws.length).length=l? ws:=by simp[kV]
def JZ(B:List<|W?)(l ws:W?):(kT B l ws ws.length).length=l? ws:=by simp[kT]
def IB(B:List<|W?)(l ws:W?)(j)(h:j<l? ws):(kV B l ws ws.length).getD j 0=((ws.map<|fU B l).getD j (0,0)).1/\(kV B l ws ws.length).getD j 0<=16*eK B:=by have:=yz B l ws[j];simp[kV,AS,h,this.1]
def J9(B:List<|W?)(l ws:W?)(j)(h:j<l? ws):(kT B l ws ws.length).getD j 0=((ws.map<|fU B l).getD j (0,0)).2/\(kT B l ws ws.length).getD j 0<=100*eK B:=by have:=yz B l ws[j];simp[kT,AS,h,this.2]
def AD:Option Nat->Int
 |none=>-1|some j=>(j:Int)
def zW(ab)(told)(i)(h:told.getD i f?=t?):fP ab told (i+1)=fP ab told i:=by simp only[fP];rw[if_pos h]
def xO(ab)(told)(i)(h:told.getD i f?=f?)(B:fP ab told i=x?):fP ab told (i+1)=y? i:=by simp only[fP];rw[if_neg (by rw[h];simp),B]
def vr(ab)(told)(i j)(h:told.getD i f?=f?)(B:fP ab told i=y? j)(hb:sD ab i j=t?):fP ab told (i+1)=y? i:=by simp only[fP];rw[if_neg (by rw[h];simp),B];simp[hb]
def wQ(ab)(told)(i j)(h:told.getD i f?=f?)(B:fP ab told i=y? j)(hb:sD ab i j=f?):fP ab told (i+1)=y? j:=by simp only[fP];rw[B];simp[hb]
def uh(B:List Fr)(ws:W?)(r:Nat):List Wd:=(oW B (c5 ws.length f?) r).map λi=>ws.getD i []
def oV(B:List Fr)(n r:Nat):List Bool:=mJ B (c5 n f?) r
def Me(ab)(ws:W?)(r b)(h:fP ab (oV ab ws.length r) ab.length=y? b):uh ab ws (r+1)=uh ab ws r++[ws.getD b []]:=by unfold uh;rw[(B5 ab r _ b h).1,Z4];rfl
def Mq(ab)(n r b)(h:fP ab (oV ab n r) ab.length=y? b):oV ab n (r+1)=(oV ab n r).set b t?:=(B5 ab r _ b h).2
def Q0(ab)(n r):(oV ab n r).length=n:=by unfold oV;rw[Mz];simp
def qZ(r:Nat):Bool:=decide (128<=r) || !eS (v5 r)
def I8(c)(h:c.toNat<128):qZ c.toNat = !eS c:=by unfold qZ;rw[decide_eq_false o!];simp
def YG(b:Wd):b?:=⟨a? b⟩
structure ZbE(f:b?)(pos:Nat)(st:Option Nat)(acc:List (Nat×Nat)):Prop where
 none:st=none->(acc.map λx=>f.extract x.1 x.2)=(iF f.1.1 pos).map YG/\(pos=0\/eS (f.1.1.getD (pos-1) 0)=false)
 some:∀a,st=some a->(acc.map λx=>f.extract x.1 x.2)++[YG (yQ f.1.1 a)]=(iF f.1.1 pos).map YG/\a<pos/\zj f.1.1 a pos
def Fb(l)(k)(h:eS (l.getD k 0)=f?):fp l k=f?:=by unfold fp;rw[h];rfl
def LN(l)(k)(h:eS (l.getD k 0)=t?)(B:k=0\/eS (l.getD (k-1) 0)=f?):fp l k=t?:=by
 unfold fp;rw[h];obtain B|B:=B
 simp[B];rw[B];simp
def Pt(l)(k a)(B:a<k)(h:zj l a k):fp l k=f?:=by unfold fp;rw[h.2.2 (k-1) o! o!,decide_eq_false o!];simp
def K6(f:b?)(Y:∀k(h:k<f.size),(f[k]'h).toNat<128):∀(g pos)(st)(acc),ZbE f pos st acc->pos<=f.size->f.size<=pos+g->
  ((vx f<|vc qZ f g pos st acc).map λx=>f.extract x.1 x.2)=(eR f.1.1).map YG:=by
 intro g;induction g with
 |zero=>
  intro pos st acc h h1 h2;obtain rfl:pos=f.size:=o!;have hw:eR f.1.1=iF f.1.1 f.size:=by unfold eR;simp
  rw[hw]
  cases st with
  |none=>simpa[vc,vx]using(h.1 q?).1|some a=>let ⟨e,O,U⟩:=h.2 a rfl;simp only[vc,vx,Z4,ZK,ZU];rwa[pw f a _ U<|.inl q?]
 |succ g V=>
  intro pos st acc h h1 h2;unfold vc;by_cases B:pos<f.size;rw[if_pos B,decode_ascii f pos B<|Y pos B,I8 _<|Y pos B];have hg:=ir f pos B;by_cases hl:eS (f[pos]'B)=t?;rw[hl];have J:eS (f.1.1.getD pos 0)=t?:=by rwa[hg]
  cases st with
  |none=>
   let ⟨e,hp⟩:=h.1 rfl;refine V _ _ _ ⟨λh=>(by cases h),λa O=>?_⟩ o! o!;obtain rfl:=by simpa using O
   rw[rR _ _<|LN _ _ J hp,Z4,e];exact⟨q?,o!,ww _ _ _ (Aa _ _ j!) (u! B) J⟩
  |some a=>
   let ⟨e,O,U⟩:=h.2 a rfl;refine V _ _ _ ⟨λh=>(by cases h),λb hb=>?_⟩ o! o!;obtain rfl:=by simpa using hb
   rw[lZ _ _<|Pt _ _ _ O U];exact⟨e,o!,ww _ _ _ U (u! B) J⟩
  have W:=by simpa using hl
  rw[W];have J:eS (f.1.1.getD pos 0)=f?:=by rwa[hg]
  cases st with
  |none=>let ⟨e,hp⟩:=h.1 rfl;refine V _ _ _ ⟨λ_=>?_,λa O=>(by cases O)⟩ o! o!;rw[lZ _ _<|Fb _ _ J];exact⟨e,.inr<|u! J⟩
  |some a=>let ⟨e,O,U⟩:=h.2 a rfl;refine V _ _ _ ⟨λ_=>?_,λa O=>(by cases O)⟩ o! o!;rw[lZ _ _<|Fb _ _ J,<-e,Z4];refine⟨?_,.inr<|u! J⟩;simp only[ZK,ZU];rw[pw f a pos U<|.inr J];rfl
  rw[if_neg B];have:=V pos st acc h h1 o!;rwa[Lib.spansFromP_end _ _ _ _ _ _ B]at this
def Gb(f:b?)(B:∀k(h:k<f.size),(f[k]'h).toNat<128):Lib.goFieldsP qZ f=(eR f.1.1).map YG:=by refine K6 f B _ 0 x? [] ⟨λ_=>⟨by simp[iF],.inl q?⟩,λa J=>(by cases J)⟩ o! o!
def IL(ws:W?):(ws.map YG).map Value.string=du ws:=by simp[du,YG]
def jl:∀x:Wd,q6 x x=f?:=by
 intro x;induction x with
 |nil=>rfl|cons a x B=>simp[q6,B]
def Jz{a b c:UInt8}(h:a<b)(k:b<c):a<c:=by rw[Y?]at *;omega
def lQ:∀x y z:Wd,q6 x y=t?->q6 y z=t?->q6 x z=t?:=by
 intro x;induction x with
 |nil=>intro y z J B;cases z with
  |nil=>cases y<;>simp[q6]at B
  |cons=>rfl
 |cons a x O=>
  intro y z J B
  cases y with
  |nil=>simp[q6]at J|cons b y=>
   cases z with
   |nil=>simp[q6]at B|cons c z=>
    simp only[q6,Z7,IT,decide_eq_true_eq,beq_iff_eq]at *;obtain J|⟨rfl,J⟩:=J
    obtain B|⟨rfl,B⟩:=B
    exact .inl (Jz J B);exact .inl J;obtain B|⟨rfl,B⟩:=B
    exact .inl B;exact .inr ⟨q?,O y z J B⟩
def jz:∀x y:Wd,q6 x y=t?\/x=y\/q6 y x=t?:=by
 intro x;induction x with
 |nil=>intro y;cases y with
  |nil=>exact .inr<|.inl q?|cons=>exact .inl rfl
 |cons a x O=>
  intro y
  cases y with
  |nil=>exact .inr<|.inr q?|cons b y=>
   simp only[q6,Z7,IT,decide_eq_true_eq,beq_iff_eq];by_cases B:a<b;exact .inl (.inl B);by_cases J:b<a;exact .inr (.inr<|.inl J)
   obtain rfl:a=b:=by apply H?.1;rw[Y?]at B J;omega
   obtain h|h|h:=O y
   exact .inl (.inr ⟨q?,h⟩);exact .inr (.inl<|by rw[h]);exact .inr (.inr<|.inr ⟨q?,h⟩)
variable {l o:Wd}
def Fu(h:q6 l o=t?):l≠o:=by intro e;subst e;rw[jl]at h;cases h
def sE(h:q6 l o=t?):q6 o l=f?:=by
 cases B:q6 o l with
 |false=>rfl|true=>have:=lQ _ _ _ h B;rw[jl]at this;cases this
abbrev oI(l:W?):Prop:=l.Pairwise λx y=>q6 x y=t?
variable {g C:W?}
def oI.nodup(h:oI g):g.Nodup:=h.imp λB=>Fu B
def Wf(out:W?)(x):out.take (A6 out x)=out.takeWhile λy=>q6 y x:=by
 unfold A6;induction out with
 |nil=>simp|cons a l B=>rw[eg];split;simp only[w!,Z?,B];simp
def ON(out:W?)(x):out.drop (A6 out x)=out.dropWhile λy=>q6 y x:=by
 unfold A6;induction out with
 |nil=>simp|cons a l B=>rw[eg,iv];split;simp only[w!,kt,B];simp
def DV{p}:∀(l:W?),∀y∈l.takeWhile p,p y=t?:=by
 intro l;induction l with
 |nil=>intro y h;simp at h|cons a l B=>
  intro y h;rw[eg]at h;split at h;rename_i J;obtain rfl|h:=Zm.1 h
  exact J;exact B y h;simp at h
def Cn{p}:∀(l:W?)(y)(r:W?),l.dropWhile p=y::r->p y=f?:=by
 intro l;induction l with
 |nil=>intro y r h;simp at h|cons a l B=>intro y r h;rw[iv]at h;split at h;exact B y r h;rename_i J;cases h;simpa using J
def Wy(out:W?)(x)(h:oI out):oI (mG out x)/\∀y,y∈mG out x↔(y=x\/y∈out):=by
 unfold mG;split
 rename_i U;refine⟨h,λy=>⟨.inr,λJ=>?_⟩⟩;obtain rfl|J:=J
 exact W! U;exact J;rename_i U;have O:=S! (A6 out x) out;have W:out[A6 out x]?=(out.drop<|A6 out x)[0]?:=i!;rw[W]at U;rw[Wf,ON]at O⊢;rw[ON]at U;have hA:=DV (p:=λy=>q6 y x) out;have hH:=Cn (p:=λy=>q6 y x) out;generalize out.takeWhile _=A at *;generalize out.dropWhile _=B at *;subst O;let ⟨sA,sB,Y⟩:=gg.1 h
 have hB:∀y∈B,q6 x y=t?:=by
  cases B with
  |nil=>intro y J;simp at J|cons b B=>
   have V:q6 x b=t?:=by
    obtain h|h|h:=jz x b
    exact h;subst h;simp at U;rw[hH b B q?]at h;cases h
   intro y J;obtain rfl|J:=Zm.1 J
   exact V;exact lQ _ _ _ V<|(ZS.1 sB).1 y J
 refine⟨?_,λy=>?_⟩;refine gg.2 ⟨sA,?_,?_⟩;exact ZS.2 ⟨hB,sB⟩;intro a ha b hb;obtain rfl|hb:=Zm.1 hb
 exact hA a ha;exact Y a ha b hb;simp only[Z3,Zm,B!,E!];constructor;rintro(h|h|h);exact .inr (.inl h);exact .inl h;exact .inr (.inr h);rintro(h|h|h);exact .inr (.inl h);exact .inl h;exact .inr (.inr h)
def GZ(t:W?):∀out,oI out->oI (t.foldl mG out)/\∀y,y∈t.foldl mG out↔(y∈t\/y∈out):=by
 induction t with
 |nil=>intro out h;exact⟨h,i!⟩|cons x t B=>intro out h;obtain⟨J,O⟩:=Wy out x h;obtain⟨U,V⟩:=B _ J;refine⟨U,λy=>?_⟩;rw[G?,V,O,Zm];constructor;rintro(h|h|h);exact .inl (.inr h);exact .inl (.inl h);exact .inr h;rintro((h|h)|h);exact .inr (.inl h);exact .inl h;exact .inr (.inr h)
def EY(B:List<|W?):∀out,oI out->oI (B.foldl (λout t=>t.foldl mG out) out)/\∀y,y∈B.foldl (λout t=>t.foldl mG out) out↔((∃t∈B,y∈t)\/y∈out):=by
 induction B with
 |nil=>intro out h;exact⟨h,i!⟩|cons t B J=>intro out h;obtain⟨O,U⟩:=GZ t out h;obtain⟨V,W⟩:=J _ O;refine⟨V,λy=>?_⟩;rw[G?,W,U];simp only[Zm,exists_eq_or_imp];constructor;rintro(h|h|h);exact .inl (.inr h);exact .inl (.inl h);exact .inr h;rintro((h|h)|h);exact .inr (.inl h);exact .inl h;exact .inr (.inr h)
def lP(B:List<|W?):oI<|eP B:=(EY B [] List.Pairwise.nil).1
def mg(B:List<|W?)(y):y∈eP B↔∃t∈B,y∈t:=by have:=(EY B [] List.Pairwise.nil).2 y;simpa[eP]using this
def zr(h:g.Nodup)(a):g.count a=if a∈g then 1 else 0:=by
 induction g with
 |nil=>simp|cons b g B=>obtain⟨J,O⟩:=Z2.1 h;rw[lk,B O];by_cases e:b=a;subst e;simp[J];have U:¬a=b:=λx=>e x.symm;simp[e,U]
def Hd(h:g.Nodup)(J:C.Nodup)(hm:∀a,a∈g↔a∈C):g.Perm C:=by rw[List.perm_iff_count];intro a;rw[zr h,zr J];by_cases B:a∈g;rw[if_pos B,if_pos<|(hm a).1 B];rw[if_neg B,if_neg<|λx=>B<|(hm a).2 x]
def jk(kn:W?)(t:W?)(k:Nat):List Wd:=(t.take k).foldl (λu x=>if x∈kn\/x∈u then u else u++[x]) []
def BZ(kn t:W?)(k)(h):jk kn t (k+1)=if t[k]∈kn\/t[k]∈jk kn t k then jk kn t k else jk kn t k++[t[k]]:=by unfold jk;rw[IS h,b!];rfl
def Bq(kn t:W?):∀k,k<=l? t->(jk kn t k).Nodup/\(∀y,y∈jk kn t k↔(y∈t.take k/\y ∉ kn))/\(jk kn t k).length<=k:=by
 intro k;induction k with
 |zero=>simp[jk]|succ k U=>
  intro W;obtain⟨O,J,Y⟩:=U o!;rw[BZ kn t k o!,IS o!];split
  rename_i B;refine⟨O,λy=>?_,o!⟩;rw[J y,Z3,Zg];constructor;rintro⟨a,b⟩;exact⟨.inl a,b⟩;rintro⟨a|a,b⟩;exact⟨a,b⟩;subst a;obtain B|B:=B
  exact absurd B b;exact(J _).1 B
  rename_i B;refine⟨?_,λy=>?_,j!⟩;rw[Zn];refine⟨O,i!,?_⟩;intro a V b hb;simp at hb;subst hb;intro e;subst e;exact B<|.inr V;rw[Z3,J y,Z3,Zg];constructor;rintro(⟨a,b⟩|a);exact⟨.inl a,b⟩;subst a;exact⟨.inr q?,λx=>B<|.inl x⟩;rintro⟨a|a,b⟩;exact .inl ⟨a,b⟩;exact .inr a
def Bj(kn:W?)(O:List<|W?)(t:W?)(h:kn.Perm<|eP O):(kn++jk kn t t.length).Perm<|eP<|O++[t]:=by
 obtain⟨W,U,_⟩:=Bq kn t _<|Zu _;refine Hd ?_ (lP _).nodup ?_;rw[Zn];refine⟨h.nodup_iff.2 (lP O).nodup,W,λa J b hb e=>?_⟩;subst e;exact((U _).1 hb).2 J;intro a;rw[Z3,U,mg,h.mem_iff,mg,o?];constructor;rintro(⟨t',B,J⟩|⟨J,_⟩);exact⟨t',by simp[B],J⟩;exact⟨t,i!,J⟩;rintro⟨t',B,J⟩;rw[Z3,Zg]at B;obtain B|rfl:=B
 exact .inl ⟨t',B,J⟩;by_cases V:a∈kn;exact .inl ((mg O a).1<|h.mem_iff.1 V);exact .inr ⟨J,λe=>V<|h.mem_iff.2<|(mg O a).2 e⟩
def Au(x y:Fr):Bool:=decide<|y.1*x.2<x.1*y.2
variable {i p I:Fr}
def RQ(U:0<I.2)(B:Au i p=t?)(V:Au p I=t?):Au i I=t?:=by
 unfold Au at *;simp only[decide_eq_true_eq]at *;have Y:=n8 B U;by_cases W:0<i.2;have a2:=n8 V W;apply Nat.lt_of_mul_lt_mul_right (a:=p.2);have e1:I.1*i.2*p.2=I.1*p.2*i.2:=by rw[nv]
 have e2:p.1*I.2*i.2=p.1*i.2*I.2:=by rw[nv]
 have e3:i.1*I.2*p.2=i.1*p.2*I.2:=by rw[nv]
 omega;have J:i.2=0:=o!
 have O:0<i.1:=by
  obtain h|h:=ZJ i.1
  rw[h]at B;simp at B;exact h
 rw[J];simpa using o6 O U
def yS(U:0<i.2)(B:0<p.2)(V:0<I.2)(J:Au p i=f?)(O:Au I p=f?):Au I i=f?:=by
 unfold Au at *;simp only[decide_eq_false_iff_not,Nat.not_lt]at *;have W:p.1*i.2*I.2<=i.1*p.2*I.2:=IN _ J;have Y:I.1*p.2*i.2<=p.1*I.2*i.2:=IN _ O;refine Nat.le_of_mul_le_mul_right ?_ B;have e1:I.1*i.2*p.2=I.1*p.2*i.2:=by rw[nv]
 have e2:p.1*I.2*i.2=p.1*i.2*I.2:=by rw[nv]
 have e3:i.1*I.2*p.2=i.1*p.2*I.2:=by rw[nv]
 omega
def Sq(h:Au i p=t?):Au p i=f?:=by unfold Au at *;simp only[decide_eq_true_eq,decide_eq_false_iff_not]at *;omega
def pb(sc:Wd->Fr)(x y:Wd):Bool:=Au (sc x) (sc y) || (!Au (sc y) (sc x)&&q6 x y)
def zt(sc)(x):pb sc x x=f?:=by
 unfold pb;rw[jl];have:Au (sc x) (sc x)=f?:=by unfold Au;simp
 rw[this];rfl
def wG(sc){z}(V:0<(sc l).2)(W:0<(sc o).2)(U:0<(sc z).2)(J:pb sc l o=t?)(B:pb sc o z=t?):pb sc l z=t?:=by
 unfold pb at *;simp only[Z7,IT,pd]at *;obtain J|⟨J,Y⟩:=J
 obtain B|⟨B,O⟩:=B
 exact .inl (RQ U J B)
 cases hh:Au .. with
 |true=>exact .inl rfl|false=>have:=yS W U V B hh;rw[this]at J;cases J
 obtain B|⟨B,O⟩:=B
 cases hh:Au .. with
 |true=>exact .inl rfl|false=>have:=yS U V W hh J;rw[this]at B;cases B
 exact .inr ⟨yS V W U J B,lQ _ _ _ Y O⟩
def BC(sc)(x y):pb sc x y=t?\/x=y\/pb sc y x=t?:=by
 unfold pb;simp only[Z7,IT,pd]
 cases B:Au .. with
 |true=>exact .inl<|.inl q?|false=>
  cases J:Au .. with
  |true=>exact .inr<|.inr<|.inl q?|false=>
   obtain h|h|h:=jz x y
   exact .inl (.inr ⟨q?,h⟩);exact .inr (.inl h);exact .inr (.inr<|.inr ⟨q?,h⟩)
def Rq(sc)(h:pb sc l o=t?):pb sc o l=f?:=by
 unfold pb at *;simp only[Z7,IT,pd,Bool.or_eq_false_iff,Bool.and_eq_false_iff,pp]at *;obtain h|⟨h,B⟩:=h
 exact⟨Sq h,.inl h⟩;exact⟨h,.inr<|sE B⟩
def Nv{K:W?}(B:oI K){i j}(h:i<j)(J:j<l? K):q6 (K[i]'o!) K[j]=t?:=Zr.1 B i j _ J h
def EB{K:W?}{sc}(i j)(hi)(B:j<l? K):sD (K.map sc) i j=Au (sc K[i]) (sc K[j]):=by unfold sD Au;simp[AS,hi,B]
def MJ{K:W?}{sc:Wd->Fr}(hK:oI K)(hp:∀x∈K,0<(sc x).2)(told):∀(m),m<=l? K->∀b,fP (K.map sc) told m=y? b->∃hb,∀i(V:i<l? K),i<m->told.getD i f?=f?->i≠b->pb sc K[b] K[i]=t?:=by
 intro m;induction m with
 |zero=>intro _ b h;simp[fP]at h|succ m ih=>
  intro hm b h
  cases Y:told.getD m f? with
  |true=>rw[zW _ _ _ Y]at h;obtain⟨hb,hh⟩:=ih o! b h;refine⟨hb,λi V W J U=>?_⟩;by_cases e:i=m;subst e;rw[Y]at J;cases J;exact hh i V o! J U
  |false=>
   cases B:fP _ told m with
   |none=>
    rw[xO _ _ _ Y B]at h;obtain rfl:=by simpa using h
    refine⟨o!,λi V W J U=>?_⟩;have:=tV _ _ _ B i o!;rw[J]at this;cases this
   |some j=>
    obtain⟨hj,hh⟩:=ih o! j B;have aa:=(uY _ _ _ _ B).1
    cases O:sD _ m j with
    |true=>
     rw[vr _ _ _ _ Y B O]at h;obtain rfl:=by simpa using h
     refine⟨o!,λi V W J U=>?_⟩
     have h1:pb sc K[m] K[j]=t?:=by rw[EB m j o! hj]at O;unfold pb;rw[O];rfl
     by_cases e:i=j;subst e;exact h1;exact wG sc (hp _<|Zw _) (hp _<|Zw _) (hp _<|Zw _) h1<|hh i V o! J e
    |false=>
     rw[wQ _ _ _ _ Y B O]at h;obtain rfl:=by simpa using h
     refine⟨hj,λi V W J U=>?_⟩;by_cases e:i=m;subst e;rw[EB i j V hj]at O;unfold pb;rw[O,Nv hK aa V];simp;exact hh i V o! J U
def GV{K:W?}{sc:Wd->Fr}(hK:oI K)(hp:∀x∈K,0<(sc x).2):∀(k)(told)(S:W?),l? told=l? K->S.Nodup->(S.Pairwise λx y=>pb sc x y=t?)->
  (∀x,x∈S↔∃i,∃J,told.getD i f?=f?/\K[i]=x)->(oW (K.map sc) told k).map (λi=>K.getD i [])=S.take k:=by
 intro k;induction k with
 |zero=>simp[oW]|succ k ih=>
  intro told S hl ae hs hm
  cases hb:fP (K.map sc) told (K.map sc).length with
  |none=>
   have fu:=tV _ _ _ hb
   have:S=[]:=by
    cases S with
    |nil=>rfl|cons x S=>obtain⟨i,J,B,_⟩:=(hm x).1 i!;have:=fu i<|u! J;rw[B]at this;cases this
   subst this;simp only[oW,hb,ZU,List.take_nil]
  |some b=>
   obtain⟨aa,O⟩:=MJ hK hp told _ i! b hb;have ab:=(hm _).2 ⟨b,aa,(uY _ _ _ _ hb).2,q?⟩
   cases S with
   |nil=>simp at ab|cons x S=>
    let ⟨af,ag⟩:=ZS.1 hs;let ⟨ah,ai⟩:=Z2.1 ae;let ⟨i0,ac,ad,U⟩:=(hm x).1 i!
    have W:K[b]=x:=by
     obtain h|h:=Zm.1 ab
     exact h;by_cases e:i0=b;subst e;exact U;have B:=O i0 ac (u! ac) ad e;rw[U]at B;rw[Rq sc<|af _ h]at B;cases B
    simp only[oW,hb,ZK,Z?];rw[ih _ S (u! hl) ai ag ?_];rw[<-W,AS,BY aa];rfl;intro y
    have V:∀i,(told.set b t?).getD i f?=if b=i then t? else told.getD i f?:=by intro i;by_cases e:b=i;subst e;simp[(o!:b<l? told)];simp[e]
    constructor;intro hy;obtain⟨i,J,B,Y⟩:=(hm y).1<|List.mem_cons_of_mem _ hy;refine⟨i,J,?_,Y⟩;rw[V];by_cases e:b=i;subst e;rw[W]at Y;subst Y;exact absurd hy ah;rwa[if_neg e];rintro⟨i,J,B,Y⟩;rw[V]at B;by_cases e:b=i;rw[if_pos e]at B;cases B;rw[if_neg e]at B;obtain h|h:=Zm.1<|(hm y).2 ⟨i,J,B,Y⟩
    have:=O i J (u! J) B<|λx=>e x.symm;rw[Y,h,W,zt]at this;cases this;exact h
def Ch(B:List<|W?)(l:W?)(most)(S:W?)(U:∀x∈eP B,0<(fU B l x).2)(O:S.Perm<|eP B)(V:S.Pairwise λx y=>pb (fU B l) x y=t?) :
  gN B l most=S.take (min most (eP B).length):=by
 apply GV (lP B) U _ _ S i! (O.nodup_iff.2 (lP B).nodup) V;intro x;rw[O.mem_iff];constructor;intro h;obtain⟨i,J,e⟩:=ie h;exact⟨i,J,by simp[AS,J],e⟩;rintro⟨i,J,_,e⟩;subst e;exact Zw _
def kS(t:W?)(e:Nat):List<|W?:=(e8<|min e 3+1).map λj=>(t.take e).drop<|e-min e 3+j
def kN(t:W?):Nat->List (W?)
 |0=>[]
 |e+1=>kN t e++kS t (e+1)
def gu(B:List<|W?)(ws:W?):Nat:=if ws=[]then lL B else fo B ws
def VX(t ws:W?):Nat:=if ws=[]then t.length else qJ t ws
def Po(B:List<|W?)(t ws:W?):gu (B++[t]) ws=gu B ws+VX t ws:=by unfold gu VX;split;simp[lL];simp[fo]
def Td(ws:W?):gu [] ws=0:=by unfold gu;split<;>simp[lL,fo]
def Ay(n)(f:Nat->W?)(ws)(k)(O:k<n)(h:∀j,j<n->f j=ws->j=k):((e8 n).map f).count ws=if f k=ws then 1 else 0:=by
 have key:∀m,m<=n->((e8 m).map f).count ws=if k<m/\f k=ws then 1 else 0:=by
  intro m;induction m with
  |zero=>simp|succ m U=>intro hm;rw[D!,Z4,g9,U o!];simp only[ZK,ZU,ko];by_cases e:m=k;subst e;simp;have B:f m≠ws:=λV=>e<|h m o! V;simp only[beq_iff_eq,B,if_false];by_cases J:k<m;simp[J,(o!:k<m+1)];simp[J,(o!:¬k<m+1)]
 rw[key n<|Zu _];simp[O]
def N9(l:List<|W?)(ws)(h:∀x∈l,x≠ws):l.count ws=0:=by rw[List.count_eq_zero];intro hm;exact h ws hm rfl
def vy(t ws:W?)(e)(W:e<=l? t)(Y:l? ws<=3):(kS t e).count ws=if ws.length<=e/\(t.take e).drop (e-l? ws)=ws then 1 else 0:=by have B:∀j,((t.take e).drop<|e-min e 3+j).length=e-(e-min e 3+j):=j!;by_cases J:l? ws<=e;unfold kS;rw[Ay _ _ ws (min e 3-l? ws) o!];rw[(o!:e-min e 3+(min e 3-l? ws)=e-l? ws)];simp[J];intro j U O;have:=B j;rw[O]at this;omega;rw[if_neg<|by simp[J]];refine N9 _ _<|λx V=>?_;obtain⟨j,U,rfl⟩:=Zv.1 V;intro O;have:=B j;rw[O]at this;omega
def Mm(t ws:W?)(V:l? ws<=3)(W:ws≠[]):∀n,n<=l? t->(kN t n).count ws=iW t ws (n+1-l? ws):=by
 have O:1<=l? ws:=by cases ws with|nil=>exact absurd q? W|cons a b=>simp
 intro n;induction n with
 |zero=>rw[(o!:0+1-l? ws=0)];simp[kN,iW]|succ n Y=>
  intro hn;simp only[kN];rw[g9,Y o!,vy t ws _ hn V];by_cases B:l? ws<=n+1;rw[(o!:n+1+1-l? ws=(n+1-l? ws)+1)]
  have U:pK t ws (n+1-l? ws)=decide ((t.take<|n+1).drop (n+1-l? ws)=ws):=by unfold pK mj;rw[o?,List.drop_take,(o!:n+1-(n+1-l? ws)=l? ws)]
  by_cases J:(t.take<|n+1).drop (n+1-l? ws)=ws;rw[if_pos ⟨B,J⟩,vw _ _ _ (by rw[U];exact decide_eq_true J)];rw[if_neg<|λx=>J x.2,wW _ _ _ (by rw[U];exact decide_eq_false J)];omega;rw[if_neg<|λx=>B x.1,(o!:n+1+1-l? ws=0),(o!:n+1-l? ws=0),o5]
def Bl(t:W?):∀n,n<=l? t->(kN t n).count []=n:=by
 intro n;induction n with
 |zero=>intro _;rfl|succ n B=>intro J;simp only[kN];rw[g9,B o!,vy t [] _ J i!,if_pos ⟨i!,i!⟩]
def Tu(t ws:W?)(B:l? ws<=3):(kN t t.length).count ws=VX t ws:=by unfold VX;split;rename_i h;rw[h];exact Bl t _<|Zu _;rename_i h;exact Mm t ws B h _<|Zu _
def uG(B:List<|W?)(ws:W?):gu B ws<=eK B:=by unfold gu;split;exact uE B;exact jI B ws
def qO(t:W?)(e):(kS t e).length=min e 3+1:=by simp[kS]
def KM(t:W?)(e j)(h):(kS t e)[j]=(t.take e).drop (e-min e 3+j):=by simp[kS]
def Bo(t:W?):∀n,(kN t n).length<=4*n:=by
 intro n;induction n with
 |zero=>simp[kN]|succ n B=>simp only[kN,Zh,qO];omega
def tE(B:List<|W?)(x:Wd):W?->Fr
 |[]=>(gu B [x]*4,gu B [])
 |[v]=>if gu B [v,x]=0 then(gu B [x]*4,gu B [])else(gu B [v,x]*10,gu B [v])|u::v::_=>if gu B [u,v,x]=0 then(if gu B [v,x]=0 then(gu B [x]*4,gu B [])else(gu B [v,x]*10,gu B [v]))else(gu B [u,v,x]*25,gu B [u,v])
def pM(l:W?):List Wd:=l.drop<|l? l-2
def PQ(l:W?):(pM l).length<=2:=by simp[pM];omega
def Tv(l:W?):(l=[]/\pM l=[])\/(l? l=1/\pM l=[l.getD (l? l-1) []])\/(1<l? l/\pM l=[l.getD (l? l-2) [],l.getD (l? l-1) []]):=by
 unfold pM;match l with
 |[]=>exact .inl ⟨q?,q?⟩|[a]=>exact .inr<|.inl ⟨q?,q?⟩|a::b::r=>refine .inr<|.inr ⟨i!,?_⟩;have B:(a::b::r).length=l? r+2:=rfl;rw[B,(o!:l? r+2-2=l? r)];have J:(a::b::r).drop _=(a::b::r)[l? r]'o!::(a::b::r).drop _:=M? _;have O:(a::b::r).drop _=(a::b::r)[l? r+1]'i!::(a::b::r).drop _:=M? _;have U:(a::b::r).drop (l? r+2)=[]:=i!;rw[J,O,U];simp only[AS];rw[BY _,BY _];rfl
def Lj(a p:Fr):Prop:=∃c d:Nat,(a=(c,d)/\p=(c*25,d))\/(a=(4*c,10*d)/\p=(c*10,d))\/(a=(16*c,100*d)/\p=(c*4,d))
def Lj.three(c d):Lj (c,d) (c*25,d):=⟨c,d,.inl ⟨q?,q?⟩⟩
def Lj.two(c d):Lj (4*c,10*d) (c*10,d):=⟨c,d,.inr<|.inl ⟨q?,q?⟩⟩
def Lj.one(c d):Lj (16*c,100*d) (c*4,d):=⟨c,d,.inr<|.inr ⟨q?,q?⟩⟩
def rD(B:List<|W?)(l:W?)(x):Lj (fU B l x)<|tE B x<|pM l:=by
 have U:∀u v,gu B [u,v,x]=fo B [u,v,x]:=λu v=>by simp[gu]
 have n2:∀u v,gu B [u,v]=fo B [u,v]:=λu v=>by simp[gu]
 have n1:∀u,gu B [u]=fo B [u]:=λu=>by simp[gu]
 have n0:gu B []=lL B:=by simp[gu]
 unfold fU;obtain⟨rfl,e⟩|⟨V,e⟩|⟨W,e⟩:=Tv l
 exact Lj.one ..;rw[e,if_neg o!];simp only[tE,n1,n2,n0];unfold Ww;by_cases J:fo B [l.getD (l? l-1) [],x]=0;rw[if_neg o!,if_pos J];exact Lj.one ..;rw[if_pos o!,if_neg J];exact Lj.two ..;rw[e];simp only[tE,n1,n2,U,n0];unfold XR Ww;by_cases J:fo B [l.getD (l? l-2) [],l.getD (l? l-1) [],x]=0;rw[if_neg o!,if_pos J];by_cases O:fo B [l.getD (l? l-1) [],x]=0;rw[if_neg o!,if_pos O];exact Lj.one ..;rw[if_pos o!,if_neg O];exact Lj.two ..;rw[if_pos o!,if_neg J];exact Lj.three ..
def oh(c g d:Nat):c*g*d=g*(c*d):=by rw[Nat.mul_comm c g,ny]
def Ac(a b c d:Nat):a*c*(b*d)=a*b*(c*d):=Nat.mul_mul_mul_comm a c b d
def UC{a b}(U:Lj a i)(J:Lj b p):Au i p=Au a b:=by unfold Au;rw[decide_eq_decide];obtain⟨c,d,⟨rfl,rfl⟩|⟨rfl,rfl⟩|⟨rfl,rfl⟩⟩:=U;obtain⟨B,O,⟨rfl,rfl⟩|⟨rfl,rfl⟩|⟨rfl,rfl⟩⟩:=J;simp only[oh];omega;simp only;rw[oh B 10,oh c 25,ny 4,Y! c 10];omega;simp only;rw[oh B 4,oh c 25,ny 16,Y! c _];omega;obtain⟨B,O,⟨rfl,rfl⟩|⟨rfl,rfl⟩|⟨rfl,rfl⟩⟩:=J;simp only;rw[oh B 25,oh c 10,ny 4,Y! B 10];omega;simp only;rw[oh B 10,oh c 10,Ac 4 10,Ac 4 10];omega;simp only;rw[oh B 4,oh c 10,Ac 16 10,Ac 4 _];omega;obtain⟨B,O,⟨rfl,rfl⟩|⟨rfl,rfl⟩|⟨rfl,rfl⟩⟩:=J;simp only;rw[oh B 25,oh c 4,ny 16,Y! B _];omega;simp only;rw[oh B 10,oh c 4,Ac 4 _,Ac 16 10];omega;simp only;rw[oh B 4,oh c 4,Ac 16 _,Ac 16 100];omega
def Xi{a}(h:Lj a i):0<i.2↔0<a.2:=by obtain⟨c,d,⟨rfl,rfl⟩|⟨rfl,rfl⟩|⟨rfl,rfl⟩⟩:=h<;>simp
def UK(t ws:W?)(x:Wd)(k)(h:pK t (ws++[x]) k=t?):pK t ws k=t?:=by unfold pK mj at *;simp only[decide_eq_true_eq,o?]at *;have:=congrArg (List.take ws.length) h;rw[ln]at this;simpa using this
def zC(h:0<qJ g C):∃k,k+l? C<=l? g/\pK g C k=t?:=by obtain⟨k,B⟩:=List.exists_mem_of_length_pos h;obtain⟨J,O⟩:=Zb.1 B;have:=G!.1 J;exact⟨k,o!,O⟩
def zA{k}(B:k+l? C<=l? g)(h:pK g C k=t?):0<qJ g C:=by exact kb (Zb.2 ⟨G!.2 o!,h⟩)
def vJ{J:Type}(f):∀(l:List J),0<(l.map f).sum↔∃x∈l,0<f x:=by
 intro l;induction l with
 |nil=>simp|cons a l B=>simp only[ZK,J!,Zm,exists_eq_or_imp];constructor;intro h;by_cases O:0<f a;exact .inl O;exact .inr (B.1 o!);rintro(h|h);omega;have:=B.2 h;omega
def BV(B:List<|W?)(ws:W?)(x:Wd)(h:0<fo B (ws++[x])):0<fo B ws:=by unfold fo at *;rw[vJ]at *;obtain⟨t,J,O⟩:=h;obtain⟨k,U,V⟩:=zC O;simp at U;exact⟨t,J,zA o!<|UK _ _ _ _ V⟩
def Pk(J:List<|W?)(x):0<fo J [x]↔∃t∈J,x∈t:=by
 unfold fo;rw[vJ];constructor;rintro⟨t,B,O⟩;obtain⟨k,W,h2⟩:=zC O;refine⟨t,B,?_⟩;unfold pK mj at h2;simp only[w!,F!,decide_eq_true_eq]at h2;have:x∈(t.drop k).take (0+1):=by rw[h2];simp
 exact V!<|Za this;rintro⟨t,B,U⟩;obtain⟨k,V,e⟩:=ie U;refine⟨t,B,zA (k:=k) j! ?_⟩;unfold pK mj;simp only[w!,F!,decide_eq_true_eq];rw[M? V,e];rfl
def E9(B:List<|W?)(l:W?)(x)(O:x∈eP B):0<(fU B l x).2:=by
 unfold fU;split;rename_i h;exact BV B _ x h.2;split;rename_i h;have:=BV B [_] x h.2;omega;obtain⟨t,U,J⟩:=(mg B x).1 O
 have:0<lL B:=by unfold lL;rw[vJ];exact⟨t,U,kb J⟩
 omega
def Xo(B:List<|W?)(l:W?)(x)(J:x∈eP B):0<(tE B x<|pM l).2:=(Xi<|rD B l x).2<|E9 B l x J
def Qa(B:List<|W?)(x):gu B [x]=0↔x ∉ eP B:=by
 have h:=Pk B x;rw[mg];have e:gu B [x]=fo B [x]:=by simp[gu]
 constructor;intro J O;have:=h.2 O;omega;intro O;obtain J|J:=ZJ _
 exact J;exact absurd (h.1 J) O
def YI(B:List<|W?)(x)(l:W?):(tE B x l).1<=25*eK B/\(tE B x l).2<=eK B:=by
 have h:=uG B;match l with
 |[]=>have:=h [x];have:=h [];simp only[tE];omega|[v]=>have:=h [x];have:=h [];have:=h [v,x];have:=h [v];simp only[tE];split<;>simp only<;>omega
 |u::v::_=>have:=h [x];have:=h [];have:=h [v,x];have:=h [v];have:=h [u,v,x];have:=h [u,v];simp only[tE];split;split<;>simp only<;>omega;omega
open Go.Sort Shelf
def D7(B:List<|W?)(l:W?)(x:Wd):Fr:=if x∈eP B then tE B x (pM l)else(0,1)
def N6(B:List<|W?)(l:W?)(x)(h:x∈eP B):D7 B l x=tE B x (pM l):=by unfold D7;rw[if_pos h]
def uT(B:List<|W?)(l:W?)(x):0<(D7 B l x).2:=by unfold D7;split;rename_i h;exact Xo B l x h;exact Nat.one_pos
def TI(B:List<|W?)(l:W?)(x):(D7 B l x).1<=25*eK B/\(D7 B l x).2<=eK B+1:=by unfold D7;split;have:=YI B x<|pM l;omega;omega
def Cd(a b:Nat):Int:=if a<b then -1 else if b<a then 1 else 0
def cfW(sc:Wd->Fr)(x y:Wd):Int:=if Cd ((sc y).1*(sc x).2) ((sc x).1*(sc y).2)≠0 then Cd ((sc y).1*(sc x).2) ((sc x).1*(sc y).2)else uL x y
def VF:∀x y:Wd,(uL x y<0)↔q6 x y=t?:=by
 intro x;induction x with
 |nil=>intro y;cases y<;>simp[uL,q6]
 |cons a x U=>
  intro y
  cases y with
  |nil=>simp[uL,q6]|cons b y=>
   unfold uL q6;by_cases B:a<b;simp[B];by_cases J:b<a
   have O:a≠b:=by intro e;subst e;exact B J
   simp[B,J,O]
   have V:a=b:=by apply H?.1;rw[Y?]at B J;omega
   subst V;simp[B,U]
def Ga(sc)(x y):ltOf (cfW sc) x y=pb sc x y:=by unfold ltOf cfW pb Au Cd;by_cases B:(sc y).1*(sc x).2<(sc x).1*(sc y).2;simp[B];by_cases J:(sc x).1*(sc y).2<(sc y).1*(sc x).2;simp[B,J];simp only[B,J,if_false,ne_eq,not_true_eq_false,decide_false,ps,Bool.not_false,Bool.true_and];rw[Z8,decide_eq_true_eq];exact VF x y
def VS(B:List<|W?)(l:W?):SWO (ltOf<|cfW<|D7 B l) where
 irrefl x:=by rw[Ga];exact zt _ x
 trans x y z h1 h2:=by rw[Ga]at *;exact wG _ (uT B l x) (uT B l y) (uT B l z) h1 h2
 ntrans x y z h1 h2:=by
  rw[Ga]at *
  cases J:pb (D7 B l) x z with
  |false=>rfl|true=>
   obtain h|h|h:=BC (D7 B l) x y
   rw[h1]at h;cases h;subst h;rw[h2]at J;cases J;have:=wG _ (uT B l y) (uT B l x) (uT B l z) h J;rw[h2]at this;cases this
def Sx(B:List<|W?)(l:W?)(x y)(J:x∈eP B)(O:y∈eP B):pb (D7 B l) x y=pb (fU B l) x y:=by unfold pb;rw[N6 B l x J,N6 B l y O,UC (rD B l x)<|rD B l y,UC (rD B l y)<|rD B l x]
def AX(J:List<|W?)(l kn:W?)(most)(B)(V:kn.Perm<|eP J)(hp:PermIn 0 kn.toArray.size kn.toArray B)(hs:SortedIn (ltOf<|cfW<|D7 J l) 0 kn.toArray.size B) :
  gN J l most=B.1.take (min most kn.length):=by
 obtain⟨W,_,p3⟩:=hp
 have fL:=by
  have e1:B.extract 0 kn.toArray.size=B:=by rw[<-W];simp
  have e2:kn.toArray.extract 0 kn.toArray.size=kn.toArray:=i!;rw[e1,e2]at p3;exact p3.trans V
 rw[Ch J l most _ (λx hx=>E9 J l x hx) fL ?_,V.length_eq];rw[Zr];intro i j Y hj U;have aa:l? B.1=kn.toArray.size:=by simpa using W
 have h:=hs i j (ZP _) U o!;rw[Ga]at h
 have gi:B[i]! = B.1[i]:=by rw[getElem!_pos B i _];rfl
 have gj:B[j]! = B.1[j]:=by rw[getElem!_pos B j _];rfl
 rw[gi,gj]at h;rw[Sx J l _ _ (fL.mem_iff.1<|Zw hj)<|fL.mem_iff.1<|Zw Y]at h;obtain O|O|O:=BC ..
 exact O;exfalso;have:=Zr.1 (fL.nodup_iff.2 (lP J).nodup) i j Y hj U;exact this O;rw[h]at O;cases O
end
section
open RowKit
variable {f:w?}{g i J:Nat}{l P:W?}{o:v?}{p:W?->Nat}{C:P?}{I:L?}
def Rd(w:w?)(v:v?)(xs:L?):Prop:=
 ∃a cap,v=.slice a xs.length cap/\l? xs<=cap/\cap<=ls/\∀j u,xs[j]?=y? u->∃b off,a=y? ⟨b,off,x?⟩/\C? w ⟨b,off+j,x?⟩=y? u
def Rd.eo{n}(h:R? f i J 1 o n I):Rd f o I:=by
 let ⟨O,h⟩:=h;obtain⟨rfl,rfl⟩|⟨g,cap,cur,rfl,_,hg,hn,B,U,V⟩:=h
 have:=by simpa using O
 subst this;exact⟨x?,0,q?,Zu _,o!,i!⟩;have J:n=l? I:=o!;refine⟨y? _,cap,by rw[J],o!,B,λj u W=>⟨g,0,q?,?_⟩⟩;have:=(h).cells (g:=g) q? j u W
 have Y:(⟨g,0,x?⟩:Addr).add j=⟨g,0+j,x?⟩:=by unfold wl;split;rename_i h;rw[h];rfl
 rwa[Y]at this
def fI(ws:W?)(j)(h:j<l? ws):(du ws)[j]?=y? (s? ⟨ws[j].toArray⟩):=by simp[du,h]
def s7(w:w?)(v:v?)(B:List<|W?):Prop:=
 ∃vs:L?,l? vs=l? B/\Rd w v vs/\∀i(h:i<l? B),∃u,vs[i]?=y? u/\Rd w u (du B[i])
def kB(w)(t ty e)(i)(B:C.underlying t=y? (.slice e))(J:C.info? e=y? i)(b)(n cap c)(h:n<=cap) :
  (vA #[t,t] ty #[.slice b n cap,.slice x? 0 c]).run C w=.ok (.slice b n cap) w:=by
 cases b<;>simp[vA,l0 B,sizeOf,typeInfo,J,vM,vL,h,nl]
def dC{n}(h:R? f i J 1 o n I):∃a cap,o=.slice a n cap/\n<=cap:=by
 obtain⟨rfl,rfl⟩|⟨g,cap,cur,rfl,_,_,B,_⟩:=h.2
 exact⟨x?,0,q?,Zu _⟩;exact⟨_,cap,q?,B⟩
def qR(w)(base)(t ty e)(i)(z)(bytes)(ht:C.underlying t=y? (.slice e))(hi:C.info? e=y? i)(hz:i.8=y? z)
  (O:i.3=1) (Y:i.4=bytes) (aa:z.cells.size=1)
  (v) (n) (xs:L?) (B:R? w base e 1 v n xs)
  (x) (news:L?) (hx:Rd w x news) (h1:∀u∈news,u.oneCell'=t?)
  (J:(n+l? news)*bytes<=140737488355328) (ab:n+l? news<=ls) (U:base<=w.1.size) :
  ∃W w',(vA #[t,t] ty #[v,x]).run C w=.ok W w'/\R? w' base e 1 W (n+l? news) (xs++news)/\w.grownBy w' (O? v):=by
 obtain⟨a,cap,rfl,hc,hm,hr⟩:=hx
 cases a with
 |none=>
  have hn:news=[]:=by
   cases news with
   |nil=>rfl|cons u us=>obtain⟨b,off,V,_⟩:=hr 0 u rfl;simp at V
  subst hn;obtain⟨b,c,rfl,ac⟩:=dC B;refine⟨_,w,kB w t ty e i ht hi b n c cap ac,u! B,World.grownBy.refl ..⟩
 |some ad=>
  by_cases hn:news=[];subst hn;obtain⟨W,w',h1,h2,h3,_⟩:=l3 w base t ty e i z 1 bytes ht hi hz O Y aa d! v n xs B ad 0 cap [] q? i! i! (u! ab) (u! J) U;exact⟨W,w',h1,h2,h3⟩
  obtain⟨b,off,V,_⟩:∃b off,y? ad=y? ⟨b,off,x?⟩/\True:=by
   cases news with
   |nil=>exact absurd q? hn|cons u us=>obtain⟨b,off,V,_⟩:=hr 0 u rfl;exact⟨b,off,V,t!⟩
  simp only[m?]at V;subst V
  obtain⟨W,w',h1,h2,h3,_⟩:=l3 w base t ty e i z 1 bytes ht hi hz O Y aa d! v n xs B _ _ cap news i! (λj u hj=>by
   obtain⟨b',af,V,ae⟩:=hr j u hj;obtain⟨rfl,rfl,_⟩:=V
   rwa[wh]) h1 ab J U
  exact⟨W,w',h1,h2,h3⟩
def gM(w){ops rest}{o:Oper}{a:Act}{Q}(W:o.6=x?)(s x)(t)
  (ho:o.2=.call {callee:=.builtin .append,args:=#[s,x],argTypes:=#[t,t]})
  (base) (e) (i) (z) (bytes) (ht:C.underlying t=y? (.slice e)) (hi:C.info? e=y? i) (hz:i.8=y? z)
  (J:i.3=1) (Y:i.4=bytes) (aa:z.cells.size=1)
  (v) (n) (xs:L?) (hs:a.eval s=v) (U:R? w base e 1 v n xs)
  (y) (news:L?) (hx:a.eval x=y) (hy:Rd w y news) (h1:∀u∈news,u.oneCell'=t?)
  (B:(n+l? news)*bytes<=140737488355328) (ab:n+l? news<=ls) (O:base<=w.1.size)
  (h:∀V w',R? w' base e 1 V (n+l? news) (xs++news)->w.grownBy w' (O? v)->l1 C ops Q rest (a.put o.1 V) w'):l1 C ops Q (o::rest) a w:=by
 refine ZW W λ_ hK=>?_;obtain⟨V,w',hr,h2,h3⟩:=qR w base t o.3 e i z bytes ht hi hz J Y aa v n xs U y news hy h1 B ab O;unfold z3 mi;simp only[ho,m5,invoke,builtin,wo,wn,ut,fd,ZK,ZU,hs,hx,hr];exact hK _ _<|h V w' h2 h3
def mc(w)(base)(t ty e)(i)(z)(bytes)(ht:C.underlying t=y? (.slice e))(hi:C.info? e=y? i)(hz:i.8=y? z)
  (B:i.3=1) (Y:i.4=bytes) (ae:z.cells.size=1)
  (v) (n) (xs:L?) (J:R? w base e 1 v n xs)
  (x) (news:L?) (hx:Rd w x news) (h1:∀u∈news,u.oneCell'=t?)
  (O:(n+l? news)*bytes<=140737488355328) (aa:n+l? news<=ls) (W:base<=w.1.size) :
  ∃v' w',(vA #[t,t] ty #[v,x]).run C w=.ok v' w'/\R? w' base e 1 v' (n+l? news) (xs++news)/\w.grownBy w' (O? v)/\(O? v'=O? v\/O? v'=y? w.1.size):=by
 obtain⟨v',w',U,h2,h3⟩:=qR w base t ty e i z bytes ht hi hz B Y ae v n xs J x news hx h1 O aa W;refine⟨v',w',U,h2,h3,?_⟩;obtain⟨a,cap,rfl,hc,hm,af⟩:=hx
 cases a with
 |none=>
  have hn:news=[]:=by
   cases news with
   |nil=>rfl|cons u us=>obtain⟨b,off,he,_⟩:=af 0 u rfl;simp at he
  subst hn;obtain⟨b,c,rfl,ag⟩:=dC J;have:=kB w t ty e i ht hi b n c cap ag;simp only[F!]at U;rw[this]at U;simp only[uc]at U;exact .inl (by rw[<-U.1])
 |some ad=>
  have V:∀j u,news[j]?=y? u->C? w (ad.add j)=y? u:=by intro j u hj;obtain⟨b,off,he,ah⟩:=af j u hj;simp only[m?]at he;subst he;rwa[wh]
  have hl:l? news=l? news*i.3:=by rw[B];omega
  obtain⟨rfl,rfl⟩|⟨g,c,cur,rfl,al,hg,ag,am,an,ai⟩:=J.2
  by_cases aj:l? news=0;have hn:=ex aj;subst hn;obtain⟨rfl,_⟩|⟨g',c',ak,rfl,_,ao,_⟩:=h2.2
  exact .inl rfl;have:=l3 w base t ty e i z 1 bytes ht hi hz B Y ae d! _ 0 xs J ad 0 cap [] q? i! i! i! i! W;let ⟨v2,w2,ab,_,_,h4⟩:=this;simp only[F!]at U;rw[U]at ab;simp only[uc]at ab;have:=h4.2 ⟨q?,q?⟩;rw[<-ab.1]at this;simp at this;rw[mv w t ty e i z ht hi hz ad _ cap news hl V o! (by simp only[ls]at aa;omega) (by rw[Y];simp only[ZD]at O;omega)]at U;simp only[uc]at U;exact .inr (by rw[<-U.1];rfl);by_cases ac:n+l? news<=c;rw[mp w t ty e i ht hi g n c cur hg ad _ cap news hl V h1 ac (by rw[B];omega)]at U;simp only[uc]at U;exact .inl (by rw[<-U.1];rfl);rw[mr w t ty e i z ht hi hz _ n c xs (by rw[B];exact J.1) (J.cells (g:=g) q?) ad _ cap news hl V o! (by simp only[ls]at aa;omega) (by rw[Y];exact mx o! O)]at U;simp only[uc]at U;exact .inr (by rw[<-U.1];rfl)
def dU(w){ops rest}{o:Oper}{a:Act}{Q}(W:o.6=x?)(s x)(t)
  (ho:o.2=.call {callee:=.builtin .append,args:=#[s,x],argTypes:=#[t,t]})
  (base) (e) (i) (z) (bytes) (ht:C.underlying t=y? (.slice e)) (hi:C.info? e=y? i) (hz:i.8=y? z)
  (J:i.3=1) (Y:i.4=bytes) (aa:z.cells.size=1)
  (v) (n) (xs:L?) (hs:a.eval s=v) (V:R? w base e 1 v n xs)
  (y) (news:L?) (hx:a.eval x=y) (hy:Rd w y news) (h1:∀u∈news,u.oneCell'=t?)
  (B:(n+l? news)*bytes<=140737488355328) (ab:n+l? news<=ls) (O:base<=w.1.size)
  (h:∀U w',R? w' base e 1 U (n+l? news) (xs++news)->w.grownBy w' (O? v)->(O? U=O? v\/O? U=y? w.1.size)->l1 C ops Q rest (a.put o.1 U) w'):l1 C ops Q (o::rest) a w:=by
 refine ZW W λ_ hK=>?_;obtain⟨U,w',hr,h2,h3,h4⟩:=mc w base t o.3 e i z bytes ht hi hz J Y aa v n xs V y news hy h1 B ab O;unfold z3 mi;simp only[ho,m5,invoke,builtin,wo,wn,ut,fd,ZK,ZU,hs,hx,hr];exact hK _ _<|h U w' h2 h3 h4
def Rd.one{b}(h:C? f ⟨b,0,x?⟩=y? o):Rd f (.slice (y? ⟨b,0,x?⟩) 1 1) [o]:=by
 refine⟨y? _,1,q?,Zu _,by unfold ls;omega,λj u B=>⟨b,0,q?,?_⟩⟩;match j,B with
 |0,B=>simp at B;subst B;exact h|j+1,B=>simp at B
def iu:∀u∈du l,u.oneCell'=t?:=by intro u B;simp only[du,Zv]at B;obtain⟨b,_,rfl⟩:=B;rfl
def Rd.take{a}(h:Rd f (.slice a g i) I)(k)(W:k<=l? I):Rd f (.slice a k i)<|I.take k:=by obtain⟨Y,J,O,hc,hm,U⟩:=h;obtain⟨rfl,rfl,rfl⟩:=O;have V:(I.take k).length=k:=j!;refine⟨a,i,by rw[V],o!,hm,λj u B=>U j u ?_⟩;rw[Zi]at B;split at B;exact B;simp at B
def Rd.wT{a}(h:Rd f (.slice a g i)<|du l)(k)(B:k<=l? l):Rd f (.slice a k i)<|du<|l.take k:=by have:=h.take k (by rwa[dz]);simpa[du]using this
def Rd.drop{a}(h:Rd f (.slice a g i) I)(k)(Y:k<=l? I) :
  Rd f (.slice (if i=k then a else a.map λx=>x.add k) (g-k)<|i-k) (I.drop k):=by
 obtain⟨a',O,U,hc,hm,V⟩:=h;obtain⟨rfl,rfl,rfl⟩:=U;refine⟨if i=k then a else a.map _,i-k,by rw[u?],j!,o!,λj u B=>?_⟩;rw[i1]at B;obtain⟨b,off,rfl,J⟩:=V _ u B
 have W:k+j<l? I:=by by_cases h:k+j<l? I;exact h;rw[ZA o!]at B;simp at B
 refine⟨b,off+k,?_,by rwa[nU]⟩;rw[if_neg o!];simp[wh]
def Rd.BR{a}(h:Rd f (.slice a g i)<|du l)(k)(B:k<=l? l) :
  Rd f (.slice (if i=k then a else a.map λx=>x.add k) (g-k)<|i-k) (du<|l.drop k):=by
 have:=h.drop k (by rwa[dz]);simpa[du]using this
def Rd.zq{b}(h:Rd f (.slice (y? ⟨b,g,x?⟩) i J)<|du l)(k)(B:k<l? l)(O:i<=J)(U:i=l? l) :
  Rd f (.slice (y? ⟨b,g+k,x?⟩) (i-k)<|J-k) (du<|l.drop k):=by
 have:=h.BR k o!;rw[if_neg o!]at this;simpa[wh]using this
def Rd.Dr{a c}(B:g=0)(J:c<=ls):Rd f (.slice a g c) []:=by subst B;exact⟨a,c,q?,ZP _,J,i!⟩
def Rd.later{w'}(h:Rd f o I)(J:∀a u,C? f a=y? u->C? w' a=y? u):Rd w' o I:=by obtain⟨a,cap,O,U,V,W⟩:=h;refine⟨a,cap,O,U,V,λj u Y=>?_⟩;obtain⟨b,off,e,B⟩:=W j u Y;exact⟨b,off,e,J _ _ B⟩
def xX{a}(h:C? f a=y? o):a.1<f.1.size:=by by_cases B:a.1<f.1.size;exact B;unfold p6 at h;rw[ZB o!]at h;simp at h
def Rd.below{w}(h:Rd w o I)(hb:B? w f):Rd f o I:=
 h.later λ_ _ B=>Z0 hb B
def eH{e size n:Nat}(h:R? f i e size o n I)(hb:J<=i):R? f J e size o n I:=by
 obtain⟨O,B⟩:=h;refine⟨O,?_⟩;obtain B|⟨g,cap,cur,U,V,r⟩:=B
 exact .inl B;exact .inr ⟨g,cap,cur,U,o!,r⟩
def Mc(x:Nat)(h:x<128):((v5 x).toNat)=(x:Int):=by rw[UInt8.toNat_ofNat'];omega
def Qr(x)(J:x<=1114111)(W):FnGives prog 136 #[] #[encR x] (.bool<|qZ x) W:=by
 show lw prog 136 #[n? .i32 (x:Int)] W _;by_cases h:x<128
 .have O:(decide<|128<=(x:Int))=f?:=j!;have B:qZ x = !eS (v5 x):=by unfold qZ;rw[decide_eq_false o!];rfl
  have U:IntKind.u8.wrap (x:Int)=((v5 x).toNat:Int):=by rw[Mc x h,yg];omega
  rw[B];generalize v5 x=c at *;go_enter func136,ntmps136;go_wp2_with fail;apply g!<|pe c _;go_wp2;go_ret;exact⟨q?,0,q?⟩
 have B:qZ x=t?:=by unfold qZ;rw[decide_eq_true o!];rfl
 go_wp2;go_ret;exact⟨q?,0,q?⟩
def Zaj:(prog.info?<|zH.t 154).map (λi=>(i.8,i.3,i.4))=y? (y?<|.agg #[n? i? 0,n? i? 0],2,16):=by kernel_rfl
def LK(f:b?)(w)(O:∀k(h:k<f.size),(f[k]'h).toNat<128)(U:f.size<=4294967296) :
  lw prog 94 #[s? f] w λe w'=>∃v,e=e? v/\R? w' w.1.size 9 1 v (eR f.1.1).length (du<|eR f.1.1)/\B? w w':=by
 have B:=Any.strings_FieldsFunc_runes V8 _ _ (enters_of func136 k! q?) qZ f w U (λW x V _=>Qr x V W) Zaj rH;rw[Gb f O,IL,Z5]at B;go_enter func94,ntmps94;go_wp2_with (refine B.mono ?_;rintro e w' ⟨A,rfl,Y,J,hb⟩);go_ret;exact⟨_,q?,J,hb⟩
def Ni(s:b?)(B:eh s.1.1=t?):∀k(h:k<(⟨(dP s.1.1).toArray⟩:b?).size),((⟨(dP s.1.1).toArray⟩:b?)[k]'h).toNat<128:=by intro k h;have hm:=xh _ k h;generalize (⟨(dP _).toArray⟩:b?)[k]'h=x at hm⊢;obtain⟨c,J,rfl⟩:=Zv.1 hm;simp only[eh,IT]at B;have O:=Zy.1 B.2 c J;simp only[nA,decide_eq_true_eq]at O;unfold Gz;split;rw[v8];have:(32:UInt8).toNat=32:=rfl;omega;omega
def zV(s:b?)(w)(O:eh s.1.1=t?) :
  lw prog 67 #[s? s] w λe w'=>∃v,e=e? v/\R? w' w.1.size 9 1 v (eR<|dP s.1.1).length (du<|eR<|dP s.1.1)/\B? w w':=by
 have W:=by
  have:=by simp only[eh,IT,decide_eq_true_eq]at O;exact O.1
  simpa using this
 have U:(⟨(dP s.1.1).toArray⟩:b?).size<=4294967296:=by show(dP _).length<=_;rw[eB];have:l? s.1.1=s.size:=i!;omega
 go_enter func67,ntmps67;go_wp2_with fail;apply (rJ s w o!).mono;rintro e w1 ⟨rfl,B⟩;go_wp2_with fail;apply (LK _ w1 (Ni s O) U).mono;rintro e w2 ⟨v,rfl,J,V⟩;go_wp2;go_ret;refine⟨_,q?,eH J B.4,B.trans<|V.mono B.4⟩
open Maps
def pg(ws:W?):v?:=.agg #[s? ⟨(ws.getD 0 []).toArray⟩,s? ⟨(ws.getD 1 []).toArray⟩,s? ⟨(ws.getD 2 []).toArray⟩]
def np(ws:W?):Prop:=l? ws<=3/\∀x∈ws,x≠[]/\l? x<=24
def Tryz.xn:laidOutB prog=t?:=by kernel_rfl
def Wo:(match prog.underlying 143 with|some (.array _ _)|some (.struct _)=>t?|_=>f?)=t?:=by rw[rr]
def SM:143<prog.types.size:=of_decide_eq_true k!
def rL:Keyed prog 143:=Keyed.of_law<|deep_law_laid Tryz.xn (m:=2) o! SM k! Wo
def IY:prog.cellsOf 143=3:=by kernel_rfl
def Tx:prog.cellsOf 9=1:=by kernel_rfl
def N5:prog.keyType 143=t?:=by kernel_rfl
def OW(w):(m8 141).run prog w=.ok (n? .u64 0) w:=by kernel_rfl
def NQ:∃d,prog.types.size=d+1:=⟨prog.types.size-1,by have:=SM;omega⟩
def Dv(d)(s:b?)(B:s.size<=ls):prog.keyLits (d+1) 9 [.string s]=y? [.string s.1.1]:=by unfold Program.keyLits;simp[q',B]
def UJ(a b c:b?)(B:a.size<=ls)(hb:b.size<=ls)(J:c.size<=ls):∃l,m0 prog 143 (.agg #[.string a,.string b,.string c])=y? l:=by
 obtain⟨d,O⟩:=NQ;unfold m0;rw[N5,O];have U:(Value.agg #[.string a,.string b,.string c]).formed prog 143=t?:=by simp[Value.formed,rr,IY]
 rw[U];unfold Program.keyLits;simp[rr,IY,Tx,Value.cells,e8,e8.loop,Dv d a B,Dv d b hb,Dv d c J]
def TC(h:np l)(j):(l.getD j []).length<=24:=by by_cases B:j<l? l;rw[AS,BY B];exact(h.2 _<|Zw B).2;rw[AS,ZA o!];simp
def size_le(h:np l)(j):(⟨(l.getD j []).toArray⟩:b?).size<=ls:=by have:=TC h j;show(l.getD j []).length<=ls;unfold ls;omega
def Hg(h:np P):∃l,m0 prog 143 (pg P)=y? l:=UJ _ _ _ (size_le h 0) (size_le h 1)<|size_le h 2
def TF(h:np l)(Y:np P)(e:pg l=pg P):l=P:=by
 unfold pg at e;simp only[Value.agg.injEq,Array.mk.injEq,List.cons.injEq,Value.string.injEq,ByteArray.mk.injEq,and_true]at e;obtain⟨B,J,U⟩:=e;obtain⟨h1,V⟩:=h;obtain⟨W,O⟩:=Y;match l,P with
 |[],[]=>rfl|[],y::_=>have:=(O y i!).1;simp at B;exact absurd B this|x::_,[]=>have:=(V x i!).1;exact absurd B this|[x],[y]=>simp at B;rw[B]|[_],_::y::_=>have:=(O y i!).1;simp at J;exact absurd J this|_::x::_,[_]=>have:=(V x i!).1;exact absurd J this|[x,x'],[y,y']=>simp at B J;rw[B,J]|[_,_],_::_::y::_=>have:=(O y i!).1;simp at U;exact absurd U this|_::_::x::_,[_,_]=>have:=(V x i!).1;exact absurd U this|[x,x',x''],[y,y',y'']=>simp at B J U;rw[B,J,U]|_::_::_::_::_,_=>simp at h1|_,_::_::_::_::_=>simp at W
def Zaq{B:W?}{l l'}(h:np P)(U:np B)(V:m0 prog 143 (pg P)=y? l)(J:m0 prog 143 (pg B)=y? l')(O:B≠P):l'≠l:=by intro e;rw[e]at J;exact O<|TF U h<|rL.3 J V
def fl(w:w?)(B n:Nat)(f:W?->Nat):Prop:=
 ∃D:DataW Unit,w.ownsMap prog 143 (plainElem prog 141) B n D/\∀ws l,np ws->m0 prog 143 (pg ws)=y? l->D.atKey l (.lit<|.int .u64 0)=.lit (.int .u64 (f ws:Nat))
def fl.made(w:w?):fl (w.alloc<|.map #[] 0) w.1.size 0<|λ_=>0:=⟨.map [],p7 ..,λ_ _ _ _=>rfl⟩
def fl.stay{w'}(h:fl f g i p)(hb:w'.1[g]?=f.1[g]?):fl w' g i p:=by obtain⟨D,⟨es,clock,B,J⟩,O⟩:=h;exact⟨D,⟨es,clock,hb.trans B,J⟩,O⟩
def fl.lt(h:fl f g i p):g<f.1.size:=by obtain⟨D,B,_⟩:=h;exact B.lt
def fl.mono{B}{g:W?->Nat}(h:fl f B i p)(U:i<=J)(V:∀ws,np ws->p ws=g ws):fl f B J g:=by obtain⟨D,W,Y⟩:=h;exact⟨D,W.mono U,λws l O hl=>by rw[Y ws l O hl,V ws O]⟩
def fl.below{w}(h:fl w g i p)(hb:B? w f):fl f g i p:=h.stay<|hb.5 g h.lt
def fl.look(h:fl f g i p){ws:W?}(O:np ws):(tb 86 (.map<|y? g) (pg ws) f?).run prog f=.ok (n? .u64<|p ws) f:=by obtain⟨D,V,W⟩:=h;obtain⟨l,U⟩:=Hg O;obtain⟨c,J,B,_⟩:=V.lookup_int rL rf sa (OW f) U;rw[W ws l O U]at B;simp only[DataW.lit.injEq,Lit.int.injEq,true_and]at B;rw[J,<-B]
def fl.put(h:fl f g i p)(U:np P)(Y:i<ls)(v)(hv:v<18446744073709551616) :
  ∃w',(td 86 (.map<|y? g) (pg P)<|n? .u64 (v:Nat)).run prog f=.ok () w'/\fl w' g (i+1) (λx=>if x=P then v else p x)/\f.grownBy w' (y? g):=by
 obtain⟨D,V,h2⟩:=h;have hw:(Lit.int .u64 v).wf=t?:=by simp[Lit.wf,yo,ys,yt,yh];omega
 let ⟨l,O⟩:=Hg U;let ⟨w',J,ho,hg⟩:=V.update rL rf Y O<|plainElem_int sa hw;refine⟨w',J,⟨_,ho,λx lx W B=>?_⟩,hg⟩;show _=DataW.lit (Lit.int _<|(if x=P then v else p x:Nat));by_cases e:x=P;subst e;rw[O]at B;simp only[m?]at B;subst B;rw[if_pos q?,zk V.isMap<|rL.1 O];rw[if_neg e,y9<|Zaq U W O B e];exact h2 x lx W B
open ChangeMaps WideElems
def AE(w:w?)(B:Nat)(s:Nat)(key:v?):Prop:=∃(es:Array MapEntry)(clock i:Nat)(e:MapEntry),w.1[B]?=y? (.map es clock)/\es[i]?=y? e/\e.1=key/\e.3=s
def zG{es:Array MapEntry}{e0}(O:es[J]?=y? e0)(f g)(h:f e0=g e0):es.modify J f=es.modify J g:=by apply s';intro i;rw[Ze,Ze];by_cases B:J=i;subst B;rw[O];simp[h];rw[if_neg B,if_neg B]
def FK{H k}{R:v?->Option (DataW H×List MemPlace)}{es t e b}(K:Keyed C k)(J:C.underlying t=y? (.map k e))(V:(m8 e).run C f=.ok o f)(hb:f.1[b]?=y? (.map es g))(F:Fit C k R es g){key kl}(iV:m0 C k key=y? kl) :
  ∃v s w',(tb t (.map<|y? b) key f?).run C f=.ok v f/\(te t (.map<|y? b) key).run C f=.ok (.tuple #[v,nc (s:Nat)]) w'/\(td t (.map<|y? b) key v).run C f=.ok () w'/\AE w' b s key:=by
 obtain⟨B,W⟩|⟨j,O,B,W,Y⟩:=K.5 f iV _ F.keys
 refine⟨o,g,setBlock f b<|.map (es.push ⟨key,o,g⟩)<|g+1,?_,?_,?_,?_⟩;simp[tb,l0 J,tt hb,K.4 f _ iV,B,V,un];simp[te,l0 J,tt hb,K.4 f f? iV,B,V,tx _ hb,un,setBlock];simp[td,l0 J,tt hb,K.4 f f? iV,B,tx _ hb,un,setBlock];exact⟨_,_,es.size,⟨key,o,g⟩,heap_setBlock_same hb _,i!,q?,q?⟩;have U:=by simpa using W
 refine⟨O.2,O.3,setBlock f b<|.map (es.modify j λe=>{e with key:=key}) g,?_,?_,?_,?_⟩;simp[tb,l0 J,tt hb,K.4 f _ iV,B,un];simp[te,l0 J,tt hb,K.4 f f? iV,B,U,Y,K.6 f iV,tx _ hb,un,setBlock];rw[zG U _ (λe=>{e with key:=key,val:=O.2}) i!];simp[td,l0 J,tt hb,K.4 f f? iV,B,U,Y,K.6 f iV,tx _ hb,un,setBlock];refine⟨_,_,j,{O with key:=key},heap_setBlock_same hb _,?_,rfl,rfl⟩;rw[Ze,if_pos q?,U]
 first|rfl|skip
def born_inj{es:Array MapEntry}(U:(es.1.map (·.3)).Nodup){x y}(hi:es[i]?=y? x)(hj:es[g]?=y? y)(h:x.3=y.3):i=g:=by
 have J:es.1[i]?=y? x:=by simpa using hi
 have O:es.1[g]?=y? y:=by simpa using hj
 let ⟨V,W⟩:=Zs.1 J;let ⟨Y,b2⟩:=Zs.1 O;rw[k9,ZY]at U;have hp:=Zr.1 U;obtain B|B|B:=og i g
 exact absurd (by rwa[W,b2])<|hp i g V Y B;exact B;exact absurd (by rw[W,b2];exact h.symm)<|hp g i Y V B
def key_inj{es:Array MapEntry}(hn:es.1.Pairwise λx y=>x.1≠y.1){x y}(hi:es[i]?=y? x)(hj:es[g]?=y? y)(h:x.1=y.1):i=g:=by
 have J:es.1[i]?=y? x:=by simpa using hi
 have O:es.1[g]?=y? y:=by simpa using hj
 let ⟨U,V⟩:=Zs.1 J;let ⟨W,Y⟩:=Zs.1 O;have hp:=Zr.1 hn;obtain B|B|B:=og i g
 exact absurd (by rwa[V,Y])<|hp i g U W B;exact B;exact absurd (by rw[V,Y];exact h.symm)<|hp g i W U B
def Bg{H k}{R:v?->Option (DataW H×List MemPlace)}{es t e b}(K:Keyed C k)(ht:C.underlying t=y? (.map k e))(hb:f.1[b]?=y? (.map es g))(F:Fit C k R es g){key v kl}(iV:m0 C k key=y? kl)(hE:AE f b J key) :
  ∃w',(tg t (.map<|y? b) (nc J) v).run C f=.ok () w'/\(td t (.map<|y? b) key v).run C f=.ok () w':=by
 obtain⟨ae,V,i,e0,B,W,hk,hs⟩:=hE;rw[hb]at B;obtain⟨rfl,rfl⟩:=B;have O:=(ua es g).1 F.2
 have U:es.findIdx? (λe=>(e.3:Int)==J)=y? i:=by obtain⟨aa,ab⟩:=AI.1 W;rw[Array.findIdx?_eq_some_iff_getElem];refine⟨aa,by rw[ab];simp[hs],λj Y=>?_⟩;simp only[Bool.not_eq_true,beq_eq_false_iff_ne,ne_eq];intro hh;have ac:j<es.size:=o!;have:=born_inj O.2.1 (Array.getElem?_eq_getElem ac) W o!;omega
 obtain⟨h1,h2⟩|⟨j,e1,h1,h2,h3⟩:=K.5 f iV _ F.keys
 exact absurd hk<|h2 e0<|W!<|u! W;have Y:=by simpa using h2
 have ad:=key_inj O.2.2 W Y (by rw[hk,h3]);subst ad;refine⟨setBlock f b<|.map (es.modify i λe=>{e with val:=v}) g,?_,?_⟩;simp[tg,tt hb,asInt,asIntOf,nc,U,tx _ hb,un,setBlock];rw[zG Y _ (λe=>{e with key:=key,val:=v})<|by simp[h3]];simp[td,l0 ht,tt hb,K.4 f f? iV,h1,Y,h3,K.6 f iV,tx _ hb,un,setBlock]
def fl.entry(h:fl f g i p)(B:np P)(V:i<ls)(W:p P<18446744073709551616) :
  ∃s w',(te 86 (.map<|y? g)<|pg P).run prog f=.ok (.tuple #[n? .u64<|p P,nc (s:Nat)]) w'/\AE w' g s (pg P)/\fl w' g (i+1) p/\f.grownBy w' (y? g):=by
 obtain⟨D,⟨es,clock,hb,F,hs,hD⟩,h2⟩:=id h;let ⟨l,J⟩:=Hg B;let ⟨v,s,w',O,Y,g3,g4⟩:=FK rL rf (OW f) hb F J;rw[h.look B]at O;simp only[uc,and_true]at O;subst O;let ⟨aa,U,p2,p3⟩:=h.put B V _ W;rw[g3]at U;simp only[uc,true_and]at U;subst U;refine⟨s,w',Y,g4,p2.mono (Zu _)<|λx _=>?_,p3⟩;by_cases e:x=P;subst e;simp;rw[if_neg e]
def fl.store(h:fl f g i p)(U:np P)(V:i<ls)(W:AE f g J<|pg P)(v)(Y:v<18446744073709551616) :
  ∃w',(tg 86 (.map<|y? g) (nc J)<|n? .u64 (v:Nat)).run prog f=.ok () w'/\fl w' g (i+1) (λx=>if x=P then v else p x)/\f.grownBy w' (y? g):=by
 obtain⟨D,⟨es,clock,hb,F,hs,hD⟩,h2⟩:=id h;obtain⟨l,B⟩:=Hg U;obtain⟨w',g1,g2⟩:=Bg (v:=n? _ v) rL rf hb F B W;obtain⟨aa,O,p2,p3⟩:=h.put U V v Y;rw[g2]at O;simp only[uc,true_and]at O;subst O;exact⟨w',g1,p2,p3⟩
end
section
open RowKit
variable {f x0 x6:w?}{i x1 x2 x7 x9:v?}{l p C x4 x8:Nat}{I:L?}{J:List (W?)}{U y2:F?}{x3 y1 y4:W?}{x5:V?}{y0 y3:Wd}
def Pz(b)(vT v)(B:List<|W?)(ws:W?)(w)(hT:C? w ⟨b,2,x?⟩=y? vT)(ag:s7 w vT B)(hv:Rd w v<|du ws)
  (hB:eK B<=1099511627776) (hW:l? ws<=3) :
  lw prog 209 #[p?<|y? ⟨b,0,x?⟩,v] w λe w'=>e=e? (n? i?<|fo B ws)/\∃n,w'=w.drewN n:=by
 obtain⟨vs,Y,⟨aT,cT,rfl,ah,hmT,aa⟩,ab⟩:=ag;obtain⟨aw,cw,rfl,ai,hmw,ac⟩:=hv;rw[dz]at ai⊢;rw[Y]at hT ah;have au:=me B;unfold ls at hmT hmw;have aj:=h! ab;have ak:=h! aa;have al:=h! ac;clear ab aa ac Y;go_enter func209,ntmps209;go_wp2;go_loopw [5,6] (λn i wr=>∃k m:Nat,k<=l? B/\i=n? i? k/\n=n? i? (fo (B.take k) ws)/\wr=w.drewN m) (λ_ i _=>l? B-(intOf i).toNat);exact⟨0,0,ZP _,q?,q?,q?⟩;obtain⟨k,m,hk,rfl,rfl,rfl⟩:=hrel;have am:=jI (B.take k) ws;have an:=qi B k;by_cases O:k<l? B
 .obtain⟨u,hu,at',ct,rfl,ao,hmt,ad⟩:=aj.o k O;obtain⟨bT,oT,rfl,V⟩:=ak.o k _ hu;have ap:=h! ad;have HU:=h!<|Ji B ws k O;have aq:=ql B k O;have ar:=qi B<|k+1;have ay:B[k].length<=1099511627776:=by have:=xG B k O;omega
  have az:fo (B.take k) ws+(B[k].length+1)<=1099511627776:=o!;clear ad hu aq ar an am;rw[dz]at V ao;unfold ls at hmt;go_wp2_with fail;go_loopw [5,8] (λn i wr=>∃q m:Nat,q<=B[k].length+1-l? ws/\i=n? i? q/\n=n? i? (fo (B.take k) ws+iW B[k] ws q)/\wr=w.drewN m) (λ_ i _=>B[k].length+1-l? ws-(intOf i).toNat);exact⟨0,m,ZP _,q?,by simp[iW],q?⟩;obtain⟨q,m,hq,rfl,rfl,rfl⟩:=hrel;have a0:=wZ B[k] ws q;by_cases a1:q+l? ws<=B[k].length
  .go_wp2_with fail;go_loopw [9,10] (λs i wr=>∃j m:Nat,j<=l? ws/\i=n? i? j/\s=.bool (mj B[k] ws q j)/\wr=w.drewN m) (λ_ i _=>l? ws-(intOf i).toNat);exact⟨0,m,ZP _,q?,by rw[II],q?⟩;obtain⟨j,m,hj,rfl,rfl,rfl⟩:=hrel;by_cases ae:j<l? ws
   .obtain⟨bw,ow,rfl,av⟩:=al.o j _<|fI ws j ae;obtain⟨bt,ot,rfl,ax⟩:=ap.o (q+j) _<|fI _ _ o!;have U:=h!<|Kg B[k] ws q j o! ae;have a2:(0:Int)<=(q:Int)+(j:Int):=o!;have a3:(q:Int)+(j:Int)<(B[k].length:Int):=o!;by_cases hs:mj B[k] ws q j=t?
    .rw[hs]at U⊢;clear hs;go_wp2_with fail;go_quiet (fail);go_wp2;go_roundw
     .exact⟨j+1,_,o!,by go_num,by rw[U.o];simp,q?⟩
     exact M!
    have af:mj B[k] ws q j=f?:=by simpa using hs
    rw[af]at U⊢;clear hs af;go_wp2_with fail;go_quiet (fail);go_wp2;go_roundw
    .exact⟨j+1,_,o!,by go_num,by rw[U.o];simp,q?⟩
    exact M!
   have ej:j=l? ws:=o!;subst ej;by_cases hh:pK B[k] ws q=t?
   .have HH:=h!<|vw _ _ _ hh;have J:mj _ ws q _=t?:=hh;rw[J];clear hh J;go_wp2;go_roundw
    .exact⟨q+1,_,o!,by go_num,by rw[HH.o];go_num,q?⟩
    exact M!
   have W:pK B[k] ws q=f?:=by simpa using hh
   have HH:=h!<|wW _ _ _ W;have J:mj _ ws q _=f?:=W;rw[J];clear hh J W;go_wp2;go_roundw
   .exact⟨q+1,_,o!,by go_num,by rw[HH.o],q?⟩
   exact M!
  have eq:q=B[k].length+1-l? ws:=o!;subst eq;go_wp2;go_roundw
  .exact⟨k+1,_,o!,by go_num,by rw[HU.o];unfold qJ;go_num,q?⟩
  exact M!
 have ek:k=l? B:=o!;subst ek;go_wp2;go_ret;refine⟨dQ ?_,_,q?⟩;rw[If<|Zu _]
def EQ(b)(vT)(W:List<|W?)(w)(hb:b<w.1.size)(hT:C? w ⟨b,2,x?⟩=y? vT)(a6:s7 w vT W)
  (hB:eK W<=1099511627776) :
  lw prog 156 #[p?<|y? ⟨b,0,x?⟩] w λe w'=>∃v,e=e? v/\R? w' w.1.size 9 1 v (eP W).length (du<|eP W)/\B? w w':=by
 obtain⟨i0,hi,Y,aa,ab⟩:=Zz rH;obtain⟨vs,ax,⟨aT,cT,rfl,a7,hmT,ay⟩,az⟩:=a6;rw[ax]at hT a7;have aK:=me W;unfold ls at hmT;have a8:=h! az;have a9:=h! ay;clear az ay ax;go_enter func156,ntmps156;go_wp2;go_loopw [3,4] (λv i wr=>∃k:Nat,k<=l? W/\i=n? i? k/\R? wr w.1.size 9 1 v (eP (W.take k)).length (du (eP (W.take k)))/\B? w wr) (λ_ i _=>l? W-(intOf i).toNat);exact⟨0,ZP _,q?,Z9 _ _ _ _,qr _ _⟩;obtain⟨k,hk,rfl,V,J⟩:=hrel;have a':=sI W k hk;have aA:=qi W k;by_cases aq:k<l? W
 .obtain⟨u,hu,at',ct,rfl,aB,hmt,a0⟩:=a8.o k aq;obtain⟨bT,oT,rfl,al⟩:=a9.o k _ hu;have aC:=h! a0;have HU:=h!<|Af W k aq;have aD:=ql W k aq;have aE:=qi W<|k+1;have aP:W[k].length<=1099511627776:=by have:=xG W k aq;omega
  have aQ:(eP<|W.take k).length+W[k].length<=1099511627776:=o!;clear a0 hu aD aE aA a';rw[dz]at al aB;unfold ls at hmt;have aF:=(J.cell hb).trans hT;go_wp2_with fail;generalize eP (W.take k)=o0 at *;generalize W[k]=t at *;go_loopw [3,5] (λv i wr=>∃q:Nat,q<=l? t/\i=n? i? q/\R? wr w.1.size 9 1 v (mS o0 t q).length (du (mS o0 t q))/\B? w wr) (λ_ i _=>l? t-(intOf i).toNat);exact⟨0,ZP _,q?,V,J⟩;obtain⟨q,hq,rfl,V,J⟩:=hrel;have aR:=zz o0 t q;have aS:=Z0 J hT;have a5:=Z0 J al;have HS:=J.4;by_cases a1:q<l? t
  .obtain⟨bt,ot,rfl,aG⟩:=aC.o q _<|fI t q a1;have aL:=Z0 J aG;have ar:=h!<|GF o0 t q a1;have aM:(mS o0 t q).length<=1099511627776:=o!;generalize mS o0 t q=out at *;generalize t[q]=x at *;obtain⟨a3,c3,rfl,a2,hm3,a4⟩:=Rd.eo V;have aH:=h! a4;clear a4;rw[dz]at a2 V⊢;have HRd:J?<|Rd wr (.slice a3 out.length c3) _:=Rd.eo V;unfold ls at hm3;go_wp2_with fail;go_loop [7] (λi=>∃p:Nat,i=n? i? p/\p<=l? out/\∀j(h:j<p)(h':j<l? out),q6 out[j] x=t?) (λi=>l? out-(intOf i).toNat);exact⟨0,q?,ZP _,λ_ h=>o!⟩;obtain⟨p,rfl,hp,fu⟩:=hrel;have HA:=h! fu;clear fu;by_cases au:p<l? out
   .obtain⟨b3,o3,rfl,aN⟩:=aH.o p _<|fI out p au;by_cases aj:q6 out[p] x=t?
    .go_wp2;go_round
     case rel=>exact⟨p+1,by go_num,o!,λj h h'=>by
      by_cases e:j=p;subst e;exact aj
      exact HA j o! h'⟩
     exact M!
    have aI:q6 out[p] x=f?:=by simpa using aj
    clear aj;have av:=h!<|OH out x p hp (λj h=>HA.o j h o!)<|λ_=>aI;by_cases hx:out[p]=x
    .have aJ:(out[p]==x)=t?:=by simpa using hx
     have HI:J?<|mG out x=out:=by show mG out x=out;unfold mG;rw[av.o,if_pos<|by rw[BY au,hx]]
     clear hx;go_wp2_with fail;go_roundw
     .exact⟨q+1,o!,by go_num,by rwa[ar.o,HI],J⟩
     exact M!
    have aJ:(out[p]==x)=f?:=by simpa using hx
    have HI:J?<|mG out x=out.take p++([x]++out.drop p):=by show mG out x=_;unfold mG;rw[av.o,if_neg (by rw[BY au];simpa using hx)]
    clear hx;go_wp2_with (at_builtin;go_must (refine gM _ q? _ _ 31 q? wr.1.size 9 i0 _ 16 q7 hi Y aa ab q? _ _ _ q? (Z9 _ _ _ _) _ (du<|out.take p) q? ?c0 iu ?c1 ?c2 ?c3 ?_))
    case c0=>exact HRd.wT p hp
    case c1=>rw[dz];simp;omega
    case c2=>rw[dz];simp[ls];omega
    intro v1 w1 B am;have ad:(du<|out.take p).length=p:=by rw[dz];simp;omega
    simp only[ad]at B;have ae:=(qr _ _).grown am (Zu _) (by simp[u']);have af:=ae.4;clear ad;go_wp2_with (at_builtin;go_must (refine eu _ q? _ _ 31 q? _ 9 i0 _ 16 q7 hi Y aa ab q? _ _ _ q? (B.alloc _) _ _ q? fF q? ?d1 ?d2 ?d3 ?_))
    case d1=>omega
    case d2=>unfold ls;omega
    case d3=>first|omega|(simp;omega)
    intro v2 w2 O an _;have ac:=(ae.alloc af _).grown an j!<|λb hb=>(B.lt b hb).1;have ag:=ac.4;go_wp2_with (at_builtin;go_must (refine gM _ q? _ _ 31 q? _ 9 i0 _ 16 q7 hi Y aa ab q? _ _ _ q? O _ (du<|out.drop p) q? ?e0 iu ?e1 ?e2 ?e3 ?_))
    case e0=>go_light;simp only[Act.eval,By];exact(HRd.below ac).zq p au a2 rfl
    case e1=>rw[dz];simp;omega
    case e2=>rw[dz];simp[ls];omega
    case e3=>omega
    intro v3 w3 U ao;have ah:p+1+(du<|out.drop p).length=(mG out x).length:=by rw[HI.o,dz];simp;omega
    have ai:du (out.take p)++s? ⟨a? x⟩::du (out.drop p)=du (mG out x):=by rw[HI.o];simp[du]
    rw[ah,ai,<-ar.o]at U;have ap:=ac.grown ao ag<|λb hb=>(O.lt b hb).1;clear ah ai;go_wp2;go_roundw
    .exact⟨q+1,o!,by go_num,eH U HS,J.trans<|ap.mono HS⟩
    exact M!
   have ep:p=l? out:=o!;have av:=h!<|OH out x p hp (λj h=>HA.o j h o!)<|λh=>o!;have HI:J?<|mG out x=out.take p++([x]++out.drop p):=by show mG out x=_;unfold mG;rw[av.o,if_neg<|by simp[ep]]
   have ak:=h! ep;clear ep;obtain aw|aw:=Decidable.em<|p=c3
   rotate_left
   .have aO:¬c3=p:=λh=>aw h.symm;clear aw;go_wp2_with (at_builtin;go_must (refine gM _ q? _ _ 31 q? wr.1.size 9 i0 _ 16 q7 hi Y aa ab q? _ _ _ q? (Z9 _ _ _ _) _ (du<|out.take p) q? ?p0 iu ?p1 ?p2 ?p3 ?_))
    case p0=>exact HRd.wT p hp
    case p1=>rw[dz];simp;omega
    case p2=>rw[dz];simp[ls];omega
    intro v1 w1 B am;have ad:(du<|out.take p).length=p:=by rw[dz];simp;omega
    simp only[ad]at B;have ae:=(qr _ _).grown am (Zu _) (by simp[u']);have af:=ae.4;clear ad;go_wp2_with (at_builtin;go_must (refine eu _ q? _ _ 31 q? _ 9 i0 _ 16 q7 hi Y aa ab q? _ _ _ q? (B.alloc _) _ _ q? fF q? ?q1 ?q2 ?q3 ?_))
    case q1=>omega
    case q2=>unfold ls;omega
    case q3=>first|omega|(simp;omega)
    intro v2 w2 O an _;have ac:=(ae.alloc af _).grown an j!<|λb hb=>(B.lt b hb).1;have ag:=ac.4;go_wp2_with (at_builtin;go_must (refine gM _ q? _ _ 31 q? _ 9 i0 _ 16 q7 hi Y aa ab q? _ _ _ q? O _ [] q? ?r0 i! ?r1 ?r2 ?r3 ?_))
    case r0=>go_light;simp only[Act.eval,By];exact Rd.Dr (v! ak.o) (by unfold ls;omega)
    case r1=>simp;omega
    case r2=>simp[ls];omega
    case r3=>omega
    intro v3 w3 U ao;have ah:p+1=(mG out x).length:=by rw[HI.o];simp;have:=ak.o;omega
    have ai:du (out.take p)++[s? ⟨a? x⟩]=du (mG out x):=by rw[HI.o,ak.o];simp[du]
    rw[ah,ai,<-ar.o]at U;have ap:=ac.grown ao ag<|λb hb=>(O.lt b hb).1;clear ah ai;go_wp2;go_roundw
    .exact⟨q+1,o!,by go_num,eH U HS,J.trans<|ap.mono HS⟩
    exact M!
   subst aw;go_wp2_with (at_builtin;go_must (refine gM _ q? _ _ 31 q? wr.1.size 9 i0 _ 16 q7 hi Y aa ab q? _ _ _ q? (Z9 _ _ _ _) _ (du<|out.take p) q? ?s0 iu ?s1 ?s2 ?s3 ?_))
   case s0=>exact HRd.wT p hp
   case s1=>rw[dz];simp;omega
   case s2=>rw[dz];simp[ls];omega
   intro v1 w1 B am;have ad:(du<|out.take p).length=p:=by rw[dz];simp;omega
   simp only[ad]at B;have ae:=(qr _ _).grown am (Zu _) (by simp[u']);have af:=ae.4;clear ad;go_wp2_with (at_builtin;go_must (refine eu _ q? _ _ 31 q? _ 9 i0 _ 16 q7 hi Y aa ab q? _ _ _ q? (B.alloc _) _ _ q? fF q? ?t1 ?t2 ?t3 ?_))
   case t1=>omega
   case t2=>unfold ls;omega
   case t3=>first|omega|(simp;omega)
   intro v2 w2 O an _;have ac:=(ae.alloc af _).grown an j!<|λb hb=>(B.lt b hb).1;have ag:=ac.4;go_wp2_with (at_builtin;go_must (refine gM _ q? _ _ 31 q? _ 9 i0 _ 16 q7 hi Y aa ab q? _ _ _ q? O _ [] q? ?v0 i! ?v1 ?v2 ?v3 ?_))
   case v0=>go_light;simp only[Act.eval,By];exact Rd.Dr (v! ak.o) (by unfold ls;omega)
   case v1=>simp;omega
   case v2=>simp[ls];omega
   case v3=>omega
   intro v3 w3 U ao;have ah:p+1=(mG out x).length:=by rw[HI.o];simp;have:=ak.o;omega
   have ai:du (out.take p)++[s? ⟨a? x⟩]=du (mG out x):=by rw[HI.o,ak.o];simp[du]
   rw[ah,ai,<-ar.o]at U;have ap:=ac.grown ao ag<|λb hb=>(O.lt b hb).1;clear ah ai;go_wp2;go_roundw
   .exact⟨q+1,o!,by go_num,eH U HS,J.trans<|ap.mono HS⟩
   exact M!
  have eq:q=l? t:=o!;subst eq;go_wp2;go_roundw
  .exact⟨k+1,o!,by go_num,by rwa[HU.o],J⟩
  exact M!
 have ek:k=l? W:=o!;subst ek;have aF:=(J.cell hb).trans hT;rw[If<|Zu _]at V;go_wp2;go_ret;exact⟨_,q?,V,J⟩
def s7.below{w}(h:s7 w x1 J)(hb:B? w f):s7 f x1 J:=by obtain⟨vs,B,O,U⟩:=h;refine⟨vs,B,O.below hb,λi V=>?_⟩;obtain⟨u,W,Y⟩:=U i V;exact⟨u,W,Y.below hb⟩
def mW(ws:W?)(j)(h:j<l? ws):(du ws)[j]?=y? (s? ⟨(ws.getD j []).toArray⟩):=by rw[fI ws j h,AS,BY h];rfl
def rk(b g n)(vT)(B:List<|W?)(ws:W?)(w W)(hT:C? w ⟨b,2,x?⟩=y? vT)(J:s7 w vT B)(U:eK B<=1099511627776)
  (hb:B? w W) (V:∀j u,(du ws)[j]?=y? u->C? W ⟨g,0+j,x?⟩=y? u) (Y:l? ws=n) (O:n<=3) :
  lw prog 209 #[p?<|y? ⟨b,0,x?⟩,.slice (y? ⟨g,0,x?⟩) n n] W λe w'=>e=e? (n? i?<|fo B ws)/\∃n,w'=W.drewN n:=by
 subst Y;refine Pz b vT _ B ws W (Z0 hb hT) (J.below hb) ⟨_,l? ws,by rw[dz],by rw[dz];exact Zu _,by unfold ls;omega,λj u hj=>⟨g,0,q?,V j u hj⟩⟩ U O
def Zam{z:Wd}{t}:∀j u,(du [y0,y3,z])[j]?=y? u->C? (f.alloc<|c? #[s? ⟨a? y0⟩,s? ⟨a? y3⟩,s? ⟨a? z⟩] t) ⟨f.1.size,0+j,x?⟩=y? u:=by
 intro j u B;match j,B with
 |0,B=>simpa[du]using B|1,B=>simpa[du]using B|2,B=>simpa[du]using B|j+3,B=>simp[du]at B
def TV{t}:∀j u,(du [y0,y3])[j]?=y? u->C? (f.alloc<|c? #[s? ⟨a? y0⟩,s? ⟨a? y3⟩] t) ⟨f.1.size,0+j,x?⟩=y? u:=by
 intro j u B;match j,B with
 |0,B=>simpa[du]using B|1,B=>simpa[du]using B|j+2,B=>simp[du]at B
def TW{t}:∀j u,(du [y0])[j]?=y? u->C? (f.alloc<|c? #[s? ⟨a? y0⟩] t) ⟨f.1.size,0+j,x?⟩=y? u:=by
 intro j u B;match j,B with
 |0,B=>simpa[du]using B|j+1,B=>simp[du]at B
def xR(n k)(h:n=k)(B:0<=n)(J:n<=4611686018427387904):IntKind.i64.wrap n=k:=by rw[A' n o!,h]
def FZ{a b c d}(h:a=c)(B:b=d):Ending.returned (.tuple #[n? i? a,n? i? b])=e? (.tuple #[n? i? c,n? i? d]):=by rw[h,B]
def QR(b)(vT vl)(B:List<|W?)(l:W?)(x:Wd)(w)(hT:C? w ⟨b,2,x?⟩=y? vT)(U:s7 w vT B)(hl:Rd w vl<|du l)
  (hB:eK B<=1099511627776) (hL:l? l<=1099511627776) :
  lw prog 157 #[p?<|y? ⟨b,0,x?⟩,vl,s? ⟨a? x⟩] w λe w'=>e=e? (.tuple #[n? i? (fU B l x).1,n? i? (fU B l x).2])/\B? w w':=by
 obtain⟨al,cl,rfl,kO,hml,ao⟩:=hl;rw[dz]at kO⊢;unfold ls at hml;have ah:=h! ao;clear ao;go_enter func157,ntmps157;go_upto_if 16 with fail;go_cut [1,8]from 13 to 46 (λs1 s8 wc=>s1=.slice al l.length cl/\s8=n? i? l.length/\B? w wc/\¬(1<l? l/\0<XR B l x))
 .by_cases h1:1<l? l
  .obtain⟨m,hm⟩:∃m,l? l=m+2:=⟨l? l-2,o!⟩;obtain⟨bl,ol,rfl,hA⟩:=ah.o m _<|mW l m o!;obtain⟨aD,aE,he,ap⟩:=ah.o _ _<|mW l (m+1) o!;simp only[m?,O!]at he;obtain⟨rfl,rfl,_⟩:=he;have hc:=jI B [l.getD m [],l.getD (m+1) [],x];have aa:J?<|XR B l x=fo B [l.getD m [],l.getD (m+1) [],x]:=by show XR B l x=_;unfold XR;rw[hm];rfl
   rw[hm]at kO hL⊢;have HM:=h! hm;clear hm h1;have aF:(m:Int)<(m:Int)+2:=o!;have aG:(m:Int)+1<(m:Int)+2:=o!;have aH:(0:Int)<=(m:Int)+1:=o!;have aI:IntKind.i64.wrap _=m:=xR _ _ q? o! o!;have aJ:IntKind.i64.wrap (m+2-1)=m+1:=xR _ _ o! o! o!;obtain⟨u0,ai⟩:∃u0,l.getD m []=u0:=⟨_,q?⟩;obtain⟨J,V⟩:∃J,l.getD (m+1) []=J:=⟨_,q?⟩;rw[ai]at hA hc aa;rw[V]at ap hc aa;have az:=h! ai;have aj:=h! V;clear ai V;go_wp2_with fail;go_region_held (λw'=>C? w' ⟨bl,ol+m,x?⟩=y? (s? ⟨a? u0⟩)/\C? w' ⟨bl,ol+(m+1),x?⟩=y? (s? ⟨a? J⟩)) (go_keep) (first|(go_at_call 209;apply (rk b w.1.size 3 _ B [u0,J,x] w _ hT U hB (by exact((qr _ _).alloc (Zu _) _).drew) (by exact Zam) q? d!).mono;rintro e w' ⟨rfl,nq,rfl⟩));by_cases ab:0<fo B [u0,J,x]
   .have HF:J?<|fU B l x=(fo B [u0,J,x],fo B [u0,J]):=by
     show fU B l x=_;unfold fU;rw[if_pos ⟨by have:=HM.o;omega,by rwa[aa.o]⟩,aa.o,HM.o];show(_,fo B [l.getD m [],l.getD (m+1) []])=_;rw[az.o,aj.o]
    go_wp2_with fail;have O:Below _ w<|(w.alloc<|c? #[s? ⟨a? u0⟩,s? ⟨a? J⟩,s? ⟨a? x⟩] 9).drewN<|1+nq:=l4 ((qr _ _).alloc (Zu _) _) _;generalize (w.alloc<|c? #[s? ⟨a? u0⟩,s? ⟨a? J⟩,s? ⟨a? x⟩] 9).drewN (1+nq)=W1 at *;have a0:=Z0 O hA;have a1:=Z0 O ap;have ac:=O.4;go_region_held (λw'=>C? w' ⟨bl,ol+m,x?⟩=y? (s? ⟨a? u0⟩)/\C? w' ⟨bl,ol+(m+1),x?⟩=y? (s? ⟨a? J⟩)) (go_keep) (first|(go_at_call 209;apply (rk b W1.1.size 2 _ B [u0,J] w _ hT U hB (by exact(O.alloc ac _).drew) (by exact TV) q? d!).mono;rintro e w' ⟨rfl,aq,rfl⟩));go_wp2;go_ret2;exact⟨FZ (by rw[HF.o])<|by rw[HF.o],l4 (O.alloc ac _) _⟩
   go_wp2_with fail;go_meet;exact⟨by rw[HM.o],by rw[HM.o];rfl,l4 ((qr _ _).alloc (Zu _) _) _,λh=>ab (by rw[<-aa.o];exact h.2)⟩
  go_wp2_with fail;go_meet;exact⟨q?,q?,qr _ _,λh=>h1 h.1⟩
 obtain⟨rfl,rfl,W,ar⟩:=hcut;have ak:=h! ar;clear ar;have am:=W.4;go_upto_if 48 with fail;go_cut [1,8]from 13 to 70 (λs1 s8 wc=>s1=.slice al l.length cl/\s8=n? i? l.length/\B? w wc/\¬(0<l? l/\0<Ww B l x))
 .by_cases h1:0<l? l
  .obtain⟨m,hm⟩:∃m,l? l=m+1:=⟨l? l-1,o!⟩;obtain⟨bl,ol,rfl,hA⟩:=ah.o m _<|mW l m o!;have ae:J?<|Ww B l x=fo B [l.getD m [],x]:=by show Ww B l x=_;unfold Ww;rw[hm];rfl
   rw[hm]at kO hL⊢;have HM:=h! hm;clear hm h1;obtain⟨J,V⟩:∃J,l.getD m []=J:=⟨_,q?⟩;rw[V]at hA ae;have aj:=h! V;clear V;have hc:=jI B [J,x];have aK:=jI B [J];have a0:=Z0 W hA;go_wp2_with fail;apply (rk b wc.1.size 2 _ B [J,x] w _ hT U hB (by exact W.alloc am _) (by exact TV) q? d!).mono;rintro e w' ⟨rfl,nq,rfl⟩;have O:Below _ w<|(wc.alloc<|c? #[s? ⟨a? J⟩,s? ⟨a? x⟩] 9).drewN nq:=l4 (W.alloc am _) _;generalize (wc.alloc<|c? #[s? ⟨a? J⟩,s? ⟨a? x⟩] 9).drewN nq=W1 at *;have a1:=Z0 O hA;have ac:=O.4;by_cases ab:0<fo B [J,x]
   .have HF:J?<|fU B l x=(4*fo B [J,x],10*fo B [J]):=by
     show fU B l x=_;unfold fU;rw[if_neg ak.o,if_pos ⟨by have:=HM.o;omega,by rwa[ae.o]⟩,ae.o,HM.o];show(_,10*fo B [l.getD m []])=_;rw[aj.o]
    go_wp2_with fail;apply (rk b W1.1.size 1 _ B [J] w _ hT U hB (by exact O.alloc ac _) (by exact TW) q? d!).mono;rintro e w' ⟨rfl,aq,rfl⟩;go_wp2;go_ret2;exact⟨FZ (by rw[HF.o];go_num) (by rw[HF.o];go_num),l4 (O.alloc ac _) _⟩
   go_wp2_with fail;go_meet;exact⟨by rw[HM.o],by rw[HM.o];rfl,O,λh=>ab (by rw[<-ae.o];exact h.2)⟩
  go_wp2_with fail;go_meet;exact⟨q?,q?,W,λh=>h1 h.1⟩
 obtain⟨rfl,rfl,Y,ag⟩:=hcut
 have HF:J?<|fU B l x=(16*fo B [x],100*lL B):=by show fU B l x=_;unfold fU;rw[if_neg ak.o,if_neg ag]
 clear ag ak W am;have au:=Y.4;have a2:=Z0 Y hT;obtain⟨vs,av,⟨aT,cT,rfl,a3,hmT,aw⟩,ax⟩:=id U;have ay:=U.below Y;rw[av]at a2 a3;have aC:=me B;have aL:=uE B;have aM:=jI B [x];unfold ls at hmT;have a4:=h! ax;have a5:=h! aw;have a6:=h! U;clear ax aw av U ay;go_wp2_with fail;go_loop [11,12] (λn i=>∃k:Nat,k<=l? B/\i=n? i? k/\n=n? i? (lL (B.take k))) (λ_ i=>l? B-(intOf i).toNat);exact⟨0,ZP _,q?,q?⟩;obtain⟨k,hk,rfl,rfl⟩:=hrel;have a7:=qi B k;have a8:=uE<|B.take k;by_cases an:k<l? B
 .obtain⟨u,hu,at',ct,rfl,a9,hmt,a'⟩:=a4.o k an;obtain⟨bT,oT,rfl,ad⟩:=a5.o k _ hu;have af:=Z0 Y ad;have HU:=h!<|Kq B k an;have aA:=ql B k an;have aB:=qi B<|k+1;have aN:lL (B.take k)+B[k].length<=1099511627776:=o!;clear a' hu aA aB a7 a8;rw[dz]at ad a9 af;unfold ls at hmt;go_wp2;go_round
  .exact⟨k+1,o!,by go_num,by rw[HU.o];go_num⟩
  exact M!
 have ek:k=l? B:=o!;subst ek;rw[If<|Zu _];go_wp2_with fail;apply (rk b wc.1.size 1 _ B [x] w _ hT a6 hB (by exact Y.alloc au _) (by exact TW) q? d!).mono;rintro e w' ⟨rfl,aq,rfl⟩;go_wp2;go_ret2;exact⟨FZ (by rw[HF.o];go_num) (by rw[HF.o];go_num),l4 (Y.alloc au _) _⟩
def dZ(l:List Nat):List v?:=l.map λ(n:Nat)=>Value.int i? (n:Int)
def jK(l:List Bool):List v?:=l.map Value.bool
def Dq(l):(dZ l).length=l? l:=by simp[dZ]
def pn(l)(n:Nat):dZ (l++[n])=dZ l++[Value.int i? n]:=by simp[dZ]
def fJ(l)(j)(h:j<l? l):(dZ l)[j]?=y? (n? i?<|l.getD j 0):=by simp[dZ,AS,h]
def xz(l)(j)(h:j<l? l):(jK l)[j]?=y? (.bool<|l.getD j f?):=by simp[jK,AS,h]
def NS:(prog.info? 3).map (λi=>(i.8,i.3,i.4))=y? (y?<|n? i? 0,1,8):=by kernel_rfl
def XJ:(prog.info? 4).map (λi=>(i.8,i.3,i.4))=y? (y?<|.bool f?,1,1):=by kernel_rfl
def CJ(n):(m9 #[Value.bool f?] n).1=jK (c5 n f?):=by apply jt;simp[m9,jK];simp[m9,jK,Nat.mod_one]
def Jr(x y:Nat)(B:x<=268435456)(J:y<=1677721600):0<=x*(y:Int)/\x*(y:Int)<=4611686018427387904:=by have h:=nL B J;constructor;omega;omega
def JY(x y z t:Nat):(x*y<z*(t:Int))↔x*y<z*t:=by omega
def ZaO:v?->Nat|.slice _ n _=>n|_=>0
def jh{n2}{x2:L?}(Y:R? f l C 1 i x8 I)(h2:R? f p x4 1 x1 n2 x2)(B:C≠x4):O? i=x?\/O? i≠O? x1:=by
 obtain⟨rfl,_⟩|⟨g,cap,cur,rfl,_,J,_⟩:=Y.2
 exact .inl rfl;right;obtain⟨rfl,_⟩|⟨g2,U,V,rfl,_,O,_⟩:=h2.2
 simp[u'];intro W;simp only[u',m?]at W;rw[W,O]at J;simp only[m?,z9]at J;exact B J.2.1.symm
def j7{w}(h:R? w l p 1 i C I)(hb:B? w f):R? f l p 1 i C I:=
 h.kept (row:=x?) ⟨hb.1,hb.2,hb.3,hb.4,λk B _=>hb.5 k B⟩ (by cases i.ownBlock<;>simp)
def eM{c a}(h:R? f l p 1 (.slice a x4 c) C I)(k)(u)(J:I[k]?=y? u):∃b off,a=y? ⟨b,off,x?⟩/\C? f ⟨b,off+k,x?⟩=y? u:=by obtain⟨U,V,B,_,_,O⟩:=Rd.eo h;simp only[y6]at B;rw[B.1];exact O k u J
def mB{c}(h:R? f l p 1 (.slice (y? ⟨x8,0,x?⟩) x4 c) C I)(o):f.frozen? ⟨x8,o,x?⟩=f?:=by
 obtain⟨h,_⟩|⟨g',cap,cur,B,_,J,_⟩:=h.2
 simp at h;obtain⟨⟨rfl,_⟩,_⟩:=B;simp[p4,J]
def rF{c}(h:R? f l p 1 (.slice (y? ⟨x8,0,x?⟩) x4 c) C I)(k)(v)(hk:k<C) :
  R? (f.setCell ⟨x8,k,x?⟩ v) l p 1 (.slice (y? ⟨x8,0,x?⟩) x4 c) C (I.set k v):=by
 obtain⟨B,J⟩:=h;refine⟨u! B,?_⟩;obtain⟨h,_⟩|⟨g',cap,cur,O,hb,U,V,W,Y,h6⟩:=J
 simp at h;obtain⟨⟨rfl,_⟩,rfl,rfl⟩:=O;refine .inr ⟨x8,c,S? cur k v,q?,hb,?_,V,W,u! Y,?_⟩;simp only[pu,Ze,U];simp;rw[Array.toList_setIfInBounds,List.take_set,h6]
def jR(h:R? f l p 1 i C I)(a)(u)(B:O? i≠y? a.1):R? (f.setCell a u) l p 1 i C I:=by
 obtain⟨O,J⟩:=h;refine⟨O,?_⟩;obtain J|⟨g',cap,cur,rfl,hb,V,U⟩:=J
 exact .inl J;refine .inr ⟨g',cap,cur,q?,hb,?_,U⟩;rwa[ZH _ _ _ _<|λp=>B<|by simp[u',p]]
def jn{b t}(hb:b=f.1.size):C? (f.alloc<|c? #[i] t) ⟨b,0,x?⟩=y? i:=by subst hb;exact fF
def tR(h:R? f p C 1 i x4 I)(J:f.1.size<=l)(B:O? i=x?\/O? i≠O? x1)
  (hb:O? x2=O? x1\/O? x2=y? l):O? i=x?\/O? i≠O? x2:=by
 obtain B|B:=B
 exact .inl B;right;obtain hb|hb:=hb
 rwa[hb];rw[hb];intro O;have:=h.lt _ O;omega
def AC(h:O? i=x?\/O? i≠O? x1):O? x1=x?\/O? x1≠O? i:=by
 obtain h|h:=h
 cases B:O? x1 with
 |none=>exact .inl rfl|some k=>rw[h];simp
 exact .inr (λe=>h e.symm)
def Di(b)(s:b?)(most)(w)(h:most<1\/20<most) :
  lw prog 115 #[p?<|y? ⟨b,0,x?⟩,s? s,n? i? most] w λe w'=>e=e? (.tuple #[.slice x? 0 0,n? i? 3])/\w=w':=by
 obtain h|h:=h
 .go_wp2;go_ret2;exact⟨q?,q?⟩
 go_wp2;go_ret2;exact⟨q?,q?⟩
def Ao(b)(s:b?)(most)(w)(J:1<=most)(O:most<=20)(B:s.size<=ls)(U:eh s.1.1=f?) :
  lw prog 115 #[p?<|y? ⟨b,0,x?⟩,s? s,n? i? most] w λe w'=>e=e? (.tuple #[.slice x? 0 0,n? i? 2])/\w=w':=by
 go_enter func115,ntmps115;go_wp2_with fail;apply g!<|gY s _ B;go_wp2;go_ret2;exact⟨q?,q?⟩
def DC(b)(vT)(B:List<|W?)(s:b?)(most:Nat)(w)(h0:1<=most)(h1:most<=20)(hq:eh s.1.1=t?)
  (hT:C? w ⟨b,2,x?⟩=y? vT) (be:s7 w vT B) (hB:eK B<=16777216) :
  lw prog 115 #[p?<|y? ⟨b,0,x?⟩,s? s,n? i? most] w λe w'=>∃v,e=e? (.tuple #[v,n? i? 0])/\
   R? w' w.1.size 9 1 v (gN B (eR<|dP s.1.1) most).length (du<|gN B (eR<|dP s.1.1) most)/\B? w w':=by
 have hs:s.size<=24:=by
  have:l? s.1.1<=24:=by simp only[eh,IT,decide_eq_true_eq]at hq;exact hq.1
  simpa using this
 let ⟨i0,hi,bH,bI,bJ⟩:=Zz rH;let ⟨i3,bf,bg,bh,bi⟩:=Zz NS;let ⟨i4,bK,bL,bM,hx2⟩:=Zz XJ;have hb:=xX hT;simp only at hb;have HT:=h! hT;clear hT;go_enter func115,ntmps115;go_wp2_with fail;apply g!<|gY s _ (by unfold ls;omega);rw[hq];have HQ:=h! hq;clear hq;go_wp2_with fail;apply (E0 s _ o!).mono;rintro e w1 ⟨v9,rfl,hl,aE⟩;have aJ:=aE.4
 have c9:(eR<|dP s.1.1).length<=24:=by have:=pQ (dP s.1.1) (dP s.1.1).length;rw[eB]at this;unfold eR;rw[eB];have e:l? s.1.1=s.size:=i!;omega
 generalize bl:eR (dP s.1.1)=l at *;have bm:=h! bl;clear bl;go_wp2_with fail;apply (EQ b vT B w1 o! (Z0 aE HT) (be.below aE) o!).mono;rintro e w2 ⟨v10,rfl,hk,ac⟩;have cr:=ac.4
 have c':(eP B).length<=eK B:=by have:=sI B _<|Zu _;rwa[o?]at this
 have aK:=aE.trans<|ac.mono aJ;have bn:=hl.kept (row:=x?) ⟨ac.1,ac.2,ac.3,ac.4,λk hk _=>ac.5 k hk⟩ (by cases v9.ownBlock<;>simp);have aL:=eH hk aJ;clear hl hk;generalize bo:eP B=ws at *;have bp:=h! bo;clear bo;obtain⟨al,am,rfl,ct⟩:=dC aL;go_wp2_with fail
 go_loopw [11,12,13] (λva vb i wr=>∃k:Nat,k<=l? ws/\i=n? i? k/\R? wr w.1.size 3 1 va k (dZ (kV B l ws k))/\R? wr w.1.size 3 1 vb k (dZ<|kT B l ws k)/\
   (O? va=x?\/O? va≠O? vb)/\
   R? wr w.1.size 9 1 v9 l.length (du l)/\R? wr w.1.size 9 1 (.slice al ws.length am) ws.length (du ws)/\B? w wr) (λ_ _ i _=>l? ws-(intOf i).toNat)
 exact⟨0,ZP _,q?,Z9 _ _ _ _,Z9 _ _ _ _,.inl q?,bn,aL,aK⟩;obtain⟨k,hk,rfl,hA,aF,Y,aG,a1,an⟩:=hrel;have hz3:=an.4;by_cases ap:k<l? ws
 .obtain⟨bw,ow,rfl,bN⟩:=eM a1 k _<|fI ws k ap
  have bO:J?<|dZ (kV B l ws<|k+1)=dZ (kV B l ws k)++[n? i? (fU B l ws[k]).1]:=by show _=_;rw[Gc _ _ _ _ ap,pn]
  have bP:J?<|dZ (kT B l ws<|k+1)=dZ (kT B l ws k)++[n? i? (fU B l ws[k]).2]:=by show _=_;rw[Gq _ _ _ _ ap,pn]
  have cC:=yz B l ws[k];go_wp2_with fail;apply (QR b vT v9 B l ws[k] wr (Z0 an HT) (be.below an) (Rd.eo aG) o! o!).mono;rintro e w4 ⟨rfl,aq⟩;have cD:=aq.4;have a2:=j7 hA aq;have aM:=j7 aF aq;have aN:=j7 aG aq;have aO:=j7 a1 aq;have bq:=an.trans<|aq.mono hz3;generalize (fU B l ws[k]).1=p1 at *;generalize (fU B l ws[k]).2=p2 at *;clear hA aF aG a1 bN;go_wp2_with (at_builtin;go_must (refine dU _ q? _ _ 26 q? _ 3 i3 _ 8 sb bf bg bh bi q? _ _ _ q? (a2.alloc _) _ [n? i? p1] q? ?c0 ?c00 ?c1 ?c2 ?c3 ?_))
  case c0=>exact Rd.one fF
  case c00=>intro u hu;simp at hu;subst hu;rfl
  case c1=>simp;omega
  case c2=>simp[ls];omega
  case c3=>simp;omega
  intro cE w5 ar O a3;have aa:=(aM.alloc _).kept O<|AC Y;have aP:=(aN.alloc _).kept O<|jh aN a2 d!;have a4:=(aO.alloc _).kept O<|jh aO a2 d!;have a5:=tR aM o! (AC Y) a3;have a6:=(bq.alloc o! _).grown O j!<|λb hb=>(a2.lt b hb).1;have cF:=a6.4;clear a2 aM aN aO O a3 Y;go_wp2_with (at_builtin;go_must (refine dU _ q? _ _ 26 q? _ 3 i3 _ 8 sb bf bg bh bi q? _ _ _ q? (aa.alloc _) _ [n? i? p2] q? ?d0 ?d00 ?d1 ?d2 ?d3 ?_))
  case d0=>exact Rd.one fF
  case d00=>intro u hu;simp at hu;subst hu;rfl
  case d1=>simp;omega
  case d2=>simp[ls];omega
  case d3=>simp;omega
  intro cG w6 au a7 a8;have aw:=(ar.alloc _).kept a7<|AC a5;have bQ:=(aP.alloc _).kept a7<|jh aP aa d!;have aH:=(a4.alloc _).kept a7<|jh a4 aa d!;have br:=tR ar o! (AC a5) a8;have ad:=(a6.alloc o! _).grown a7 j!<|λb hb=>(aa.lt b hb).1;clear ar aa aP a4 a7 a8 a5;go_wp2;go_roundw
  .have aQ:=aw;rw[<-bO.o]at aQ;have aR:=au;rw[<-bP.o]at aR;exact⟨k+1,o!,by go_num,aQ,aR,br,bQ,aH,ad⟩
  exact M!
 have ek:k=l? ws:=o!;subst ek;have cH:=Ia B l ws;have cu:=JZ B l ws
 have bs:J? (∀j,j<l? ws->(kV B l ws _).getD j 0=((ws.map _).getD j (0,0)).1/\(kV B l ws ws.length).getD j 0<=268435456):=λj hj=>by have:=IB B l ws j hj;exact⟨this.1,o!⟩
 have bu:J? (∀j,j<l? ws->(kT B l ws _).getD j 0=((ws.map _).getD j (0,0)).2/\(kT B l ws ws.length).getD j 0<=1677721600):=λj hj=>by have:=J9 B l ws j hj;exact⟨this.1,o!⟩
 generalize kV B l ws ws.length=A at *;generalize kT B l ws ws.length=Bv at *;have bR:J?<|abL B l=ws.map (fU B l):=by show abL B l=_;unfold abL;rw[bp.o]
 have bv:(ws.map<|fU B l).length=l? ws:=i!;have ag:=h! bv;generalize ws.map (fU B l)=J at *;clear bv;go_wp2_with (at_make;go_must (refine wpList_make_full _ q? _ _ 209 q? w.1.size 4 i4 _ 1 underlying209 bK bL bM _ _ _ _ _ q? q? q? q? ?m1 ?m2 ?m3 ?_))
 case m1=>rw[hx2];omega
 case m2=>unfold ls;omega
 case m3=>exact hz3
 intro w5 bS O;have ar:=hA.kept O (by cases u11.ownBlock<;>simp);have aa:=aF.kept O (by cases u12.ownBlock<;>simp);have a4:=a1.kept O (by cases(Value.slice al ws.length am).ownBlock<;>simp);have a6:=an.grown O hz3 i!
 have b0:R? w5 w.1.size 4 1 (.slice (y? ⟨wr.1.size,0,x?⟩) ws.length ws.length) ws.length<|jK<|oV J ws.length 0:=by have e:(m9 _ ws.length).1=jK (oV J _ 0):=CJ _;rwa[<-e]
 have bT:=a6;generalize wr.1.size=g at *;clear hA aF Y aG a1 an hz3 bS O bn aL aK bT;obtain⟨aA,cA,rfl,cI⟩:=dC ar;obtain⟨aB,cB,rfl,cJ⟩:=dC aa;go_wp2_with fail
 go_loopw [17] (λvo wr=>∃r:Nat,r<=most/\r<=l? ws/\R? wr w.1.size 9 1 vo r (du (uh J ws r))/\
   R? wr w.1.size 4 1 (.slice (y? ⟨g,0,x?⟩) ws.length ws.length) ws.length (jK<|oV J ws.length r)/\(oV J ws.length r).count t?=r/\
   R? wr w.1.size 3 1 (.slice aA ws.length cA) ws.length (dZ A)/\R? wr w.1.size 3 1 (.slice aB ws.length cB) ws.length (dZ Bv)/\R? wr w.1.size 9 1 (.slice al ws.length am) ws.length (du ws)/\
   (O? (Value.slice al ws.length am)=x?\/O? (Value.slice al ws.length am)≠O? vo)/\B? w wr) (λvo _=>most-ZaO vo)
 exact⟨0,ZP _,ZP _,Z9 _ _ _ _,b0,by simp[oV,mJ,List.count_replicate],ar,aa,a4,by cases(Value.slice al ws.length am).ownBlock<;>simp[u'],a6⟩;obtain⟨r,aQ,aR,ho,ht,b1,aw,au,aH,Y,ad⟩:=hrel;have bU:=ad.4;obtain⟨ao,co,rfl,cK⟩:=dC ho;by_cases b2:r<most/\r<l? ws
 .obtain⟨cL,cM⟩:=b2;have cN:=Q0 J ws.length r;have bV:J? (∀b,fP J _ J.length=y? b->uh J ws _=uh J ws r++[ws.getD b []]):=Me J ws r;have bW:J? (∀b,fP J _ J.length=y? b->oV J _ _=(oV J ws.length r).set b t?):=Mq J _ r;generalize oV J ws.length r=T at *;go_wp2_with fail;go_loopw [18,19] (λvb i wx=>∃k m:Nat,k<=l? ws/\i=n? i? k/\vb=n? i? (AD (fP J T k))/\wx=wr.drewN m) (λ_ i _=>l? ws-(intOf i).toNat);exact⟨0,0,ZP _,q?,q?,q?⟩;obtain⟨k,m,hk,rfl,rfl,rfl⟩:=hrel;by_cases ap:k<l? ws
  .obtain⟨bt,ot,a9,a'⟩:=eM ht k _<|xz T k o!;simp only[m?,O!]at a9;obtain⟨rfl,rfl,_⟩:=a9;rw[ZD]at a'
   cases U:T.getD k f? with
   |true=>
    rw[U]at a';have ae:=h!<|zW J T k U;clear U;generalize fP J T k=bb at *;go_wp2_with fail;go_quiet (fail);go_wp2;go_roundw
    .exact⟨k+1,_,o!,by go_num,by rw[ae.o],q?⟩
    exact M!
   |false=>
    rw[U]at a'
    cases af:fP J T k with
    |none=>
     have ae:=h!<|xO J T k U af;clear U af;rw[show AD x? = -1 from rfl];go_wp2_with fail;go_quiet (fail);go_wp2;go_roundw
     .exact⟨k+1,_,o!,by go_num,by rw[ae.o];rfl,q?⟩
     exact M!
    |some j=>
     have cO:=(uY J T k j af).1;have b3:j<l? ws:=o!;have ga:=bs.o k ap;have gb:=bu.o k ap;have aS:=bs.o j b3;have aT:=bu.o j b3;obtain⟨bA,oA,rfl,cw⟩:=eM aw k _<|fJ A k o!;let ⟨cP,cQ,b4,cy⟩:=eM aw j _<|fJ A j o!;simp only[m?,O!]at b4;obtain⟨rfl,rfl,_⟩:=b4;obtain⟨bB,oB,rfl,cz⟩:=eM au k _<|fJ Bv k o!;let ⟨cR,cS,b5,c6⟩:=eM au j _<|fJ Bv j o!;simp only[m?,O!]at b5;obtain⟨rfl,rfl,_⟩:=b5
     have b6:J?<|sD J k j=decide (A.getD j 0*Bv.getD k 0<A.getD k 0*Bv.getD j 0):=by show sD J k j=_;unfold sD;rw[aS.1,gb.1,ga.1,aT.1]
     have bX:=ga.2;have bY:=gb.2;have b7:=aS.2;have b8:=aT.2;clear ga gb aS aT;generalize A.getD k 0=ak at *;generalize A.getD j 0=aj at *;generalize Bv.getD k 0=bk at *;generalize Bv.getD j 0=bj at *;have cT:=Jr ak bj bX b8;have cU:=Jr aj bk b7 bY;have cV:IntKind.i64.wrap _=ak*bj:=A' _ o!;have cW:IntKind.i64.wrap _=aj*bk:=A' _ o!;have cX:z1 _=ak*bj:=Bb _ o!;have cY:z1 _=aj*bk:=Bb _ o!;have c7:decide ((j:Int)<0)=f?:=i!;have cZ:(j:Int)<(l? ws:Int):=o!;have ah:=JY aj bk ak bj;rw[show AD _=j from rfl];by_cases ax:aj*bk<ak*bj
     .have ae:=h!<|vr J T k j U af (by rw[b6.o];simpa using ax);have hI:=ah.2 ax;clear ah U af ax;go_wp2_with fail;go_quiet (fail);go_wp2;go_roundw
      .exact⟨k+1,_,o!,by go_num,by rw[ae.o];rfl,q?⟩
      exact M!
     have ae:=h!<|wQ J T k j U af (by rw[b6.o];simpa using ax);have hI:¬aj*bk<ak*(bj:Int):=λh=>ax<|ah.1 h;have da:decide ((aj:Int)*(bk:Int)<(ak:Int)*(bj:Int))=f?:=by simpa using hI
     clear ah U af ax;go_wp2_with fail;go_quiet (fail);go_wp2;go_roundw
     .exact⟨k+1,_,o!,by go_num,by rw[ae.o];rfl,q?⟩
     exact M!
  have ek:k=l? ws:=o!;subst ek;let ⟨bb,ay⟩:=Rj J T (by rwa[ag.o]) (by rw[ag.o];omega);have ai:=uY J T J.length bb ay;have b9:bb<l? ws:=by rw[ag.o]at ai;exact ai.1
  have b':=bV.o bb ay;have bC:=bW.o bb ay
  have bZ:J?<|(T.set bb t?).count t?=r+1:=by show _=_;rw[count_set T bb o! ai.2,b1]
  rw[ag.o]at ay;rw[ay];have cb:=h! b';have bD:=h! bC;clear b' bC ay ai;have V:R? (wr.drewN m) _ 4 1 _ _ _:=ht;have aU:R? (wr.drewN m) _ 9 1 _ r _:=ho;have aV:R? (wr.drewN m) _ 3 1 _ _ _:=aw;have aW:R? (wr.drewN m) _ 3 1 _ _ _:=au;have aX:R? (wr.drewN m) _ 9 1 _ _ _:=aH;have bE:=l4 ad m;generalize wr.drewN m=W at *;clear ht ho aw au aH ad bU;let ⟨bt,ot,a9,a'⟩:=eM V bb _<|xz T bb o!;simp only[m?,O!]at a9;obtain⟨rfl,rfl,_⟩:=a9;rw[ZD]at a';rw[show AD _=bb from rfl];have db:=mB V bb;have aY:=rF V bb (.bool t?) b9;have az:=jR aU ⟨g,bb,x?⟩ (.bool t?) (by obtain h|h:=jh aU V d!;rw[h];simp;exact h);have aI:=jR aX ⟨g,bb,x?⟩ (.bool t?) (by obtain h|h:=jh aX V d!;rw[h];simp;exact h);have aZ:=jR aV ⟨g,bb,x?⟩ (.bool t?) (by obtain h|h:=jh aV V d!;rw[h];simp;exact h);have ba:=jR aW ⟨g,bb,x?⟩ (.bool t?) (by obtain h|h:=jh aW V d!;rw[h];simp;exact h);have bc:Below _ w<|W.setCell ⟨g,bb,x?⟩<|.bool t?:=bE.setCell (V.lt g q?).1 _;obtain⟨bw,ow,rfl,c8⟩:=eM aI bb _<|mW ws bb b9;have bd:=bc.4;generalize ws.getD bb []=xb at *;clear V aU aV aW aX bE;go_wp2_with (at_builtin;go_must (refine dU _ q? _ _ 31 q? _ 9 i0 _ 16 q7 hi bH bI bJ q? _ _ _ q? (az.alloc _) _ [s? ⟨a? xb⟩] q? ?g0 ?g00 ?g1 ?g2 ?g3 ?_))
  case g0=>go_light;exact Rd.one<|jn i!
  case g00=>intro u hu;simp at hu;subst hu;rfl
  case g1=>simp;omega
  case g2=>simp[ls];omega
  case g3=>go_light;simp;simp at bd;omega
  intro cd w8 ce a0 aC;have cf:=(aY.alloc _).kept a0<|jh aY az d!;have cg:=(aZ.alloc _).kept a0<|jh aZ az d!;have ci:=(ba.alloc _).kept a0<|jh ba az d!;have cj:=(aI.alloc _).kept a0 Y;have bF:=tR aI i! Y aC;have ck:=(bc.alloc bd _).grown a0 (by simp;simp at bd;omega)<|λb hb=>(az.lt b hb).1;have bG:R? w8 w.1.size 9 1 cd (r+1)<|du<|uh J ws<|r+1:=by rwa[cb.o,iN]
  have cn:R? w8 w.1.size 4 1 (.slice (y? ⟨g,0,x?⟩) ws.length ws.length) ws.length<|jK<|oV J ws.length<|r+1:=by
   rw[bD.o];have e:jK (T.set bb t?)=(jK T).set bb (.bool t?):=by simp[jK,List.map_set]
   rwa[e]
  have aD:(oV J ws.length<|r+1).count t?=r+1:=by rw[bD.o];exact bZ
  have cq:=h! aD;clear aY az aZ ba aI bc a0 aC ce cf aD Y;obtain⟨av,cv,rfl,dc⟩:=dC bG;go_wp2;go_roundw;exact⟨r+1,o!,o!,bG,cn,cq,cg,ci,cj,bF,ck⟩;simp[ZaO];omega
 have HF:J?<|gN B l most=uh J ws r:=by show gN B l most=_;unfold gN uh;rw[bR.o,bp.o,(o!:min most _=r)]
 by_cases hm:r<most
 .have hn:¬r<l? ws:=λh=>b2 ⟨hm,h⟩;go_wp2;go_ret2;refine⟨_,q?,?_,ad⟩;rw[bm.o,HF.o];have e:(uh J ws r).length=r:=by have:=ho.1;rw[dz]at this;omega
  rwa[e]
 go_wp2;go_ret2;refine⟨_,q?,?_,ad⟩;rw[bm.o,HF.o];have e:(uh J ws r).length=r:=by have:=ho.1;rw[dz]at this;omega
 rwa[e]
structure dy(F:F?)(w w':w?):Prop where
 os:w'.4=w.4
 tape:w'.2=w.2
 output:w'.5=w.5
 size:w.1.size<=w'.1.size
 block:∀k,k<w.1.size->¬F k->w'.1[k]?=w.1[k]?
def iJ(F:F?)(w w':w?):Nat->Prop:=λk=>F k\/(w.1.size<=k/\k<w'.1.size)
def dy.refl(F:F?)(w):dy F w w:=⟨q?,q?,q?,Zu _,λ_ _ _=>rfl⟩
def dy.eF{F:F?}(h:B? f x0):dy F f x0:=⟨h.1,h.2,h.3,h.4,λk B _=>h.5 k B⟩
def dy.trans{a b c}(h:dy U a b)(k:dy y2 b c)(J:∀i,i<a.1.size->y2 i->U i):dy U a c:=
 ⟨k.1.trans h.1,k.2.trans h.2,k.3.trans h.3,Nat.le_trans h.4 k.4,λi B hF=>by rw[k.5 i (AT B h.4)<|λO=>hF<|J i B O,h.5 i B hF]⟩
def dy.mono(h:dy U f x0)(hF:∀k,U k->y2 k):dy y2 f x0:=⟨h.1,h.2,h.3,h.4,λk B J=>h.5 k B<|λO=>J<|hF k O⟩
def dH{w}(h:R? w l p 1 i C I)(hb:∀k,O? i=y? k->f.1[k]?=w.1[k]?):R? f l p 1 i C I:=by
 obtain⟨O,B⟩:=h;refine⟨O,?_⟩;obtain B|⟨g,cap,cur,rfl,J,U,r⟩:=B
 exact .inl B;exact .inr ⟨g,cap,cur,q?,J,by rwa[hb g rfl],r⟩
def nM(w:w?)(F:F?)(J:v?)(B:List<|W?):Prop:=
 ∃vs:L?,l? vs=l? B/\R? w 0 31 1 J B.length vs/\(∀k,O? J=y? k->F k)/\
  ∀i(h:i<l? B),∃u,vs[i]?=y? u/\R? w 0 9 1 u B[i].length (du B[i])/\(∀k,O? u=y? k->F k)
def nM.reads(h:nM f U x1 J):s7 f x1 J:=by obtain⟨vs,B,O,_,V⟩:=h;refine⟨vs,B,Rd.eo O,λi W=>?_⟩;obtain⟨u,Y,ho,_⟩:=V i W;exact⟨u,Y,Rd.eo ho⟩
def nM.stay{w':w?}(h:nM f U x1 J)(hb:∀k,U k->w'.1[k]?=f.1[k]?)(O:∀k,U k->y2 k):nM w' y2 x1 J:=by obtain⟨vs,Y,h2,V,h4⟩:=h;refine⟨vs,Y,dH h2<|λk B=>hb k<|V k B,λk B=>O k<|V k B,λi hi=>?_⟩;obtain⟨u,hu,ho,W⟩:=h4 i hi;exact⟨u,hu,dH ho<|λk B=>hb k<|W k B,λk B=>O k<|W k B⟩
def An(w:w?)(F:F?)(b:Nat)(J O:v?)(U:List<|W?):Prop:=
 ∃B,w.1[b]?=y? (c? #[J,O,B] 120 (0,0))/\F b/\nM w F B U
def dx{w b t fz}(h:w.1[b]?=y? (c? x5 t fz))(o):C? w ⟨b,o,x?⟩=x5[o]?:=by simp[p6,h]
def dO{b t}(h:f.1[b]?=y? (c? x5 t (0,0)))(o):f.frozen? ⟨b,o,x?⟩=f?:=by simp[p4,h]
def heap_set{w:w?}{b t fz}(h:w.1[b]?=y? (c? x5 t fz))(o)(v):(w.setCell ⟨b,o,x?⟩ v).1[b]?=y? (c? (S? x5 o v) t fz):=by simp[pu,Ze,h]
def fD{b t fz}(h:f.1[b]?=y? (c? x5 t fz))(U:R? f l p 1 i C I)(B:t≠p):O? i≠y? b:=by
 obtain⟨rfl,_⟩|⟨g,cap,cur,rfl,_,J,_⟩:=U.2
 simp[u'];intro O;simp only[u',m?]at O;rw[O,h]at J;simp only[m?,z9]at J;exact B J.2.1
def yK{P ops}{o:Oper}{a:Act}{K:Act->w?->Prop}{Q E}
  (W:o.6=x?) (s x) (t) (ho:o.2=.call {callee:=.builtin .append,args:=#[s,x],argTypes:=#[t,t]})
  (base) (e) (i) (z) (bytes) (ht:P.underlying t=y? (.slice e)) (hi:P.info? e=y? i) (hz:i.8=y? z)
  (J:i.3=1) (Y:i.4=bytes) (aa:z.cells.size=1)
  (v) (n) (xs:L?) (hs:a.eval s=v) (V:R? f base e 1 v n xs)
  (y) (news:L?) (hx:a.eval x=y) (hy:Rd f y news) (h1:∀u∈news,u.oneCell'=t?)
  (B:(n+l? news)*bytes<=140737488355328) (ab:n+l? news<=ls) (O:base<=f.1.size)
  (h:∀U w',R? w' base e 1 U (n+l? news) (xs++news)->f.grownBy w' (O? v)->(O? U=O? v\/O? U=y? f.1.size)->K (a.put o.1 U) w') :
  if z7 o (ne ops a.1)=t? then z3 P o a f K Q else E:=by
 rw[if_pos<|by simp[z7,W]];obtain⟨U,w',hr,h2,h3,h4⟩:=mc f base t o.3 e i z bytes ht hi hz J Y aa v n xs V y news hy h1 B ab O;unfold z3 mi;simp only[ho,m5,invoke,builtin,wo,wn,ut,fd,ZK,ZU,hs,hx,hr];exact h U w' h2 h3 h4
def Tj:(prog.info? 31).map (λi=>(i.8,i.3,i.4))=y? (y?<|.slice x? 0 0,1,24):=by kernel_rfl
def ml(B:List<|W?)(s:List UInt8):Nat×List (W?):=
 if eh s=t?/\s≠[]then
  if 60<(eP<|B++[eR<|dP s]).length then(4,B)else(0,B++[eR<|dP s])
 else(2,B)
def C4(b)(s:b?)(w)(O:s.size<=ls)(h:¬(eh s.1.1=t?/\s.1.1≠[])) :
  lw prog 114 #[p?<|y? ⟨b,0,x?⟩,s? s] w λe w'=>e=e? (n? i? 2)/\w=w':=by
 by_cases U:eh s.1.1=t?
 .have B:s.1.1=[]:=by
   by_cases B:s.1.1=[];exact B;exact absurd ⟨U,B⟩ h
  have J:s=⟨#[]⟩:=by apply z4;apply s5.1;exact B
  subst J;go_enter sl,r6;go_wp2_with fail;apply (gY _ _ O).mono;go_wp2;go_ret;exact⟨q?,q?⟩
 go_enter sl,r6;go_wp2_with fail;apply g!<|gY _ _ O;go_wp2;go_ret;exact⟨q?,q?⟩
def Q5(h:R? f l p 1 i C I):∀u∈[i],u.oneCell'=t?:=by obtain⟨a,cap,rfl,_⟩:=dC h;intro u B;simp at B;subst B;rfl
def Yz{b o}(hb:B? f x0)(U:f.frozen? ⟨b,2,x?⟩=f?)(hT:C? f ⟨b,2,x?⟩=y? i)(B:b<f.1.size)(J:O? i≠y? b)
  (w2) (V:(x0.alloc o).grownBy w2<|O? i):w2.frozen? ⟨b,2,x?⟩=f?/\C? w2 ⟨b,2,x?⟩=y? i:=by
 have W:=hb.4
 have O:w2.1[b]?=f.1[b]?:=by rw[V.5 b j!<|λe=>J e.symm,e! _ _ _ o!,hb.5 b B]
 exact⟨by rwa[World.frozen?_of_block O],by rwa[px O]⟩
def TD{b v9 o}(hF:∀k,U k->k<f.1.size)
  (ae:f.1[b]?=y? (c? #[x1,x2,x7] 120 (0,0))) (aa:U b) (af:l? I=l? J) (hO:R? f 0 31 1 x7 J.length I) (ag:∀k,O? x7=y? k->U k)
  (al:∀i(h:i<l? J),∃u,I[i]?=y? u/\R? f 0 9 1 u J[i].length (du J[i])/\(∀k,O? u=y? k->U k))
  (W:Below f.drew.1.size f.drew x0) (ab:R? x0 f.drew.1.size 9 1 v9 x3.length<|du x3) (ac:R? x6 0 31 1 x9 (l? J+1)<|I++[v9])
  (V:(x0.alloc o).grownBy x6<|O? x7) (ah:O? x9=O? x7\/O? x9=y? l) (hN:l=x0.1.size+1) :
  An (x6.setCell ⟨b,2,x?⟩ x9) (iJ U f<|x6.setCell ⟨b,2,x?⟩ x9) b x1 x2 (J++[x3])/\dy U f (x6.setCell ⟨b,2,x?⟩ x9):=by
 have ap:f.1.size<=x0.1.size:=W.4;have aq:x0.1.size+1<=x6.1.size:=by have:=V.4;simpa using this
 have ar:(x6.setCell ⟨b,2,x?⟩ x9).1.size=x6.1.size:=by simp[pu]
 have am:=hF b aa
 have hold:∀k,k<f.1.size->y? k≠O? x7->x6.1[k]?=f.1[k]?:=λk B an=>by rw[V.5 k j! an,e! _ _ _ o!,W.5 k B];rfl
 have ai:∀k,f.1.size<=k->k<x0.1.size->x6.1[k]?=x0.1[k]?:=λk B Y=>by rw[V.5 k j! (λe=>by have:=hO.lt k e.symm;omega),e! _ _ _ o!]
 have aj:x6.1[b]?=y? (c? #[x1,x2,x7] 120 (0,0)):=by rwa[hold b am<|λe=>(fD ae hO d!) e.symm]
 have O:∀k,k≠b->(x6.setCell ⟨b,2,x?⟩ x9).1[k]?=x6.1[k]?:=λk B=>ZH _ _ _ _ B;refine⟨⟨x9,?_,.inl aa,I++[v9],by simp[af],?_,?_,?_⟩,?_⟩;rw[heap_set aj];rfl;have:(J++[x3]).length=l? J+1:=i!;rw[this];refine dH ac<|λk B=>O k ?_;intro e;subst e;exact fD aj ac d! B;intro k B;obtain h|h:=ah
 exact .inl (ag k<|by rwa[<-h]);rw[h]at B;simp only[m?]at B;have:=ac.lt k (by rw[h,B]);exact .inr ⟨o!,o!⟩;intro i hi;by_cases ak:i<l? J;obtain⟨u,hu,ho,hf⟩:=al i ak;refine⟨u,?_,?_,λk B=>Or.inl<|hf k B⟩;rwa[Zt o!];rw[Zx ak];refine dH ho<|λk B=>?_;rw[O k (λe=>by subst e;exact fD ae ho d! B)];refine hold k (v!<|ho.lt k B)<|λe=>?_;obtain h|h:=jh ho hO d!
 rw[h]at B;simp at B;exact h (by rw[B,e]);have ao:i=l? J:=by simp at hi;omega
 subst ao;refine⟨v9,?_,?_,λk B=>?_⟩;rw[K? o!,af];simp;have e:(J++[x3])[l? J]=x3:=i!;rw[e];refine dH (eH ab<|ZP _)<|λk B=>?_;have Y:=ab.lt k B;have ad:f.1.size<=k:=Y.1;rw[O k o!,ai k ad Y.2];have Y:=ab.lt k B;have ad:=Y.1;exact .inr ⟨ad,o!⟩;refine⟨V.1.trans W.1,V.2.trans W.2,V.3.trans W.3,o!,λk B hn=>?_⟩;rw[O k (λe=>by subst e;exact hn aa)];exact hold k B<|λe=>hn<|ag k e.symm
def O6{a c}(h:O? (Value.slice a l c)=y? C):O? (Value.slice a p c)=y? C:=by
 cases a with
 |none=>simp[u']at h|some B=>exact h
def UN{b a2}(hF:∀k,U k->k<f.1.size)(ab:U b)(hz:f.1.size<=x0.1.size)
  (O:dy U f x6) (W:B? x0 x6) (aa:x6.1[b]?=y? (c? #[x1,x2,.slice a2 (l? J+1) l] 120 (0,0))) (am:l? I=l? J+1)
  (hO:R? x0 0 31 1 (.slice a2 (l? J+1) l) (l? J+1) I) (ad:∀k,O? (Value.slice a2 (l? J+1) l)=y? k->iJ U f x0 k)
  (ae:∀i(h:i<(J++[x3]).length),∃u,I[i]?=y? u/\R? x0 0 9 1 u (J++[x3])[i].length (du (J++[x3])[i])/\(∀k,O? u=y? k->iJ U f x0 k)) :
  An (x6.setCell ⟨b,2,x?⟩<|.slice a2 J.length l).drew (iJ U f (x6.setCell ⟨b,2,x?⟩<|.slice a2 J.length l).drew) b x1 x2 J/\dy U f (x6.setCell ⟨b,2,x?⟩<|.slice a2 J.length l).drew:=by
 have af:(x6.setCell ⟨b,2,x?⟩<|.slice a2 J.length l).1.size=x6.1.size:=by simp[pu]
 have an:=W.4;have V:∀k,k≠b->(x6.setCell ⟨b,2,x?⟩<|.slice a2 J.length l).1[k]?=x6.1[k]?:=λk B=>ZH _ _ _ _ B
 have ag:∀k,iJ U f x0 k->k<x0.1.size:=λk B=>by
  obtain B|B:=B
  have:=hF k B;omega;exact B.2
 have Y:∀k,iJ U f x0 k->iJ U f (x6.setCell ⟨b,2,x?⟩<|.slice a2 J.length l).drew k:=λk B=>by
  obtain B|B:=B
  exact .inl B;exact .inr ⟨B.1,by show k<(x6.setCell _ _).1.size;omega⟩
 have ac:=j7 hO W;refine⟨⟨.slice a2 J.length l,?_,.inl ab,I.take J.length,j!,?_,?_,?_⟩,?_⟩;show(x6.setCell _ _).1[b]?=_;rw[heap_set aa];rfl;refine dH (w:=x6) ?_<|λk B=>?_;obtain⟨h1,h2⟩:=ac;refine⟨j!,?_⟩;obtain⟨h2,_⟩|⟨g,cap,cur,he,ah,ai,ao,aj,ak,al⟩:=h2
 simp at h2;obtain⟨rfl,_,rfl⟩:=he;refine .inr ⟨g,l,cur,q?,ah,ai,o!,aj,ak,?_⟩;rw[<-al,ln];congr 1;omega;refine V k<|λe=>?_;subst e;exact fD aa ac d!<|O6 B;intro k B;exact Y k<|ad k<|O6 B;intro i hi;obtain⟨u,hu,ho,hf⟩:=ae i j!;rw[Zx hi]at ho;refine⟨u,?_,dH ho<|λk B=>?_,λk B=>Y k<|hf k B⟩;rwa[Zi,if_pos hi];show(x6.setCell _ _).1[k]?=_;rw[V k<|λe=>?_,W.5 k<|ag k<|hf k B];subst e;exact fD aa (j7 ho W) d! B;refine⟨O.1,O.2,O.3,?_,λk B hn=>?_⟩;show f.1.size<=(x6.setCell _ _).1.size;rw[af];exact O.4;show(x6.setCell _ _).1[k]?=_;rw[V k (λe=>by subst e;exact hn ab)];exact O.5 k B hn
def DE(F:F?)(b)(vB vS)(B:List<|W?)(s:b?)(w:w?)(hF:∀k,F k->k<w.1.size)(hR:An w F b vB vS B)
  (hq:eh s.1.1=t?) (ai:s.1.1≠[]) (hB:eK B+100<=1099511627776) :
  lw prog 114 #[p?<|y? ⟨b,0,x?⟩,s? s] w λe w'=>e=e? (n? i? (ml B s.1.1).1)/\
   An w' (iJ F w w') b vB vS (ml B s.1.1).2/\dy F w w':=by
 have hs:s.size<=24:=by
  have:l? s.1.1<=24:=by simp only[eh,IT,decide_eq_true_eq]at hq;exact hq.1
  simpa using this
 obtain⟨vT,W,aj,vs,aq,hO,ar,au⟩:=hR;let ⟨i8,a5,a6,a7,a8⟩:=Zz Tj;have hT:=dx W 2;have av:=dO W 2;have aw:=fD W hO d!
 have aG:s.toList.isEmpty=f?:=by
  rw[X!]
  cases h:s.1.1 with
  |nil=>exact absurd h ai|cons a l=>rfl
 have a':b<w.1.size:=xX hT;have aH:=me B;have ax:=h! W;clear W;go_enter sl,r6;go_wp2_with fail;apply g!<|gY _ _ (by unfold ls;omega);rw[hq];have HQ:=h! hq;have aA:=h! ai;clear hq ai
 have aP:(eR<|dP s.1.1).length<=24:=by have:=pQ (dP s.1.1) (dP s.1.1).length;rw[eB]at this;unfold eR;rw[eB];have e:l? s.1.1=s.size:=i!;omega
 go_upto_region 4 with fail;go_cut []from 6 to 42 (λwx=>An wx (iJ F w wx) b vB vS (B++[eR (dP s.1.1)])/\dy F w wx)
 .go_region_law (first
   |(refine yK q? _ _ 72 q? 0 31 i8 (.slice x? 0 0) 24 rv a5 a6 a7 a8 q? _ _ _ q? (aB.alloc _) _ [.slice a9 (eR<|dP s.1.1).length c9] q? (Rd.one fF) ay j! (by simp[ls];omega) (ZP _) ?_
     intro aQ w2 J ak al;obtain⟨aR,aS,rfl,aI⟩:=dC J;have aJ:=(ae w2 ak).1
     have aK:=(ae w2 ak).2)
   |(go_simp
     go_at_call 155;apply (E0 s _ o!).mono;rintro e w1 ⟨v9,rfl,am,ad⟩;obtain⟨a9,c9,rfl,aT⟩:=dC am;have aB:=j7 (w:=w.drew) hO ad;have aC:C? w1 _=y? vT:=Z0 ad hT;have aL:C? (w1.alloc<|c? #[.slice a9 (eR<|dP s.1.1).length c9] 31) ⟨b,2,x?⟩=y? vT:=by rwa[p5 _ _ _<|xX aC]
     have ay:=Q5 am
     have ae:∀w2:w?,(w1.alloc<|c? #[.slice a9 (eR<|dP s.1.1).length c9] 31).grownBy w2 _->w2.frozen? _=f?/\C? w2 _=y? vT:=Yz ad av hT a' aw))
  all_goals
   go_wp2_with fail;go_meet;exact TD hF ax aj aq hO ar au ad am J ak al i!
 obtain⟨⟨an,af,aM,az,V,J,Y,aa⟩,ab⟩:=hcut;have a0:=nM.reads ⟨az,V,J,Y,aa⟩;have ao:=dx af 2;have ap:=xX ao;simp only at ap
 have aD:eK (B++[eR<|dP s.1.1])<=1099511627776:=by
  have:eK (B++[eR<|dP s.1.1])=eK B+((eR<|dP s.1.1).length+1):=by simp[eK]
  omega
 have a1:J? (ml B s.1.1=if 60<(eP<|B++[eR<|dP s.1.1]).length then(4,B)else(0,B++[eR<|dP s.1.1])):=by show ml B s.1.1=_;unfold ml;rw[if_pos ⟨HQ.o,aA.o⟩]
 have aE:=sI (B++[eR<|dP s.1.1]) _<|Zu _;rw[o?]at aE;clear ax hO ar au hT av aw aq;generalize eR (dP s.1.1)=ws at *;go_wp2_with fail;apply (EQ b an (B++[ws]) wc ap ao a0 aD).mono;rintro e w3 ⟨aU,rfl,aF,ac⟩;have aV:=ac.4;obtain⟨aW,aX,rfl,aN⟩:=dC aF;have O:w3.1[b]?=y? (c? #[vB,vS,an] 120 (0,0)):=by rwa[ac.5 b ap]
 have ag:=ab.trans (dy.eF (F:=λ_=>False) ac)<|λ_ _ h=>h.elim;by_cases a3:60<(eP<|B++[ws]).length
 .have U:J?<|ml B s.1.1=(4,B):=by show ml B s.1.1=_;rw[a1.o,if_pos a3]
  have ah:(B++[ws]).length=l? B+1:=i!;rw[ah]at J V;obtain⟨a2,c2,rfl,aY⟩:=dC J;have aZ:=dx O 2;have aO:=dO O 2;have ba:IntKind.i64.wrap B.length=l? B:=xR _ _ q? o! o!;have bc:(l? B:Int)<=(c2:Int):=o!;have a4:=h! O;clear ah O af ao a0;go_wp2_with fail;go_region;go_wp2;go_ret;refine⟨dQ (by rw[U.o];rfl),?_⟩;rw[U.o];exact UN hF aj ab.4 ag ac a4 V J Y aa
 have U:J?<|ml B s.1.1=(0,B++[ws]):=by show ml B s.1.1=_;rw[a1.o,if_neg a3]
 go_wp2;go_ret;refine⟨dQ (by rw[U.o];rfl),?_,ag⟩;rw[U.o];refine⟨an,O,.inl aj,?_⟩;refine nM.stay ⟨az,V,J,Y,aa⟩ (λk hk=>ac.5 k ?_)<|λk hk=>?_;obtain hk|hk:=hk
 have:=hF k hk;have:=ab.4;omega;exact hk.2;obtain hk|hk:=hk
 exact .inl hk;exact .inr ⟨hk.1,o!⟩
open Maps
def KH:(prog.info? 9).map (·.3)=y? 1:=by kernel_rfl
def qY:Obj:=c? #[s? ⟨#[]⟩,s? ⟨#[]⟩,s? ⟨#[]⟩] 143
def zg(ws:W?)(j:Nat):v?:=s? ⟨(ws.getD j []).toArray⟩
def DY{b t fz}:∀(vs:L?)(o)(w:w?)(cs:V?),w.1[b]?=y? (c? cs t fz)->
  ∃cs',(w.setCells b o vs).1[b]?=y? (c? cs' t fz)/\cs'.size=cs.size/\(∀j,j<o\/o+l? vs<=j->cs'[j]?=cs[j]?)/\(∀j,o+j<cs.size->j<l? vs->cs'[o+j]?=vs[j]?):=by
 intro vs;induction vs with
 |nil=>intro o w cs h;exact⟨cs,h,q?,λ_ _=>rfl,nofun⟩|cons v vs U=>
  intro o w cs h;obtain⟨cs',V,W,O,Y⟩:=U _ _ _<|heap_set h o v;refine⟨cs',V,u! W,λj B=>?_,λj B J=>?_⟩;rw[O j (by simp at B;omega)];simp only[s6];rw[if_neg (by simp at B;omega)]
  cases j with
  |zero=>rw[O _ o!];simp only[s6,o5,if_true,List.getElem?_cons_zero];rw[if_pos o!]
  |succ j=>have:=Y j j!<|u! J;rw[(o!:o+(j+1)=o+1+j),this];simp
def CN{b}:∀(vs:L?)(o)(w:w?)(k),k≠b->(w.setCells b o vs).1[k]?=w.1[k]?:=by
 intro vs;induction vs with
 |nil=>intro o w k _;rfl|cons v vs J=>intro o w k B;rw[World.setCells,J _ _ k B,ZH _ _ _ _ B]
def CV{b}(B:l<=b):∀(vs:L?)(o)(w),Below l f w->Below l f (w.setCells b o vs):=by
 intro vs;induction vs with
 |nil=>intro o w h;exact h|cons v vs J=>intro o w h;exact J _ _<|h.setCell B _
def qa(w:w?)(o):(w.alloc o).1[w.1.size]?=y? o:=by simp[World.alloc,-World.alloc_eq]
def N0(w)(a:Option Addr)(c)(ws:W?)(hr:∀j u,(du ws)[j]?=y? u->∃b off,a=y? ⟨b,off,x?⟩/\C? w ⟨b,off+j,x?⟩=y? u)(h3:l? ws<=3) :
  ∃O v,(wd #[31,31] 3 #[.slice (y? ⟨w.1.size+1,0,x?⟩) 3 3,.slice a ws.length c]).run prog ((w.alloc qY).alloc qY)=.ok v O/\
   O.1[w.1.size+1]?=y? (c? #[zg ws 0,zg ws 1,zg ws 2] 143 (0,0))/\O.1[w.1.size]?=y? (c? #[s? ⟨#[]⟩,s? ⟨#[]⟩,s? ⟨#[]⟩] 143 (0,0))/\B? w O:=by
 have hb:Below _ w<|(w.alloc qY).alloc qY:=((qr _ _).alloc (Zu _) _).alloc i! _
 have B:((w.alloc qY).alloc qY).1[w.1.size+1]?=y? (c? #[s? ⟨#[]⟩,s? ⟨#[]⟩,s? ⟨#[]⟩] 143 (0,0)):=by have e:w.1.size+1=(w.alloc qY).1.size:=i!;rw[e];exact qa _ _
 have U:((w.alloc qY).alloc qY).1[w.1.size]?=y? (c? #[s? ⟨#[]⟩,s? ⟨#[]⟩,s? ⟨#[]⟩] 143 (0,0)):=by rw[e! _ _ _ i!];exact qa _ _
 by_cases h0:ws=[];subst h0;exact⟨_,_,run_copy_none _ _ _ _ 9 _ _ 3 3 0 c q7 KH q?,B,U,hb⟩;obtain⟨b,o,rfl,_⟩:=hr 0 _<|fI ws 0<|List.length_pos_iff.2 h0
 have V:=run_copy_cells _ 31 31 3 9 _ 0 3 3 _ ws.length c (du ws) q7 KH (by rw[dz];simp[Nat.min_def];omega)
  (λj v J=>by
    obtain⟨b',o',e,hc⟩:=hr j v J;simp only[m?,O!]at e;obtain⟨rfl,rfl,_⟩:=e
    have e2:(⟨b,o,x?⟩:Addr).add j=⟨b,o+j,x?⟩:=by unfold wl;split;rename_i h;rw[h];rfl;rfl
    rw[e2]
    exact Z0 hb hc)
  (λj J=>by
    rw[dz]at J;rw[dx B];have:j<3:=o!;match j,this with
    |0,_=>rfl|1,_=>rfl|2,_=>rfl)
  (λj _=>dO B _) iu
 let ⟨cs',g1,g2,g3,g4⟩:=DY (du ws) 0 _ _ B;refine⟨_,_,V,?_,?_,?_⟩;rw[g1];congr 1;congr 1;apply s';intro j;by_cases J:j<l? ws;have:=g4 j j! (by rwa[dz]);rw[ZD]at this;rw[this,mW ws j J];have:j<3:=o!;match j,this with
 |0,_=>rfl|1,_=>rfl|2,_=>rfl
 rw[g3 j<|.inr (by rw[dz];omega)];have W:ws.getD j []=[]:=by rw[AS,ZA o!];rfl
 by_cases Y:j<3;match j,Y with
 |0,_=>unfold zg;rw[W];rfl|1,_=>unfold zg;rw[W];rfl|2,_=>unfold zg;rw[W];rfl
 rw[ZB j!,ZB j!];rwa[CN _ _ _ _ o!];exact CV o! _ _ _ hb
def yC(v)(ws:W?)(w)(V:Rd w v<|du ws)(W:l? ws<=3) :
  lw prog 93 #[v] w λe w'=>e=e? (pg ws)/\B? w w':=by
 obtain⟨a,c,rfl,Y,hm,U⟩:=V;rw[dz]at Y⊢;obtain⟨B,v2,hcp,O,J,hb⟩:=N0 w a c ws U W;unfold qY at hcp;have c0:C? B _=y? (zg ws 0):=dx O 0;have c1:C? B _=y? (zg ws 1):=dx O 1;have c2:C? B _=y? (zg ws 2):=dx O 2;have d0:C? B _=y? (s? _):=dx J 0;have d1:C? B _=y? (s? _):=dx J 1;have d2:C? B _=y? (s? _):=dx J 2;have f0:=dO J;rw[show pg ws=.agg #[zg ws 0,zg ws 1,zg ws 2]from rfl];unfold zg at *;generalize (⟨(ws.getD 0 []).toArray⟩:b?)=s0 at *;generalize (⟨(ws.getD 1 []).toArray⟩:b?)=s1 at *;generalize (⟨(ws.getD 2 []).toArray⟩:b?)=s2 at *;clear O J U;go_enter func93,ntmps93;go_wp2;refine lE (v:=.agg #[s? s0,s? s1,s? s2]) (by simp[m4,results93,go_sem,d0,d1,d2]) q? ⟨q?,?_⟩;exact((hb.setCell (Zu _) _).setCell (Zu _) _).setCell (Zu _) _
def Pf(v)(ws:W?)(x:Wd)(w)(W:Rd w v<|du ws) :
  lw prog 186 #[v,s? ⟨a? x⟩] w λe w'=>(∃z,e=e? (n? i? z)/\(0<=z↔x∈ws))/\w=w':=by
 obtain⟨a,c,rfl,Y,hm,O⟩:=W;rw[dz]at Y⊢;unfold ls at hm;go_enter func186,ntmps186;go_wp2;go_loop [8] (λi=>∃k:Nat,k<=l? ws/\i=n? i? k/\x ∉ ws.take k) (λi=>l? ws-(intOf i).toNat);exact⟨0,ZP _,q?,i!⟩;obtain⟨k,hk,rfl,J⟩:=hrel;have V:=h! J;clear J;by_cases B:k<l? ws
 .obtain⟨b,o,rfl,h0⟩:=O k _<|fI ws k B;have HM:=h!<|Zw B;have HT:=h!<|IS B;have HR:=h! O;clear O;generalize ws[k]=y at *;by_cases U:x=y
  .subst U;go_wp2;go_ret;exact⟨⟨k,q?,⟨λ_=>HM.o,λ_=>o!⟩⟩,q?⟩
  have hb:(x==y)=f?:=by simpa using U
  have HX:J? _:=U;go_wp2;go_round
  .exact⟨k+1,o!,by go_num,by rw[HT.o,Z3,Zg];rintro(h|h);exact V h;exact HX h⟩
  exact M!
 go_wp2;go_ret;refine⟨⟨-1,q?,⟨λh=>absurd h o!,λh=>?_⟩⟩,q?⟩;have:=V.o;rw[If o!]at this;exact absurd h this
def FG(v)(ws:W?)(x:Wd)(w)(O:Rd w v<|du ws) :
  lw prog 134 #[v,s? ⟨a? x⟩] w λe w'=>e=e? (.bool<|decide<|x∈ws)/\w=w':=by
 go_enter func134,ntmps134;go_wp2_with fail;apply (Pf v ws x w O).mono;rintro e w' ⟨⟨z,rfl,J⟩,rfl⟩;by_cases B:x∈ws
 .go_wp2;go_ret;exact⟨dW<|by rw[(h!<|decide_eq_true B).o],q?⟩
 have V:=λh=>B<|J.1 h;have U:=h!<|decide_eq_false B;clear J B;go_wp2;go_ret;exact⟨dW (by rw[U.o];exact decide_eq_false o!),q?⟩
def Kv(b o B n)(f:W?->Nat)(kn:W?)(v)(ws:W?)(w)(hB:C? w ⟨b,o,x?⟩=y? (.map<|y? B))(hC:fl w B n f)(hv:Rd w v<|du ws)
  (ag:∀x∈ws,x≠[]/\l? x<=24) (hf:∀x∈ws,f [x]=0↔x ∉ kn) (hl:l? ws<=1000) :
  lw prog 92 #[p?<|y? ⟨b,o,x?⟩,v] w λe w'=>∃u,e=e? u/\R? w' w.1.size 9 1 u (jk kn ws ws.length).length (du<|jk kn ws ws.length)/\B? w w':=by
 obtain⟨a,c,rfl,hc,hm,hr⟩:=hv;rw[dz]at hc⊢;unfold ls at hm;obtain⟨i0,hi,ah,ai,aj⟩:=Zz rH;go_enter func92,ntmps92;go_wp2;go_loopw [5,10] (λu i wr=>∃k:Nat,k<=l? ws/\i=n? i? k/\R? wr w.1.size 9 1 u (jk kn ws k).length (du (jk kn ws k))/\B? w wr) (λ_ i _=>l? ws-(intOf i).toNat);exact⟨0,ZP _,q?,Z9 _ _ _ _,qr _ _⟩;obtain⟨k,hk,rfl,O,hb⟩:=hrel;have HS:=hb.4;have am:=(Bq kn ws k hk).2.2;by_cases aa:k<l? ws
 .obtain⟨ba,oa,rfl,h0⟩:=hr k _<|fI ws k aa;have HE:=h!<|BZ kn ws k aa;have hx:=ag _<|Zw aa;have ab:=hf _<|Zw aa;generalize ws[k]=x at *;have an:=Z0 hb h0;have ao:=Z0 hb hB;have J:=(hC.below hb).look (ws:=[x]) ⟨i!,u! hx⟩;rw[show pg [x]=.agg #[s? ⟨a? x⟩,s? ⟨#[]⟩,s? ⟨#[]⟩]from rfl]at J;have HR:=h! hr;clear hr h0;obtain⟨au,cu,rfl,ap⟩:=dC O;by_cases V:f [x]=0
  .have HK:=h!<|ab.1 V;rw[V]at J;have af:(tb 86 _ _ f?).run _ wr=.ok (n? _ 0) wr:=J;clear J V ab;have ac:=FG _ _ x wr<|Rd.eo O;go_wp2_with fail;apply g! ac;clear ac;by_cases W:x∈jk kn ws k
   .have Y:J?<|jk kn ws (k+1)=jk kn ws k:=h!<|by rw[HE.o,if_pos<|.inr W]
    rw[decide_eq_true W];clear W;go_wp2;go_roundw
    .exact⟨k+1,o!,by go_num,by rwa[Y.o],hb⟩
    exact M!
   have Y:J?<|jk kn ws (k+1)=jk kn ws k++[x]:=h!<|by rw[HE.o,if_neg (by rintro(h|h);exact HK h;exact W h)]
   rw[decide_eq_false W];clear W
   go_wp2_with (first
    |(at_builtin;refine eu _ q? _ _ 31 q? _ 9 i0 _ 16 q7 hi ah ai aj q? _ _ _ q? (O.alloc _) _ _ q? fF q? ?c1 ?c2 ?c3 ?_))
   case c1=>omega
   case c2=>unfold ls;omega
   case c3=>first|omega|(simp;omega)
   intro v' w1 U ad _;rw[<-iN,<-Y.o]at U;have ak:=(hb.alloc HS _).grown ad j!<|λb hb=>(O.lt b hb).1;have al:J?<|(jk kn ws k).length+1=(jk kn ws<|k+1).length:=h!<|by rw[Y.o];simp
   rw[al.o]at U;go_wp2;go_roundw
   .exact⟨k+1,o!,by go_num,U,ak⟩
   exact M!
  have ae:x∈kn:=by by_cases h:x∈kn;exact h;exact absurd (ab.2 h) V
  have Y:J?<|jk kn ws (k+1)=jk kn ws k:=h!<|by rw[HE.o,if_pos<|.inl ae]
  generalize f [x]=m at *;have aq:((m:Int)==0)=f?:=by simpa using V
  clear ae ab V;go_wp2;go_roundw
  .exact⟨k+1,o!,by go_num,by rwa[Y.o],hb⟩
  exact M!
 have ek:k=l? ws:=o!;subst ek;go_wp2;go_ret;exact⟨_,q?,O,hb⟩
def OkT(B:List<|W?):Prop:=∀t∈B,∀x∈t,x≠[]/\l? x<=24
structure PW(w:w?)(F:F?)(b:Nat)(vB vS:v?)(ts:List (W?))(B n:Nat)(vK:v?)(kn:W?):Prop where
 blk:w.1[b]?=some (.cells #[vB,vS,.map (some B),vK] 90 (0,0))
 fb:F b
 fB:F B
 cnt:fl w B n (gu ts)
 room:n<=8*eK ts
 row:R? w 0 9 1 vK kn.length (du kn)
 Iz:∀k,O? vK=some k->F k
 perm:kn.Perm (eP ts)
 ok:OkT ts
 few:l? kn<=60
def PW.known{b}(h:PW f U b i x1 J l p x2 x3)(x):gu J [x]=0↔x ∉ x3:=by rw[Qa,h.8.mem_iff]
structure QN(w wr:w?)(F:F?)(b:Nat)(vB vS:v?)(ts:List (W?))(B n:Nat)(vK:v?)(kn:W?)(base:Nat)(v:v?)(t:W?)(P:List (W?)):Prop where
 blk:wr.1[b]?=some (.cells #[vB,vS,.map (some B),vK] 90 (0,0))
 cnt:fl wr B (n+2*l? P) (λws=>gu ts ws+P.count ws)
 row:R? wr 0 9 1 vK kn.length (du kn)
 Iz:∀k,O? vK=some k->iJ F w wr k
 frame:dy F w wr
 arg:R? wr base 9 1 v t.length (du t)
def wE{f:W?->Nat}(h:fl x0 l p f)(O:R? x0 C x4 1 i x8 I):O? i≠y? l:=by
 obtain⟨D,⟨es,clock,U,_⟩,_⟩:=h;obtain⟨rfl,_⟩|⟨g,cap,cur,rfl,_,B,_⟩:=O.2
 simp[u'];intro J;simp only[u',m?]at J;rw[J,U]at B;cases B
def BE{f:W?->Nat}(h:fl x0 l p f){b t fz}(hb:x0.1[b]?=y? (c? x5 t fz)):b≠l:=by obtain⟨D,⟨es,clock,B,_⟩,_⟩:=h;intro e;rw[e,B]at hb;cases hb
def Re{b}(hF:∀k,U k->k<f.1.size)(B:PW f U b i x1 J l p x2 x3)
  (hv:R? f C 9 1 x9 y4.length<|du y4) (ac:∀k,O? x9=y? k->¬U k) (W:B? f x0) (ho:R? x6 0 9 1 x7 y1.length<|du y1) (hg:x0.grownBy x6<|O? x2) (aa:O? x7=O? x2\/O? x7=y? x0.1.size) :
  x6.1[b]?=y? (c? #[i,x1,.map<|y? l,x2] 90 (0,0))/\QN f (x6.setCell ⟨b,3,x?⟩ x7) U b i x1 J l p x7 y1 C x9 y4 []:=by
 have ae:=W.4;have af:=hg.4;have hold:∀k,k<f.1.size->y? k≠O? x2->x6.1[k]?=f.1[k]?:=λk O ad=>by rw[hg.5 k o! ad,W.5 k O]
 have Y:x6.1[b]?=y? (c? #[i,x1,.map<|y? l,x2] 90 (0,0)):=by rw[hold b (hF b B.2)<|λe=>fD B.1 B.6 d! e.symm];exact B.1
 have ag:(x6.setCell ⟨b,3,x?⟩ x7).1.size=x6.1.size:=by simp[pu]
 have V:∀k,k≠b->(x6.setCell ⟨b,3,x?⟩ x7).1[k]?=x6.1[k]?:=λk O=>ZH _ _ _ _ O;refine⟨Y,⟨by rw[heap_set Y];rfl,?_,?_,?_,?_,?_⟩⟩;refine(B.4.stay ?_).mono i!<|λws _=>i!;rw[V l<|λe=>BE B.4 B.1 e.symm,hold l (hF l B.3)<|λe=>wE B.4 B.6 e.symm];refine dH ho<|λk O=>V k<|λe=>?_;subst e;exact fD Y ho d! O;intro k O;obtain h|h:=aa
 exact .inl (B.7 k<|by rwa[<-h]);rw[h]at O;simp only[m?]at O;have:=(ho.lt k<|by rw[h,O]).2;exact .inr ⟨o!,o!⟩;refine⟨hg.1.trans W.1,hg.2.trans W.2,hg.3.trans W.3,o!,λk O hn=>?_⟩;rw[V k<|λe=>hn (by rw[e];exact B.2)];exact hold k O<|λe=>hn<|B.7 k e.symm;refine dH hv<|λk O=>?_;have ab:=ac k O;rw[V k<|λe=>ab (by rw[e];exact B.2),hold k ((hv.lt k O).2)<|λe=>ab<|B.7 k e.symm]
def Ue{w4 b}{P:List<|W?}(B:QN f x0 U b x1 x2 J l p x7 x3 C x9 y1 P)(Y:U l)
  (O:B? x0 x6) (ws:W?) (aa:fl w4 l (p+2*l? P+2) (λx=>if x=ws then gu J ws+P.count ws+1 else gu J x+P.count x)) (V:x6.grownBy w4<|y? l) :
  QN f w4 U b x1 x2 J l p x7 x3 C x9 y1 (P++[ws]):=by
 have ac:=O.4;have ad:=V.4;have hold:∀k,k<x0.1.size->k≠l->w4.1[k]?=x0.1[k]?:=λk W ab=>by rw[V.5 k o!<|u! ab,O.5 k W]
 refine⟨?_,?_,?_,?_,?_,?_⟩;rw[hold b ((AI.1 B.1).1)<|BE B.2 B.1];exact B.1;refine aa.mono j!<|λx _=>?_;rw[g9];by_cases e:x=ws;subst e;simp;omega;rw[if_neg e,ko];have:(ws==x)=f?:=by simpa using λh=>e h.symm
 rw[this];simp;exact dH B.3 (λk W=>hold k (B.3.lt k W).2<|λe=>wE B.2 B.3<|by rw[W,e]);intro k W;obtain h|h:=B.4 k W
 exact .inl h;exact .inr ⟨h.1,o!⟩;refine B.5.trans ⟨V.1.trans O.1,V.2.trans O.2,V.3.trans O.3,o!,hold⟩ (λi _ hi=>by subst hi;exact Y);exact dH B.6 (λk W=>hold k (B.6.lt k W).2<|λe=>wE B.2 B.6<|by rw[W,e])
def SX{b}(B:PW f U b i x1 J l p x2 x3)(O:QN f x0 U b i x1 J l p x7 y1 C x9 y4<|kN y4 y4.length)
  (V:y1.Perm<|eP<|J++[y4]) (W:∀x∈y4,x≠[]/\l? x<=24) (Y:¬60<(eP<|J++[y4]).length):PW x0 (iJ U f x0) b i x1 (J++[y4]) l (p+2*(kN y4 y4.length).length) x7 y1 where
 blk:=O.1
 fb:=Or.inl B.2;fB:=Or.inl B.3
 cnt:=O.2.mono (Zu _) (λws hr=>by
  show gu J ws+(kN y4 y4.length).count ws=_
  rw[Tu y4 ws hr.1,Po])
 room:=by
  have h1:=B.5;have h2:=Bo y4 y4.length;have:eK (J++[y4])=eK J+(l? y4+1):=by simp[eK]
  omega
 row:=O.3;Iz:=O.4;perm:=V
 ok:=by
  intro x hx;obtain h|h:=Z3.1 hx
  exact B.9 x h;simp at h;subst h;exact W
 few:=by rw[V.length_eq];omega
def OQ(F:F?)(b)(vB vS)(U:List<|W?)(B n)(vK)(kn:W?)(t:W?)(base)(v)(w:w?)(hF:∀k,F k->k<w.1.size)(hP:PW w F b vB vS U B n vK kn)
  (hv:R? w base 9 1 v t.length<|du t) (a9:∀k,O? v=y? k->¬F k) (ht:∀x∈t,x≠[]/\l? x<=24) (hl:l? t<=24) (hB:eK U<=16777216) :
  lw prog 66 #[p?<|y? ⟨b,2,x?⟩,v] w λe w'=>
   (60<(eP<|U++[t]).length/\e=e? (.bool f?)/\B? w w')\/
   (¬60<(eP<|U++[t]).length/\e=e? (.bool t?)/\(∃n' aq ab,PW w' (iJ F w w') b vB vS (U++[t]) B n' aq ab)/\dy F w w'):=by
 obtain⟨av,cv,rfl,aV⟩:=dC hv;obtain⟨aK,cK,rfl,aW⟩:=dC hP.6;have ax:=(Bj kn U t hP.8).length_eq;rw[Zh]at ax;have aX:=(Bq kn t _<|Zu _).2.2;have aQ:=hP.10;have ay:=dx hP.1;let ⟨i0,hi,a',aA,aB⟩:=Zz rH;go_enter func66,ntmps66;go_wp2_with fail;apply (Kv b 2 B n (gu U) kn _ t w (ay 2) hP.cnt (Rd.eo hv) ht (λx _=>hP.known x) o!).mono;rintro e w1 ⟨u,rfl,hu,ae⟩;obtain⟨au,cu,rfl,aY⟩:=dC hu;have az:=Z0 ae<|ay 3;by_cases an:60<(eP<|U++[t]).length
 .have HK:=h! an;have a0:60<(l? kn:Int)+((jk kn t t.length).length:Int):=o!;clear an ax;go_wp2;go_ret;exact .inl ⟨HK,q?,ae⟩
 have HK:=h! an;have a0:(l? kn:Int)+((jk kn t t.length).length:Int)<=60:=o!
 have aZ:w1.frozen? ⟨b,3,x?⟩=f?:=by have:=(ae.5 b<|hF b hP.2).trans hP.1;exact dO this 3
 have a1:=j7 hP.6 ae;clear an
 go_wp2_with (first
  |(at_builtin;refine dU _ q? _ _ 31 q? 0 9 i0 _ 16 q7 hi a' aA aB q? _ _ _ q? a1 _ _ q? (Rd.eo hu) iu ?c1 ?c2 (ZP _) ?_))
 case c1=>rw[dz];omega
 case c2=>rw[dz];unfold ls;omega
 intro aq w2 af a2 ag
 have Y:R? w2 0 9 1 aq (kn++jk kn t t.length).length<|du<|kn++jk kn t t.length:=by
  rw[dz]at af;have e1:du (kn++jk kn t t.length)=du kn++du (jk kn t t.length):=by simp[du]
  rwa[e1,Zh]
 let ⟨ah,aC⟩:=Re hF hP hv a9 ae Y a2 ag;obtain⟨a3,a4,rfl,aR⟩:=dC Y;have aS:=dx ah 3;have aT:=dO ah 3;have aD:=(Bj kn U t hP.8);have HP:=h! hP;clear hP ah a1 af a2 ag hu az hv;generalize kn++jk kn t t.length=ab at *;go_wp2_with fail;go_loopw [6] (λi wr=>∃e:Nat,e<=l? t/\i=n? i? ((e:Int)+1)/\QN w wr F b vB vS U B n (.slice a3 ab.length a4) ab base (.slice av t.length cv) t (kN t e)) (λi _=>l? t+1-(intOf i).toNat);exact⟨0,ZP _,i!,aC⟩;obtain⟨e,he,rfl,hS⟩:=hrel;by_cases ba:e<l? t
 .have hd:decide ((e:Int)+1<=(l? t:Int))=t?:=j!;go_wp2_with fail;go_loopw [7] (λi wx=>∃q:Nat,q<=min (e+1) 3+1/\i=n? i? (e+1-min (e+1) 3+q:Nat)/\QN w wx F b vB vS U B n (.slice a3 ab.length a4) ab base (.slice av t.length cv) t (kN t e++(kS t<|e+1).take q)) (λi _=>e+2-(intOf i).toNat);exact⟨0,ZP _,by congr 1;omega,u! hS⟩;obtain⟨q,hq,rfl,ac⟩:=hrel;obtain⟨bg,ai⟩:∃bg,bg=e+1-min (e+1) 3+q:=⟨_,q?⟩;have bc:=h! ai;rw[<-ai];by_cases bd:bg<=e+1
  .have aE:C? wr ⟨b,2,x?⟩=y? (.map<|y? B):=by rw[dx ac.1];rfl
   have a5:e+1<=l? t:=o!;have be:(0:Int)<=(e:Int)+1:=o!;have bf:(e:Int)+1<=(cv:Int):=o!
   have ar:Rd wr _<|du<|(t.take _).drop bg:=
    ((Rd.eo ac.6).wT _ a5).BR bg j!
   obtain⟨ws,aj⟩:∃ws,ws=(t.take<|e+1).drop bg:=⟨_,q?⟩;have h3:l? ws<=3:=by rw[aj];simp;omega
   have aa:np ws:=⟨h3,λx hx=>ht x (by rw[aj]at hx;exact Za<|V! hx)⟩
   have aF:J?<|(kS t<|e+1).take (q+1)=(kS t<|e+1).take q++[ws]:=by
    show _=_;have aG:q<(kS t<|e+1).length:=by rw[qO];omega
    rw[IS aG,KM,<-ai,aj]
   rw[<-aj]at ar;clear aj;obtain⟨P,ao⟩:∃P,P=kN t e++(kS t<|e+1).take q:=⟨_,q?⟩;rw[<-ao]at ac
   have bh:l? P<=4*24+4:=by
    rw[ao,Zh];have:=Bo t e;have:((kS t<|e+1).take q).length<=4:=by have:=qO t<|e+1;simp;omega
    omega
   have aH:=List.count_le_length (a:=ws) (l:=P);have aI:=h! ao;obtain⟨c,hc⟩:∃c,c=gu U ws+P.count ws:=⟨_,q?⟩;have kO:=uG U ws;have bi:c<=16777400:=o!;have aJ:=HP.5;have bj:IntKind.u64.wrap ((c:Int)+1)=(c:Int)+1:=by rw[yd];omega
   have aL:=ac;have ap:=ac.2
   have V:lw prog 93 #[.slice (if cv=bg then av else q5 (λx=>x.add bg) av) (e+1-bg)<|cv-bg] wr.drew λe' w3=>e'=e? (pg ws)/\B? wr w3/\C? w3 ⟨b,2,x?⟩=y? (.map<|y? B)/\
     (tb 86 (.map<|y? B) (pg ws) f?).run prog w3=.ok (n? .u64 (c:Int)) w3/\
     ∃(s:Nat)(w4 w5:w?),(te 86 (.map<|y? B)<|pg ws).run prog w3=.ok (.tuple #[n? .u64 (c:Int),n? i? (s:Int)]) w4/\(tb 86 (.map<|y? B) (pg ws) f?).run prog w4=.ok (n? .u64 (c:Int)) w4/\
     (tg 86 (.map<|y? B) (n? i? (s:Int))<|n? .u64<|(c:Int)+1).run prog w4=.ok () w5/\
     fl w5 B (n+2*l? P+2) (λx=>if x=ws then gu U ws+P.count ws+1 else gu U x+P.count x)/\w3.grownBy w5 (y? B):=by
    apply (yC _ ws wr.drew (by exact ar) h3).mono;rintro e' w3 ⟨rfl,ak⟩;have O:B? wr w3:=⟨ak.1,ak.2,ak.3,ak.4,ak.5⟩;have a6:=ap.below O;have W:=a6.look aa;rw[hc.symm]at W;let ⟨s,w4,al,aM,a7,aN⟩:=a6.entry aa (by unfold ls;omega) (by show gu U ws+P.count ws<_;omega);have J:=a7.look aa;rw[hc.symm]at al J;let ⟨w5,am,a8,aw⟩:=a7.store aa (by unfold ls;omega) aM (c+1) o!;rw[Int.natCast_add,Int.natCast_one]at am;exact⟨q?,O,Z0 O aE,W,s,w4,w5,al,J,am,by rwa[<-hc],aN.trans aw⟩
   have HQ:J?<|q+1<=min (e+1) 3+1:=h!<|by omega
   have aO:J?<|(bg:Int)+1=((e+1-min (e+1) 3+(q+1):Nat):Int):=h!<|by omega
   obtain⟨ad,aP⟩:∃ad,(if cv=bg then av else q5 (λx=>x.add bg) av)=ad:=⟨_,q?⟩;rw[aP]at V;clear ai hS ao aH kO ac ap ar hc;go_wp2_with fail
   go_region_law (first
    |(go_simp
      go_at_call 93;apply V.mono
      rintro e' w3 ⟨rfl,O,aU,W,s,w4,w5,al,J,am,a8,aw⟩))
   all_goals
    clear V;go_wp2_with fail;go_roundw;exact⟨q+1,HQ,by rw[<-aO.o],by rw[aF.o,<-Zq,<-aI.o];exact Ue aL HP.3 O ws a8 aw⟩;exact M!
  have HE:J?<|kN t e++(kS t<|e+1).take q=kN t (e+1):=by show _=_;rw[If (by rw[qO];omega)];rfl
  clear ai;go_wp2_with fail;go_roundw
  .exact⟨e+1,o!,by go_num,by rwa[<-HE.o]⟩
  exact M!
 have ee:e=l? t:=o!;subst ee;go_wp2;go_ret;exact .inr ⟨HK,q?,⟨_,_,_,SX HP hS aD ht HK⟩,hS.5⟩
def J3:Obj:=c? #[n? .u64 0,n? .u64 0] 147
def KZ(x y z:b?):Obj:=c? #[s? x,s? y,s? z] 143
def Rd.alloc(h:Rd f i I)(o):Rd (f.alloc o) i I:=h.below<|(qr ..).alloc (Zu _) _
structure ScW(w W:w?)(b o B n:Nat)(ts:List (W?))(r g h:Nat)(x y z x' y' z':b?):Prop where
 base:B? w W
 Ot:W.1[r]?=some J3
 fst:W.1[g]?=some (KZ x y z)
 snd:W.1[h]?=some (KZ x' y' z')
 map:C? W ⟨b,o,none⟩=some (.map (some B))
 cnt:fl W B n (gu ts)
def scW{b}(Y:C? f ⟨b,l,x?⟩=y? (.map<|y? p))(hC:fl f p C<|gu J)(B:Below (f.alloc J3).1.size (f.alloc J3) x0)(x y z O U V:b?) :
  ScW f ((x0.alloc<|KZ x y z).alloc<|KZ O U V) b l p C J f.1.size x0.1.size (x0.1.size+1) x y z O U V:=by
 have hz:(f.alloc J3).1.size=f.1.size+1:=i!;have aa:=B.4;have h1:=((qr ..).alloc (Zu _) _).trans<|B.mono o!;have W:Below _ f<|(x0.alloc<|KZ x y z).alloc<|KZ O U V:=(h1.alloc o! _).alloc j! _;refine⟨W,?_,?_,?_,Z0 W Y,hC.below W⟩;rw[e! _ _ _ j!,e! _ _ _ o!,B.5 _ o!];exact qa ..;rw[e! _ _ _ i!];exact qa ..;have e:x0.1.size+1=(x0.alloc<|KZ x y z).1.size:=i!;rw[e];exact qa ..
def Tm(b o B n)(U:List<|W?)(vl)(x:Wd)(w)(hG:C? w ⟨0,0,x?⟩=y? (n? .u64 4))(hB:C? w ⟨b,o,x?⟩=y? (.map<|y? B))(hC:fl w B n<|gu U)(hl:Rd w vl<|du [])(hx:x≠[]/\l? x<=24)(am:eK U<=16777216) :
  lw prog 95 #[p?<|y? ⟨b,o,x?⟩,vl,s? ⟨a? x⟩] w λe w'=>e=e? (.agg #[n? .u64<|(tE U x []).1,n? .u64<|(tE U x []).2])/\B? w w':=by
 have J:=yC vl [] (w.alloc J3) (hl.alloc _) i!;have HL:=h! hl;obtain⟨a,c,rfl,hc,hm,_⟩:=hl;have HR:np []:=⟨i!,i!⟩;have ae:np [x]:=⟨i!,u! hx⟩;have ak:=uG U [x];have al:=uG U [];have af:(du []).length=0:=rfl;rw[af]at J hc HL⊢;clear af;go_enter func95,ntmps95;go_wp2_with fail;apply J.mono;rintro e W1 ⟨rfl,ag⟩;rw[show pg []=.agg #[s? ⟨#[]⟩,s? ⟨#[]⟩,s? ⟨#[]⟩]from rfl];have hS:=scW hB hC ag ⟨#[]⟩ ⟨#[]⟩ ⟨#[]⟩ ⟨a? x⟩ ⟨#[]⟩ ⟨#[]⟩;clear J ag;go_wp2_with fail;unfold KZ at hS;generalize (W1.alloc<|c? #[s? ⟨#[]⟩,s? ⟨#[]⟩,s? ⟨#[]⟩] 143).alloc (c? #[s? ⟨a? x⟩,s? ⟨#[]⟩,s? ⟨#[]⟩] 143)=O at *;generalize W1.1.size=g at *;have an:=Z0 hS.1 hG;have ao:=hS.5;have W:=(hS.6.stay (w':=O.drew) q?).look ae;have Y:=(hS.6.stay (w':=O.drew.drew) q?).look ae;have ah:=(hS.6.stay (w':=O.drew.drew) q?).look HR;rw[show pg []=.agg #[s? ⟨#[]⟩,s? ⟨#[]⟩,s? ⟨#[]⟩]from rfl]at ah;rw[show pg [x]=.agg #[s? ⟨a? x⟩,s? ⟨#[]⟩,s? ⟨#[]⟩]from rfl]at W Y;have f0:C? O _=y? (s? _):=dx hS.3 0;have f1:C? O _=y? (s? _):=dx hS.3 1;have f2:C? O _=y? (s? _):=dx hS.3 2;have s0:C? O _=y? (s? _):=dx hS.4 0;have s1:C? O _=y? (s? _):=dx hS.4 1;have s2:C? O _=y? (s? _):=dx hS.4 2;have r0:C? O _=y? (n? _ 0):=dx hS.2 0;have r1:C? O _=y? (n? _ 0):=dx hS.2 1;have z0:=dO hS.2;have ap:=hS;have HS:=hS.1;clear hS;obtain⟨p,aa⟩:∃p,p=gu U [x]:=⟨_,q?⟩;obtain⟨q,ab⟩:∃q,q=gu U []:=⟨_,q?⟩;rw[<-aa]at W Y ak;rw[<-ab]at ah al;have ai:=h! aa;have aj:=h! ab;clear aa ab;obtain⟨V,ac⟩:∃V:Int,V=p:=⟨_,q?⟩;rw[<-ac]at W Y;have ad:=h! ac;have aq:0<=V:=o!;have ar:V<=16777216:=o!;have au:IntKind.u64.wrap (V*4)=V*4:=by rw[yd];omega
 clear ac;by_cases hz:V=0
 .subst hz;go_region;go_wp2_with fail;go_region;go_wp2;refine lE (v:=.agg #[n? .u64 0,n? .u64 (q:Int)]) (by simp[m4,rs,go_sem,r0,r1]) q? ⟨?_,?_⟩;have h1:=ad.o;have hp:gu U [x]=0:=by rw[<-ai.o];omega
  unfold tE;rw[hp,aj.o];rfl;exact(HS.drew.drew.setCell (Zu _) _).setCell (Zu _) _
 have av:(V==0)=f?:=by simpa using hz
 go_region;go_wp2_with fail;go_region;go_wp2;refine lE (v:=.agg #[n? .u64<|V*4,n? .u64 (q:Int)]) (by simp[m4,rs,go_sem,r0,r1]) q? ⟨?_,?_⟩;have h1:=ad.o;unfold tE;rw[ad.o,ai.o,aj.o];rfl;exact(HS.drew.drew.setCell (Zu _) _).setCell (Zu _) _
def Cq(b o B n)(J:List<|W?)(vl)(x:Wd)(w)(xs U:W?)(k wg)(wi)(s0 s1 s2 t1 t2:b?)(hG:C? w ⟨0,k,x?⟩=y? (n? .u64 wi))(hB:C? w ⟨b,o,x?⟩=y? (.map<|y? B))(hC:fl w B n<|gu J)(hl:Rd w vl<|du xs)(aE:eK J<=16777216)
  (hk:(k=1/\wg=10/\wi=10/\U=[]/\⟨a? x⟩=t1/\s2=t2)\/(k=2/\wg=25/\wi=25/\U=xs.drop 1/\s1=t1/\⟨a? x⟩=t2)) (aw:pg (xs++[x])=.agg #[s? s0,s? t1,s? t2]) (ab:l? xs=k) (al:pg xs=.agg #[s? s0,s? s1,s? s2]) (HR:np xs) (ax:np<|xs++[x])
  (ah:gu J (xs++[x])=0->tE J x xs=tE J x U) (ai:gu J (xs++[x])≠0->tE J x xs=(gu J (xs++[x])*wg,gu J xs))
  (aj:∀(V)(W),B? w W->C? W ⟨b,o,x?⟩=y? (.map<|y? B)->fl W B n (gu J)->Rd W V (du U)->lw prog 95 #[p?<|y? ⟨b,o,x?⟩,V,s? ⟨a? x⟩] W λe w'=>e=e? (.agg #[n? .u64<|(tE J x U).1,n? .u64<|(tE J x U).2])/\B? W w') :
  lw prog 95 #[p?<|y? ⟨b,o,x?⟩,vl,s? ⟨a? x⟩] w λe w'=>e=e? (.agg #[n? .u64<|(tE J x xs).1,n? .u64<|(tE J x xs).2])/\B? w w':=by
 have aa:=yC vl xs (w.alloc J3) (hl.alloc _) HR.1;have HL:=h! hl;obtain⟨a,c,rfl,hc,hm,hr⟩:=hl;obtain⟨ba,oa,rfl,_⟩:=hr 0 _<|BY (by rw[dz];omega);rename_i a3;clear hr a3;have a4:=uG J<|xs++[x];have a5:=uG J xs;have ay:(du xs).length=k:=by rw[dz,ab]
 rw[ay]at aa hc HL⊢;rw[al]at aa;clear ay;have HQ:=h! ai
 have ak:∀pi:Int,0<=pi->pi<=16777216->IntKind.u64.wrap (pi*wi)=pi*wi:=by intro pi h1 h2;rcases hk with⟨_,_,rfl,_⟩|⟨_,_,rfl,_⟩ <;>(rw[yd];omega)
 have az:∀W1,Below (w.alloc J3).1.size (w.alloc J3) W1->∃Y,J? ((W1.alloc<|c? #[s? s0,s? s1,s? s2] 143).alloc (c? #[s? s0,s? t1,s? t2] 143)=Y)/\ScW w Y b o B n J w.1.size W1.1.size (W1.1.size+1) s0 s1 s2 s0 t1 t2/\C? Y ⟨W1.1.size+1,1,x?⟩=y? (s? t1)/\C? Y ⟨W1.1.size+1,2,x?⟩=y? (s? t2)/\
   J? (gu J (xs++[x])=0->∀V,Rd w V (du U)->lw prog 95 #[p?<|y? ⟨b,o,x?⟩,V,s? ⟨a? x⟩] Y.drew λe w4=>e=e? (.agg #[n? .u64 ((tE J x xs).1:Int),n? .u64 ((tE J x xs).2:Int)])/\
    B? w w4/\C? w4 ⟨w.1.size,0,x?⟩=y? (n? .u64 0)/\C? w4 ⟨w.1.size,1,x?⟩=y? (n? .u64 0)/\w4.frozen? ⟨w.1.size,0,x?⟩=f?/\w4.frozen? ⟨w.1.size,1,x?⟩=f?):=by
  intro W1 h;have O:=scW hB hC h s0 s1 s2 s0 t1 t2;refine⟨_,q?,O,dx O.4 1,dx O.4 2,λhz V hV=>?_⟩;rw[ah hz];have af:=O.1.drew;apply (aj V _ af O.map (O.cnt.stay q?)<|hV.below af).mono;rintro e w4 ⟨rfl,ag⟩;have hh:=(ag.5 _ (AI.1 O.2).1).trans O.2;exact⟨q?,af.trans<|ag.mono af.4,dx hh 0,dx hh 1,dO hh 0,dO hh 1⟩
 clear ah ai aj;obtain⟨rfl,rfl,rfl,rfl,rfl,rfl⟩|⟨rfl,rfl,rfl,rfl,rfl,rfl⟩:=hk
 case' inl=>
  have a6:(1:Int)<=(c:Int):=o!
  have am:∀V,(V=.slice (y? ⟨ba,oa,x?⟩) 0 0\/V=.slice (y? ⟨ba,oa+1,x?⟩) 0 (c-1))->Rd w V (du []):=by rintro V (rfl|rfl);exact Rd.Dr q? (by unfold ls;omega);exact Rd.Dr q? o!
 case' inr=>
  have a6:(2:Int)<=(c:Int):=o!
  have am:∀V,V=.slice (y? ⟨ba,oa+1,x?⟩) 1 (c-1)->Rd w V (du<|xs.drop 1):=by intro V rfl;have:=HL.zq 1 o! o! ab.symm;exact this
  have aD:c≠1:=o!
 all_goals
  clear ab;go_enter func95,ntmps95;go_wp2_with fail;apply aa.mono;rintro e W1 ⟨rfl,a0⟩;obtain⟨Y,a1,O,q1,q2,HC⟩:=az W1 a0;clear aa a0 az;go_wp2_with fail;rw[a1.o];clear a1;generalize W1.1.size=g at *;have aF:=Z0 O.1 hG;have aG:=O.5;have an:=(O.6.stay (w':=Y.drew) q?).look ax;have ao:=(O.6.stay (w':=Y.drew.drew) q?).look ax;have a2:=(O.6.stay (w':=Y.drew.drew) q?).look HR;rw[al]at a2;rw[aw]at an ao;have f0:C? Y _=y? (s? s0):=dx O.3 0;have f1:C? Y _=y? (s? s1):=dx O.3 1;have f2:C? Y _=y? (s? s2):=dx O.3 2;have q0:C? Y _=y? (s? s0):=dx O.4 0;have r0:C? Y _=y? (n? _ 0):=dx O.2 0;have r1:C? Y _=y? (n? _ 0):=dx O.2 1;have z0:=dO O.2;have HS:=O.1;clear O al aw;obtain⟨p,ap⟩:∃p,p=gu J (xs++[x]):=⟨_,q?⟩;obtain⟨q,aq⟩:∃q,q=gu J xs:=⟨_,q?⟩;rw[<-ap]at an ao a4;rw[<-aq]at a2 a5;have ar:=h! ap;have a7:=h! aq;clear ap aq;obtain⟨pi,au⟩:∃pi:Int,pi=p:=⟨_,q?⟩;rw[<-au]at an ao;have av:=h! au;have a8:0<=pi:=o!;have a9:pi<=16777216:=o!;have aH:=ak pi a8 a9;clear ak;clear au;by_cases hz:pi=0
  .have ac:=HC.o (by rw[<-ar.o];have:=av.o;omega);subst hz;obtain⟨p1,ad⟩:∃p1,p1=(tE J x xs).1:=⟨_,q?⟩;obtain⟨p2,ae⟩:∃p2,p2=(tE J x xs).2:=⟨_,q?⟩;rw[<-ad,<-ae]at ac;have a':=h! ad;have aA:=h! ae;clear ad ae;go_region;go_wp2_with fail
   all_goals
    apply (ac _<|am _<|by simp[*]).mono;rintro e w4 ⟨rfl,ag,aB,aC,aI,aJ⟩;clear ac am;go_wp2;refine lE (v:=.agg #[n? .u64 (p1:Int),n? .u64 (p2:Int)]) (by simp[m4,rs,go_sem,aB,aC]) q? ⟨?_,?_⟩;rw[a'.o,aA.o];exact(ag.setCell (Zu _) _).setCell (Zu _) _
  have aK:(pi==0)=f?:=by simpa using hz
  go_region;go_wp2_with fail;go_region;go_wp2;refine lE (v:=.agg #[n? .u64<|pi*_,n? .u64 (q:Int)]) (by simp[m4,rs,go_sem,r0,r1];rfl) q? ⟨?_,?_⟩;rw[HQ.o (by rw[<-ar.o];have:=av.o;omega),av.o,ar.o,a7.o];rfl;exact(HS.drew.drew.setCell (Zu _) _).setCell (Zu _) _
def Te(b o B n)(J:List<|W?)(vl)(u:Wd)(x:Wd)(w)(U:C? w ⟨0,0,x?⟩=y? (n? .u64 4))(hG:C? w ⟨0,1,x?⟩=y? (n? .u64 10))(hB:C? w ⟨b,o,x?⟩=y? (.map<|y? B))(hC:fl w B n<|gu J)(hl:Rd w vl<|du [u])(Y:u≠[]/\l? u<=24)(hx:x≠[]/\l? x<=24)(O:eK J<=16777216) :
  lw prog 95 #[p?<|y? ⟨b,o,x?⟩,vl,s? ⟨a? x⟩] w λe w'=>e=e? (.agg #[n? .u64<|(tE J x [u]).1,n? .u64<|(tE J x [u]).2])/\B? w w':=
 Cq b o B n J vl x w [u] [] 1 10 10 _ _ _ _ _ hG hB hC hl O (.inl ⟨q?,q?,q?,q?,q?,q?⟩) q? q? q? ⟨i!,u! Y⟩ ⟨i!,by simp[Y,hx]⟩ (λh=>by have h:gu J [u,x]=0:=h;simp[tE,h]) (λh=>by have h:gu J [u,x]≠0:=h;simp[tE,h])
  λV W h1 h2 h3 h4=>Tm b o B n J V x W (Z0 h1 U) h2 h3 h4 hx O
def Y9(b o B n)(J:List<|W?)(vl)(u:Wd)(v:Wd)(x:Wd)(w)(U:C? w ⟨0,0,x?⟩=y? (n? .u64 4))(Y:C? w ⟨0,1,x?⟩=y? (n? .u64 10))(hG:C? w ⟨0,2,x?⟩=y? (n? .u64 25))(hB:C? w ⟨b,o,x?⟩=y? (.map<|y? B))(hC:fl w B n<|gu J)(hl:Rd w vl<|du [u,v])(hu:u≠[]/\l? u<=24)(hv:v≠[]/\l? v<=24)(hx:x≠[]/\l? x<=24)(O:eK J<=16777216) :
  lw prog 95 #[p?<|y? ⟨b,o,x?⟩,vl,s? ⟨a? x⟩] w λe w'=>e=e? (.agg #[n? .u64<|(tE J x [u,v]).1,n? .u64<|(tE J x [u,v]).2])/\B? w w':=
 Cq b o B n J vl x w [u,v] [v] 2 25 25 _ _ _ _ _ hG hB hC hl O (.inr ⟨q?,q?,q?,q?,q?,q?⟩) q? q? q? ⟨i!,by simp[hu,hv]⟩ ⟨i!,by simp[hu,hv,hx]⟩ (λh=>by have h:gu J [u,v,x]=0:=h;simp[tE,h]) (λh=>by have h:gu J [u,v,x]≠0:=h;simp[tE,h])
  λV W h1 h2 h3 h4=>Te b o B n J V v x W (Z0 h1 U) (Z0 h1 Y) h2 h3 h4 hv hx O
end
section
open RowKit Go.Sort
def CD(x y:Nat)(w):lw prog 196 #[n? .u64 x,n? .u64 y] w λe w'=>e=e? (n? i?<|Cd x y)/\w=w':=by
 unfold Cd;by_cases B:x<y
 .rw[if_pos B];have J:(x:Int)<(y:Int):=o!;clear B;go_enter func196,ntmps196;go_wp2;go_ret;exact⟨q?,q?⟩
 rw[if_neg B];by_cases O:y<x
 .go_wp2;go_ret;exact⟨q?,q?⟩
 go_wp2;go_ret;exact⟨q?,q?⟩
def Gl(x y)(g)(w)(U:C? w ⟨g,0,x?⟩=y? (n? i? x))(V:C? w ⟨g,1,x?⟩=y? (n? i? y)):lw prog 126 #[.slice (y? ⟨g,0,x?⟩) 2 2] w λe w'=>e=e? (n? i? (if x≠0 then x else y))/\w=w':=by
 by_cases J:x=0
 .subst J;rw[if_neg i!];by_cases B:y=0
  .subst B;go_enter func126,ntmps126;go_wp2;apply ZI 3;rw[h?];go_wp2;rw[h?];go_wp2;rw[h?];go_wp2;go_ret;exact⟨q?,q?⟩
  have O:(y==0)=f?:=by simpa using B
  go_enter func126,ntmps126;go_wp2;apply ZI 2;rw[h?];go_wp2;rw[h?];go_wp2;go_ret;exact⟨q?,q?⟩
 go_wp2;apply ZI 1;rw[h?];go_wp2;go_ret;exact⟨q?,q?⟩
def Et{w:w?}{x y t g}(B:g=w.1.size):C? (w.alloc<|c? #[x,y] t) ⟨g,0,x?⟩=y? x/\C? (w.alloc<|c? #[x,y] t) ⟨g,1,x?⟩=y? y:=by subst B;constructor;rw[Zl _ _ _ _ rfl];rfl;rw[Zl _ _ _ _ rfl];rfl
def UE(p q r t:Nat)(w)(O:p<=419430400)(U:q<=16777217)(V:r<=419430400)(ht:t<=16777217) :
  lw prog 138 #[.agg #[n? .u64 p,n? .u64 q],.agg #[n? .u64 r,n? .u64 t]] w λe w'=>e=e? (n? i?<|Cd (p*t)<|r*q)/\∃k os,w'=grow (w.drewN k) os:=by
 have b1:=nL O ht;have b2:=nL V U
 have m1:∀W:w?,lw _ 195 _ W λe w'=>e=e? (.tuple #[n? _ 0,n? _ _])/\W=w':=λW=>by apply (Any.bits_Mul64 Oy p t o! o! W).mono;rintro e w' ⟨rfl,rfl⟩;rw[oj o!,oi o!];exact⟨q?,q?⟩
 have J:∀W:w?,lw _ 195 _ W λe w'=>e=e? (.tuple #[n? _ 0,n? _ _])/\W=w':=λW=>by apply (Any.bits_Mul64 Oy r q o! o! W).mono;rintro e w' ⟨rfl,rfl⟩;rw[oj o!,oi o!];exact⟨q?,q?⟩
 generalize p*t=X at *;generalize r*q=Y at *;have c1:=λW=>CD 0 0 W;have c2:=λW=>CD X Y W;have e0:Cd 0 0=0:=rfl;rw[e0]at c1;go_enter func138,ntmps138;go_wp2_with fail;apply (m1 _).mono;rintro e w' ⟨rfl,rfl⟩;go_wp2_with fail;apply (J _).mono;rintro e w' ⟨rfl,rfl⟩;go_wp2_with fail;apply (c1 _).mono;rintro e w' ⟨rfl,rfl⟩;go_wp2_with fail;apply (c2 _).mono;rintro e w' ⟨rfl,rfl⟩;obtain⟨z,B⟩:∃z,z=Cd X Y:=⟨_,q?⟩;rw[<-B];have HZ:=h! B;clear B c1 c2 m1 J;go_wp2_with fail;apply (Gl 0 z _ _ (Et i!).1 (Et i!).2).mono;rintro e w' ⟨rfl,rfl⟩;go_wp2;go_ret;exact⟨dQ<|by rw[<-HZ.o],0,_,by rw[wy,wy,wy,w9,w9];rfl⟩
def F3(w)(os)(a)(h:a.1<w.1.size):C? (grow w os) a=C? w a:=by
 have:(grow w os).1[a.1]?=w.1[a.1]?:=by unfold grow;simp[Array.getElem?_append,h]
 simp[p6,this]
def mC(sc:Wd->Fr)(x:Wd):List v?:=[s? ⟨a? x⟩,n? .u64 ((sc x).1:Int),n? .u64 ((sc x).2:Int)]
def drew_drewN(w:w?)(k):w.drew.drewN k=w.drewN (1+k):=by unfold p' World.drew;rw[nU]
end
section
open RowKit
variable {f P x7 w':w?}{g o I x2 y0 y1:Nat}{p U x4 x5 x9:v?}{C y5:L?}{J x8 y2 y3 y4:F?}{x0:W?}{x1:Wd}{x3:Obj}{x6:P?}
def nZ(m:Wd):v?:=s? ⟨a? m⟩
def GS(w:w?)(D:F?)(u:v?)(m:Wd):Prop:=∃n,Rd w u (c5 n<|nZ m)/\∀k,O? u=y? k->D k
structure nk(w:w?)(D:F?)(B:Nat)(vl vm:v?)(us:L?)(ms:W?):Prop where
 ol:R? w 0 31 1 vl us.length us
 om:R? w 0 9 1 vm ms.length (du ms)
 dl:∀k,O? vl=some k->¬D k
 dm:∀k,O? vm=some k->¬D k
 dB:¬D B
 dlt:∀k,D k->k<w.1.size
 each:∀(i:Nat)(u:v?)(mm:Wd),us[i]?=some u->ms[i]?=some mm->GS w D u mm
def GS.stay(h:GS f J p x1)(hb:∀k,J k->w'.1[k]?=f.1[k]?)(O:∀k,J k->x8 k):GS w' x8 p x1:=by obtain⟨n,⟨a,cap,rfl,U,V,W⟩,B⟩:=h;refine⟨n,⟨a,cap,q?,U,V,λj v Y=>?_⟩,λk hk=>O k<|B k hk⟩;obtain⟨b,off,rfl,hc⟩:=W j v Y;refine⟨b,off,q?,?_⟩;rwa[px<|hb b<|B b q?]
def TH(n)(m)(j)(h:j<n):(c5 n<|nZ m)[j]?=y? (nZ m):=by simp[h]
def Ur(B)(D:F?)(vl vm)(W:L?)(ms:W?)(w)(h1:C? w ⟨B,1,x?⟩=y? vl)(h2:C? w ⟨B,2,x?⟩=y? vm)(hL:nk w D B vl vm W ms)(J:l? W=l? ms)(hB:l? W<=1099511627776) :
  lw prog 42 #[p?<|y? ⟨B,0,x?⟩] w λe w'=>e=e? (.bool t?)/\∃n,w'=w.drewN n:=by
 obtain⟨V,U,_,_,_,_,O⟩:=hL;obtain⟨al,cl,rfl,kO⟩:=dC V;obtain⟨am,cm,rfl,ad⟩:=dC U;rw[<-J]at h2 ad U;have ae:=h! V;have af:=h! U;have HE:=h! O;have ag:=h! J;clear V U O J;go_enter func42,ntmps42;go_wp2;go_loopw [3] (λi wr=>∃k m:Nat,k<=l? W/\i=n? i? k/\wr=w.drewN m) (λi _=>l? W-(intOf i).toNat);exact⟨0,0,ZP _,q?,q?⟩;obtain⟨k,m,hk,rfl,rfl⟩:=hrel;by_cases ah:k<l? W
 .have Y:k<l? ms:=by have:=ag.o;omega
  have hu:=BY ah;obtain⟨n,⟨au,cu,aa,ai,hmu,ab⟩,_⟩:=HE.o k _ _ hu<|BY Y;rw[aa]at hu;clear aa;obtain⟨bl,ol,rfl,ac⟩:=eM ae k _ hu;obtain⟨bm,om,rfl,an⟩:=eM af k _<|fI ms k Y;have aj:=h! ab;rw[hM]at ac ai;unfold ls at hmu;clear ab hu;generalize ms[k]=mk at *;go_wp2_with fail;go_loopw [4] (λi wr=>∃q m:Nat,q<=n/\i=n? i? q/\wr=w.drewN m) (λi _=>n-(intOf i).toNat);exact⟨0,m,ZP _,q?,q?⟩;obtain⟨q,m,hq,rfl,rfl⟩:=hrel;by_cases ak:q<n
  .obtain⟨bu,ou,rfl,hcu1⟩:=aj.o q _<|TH n mk q ak;unfold nZ at hcu1;go_wp2_with fail;go_quiet (fail);go_wp2;go_roundw
   .exact⟨q+1,_,o!,by go_num,q?⟩
   exact M!
  go_wp2;go_roundw
  .exact⟨k+1,_,o!,by go_num,q?⟩
  exact M!
 go_wp2;go_ret;exact⟨q?,_,q?⟩
def B6(w)(base)(t ty e)(i)(z)(bytes)(ht:x6.underlying t=y? (.slice e))(hi:x6.info? e=y? i)(hz:i.8=y? z)
  (B:i.3=1) (Y:i.4=bytes) (ae:z.cells.size=1)
  (v) (n) (xs:L?) (J:R? w base e 1 v n xs)
  (x) (news:L?) (hx:Rd w x news) (h1:∀u∈news,u.oneCell'=t?)
  (O:(n+l? news)*bytes<=140737488355328) (aa:n+l? news<=ls) (W:base<=w.1.size) :
  ∃v' w',(vA #[t,t] ty #[v,x]).run x6 w=.ok v' w'/\R? w' base e 1 v' (n+l? news) (xs++news)/\w.grownBy w' (O? v)/\(O? v'=O? v\/(O? v'=y? w.1.size/\Below w.1.size w w')):=by
 obtain⟨v',w',U,h2,h3⟩:=qR w base t ty e i z bytes ht hi hz B Y ae v n xs J x news hx h1 O aa W;refine⟨v',w',U,h2,h3,?_⟩;obtain⟨a,cap,rfl,hc,hm,af⟩:=hx
 cases a with
 |none=>
  have hn:news=[]:=by
   cases news with
   |nil=>rfl|cons u us=>obtain⟨b,off,he,_⟩:=af 0 u rfl;simp at he
  subst hn;obtain⟨b,c,rfl,ag⟩:=dC J;have:=kB w t ty e i ht hi b n c cap ag;simp only[F!]at U;rw[this]at U;simp only[uc]at U;exact .inl (by rw[<-U.1])
 |some ad=>
  have V:∀j u,news[j]?=y? u->C? w (ad.add j)=y? u:=by intro j u hj;obtain⟨b,off,he,ah⟩:=af j u hj;simp only[m?]at he;subst he;rwa[wh]
  have hl:l? news=l? news*i.3:=by rw[B];omega
  obtain⟨rfl,rfl⟩|⟨g,c,cur,rfl,al,hg,ag,am,an,ai⟩:=J.2
  by_cases aj:l? news=0;have hn:=ex aj;subst hn;obtain⟨rfl,_⟩|⟨g',c',ak,rfl,_,ao,_⟩:=h2.2
  exact .inl rfl;have:=l3 w base t ty e i z 1 bytes ht hi hz B Y ae d! _ 0 xs J ad 0 cap [] q? i! i! i! i! W;let ⟨v2,w2,ab,_,_,h4⟩:=this;simp only[F!]at U;rw[U]at ab;simp only[uc]at ab;have:=h4.2 ⟨q?,q?⟩;rw[<-ab.1]at this;simp at this;rw[mv w t ty e i z ht hi hz ad _ cap news hl V o! (by simp only[ls]at aa;omega) (by rw[Y];simp only[ZD]at O;omega)]at U;simp only[uc]at U;exact .inr ⟨by rw[<-U.1];rfl,by rw[<-U.2];exact((qr ..).drew).alloc (Zu _) _⟩;by_cases ac:n+l? news<=c;rw[mp w t ty e i ht hi g n c cur hg ad _ cap news hl V h1 ac (by rw[B];omega)]at U;simp only[uc]at U;exact .inl (by rw[<-U.1];rfl);rw[mr w t ty e i z ht hi hz _ n c xs (by rw[B];exact J.1) (J.cells (g:=g) q?) ad _ cap news hl V o! (by simp only[ls]at aa;omega) (by rw[Y];exact mx o! O)]at U;simp only[uc]at U;exact .inr ⟨by rw[<-U.1];rfl,by rw[<-U.2];exact((qr ..).drew).alloc (Zu _) _⟩
def xk(w){ops rest}{o:Oper}{a:Act}{Q}(W:o.6=x?)(s x)(t)
  (ho:o.2=.call {callee:=.builtin .append,args:=#[s,x],argTypes:=#[t,t]})
  (base) (e) (i) (z) (bytes) (ht:x6.underlying t=y? (.slice e)) (hi:x6.info? e=y? i) (hz:i.8=y? z)
  (J:i.3=1) (Y:i.4=bytes) (aa:z.cells.size=1)
  (v) (n) (xs:L?) (hs:a.eval s=v) (V:R? w base e 1 v n xs)
  (y) (news:L?) (hx:a.eval x=y) (hy:Rd w y news) (h1:∀u∈news,u.oneCell'=t?)
  (B:(n+l? news)*bytes<=140737488355328) (ab:n+l? news<=ls) (O:base<=w.1.size)
  (h:∀U w',R? w' base e 1 U (n+l? news) (xs++news)->w.grownBy w' (O? v)->(O? U=O? v\/(O? U=y? w.1.size/\Below w.1.size w w'))->l1 x6 ops Q rest (a.put o.1 U) w'):l1 x6 ops Q (o::rest) a w:=by
 refine ZW W λ_ hK=>?_;obtain⟨U,w',hr,h2,h3,h4⟩:=B6 w base t o.3 e i z bytes ht hi hz J Y aa v n xs V y news hy h1 B ab O;unfold z3 mi;simp only[ho,m5,invoke,builtin,wo,wn,ut,fd,ZK,ZU,hs,hx,hr];exact hK _ _<|h U w' h2 h3 h4
structure Sc(w:w?)(D:F?)(l:v?)(n:Nat)(m:Wd):Prop where
 row:R? w 0 9 1 l n (c5 n (nZ m))
 blk:∀k,O? l=some k->D k
def Grp(l:v?)(n:Nat)(m:Wd)(O:L?)(ms:W?):Prop:=
 ∀(i:Nat)(u:v?),O[i]?=y? u->O? u≠x?->O? u=O? l->(∃g B c,u=.slice (y? ⟨g,0,x?⟩) B c/\B<=n/\B<=c/\c<=ls)/\∀J,ms[i]?=y? J->J=m
def nk.stay(h:nk f J g p U C x0)(V:f.1.size<=w'.1.size)
  (hb:∀k,J k->w'.1[k]?=f.1[k]?) (W:∀k,O? p=y? k->w'.1[k]?=f.1[k]?) (hm:∀k,O? U=y? k->w'.1[k]?=f.1[k]?):nk w' J g p U C x0:=
 ⟨dH h.1 W,dH h.2 hm,h.3,h.4,h.5,λk B=>AT (h.6 k B) V,λi u Y hu O=>(h.7 i u Y hu O).stay hb<|λ_ B=>B⟩
def Sc.stay(h:Sc f J p g x1)(hb:∀k,J k->w'.1[k]?=f.1[k]?):Sc w' J p g x1:=
 ⟨dH h.1<|λk B=>hb k<|h.2 k B,h.2⟩
def Rd.prefix{c}(h:R? f g o 1 (.slice (y? ⟨x2,0,x?⟩) I y1) I C)(O:y0<=I)(U:y0<=c)(hm:c<=ls):Rd f (.slice (y? ⟨x2,0,x?⟩) y0 c)<|C.take y0:=by
 have V:l? C=I:=by have:=h.1;omega
 refine⟨y? ⟨x2,0,x?⟩,c,j!,j!,hm,λj u B=>?_⟩
 have J:C[j]?=y? u:=by rw[Zi]at B;split at B;exact B;simp at B
 exact⟨x2,0,q?,by have:=h.cells (g:=x2) q? j u J;rwa [wh]at this⟩
def L0
  (h:nk f J o p U C x0) (hc:Sc f J x4 I x1) (hg:Grp x4 I x1 C x0) (ap:o<f.1.size) (am:l? C=l? x0)
  (ho:R? P 0 9 1 x5 (I+1)<|c5 I (nZ x1)++[nZ x1]) (af:(f.alloc x3).grownBy P<|O? x4)
  (hb:O? x5=O? x4\/(O? x5=y? x2/\Below (f.alloc x3).1.size (f.alloc x3) P)) (hN:x2=f.1.size+1) :
  ∃D',nk P D' o p U C x0/\Sc P D' x5 (I+1) x1/\Grp x5 (I+1) x1 C x0/\(∀k,J k->D' k)/\(∀k,D' k->J k\/f.1.size<=k):=by
 have ag:c5 I (nZ x1)++[nZ x1]=c5 (I+1) (nZ x1):=by rw[kf]
 rw[ag]at ho;have hz:f.1.size+1<=P.1.size:=by have:=af.4;simpa using this
 obtain hb|⟨hb,ah⟩:=hb
 .
  have V:∀k,k<f.1.size->y? k≠O? x4->P.1[k]?=f.1[k]?:=λk B ac=>by rw[af.5 k j! ac,e! _ _ _ B]
  refine⟨J,⟨dH h.1<|λk B=>V k (h.1.lt k B).2<|λe=>h.3 k B<|hc.2 k e.symm,dH h.2<|λk B=>V k (h.2.lt k B).2<|λe=>h.4 k B<|hc.2 k e.symm,h.3,h.4,h.5,λk B=>by have:=h.6 k B;omega,?_⟩,⟨ho,λk B=>hc.2 k<|by rwa[<-hb]⟩,?_,λ_ B=>B,λ_ B=>Or.inl B⟩;intro i u mm hu aa;obtain⟨n0,aj,hf⟩:=h.7 i u mm hu aa;by_cases W:O? u=x?\/O? u≠O? x4;refine⟨n0,?_,hf⟩;obtain⟨a,cap,rfl,h1,h2,hr⟩:=aj;refine⟨a,cap,q?,h1,h2,λj v hj=>?_⟩;obtain⟨b,off,rfl,ak⟩:=hr j v hj;refine⟨b,off,q?,?_⟩
  have ac:y? b≠O? x4:=by
   obtain W|W:=W
   simp[u']at W;exact W
  rwa[px<|V b (h.6 b<|hf b q?) ac];have ab:=Decidable.byContradiction λe=>W<|.inr e;obtain⟨⟨g,n',c,rfl,al,ad,ae⟩,hm⟩:=hg i u hu (λe=>W<|.inl e) ab;have:=hm mm aa;subst this;obtain⟨a',c',rfl,_⟩:=dC ho
  have ha:a'=y? ⟨g,0,x?⟩:=by
   obtain⟨he,_⟩|⟨g',an,ao,he,_⟩:=ho.2
   simp at he;simp only[y6]at he;obtain⟨rfl,_,rfl⟩:=he
   have:y? g'=y? g:=by have e1:O? (Value.slice (y? ⟨g',0,x?⟩) (I+1) c')=y? g':=rfl;have e2:O? (Value.slice (y? ⟨g,0,x?⟩) n' c)=y? g:=rfl;rw[<-e1,hb,<-ab,e2]
   simp only[m?]at this;rw[this]
  subst ha;refine⟨n',?_,hf⟩;have:=Rd.prefix ho o! ad ae;rwa[List.take_replicate,on o!]at this;intro i u hu ai Y;rw[hb]at Y;obtain⟨⟨g,n',c,rfl,al,ad,ae⟩,hm⟩:=hg i u hu ai Y;exact⟨⟨g,n',c,q?,o!,ad,ae⟩,hm⟩
 .
  have V:∀k,k<f.1.size->P.1[k]?=f.1[k]?:=λk B=>by rw[ah.5 k j!,e! _ _ _ B]
  refine⟨λk=>J k\/k=x2,⟨dH h.1<|λk B=>V k (h.1.lt k B).2,dH h.2<|λk B=>V k (h.2.lt k B).2,?_,?_,?_,?_,?_⟩,⟨ho,λk B=>by rw[hb]at B;simp only[m?]at B;exact .inr B.symm⟩,?_,λ_ B=>Or.inl B,?_⟩;intro k B O;obtain O|O:=O
  exact h.3 k B O;have:=(h.1.lt k B).2;omega;intro k B O;obtain O|O:=O
  exact h.4 k B O;have:=(h.2.lt k B).2;omega;intro O;obtain O|O:=O
  exact h.5 O;omega;intro k O;obtain O|O:=O
  have:=h.6 k O;omega;have:=(ho.lt x2 hb).2;omega;intro i u mm hu aa;exact(h.7 i u mm hu aa).stay (λk B=>V k<|h.6 k B)<|λ_ B=>Or.inl B;intro i u hu ai Y;exfalso;rw[hb]at Y
  have hi:i<l? C:=by by_cases hi:i<l? C;exact hi;rw[ZA o!]at hu;simp at hu
  let ⟨_,_,hf⟩:=h.7 i u x0[i] hu<|BY _;have:=h.6 x2<|hf x2 Y;omega;intro k O;obtain O|O:=O
  exact .inl O;exact .inr o!
def tK{v}{cs:V?}(h:nk f J g p U C x0)(V:f.1[g]?=y? (c? cs 74 (0,0))) :
  nk (f.setCell ⟨g,o,x?⟩ v) J g p U C x0:=by
 have B:∀k,k≠g->(f.setCell ⟨g,o,x?⟩ v).1[k]?=f.1[k]?:=λk O=>ZH _ _ _ _ O;refine h.stay (by simp[pu]) (λk O=>B k<|λe=>h.5<|e▸O) (λk O=>B k<|λe=>?_)<|λk O=>B k<|λe=>?_;subst e;exact fD V h.1 d! O;subst e;exact fD V h.2 d! O
def EP(h:Sc f J p I x1)(B:¬J g):Sc (f.setCell ⟨g,o,x?⟩ U) J p I x1:=
 h.stay (λk V=>ZH _ _ _ _<|λe=>B (by have O:k=g:=e;rwa[<-O]))
def Ll
  (h:nk f J g p x4 C x0) (aa:l? C=l? x0)
  (ho:R? P 0 31 1 U (l? C+1)<|C++[x5]) (W:(f.alloc x3).grownBy P<|O? p) (hb:O? U=O? p\/O? U=y? (f.1.size+1)) :
  nk P J g U x4 (C++[x5]) x0:=by
 have hz:f.1.size+1<=P.1.size:=by have:=W.4;simpa using this
 have O:∀k,k<f.1.size->y? k≠O? p->P.1[k]?=f.1[k]?:=λk B Y=>by rw[W.5 k j! Y,e! _ _ _ B]
 refine⟨by have:(C++[x5]).length=l? C+1:=i!
           rwa[this],dH h.2<|λk B=>O k (h.2.lt k B).2<|λe=>?_,λk B hd=>?_,h.4,h.5,λk B=>by have:=h.6 k B;omega,λi v mm hv V=>?_⟩
 obtain h1|h1:=jh h.2 h.1 d!
 rw[h1]at B;simp at B;exact h1 (by rw[B,e]);obtain hb|hb:=hb
 exact h.3 k (by rwa[<-hb]) hd;rw[hb]at B;simp only[m?]at B;have:=h.6 k hd;omega
 have hi:i<l? x0:=by by_cases hi:i<l? x0;exact hi;rw[ZA o!]at V;simp at V
 rw[Zt o!]at hv;exact(h.7 i v mm hv V).stay (λk B=>O k (h.6 k B)<|λe=>h.3 k e.symm B)<|λ_ B=>B
def Nt
  (h:nk f J g p U C x0) (ac:l? C=l? x0+1) (hu:C[l? x0]?=y? x5) (hc:Sc f J x5 o x1)
  (ho:R? P 0 9 1 x4 (l? x0+1)<|du x0++[nZ x1]) (aa:(f.alloc x3).grownBy P<|O? U) (hb:O? x4=O? U\/O? x4=y? (f.1.size+1)) :
  nk P J g p x4 C (x0++[x1])/\Sc P J x5 o x1:=by
 have hz:f.1.size+1<=P.1.size:=by have:=aa.4;simpa using this
 have W:∀k,k<f.1.size->y? k≠O? U->P.1[k]?=f.1[k]?:=λk B ab=>by rw[aa.5 k j! ab,e! _ _ _ B]
 have hD:∀k,J k->P.1[k]?=f.1[k]?:=λk B=>W k (h.6 k B)<|λe=>h.4 k e.symm B;have O:=hc.stay hD;refine⟨⟨dH h.1<|λk B=>W k (h.1.lt k B).2<|λe=>?_,?_,h.3,λk B hd=>?_,h.5,λk B=>by have:=h.6 k B;omega,λi v mm Y V=>?_⟩,O⟩;obtain h1|h1:=jh h.1 h.2 d!
 rw[h1]at B;simp at B;exact h1 (by rw[B,e]);have e1:(x0++[x1]).length=l? x0+1:=i!;rwa[e1,iN];obtain hb|hb:=hb
 exact h.4 k (by rwa[<-hb]) hd;rw[hb]at B;simp only[m?]at B;have:=h.6 k hd;omega;by_cases hi:i<l? x0;rw[Zt hi]at V;exact(h.7 i v mm Y V).stay hD<|λ_ B=>B
 have On:i=l? x0:=by by_cases On:i<l? C;omega;rw[ZA o!]at Y;simp at Y
 subst On;rw[hu]at Y;simp at V;simp only[m?]at Y;subst V;subst Y;exact⟨o,Rd.eo O.1,O.2⟩
def dy.grown{row}(h:dy J f P)(B:(P.alloc x3).grownBy x7 row)(V:∀k,row=y? k->J k\/f.1.size<=k):dy J f x7:=by
 refine⟨B.1.trans h.1,B.2.trans h.2,B.3.trans h.3,?_,λk W O=>?_⟩;have:=B.4;have:=h.4;simp at *;omega;have Y:=h.4;rw[B.5 k j!<|λe=>?_,e! _ _ _ o!,h.5 k W O];obtain U|U:=V k e.symm
 exact O U;omega
def dy.setCell(h:dy J f P)(U:J g):dy J f<|P.setCell ⟨g,o,x?⟩ p:=by refine⟨h.1,h.2,h.3,by simp[pu];exact h.4,λk O B=>?_⟩;rw[ZH _ _ _ _<|λe=>B<|by rwa[e]];exact h.5 k O B
def yw{cs:V?}{t fz row}(h:f.1[g]?=y? (c? cs t fz))(O:(f.alloc x3).grownBy P row)(B:row≠y? g):P.1[g]?=y? (c? cs t fz):=by
 have J:g<f.1.size:=by by_cases J:g<f.1.size;exact J;rw[ZB o!]at h;simp at h
 rwa[O.5 g j!<|λe=>B e.symm,e! _ _ _ J]
def QK(xs:L?)(v)(k)(h:k<l? xs):(c5 k v++xs.drop k).set k v=c5 (k+1) v++xs.drop (k+1):=by rw[M? h,kc _ _ i!,kf,Zq,hM,op];rfl
def Xq:(prog.info? 9).map (λi=>(i.8,i.3,i.4))=y? (y?<|s? ⟨#[]⟩,1,16):=by kernel_rfl
structure KS(w0:w?)(G D0 Pl Pm:F?)(B:Nat)(va:v?)(lastv:Int)(m:Wd)(w:w?)(D:F?)(vl vm l:v?)(n:Nat)(us:L?)(ms:W?):Prop where
 heap:w.1[B]?=some (.cells #[va,vl,vm,.int .i64 lastv] 74 (0,0))
 lists:nk w D B vl vm us ms
 len:l? us=l? ms
 cur:Sc w D l n m
 kR:Grp l n m us ms
 frame:dy G w0 w
 gB:G B
 gl:∀k,O? vl=some k->Pl k\/w0.1.size<=k
 gm:∀k,O? vm=some k->Pm k\/w0.1.size<=k
 gx:∀k,O? l=some k->G k\/w0.1.size<=k
 pl:∀k,Pl k->G k
 pm:∀k,Pm k->G k
 dd:∀k,D k->D0 k\/w0.1.size<=k
def Vx(h:Grp p x2 x1 C x0)(O:l? C=l? x0)(ho:R? f o I 1 p x2 y5):Grp p x2 x1 (C++[p])<|x0++[x1]:=by
 intro i u J U V;by_cases hi:i<l? C;rw[Zt hi]at J;obtain⟨h1,h2⟩:=h i u J U V;exact⟨h1,λY B=>by rw[Zt o!]at B;exact h2 Y B⟩
 have On:i=l? C:=by by_cases On:i<(C++[p]).length;simp at On;omega;rw[ZA o!]at J;simp at J
 subst On;simp at J;subst J;constructor;obtain⟨rfl,_⟩|⟨g,cap,cur,rfl,_,_,hn,W,_⟩:=ho.2
 exact absurd q? U;exact⟨g,x2,cap,q?,Zu _,hn,W⟩;intro Y B;rw[O]at B;simp at B;exact B.symm
def KS.mid{lastv}(h:KS f J x8 y2 y3 g p lastv x1 P y4 U x4 x5 o C x0)(Y:R? x7 0 31 1 x9 (l? C+1)<|C++[x5])(B:(P.alloc x3).grownBy x7<|O? U)
  (aa:O? x9=O? U\/O? x9=y? (P.1.size+1)) :
  x7.1[g]?=y? (c? #[p,U,x4,n? i? lastv] 74 (0,0))/\nk (x7.setCell ⟨g,1,x?⟩ x9) y4 g x9 x4 (C++[x5]) x0/\Sc (x7.setCell ⟨g,1,x?⟩ x9) y4 x5 o x1/\dy J f (x7.setCell ⟨g,1,x?⟩ x9):=by
 have O:=yw h.1 B<|fD h.1 h.2.1 d!
 have V:=h.4.stay (λk W=>by rw[B.5 k (by have:=h.2.6 k W;simp;omega)<|λe=>h.2.3 k e.symm W,e! _ _ _<|h.2.6 k W])
 have ab:=h.6.grown B (λk W=>by
  obtain h1|h1:=h.8 k W
  exact .inl (h.pl k h1)
  exact .inr h1)
 exact⟨O,tK (Ll h.2 h.3 Y B aa) O,EP V h.2.5,ab.setCell h.7⟩
def KS.push{lastv}(h:KS f J x8 y2 y3 g p lastv x1 P y4 U x4 x5 o C x0){vm1 o'}(af:R? x7 0 31 1 x9 (l? C+1)<|C++[x5])(Y:(P.alloc x3).grownBy x7<|O? U)
  (aa:O? x9=O? U\/O? x9=y? (P.1.size+1))
  (ag:R? w' 0 9 1 vm1 (l? x0+1)<|du x0++[nZ x1]) (O:((x7.setCell ⟨g,1,x?⟩ x9).alloc o').grownBy w'<|O? x4) (ah:O? vm1=O? x4\/O? vm1=y? (x7.1.size+1)) :
  w'.1[g]?=y? (c? #[p,x9,x4,n? i? lastv] 74 (0,0))/\KS f J x8 y2 y3 g p lastv x1 (w'.setCell ⟨g,2,x?⟩ vm1) y4 x9 vm1 x5 o (C++[x5]) (x0++[x1]):=by
 obtain⟨ai,ab,aj,ac⟩:=h.mid af Y aa;have ak:(x7.setCell ⟨g,1,x?⟩ x9).1.size=x7.1.size:=by simp[pu]
 have an:=h.6.4;have ad:(x7.setCell ⟨g,1,x?⟩ x9).1[g]?=y? (c? #[p,x9,x4,n? i? lastv] 74 (0,0)):=by rw[heap_set ai];rfl
 have V:=yw ad O<|fD ad ab.2 d!;let ⟨al,am⟩:=Nt ab (by simp[h.3]) (by rw[<-h.3];simp) aj ag O (by rwa[ak])
 have ae:=ac.grown O (λk W=>by
  obtain B|B:=h.9 k W
  exact .inl (h.pm k B)
  exact .inr B)
 have ao:=by have:=Y.4;simpa using this
 refine⟨V,?_,tK al V,by simp[h.3],EP am h.2.5,Vx h.5 h.3 h.4.1,ae.setCell h.7,h.7,?_,?_,h.gx,h.pl,h.pm,h.dd⟩;rw[heap_set V];rfl;intro k W;obtain B|B:=aa
 exact h.8 k (by rwa[<-B]);rw[B]at W;simp only[m?]at W;exact .inr o!;intro k W;obtain B|B:=ah
 exact h.9 k (by rwa[<-B]);rw[B]at W;simp only[m?]at W;exact .inr o!
def KS.more{B}(h:KS f J x8 y2 y3 g p B x1 P y4 U x4 x5 o C x0)(ho:R? x7 0 9 1 x9 (o+1)<|c5 o (nZ x1)++[nZ x1])(O:(P.alloc x3).grownBy x7<|O? x5)
  (hb:O? x9=O? x5\/(O? x9=y? (P.1.size+1)/\Below (P.1.size+1) (P.alloc x3) x7)) :
  ∃Y,KS f J x8 y2 y3 g p B x1 x7 Y U x4 x9 (o+1) C x0:=by
 have aa:g<P.1.size:=by by_cases hB:g<P.1.size;exact hB;have:=h.1;rw[ZB o!]at this;simp at this
 have ad:=h.6.4;have ab:(P.alloc x3).1.size=P.1.size+1:=i!;let ⟨Y,hL,hC,hG,ae,ac⟩:=L0 h.2 h.4 h.5 aa h.3 ho O (by rwa[ab]) rfl;refine⟨Y,yw h.1 O<|fD h.1 h.4.1 d!,hL,h.3,hC,hG,h.6.grown O h.gx,h.7,h.8,h.9,?_,h.pl,h.pm,?_⟩;intro k W;obtain V|⟨V,_⟩:=hb
 exact h.gx k (by rwa[<-V]);rw[V]at W;simp only[m?]at W;exact .inr o!;intro k W;obtain V|V:=ac k W
 exact h.dd k V;exact .inr o!
def SY(B)(D:F?)(va vl vm l)(us:L?)(ms:W?)(last n:Nat)(xs:L?)(w)
  (hB:w.1[B]?=y? (c? #[va,vl,vm,n? i? last] 74 (0,0))) (hL:nk w D B vl vm us ms) (aw:l? us=l? ms)
  (hl:R? w 0 9 1 l n xs) (a8:∀k,l.ownBlock=y? k->¬D k) (a9:∀k,l.ownBlock=y? k->vm.ownBlock≠y? k)
  (bI:last<=1073741824) (bJ:l? us<=17179869184) (bK:n<=1000) :
  lw prog 113 #[p?<|y? ⟨B,0,x?⟩,l] w λe w'=>e=e? (.tuple #[])/\∃(D':F?)(ad ae:v?)(Y:L?)(ab:W?),
   w'.1[B]?=y? (c? #[va,ad,ae,n? i? (last+1:Nat)] 74 (0,0))/\nk w' D' B ad ae Y ab/\l? Y=l? ab/\l? Y=l? us+9/\
   dy (λk=>k=B\/vl.ownBlock=y? k\/vm.ownBlock=y? k\/l.ownBlock=y? k) w w'/\(∀k,D' k->D k\/l.ownBlock=y? k\/w.1.size<=k)/\
   (∀k,ad.ownBlock=y? k->vl.ownBlock=y? k\/w.1.size<=k)/\(∀k,ae.ownBlock=y? k->vm.ownBlock=y? k\/w.1.size<=k):=by
 obtain⟨i0,hi,a',aA,aB⟩:=Zz Xq;obtain⟨i8,aO,aP,aQ,aR⟩:=Zz Tj;have h3:=dx hB 3;have bo:=dO hB 3;obtain⟨al,cl,rfl,kO⟩:=dC hl;have ao:=fD hB hl d!;have HB:=h! hB;clear hB;go_enter func113,ntmps113;go_wp2_with fail;obtain⟨G,hG⟩:∃G:Nat->Prop,G=λk=>k=B\/vl.ownBlock=y? k\/vm.ownBlock=y? k\/(Value.slice al n cl).ownBlock=y? k:=⟨_,q?⟩;have aS:G B:=by rw[hG];exact .inl rfl
 have aT:∀k,vl.ownBlock=y? k->G k:=λk hk=>by rw[hG];exact .inr (.inl hk)
 have aU:∀k,vm.ownBlock=y? k->G k:=λk hk=>by rw[hG];exact .inr (.inr<|.inl hk)
 have aC:∀k,(Value.slice al n cl).ownBlock=y? k->G k:=λk hk=>by rw[hG];exact .inr (.inr<|.inr hk)
 have HG:=h! hG;clear hG;have ap:(w.setCell ⟨B,3,x?⟩<|n? i?<|(last:Int)+1).1[B]?=y? (c? #[va,vl,vm,n? i?<|(last:Int)+1] 74 (0,0)):=by rw[heap_set HB.o];rfl
 have ag:=tK (o:=3) (v:=n? i?<|last+1) hL HB;have aq:R? (w.setCell ⟨B,3,x?⟩<|n? i?<|last+1) 0 9 1 _ n xs:=jR hl _ _ ao;have az:dy G w<|w.setCell ⟨B,3,x?⟩<|n? i?<|last+1:=(dy.refl G w).setCell aS;generalize w.setCell ⟨B,3,x?⟩ (n? i?<|(last:Int)+1)=W1 at *;clear hL hl HB h3 bo;have bp:=dx ap 3;go_loop [4,5] (λv i=>∃(k:Nat)(s:b?),k<=last+1/\i=n? i? k/\v=s? s/\s.size=4+k) (λ_ i=>last+1-(intOf i).toNat);exact⟨0,_,ZP _,q?,q?,q?⟩;obtain⟨k,s,hk,rfl,rfl,aV⟩:=hrel;have HS:=h! aV;have bq:s.size<=4294967296:=o!;clear aV;by_cases aD:k<last+1
 .go_wp2;go_round
  .refine⟨k+1,_,o!,by go_num,q?,?_⟩;have:=HS.o;go_light;rw[z5];show s.size+1=_;omega
  exact M!
 have br:k=last+1:=o!;subst br;clear aD hk HS;have aW:s=⟨a? s.1.1⟩:=by apply z4;simp
 rw[aW];generalize s.1.1=m at *;clear aW bq;have bL:l? xs=n:=by have:=aq.1;omega
 go_wp2_with fail;go_loopw [6] (λi wr=>∃k:Nat,k<=n/\i=n? i? k/\R? wr 0 9 1 (.slice al n cl) n (c5 k (nZ m)++xs.drop k)/\dy (λq=>(Value.slice al n cl).ownBlock=y? q) W1 wr) (λi _=>n-(intOf i).toNat);exact⟨0,ZP _,q?,u! aq,dy.refl _ _⟩;obtain⟨k,hk,rfl,ah,ac⟩:=hrel;by_cases aD:k<n
 .obtain⟨bl,ol,rfl,a4⟩:=eM ah k xs[k] (by rw[K? i!];simp)
  have bs:ol=0:=by
   obtain⟨he,_⟩|⟨g',b8,b9,he,_⟩:=ah.2
   simp at he;simp only[y6,m?,O!]at he;exact he.1.2.1
  subst bs;rw[ZD]at a4;have bM:=mB ah k;have aX:=rF ah k (nZ m) aD
  have HX:J?<|(c5 k (nZ m)++xs.drop k).set k (nZ m)=c5 (k+1) (nZ m)++xs.drop (k+1):=by exact QK xs _ k o!
  rw[HX.o]at aX;have bt:dy _ W1<|wr.setCell ⟨bl,k,x?⟩<|nZ m:=ac.setCell rfl;go_wp2;go_roundw
  .exact⟨k+1,o!,by go_num,aX,bt⟩
  exact M!
 have bu:k=n:=o!;subst bu
 have ar:R? wr 0 9 1 (.slice al k cl) k<|c5 k<|nZ m:=by
  have e:c5 k (nZ m)++xs.drop k=c5 k (nZ m):=by rw[List.drop_eq_nil_of_le o!];simp
  rwa[e]at ah
 have W:=ag.stay ac.4 (λq O=>ac.5 q (ag.6 q O)<|λe=>a8 q e O)
  (λq O=>ac.5 q (ag.1.lt q O).2 (λe=>by
    obtain h1|h1:=jh aq ag.1 d!
    rw[h1]at e;simp at e
    exact h1<|by rw[e,O]))
  (λq O=>ac.5 q (ag.2.lt q O).2<|λe=>a9 q e O)
 have aY:B<W1.1.size:=by by_cases hB:B<W1.1.size;exact hB;rw[ZB o!]at ap;simp at ap
 have aE:wr.1[B]?=y? (c? #[va,vl,vm,n? i?<|(last:Int)+1] 74 (0,0)):=by rwa[ac.5 B aY ao]
 have a5:=az.trans ac<|λq _ O=>aC q O
 obtain⟨D1,aZ,ba,bc,bd⟩:∃D1:Nat->Prop,nk wr D1 B vl vm us ms/\Sc wr D1 (.slice al k cl) k m/\(∀q,D1 q->D q\/(Value.slice al k cl).ownBlock=y? q)/\Grp (.slice al k cl) k m us ms:=by
  refine⟨λq=>D q\/(Value.slice al k cl).ownBlock=y? q,⟨W.1,W.2,?_,?_,?_,?_,?_⟩,⟨ar,λq O=>Or.inr O⟩,λq O=>O,?_⟩;intro q O U;obtain U|U:=U
  exact W.3 q O U;obtain h1|h1:=jh ar W.1 d!
  rw[h1]at U;simp at U;exact h1 (by rw[U,O]);intro q O U;obtain U|U:=U
  exact W.4 q O U;exact a9 q U O;intro U;obtain U|U:=U
  exact W.5 U;exact ao U;intro q U;obtain U|U:=U
  exact W.6 q U;exact(ar.lt q U).2;intro i u mm hu bv;exact(W.7 i u mm hu bv).stay (λ_ _=>rfl)<|λ_ hk=>Or.inl hk;intro i u hu bw b4;exfalso
  have be:i<l? us:=by by_cases be:i<l? us;exact be;rw[ZA o!]at hu;simp at hu
  let ⟨_,_,hf⟩:=W.7 i u ms[i] hu<|BY _
  cases aF:u.ownBlock with
  |none=>exact bw aF|some q=>exact a8 q (by rw[<-b4,aF])<|hf q aF
 have HK:J?<|KS w G _ _ _ B va _ m wr D1 vl vm _ k us ms:=
  ⟨aE,aZ,aw,ba,bd,a5,aS,λq O=>Or.inl O,λq O=>Or.inl O,λq O=>Or.inl<|aC q O,aT,aU,λq O=>Or.inl<|bc q O⟩
 clear W ag aq ah ac az ap bp ar a8 a9 ao aZ ba bc bd a5 aT aU aC aw;have aG:=dx aE 1;clear aE;go_wp2_with (at_builtin;go_must (refine dU _ q? _ _ 72 q? 0 31 i8 _ 24 rv aO aP aQ aR q? _ _ _ q? (HK.2.1.alloc _) _ [.slice al k cl] q? ?a0 ?a00 ?a1 ?a2 ?a3 ?_))
 case a0=>go_light;exact Rd.one<|jn q?
 case a00=>intro u hu;simp at hu;subst hu;rfl
 case a1=>simp;omega
 case a2=>simp[ls];omega
 case a3=>exact ZP _
 intro b5 w3 au aH aI;obtain⟨bN,bO,rfl,a4⟩:=dC au;have J:=HK.mid au aH aI;have ai:=dx J.1 1;have aj:=dO J.1 1;have ak:=dx J.1 2;have am:=J.2.1.2;have af:l? ms<=17179869184:=by have:=HK.3;omega
 clear J aG;go_wp2_with (at_builtin;go_must (refine dU _ q? _ _ 31 q? 0 9 i0 _ 16 q7 hi a' aA aB q? _ _ _ q? (am.alloc _) _ [nZ m] q? ?b0 ?b00 ?b1 ?b2 ?b3 ?_))
 case b0=>go_light;exact Rd.one<|jn i!
 case b00=>intro u hu;simp at hu;subst hu;rfl
 case b1=>simp;omega
 case b2=>simp[ls];omega
 case b3=>exact ZP _
 intro bP w5 aJ bf bg;obtain⟨bQ,bR,rfl,b'⟩:=dC aJ;have aa:=HK.push au aH aI aJ bf bg;have bA:=dx aa.1 2;have bB:=dO aa.1 2;have bh:=aa.2;have a6:J?<|KS w G _ (λq=>vl.ownBlock=y? q) _ B va ((last:Int)+1) m _ D1 _ _ (.slice al k cl) k (us++[.slice al k cl])<|ms++[m]:=bh;clear aa bh HK am af au aH aI aJ bf bg ai aj ak;go_wp2_with fail;go_loopw [1,7] (λl' i wx=>∃(j:Nat)(D':F?)(ad ae:v?)(Y:L?)(ab:W?),j<=8/\i=n? i? j/\l? Y=l? us+1+j/\KS w G (λq=>D q\/(Value.slice al k cl).ownBlock=y? q) (λq=>vl.ownBlock=y? q) (λq=>vm.ownBlock=y? q) B va ((last:Int)+1) m wx D' ad ae l' (k+j) Y ab) (λ_ i _=>8-(intOf i).toNat);exact⟨0,D1,_,_,_,_,ZP _,q?,i!,a6⟩;obtain⟨j,D',ad,ae,Y,ab,hj,rfl,bi,V⟩:=hrel;obtain⟨ax,cx,rfl,bS⟩:=dC V.4.1;have HU:=h! bi;have bC:l? Y<=17179869193:=o!;clear bi;by_cases bD:j<8
 .have HK:=h! V;have a7:=V.4.1;clear V a6;go_wp2_with (at_builtin;go_must (refine xk _ q? _ _ 31 q? 0 9 i0 _ 16 q7 hi a' aA aB q? _ _ _ q? (a7.alloc _) _ [nZ m] q? ?e0 ?e00 ?e1 ?e2 ?e3 ?_))
  case e0=>go_light;exact Rd.one<|jn q?
  case e00=>intro u hu;simp at hu;subst hu;rfl
  case e1=>simp;omega
  case e2=>simp[ls];omega
  case e3=>exact ZP _
  intro lx bT aK bj bk;obtain⟨D2,an⟩:=HK.more aK bj bk;obtain⟨ay,cy,rfl,bU⟩:=dC aK;clear HK a7 aK bj bk;have aG:=dx an.1 1;have HK:=h! an;clear an;go_wp2_with (at_builtin;go_must (refine dU _ q? _ _ 72 q? 0 31 i8 _ 24 rv aO aP aQ aR q? _ _ _ q? (HK.2.1.alloc _) _ [.slice ay (k+j+1) cy] q? ?f0 ?f00 ?f1 ?f2 ?f3 ?_))
  case f0=>go_light;exact Rd.one<|jn q?
  case f00=>intro u hu;simp at hu;subst hu;rfl
  case f1=>simp;omega
  case f2=>simp[ls];omega
  case f3=>exact ZP _
  intro b5 w6 av aL aM;obtain⟨bV,bW,rfl,bE⟩:=dC av;have J:=HK.mid av aL aM;have ai:=dx J.1 1;have aj:=dO J.1 1;have ak:=dx J.1 2;have am:=J.2.1.2;have af:l? ab<=17179869193:=by have:=HK.3;omega
  clear J aG;go_wp2_with (at_builtin;go_must (refine dU _ q? _ _ 31 q? 0 9 i0 _ 16 q7 hi a' aA aB q? _ _ _ q? (am.alloc _) _ [nZ m] q? ?g0 ?g00 ?g1 ?g2 ?g3 ?_))
  case g0=>go_light;exact Rd.one<|jn i!
  case g00=>intro u hu;simp at hu;subst hu;rfl
  case g1=>simp;omega
  case g2=>simp[ls];omega
  case g3=>exact ZP _
  intro bX w7 aN bm bn;obtain⟨bY,bZ,rfl,bF⟩:=dC aN;have aa:=HK.push av aL aM aN bm bn;have bG:=dx aa.1 2;have bH:=dO aa.1 2;have b6:J?<|KS w G _ _ _ B va _ m _ D2 _ _ _ _ _<|ab++[m]:=aa.2;clear aa HK am af av aL aM aN bm bn ai aj ak;go_wp2;go_roundw
  .exact⟨j+1,D2,_,_,_,_,o!,by go_num,by have:=HU.o;simp;omega,b6⟩
  exact M!
 have b7:j=8:=o!;subst b7;go_wp2;go_end0;refine⟨q?,D',ad,ae,Y,ab,?_,V.2,V.3,?_,?_,?_,V.8,V.9⟩;have:=V.1;simpa using this;have:=HU.o;omega;have:=V.6;rwa[HG.o]at this;intro q O;rcases V.dd q O with(h1|h1)|h1
 exact .inl h1;exact .inr (.inl h1);exact .inr (.inr h1)
def Ew(c:Int)(n:Nat):Nat:=((if c<0 then -(c+1)else c) % (n:Int)).toNat
def Jf(c)(n)(h:0<n):Ew c n<n:=by unfold Ew;have B:0<=(if c<0 then -(c+1)else c) % n:=Int.emod_nonneg _ o!;have J:(if c<0 then -(c+1)else c) % n<n:=Int.emod_lt_of_pos _ o!;omega
def Ux(c)(n:Nat)(w)(O : -9223372036854775808<=c)(U:c<=9223372036854775807)(V:0<n)(W:n<=1000000) :
  lw prog 75 #[n? i? c,n? i? n] w λe w'=>e=e? (n? i?<|Ew c n)/\w=w':=by
 have hp:=Jf c n V
 have B:J?<|(Ew c n:Int)=(if c<0 then -(c+1)else c) % (n:Int):=by show _=_;unfold Ew;have h1:0<=(if c<0 then -(c+1)else c) % n:=Int.emod_nonneg _ o!;omega
 have Y:((n:Int)==0)=f?:=j!;by_cases J:c<0
 .go_enter func75,ntmps75;go_wp2;go_ret;refine⟨dQ ?_,q?⟩;rw[B.o,if_pos o!,<-Int.neg_tmod,Int.tmod_eq_emod_of_nonneg o!]
 go_enter func75,ntmps75;go_wp2;go_ret;refine⟨dQ ?_,q?⟩;rw[B.o,if_neg o!]
def uR(c)(w):lw prog 104 #[n? i? c] w λe w'=>e=e? (n? i? c)/\w=w':=by go_enter func104,ntmps104;go_wp2;go_ret;exact⟨q?,q?⟩
def JU(va vb)(l:W?)(w)(W:Rd w va<|du l)(hb:Rd w vb<|du l)(_hl:l? l<=1000000) :
  lw prog 112 #[va,vb] w λe w'=>e=e? (.bool t?)/\∃n,w'=w.drewN n:=by
 obtain⟨aa,ca,rfl,U,hma,B⟩:=W;obtain⟨ab,cb,rfl,V,hmb,J⟩:=hb;rw[dz]at U V⊢;unfold ls at hma hmb;have Y:=h! B;have HB:=h! J;clear B J;go_enter func112,ntmps112;go_wp2;go_loopw [5] (λi wr=>∃k m:Nat,k<=l? l/\i=n? i? k/\wr=w.drewN m) (λi _=>l? l-(intOf i).toNat);exact⟨0,0,ZP _,q?,q?⟩;obtain⟨k,m,hk,rfl,rfl⟩:=hrel;by_cases O:k<l? l
 .obtain⟨b1,o1,rfl,ac⟩:=Y.o k _<|fI l k O;obtain⟨b2,o2,rfl,ad⟩:=HB.o k _<|fI l k O;go_wp2_with fail;go_quiet (fail);go_wp2;go_roundw
  .exact⟨k+1,_,o!,by go_num,q?⟩
  exact M!
 go_wp2;go_ret;exact⟨q?,_,q?⟩
def oO(B:List<|W?)(s:List UInt8)(most:Int):W?×Nat:=
 if most<1\/20<most then([],3)else if eh s=t? then(gN B (eR<|dP s) most.toNat,0)else([],2)
def Qg(w:w?):Prop:=C? w ⟨0,0,x?⟩=y? (n? .u64 4)/\C? w ⟨0,1,x?⟩=y? (n? .u64 10)/\C? w ⟨0,2,x?⟩=y? (n? .u64 25)
def Qg.below{w}(h:Qg w)(hb:B? w f):Qg f:=⟨Z0 hb h.1,Z0 hb h.2.1,Z0 hb h.2.2⟩
def P'(B):∀(n)(told),(oW B told n).length<=n:=by
 intro n;induction n with
 |zero=>simp[oW]|succ n J=>intro told;unfold oW;split;simp;rename_i b _;have:=J<|told.set b t?;simp only[w!];omega
def F6(B:List<|W?)(l:W?)(most):(gN B l most).length<=most:=by unfold gN;rw[Z5];have:=P' (abL B l) (min most (eP B).length)<|c5 (eP B).length f?;omega
def Uk(B:List<|W?)(s)(most):(oO B s most).1.length<=20:=by unfold oO;split;simp;split;have:=F6 B (eR<|dP s) most.toNat;simp only;omega;simp
def LB(F:F?)(b)(vB vS)(B:List<|W?)(s:b?)(w:w?)(hF:∀k,F k->k<w.1.size)(J:An w F b vB vS B)(O:s.size<=ls)(hB:eK B<=16777216) :
  lw prog 114 #[p?<|y? ⟨b,0,x?⟩,s? s] w λe w'=>e=e? (n? i? (ml B s.1.1).1)/\
   An w' (iJ F w w') b vB vS (ml B s.1.1).2/\dy F w w':=by
 by_cases h:eh s.1.1=t?/\s.1.1≠[];exact DE F b vB vS B s w hF J h.1 h.2 o!;have e:ml B s.1.1=(2,B):=by unfold ml;rw[if_neg h]
 rw[e];apply g!<|C4 b s w O h;refine⟨q?,?_,dy.refl ..⟩;obtain⟨U,V,W,Y⟩:=J;exact⟨U,V,.inl W,Y.stay (λ_ _=>rfl)<|λ_ hk=>Or.inl hk⟩
def NJ(F:F?)(b)(vB vS)(B:List<|W?)(s:b?)(most)(w)(U:An w F b vB vS B)(V:s.size<=ls)(W:eK B<=16777216) :
  lw prog 115 #[p?<|y? ⟨b,0,x?⟩,s? s,n? i? most] w λe w'=>∃v,e=e? (.tuple #[v,n? i? (oO B s.1.1 most).2])/\
   R? w' w.1.size 9 1 v (oO B s.1.1 most).1.length (du (oO B s.1.1 most).1)/\B? w w':=by
 obtain⟨Y,O,aa,hT⟩:=U;by_cases h:most<1\/20<most;have e:oO B s.1.1 most=([],3):=by unfold oO;rw[if_pos h]
 rw[e];apply g!<|Di b s most w h;exact⟨_,q?,Z9 _ _ _ _,qr _ _⟩;by_cases J:eh s.1.1=t?;obtain⟨m,rfl⟩:∃m:Nat,most=m:=⟨most.toNat,o!⟩;have e:oO B s.1.1 (m:Int)=(gN B (eR<|dP s.1.1) m,0):=by unfold oO;rw[if_neg h,if_pos J];rfl
 rw[e];exact DC b Y B s m w o! o! J (dx O 2) hT.reads W;have e:oO B s.1.1 most=([],2):=by unfold oO;rw[if_neg h,if_neg J]
 rw[e];apply g!<|Ao b s most w o! o! V<|u! J;exact⟨_,q?,Z9 _ _ _ _,qr _ _⟩
def wH(w){ops rest}{o:Oper}{a:Act}{Q}(af:o.6=x?)(s x)(t)
  (ho:o.2=.call {callee:=.builtin .append,args:=#[s,x],argTypes:=#[t,t]})
  (base) (e) (i) (z) (size bytes) (ht:x6.underlying t=y? (.slice e)) (hi:x6.info? e=y? i) (hz:i.8=y? z)
  (B:i.3=size) (aa:i.4=bytes) (ag:z.cells.size=size) (ah:0<size)
  (v) (n) (xs:L?) (hs:a.eval s=v) (U:R? w base e size v n xs)
  (ad) (m c) (news:L?) (hx:a.eval x=.slice (y? ad) m c) (hl:l? news=m*size) (hm:0<m) (J:∀j u,news[j]?=y? u->C? w (ad.add j)=y? u) (h1:∀u∈news,u.oneCell'=t?)
  (ab:n+m<=ls) (O:(n+m)*bytes<=140737488355328) (ac:base<=w.1.size)
  (h:∀v' w',R? w' base e size v' (n+m) (xs++news)->w.grownBy w' (O? v)->(O? v'=O? v\/O? v'=y? w.1.size)->l1 x6 ops Q rest (a.put o.1 v') w'):l1 x6 ops Q (o::rest) a w:=by
 refine ZW af λ_ hK=>?_;obtain⟨v',w',W,h2,h3,h4⟩:=l3 (P:=x6) w base t _ e i z size bytes ht hi hz B aa ag ah v n xs U ad m c news hl J h1 ab O ac
 have ae:O? v'=O? v\/O? v'=y? w.1.size:=by
  have Y:l? news=m*i.3:=by rwa[B]
  obtain⟨rfl,rfl⟩|⟨g,cap,cur,rfl,ak,hg,al,am,ai,aj⟩:=U.2
  rw[mv w t o.3 e i z ht hi hz ad m c news Y J hm (by simp only[ls]at ab;omega) (by rw[aa];simp only[ZD]at O;omega)]at W;simp only[uc]at W;exact .inr (by rw[<-W.1];rfl);by_cases V:n+m<=cap;rw[mp w t o.3 e i ht hi g n cap cur hg ad m c news Y J h1 V (by rw[Y,ai,B,<-o7];exact IN _ V)]at W;simp only[uc]at W;exact .inl (by rw[<-W.1];rfl);rw[mr w t o.3 e i z ht hi hz _ n cap xs (by rw[B];exact U.1) (U.cells (g:=g) q?) ad m c news Y J o! (by simp only[ls]at ab;omega) (by rw[aa];exact mx o! O)]at W;simp only[uc]at W;exact .inr (by rw[<-W.1];rfl)
 unfold z3 mi;simp only[ho,m5,invoke,builtin,wo,wn,ut,fd,ZK,ZU,hs,hx,W];exact hK _ _<|h v' w' h2 h3 ae
def dJ(h:R? f o I x2 p y0 C)(hb:∀k,O? p=y? k->P.1[k]?=f.1[k]?):R? P o I x2 p y0 C:=by
 obtain⟨O,B⟩:=h;refine⟨O,?_⟩;obtain B|⟨g,cap,cur,rfl,J,U,r⟩:=B
 exact .inl B;exact .inr ⟨g,cap,cur,q?,J,by rwa[hb g rfl],r⟩
def fX{s2 n1 n2}(h1:R? f o x2 y1 p n1 C)(h2:R? f I y0 s2 U n2 y5)(V:x2≠y0)(k)(B:O? p=y? k)(J:O? U=y? k):False:=by
 obtain⟨rfl,_⟩|⟨g,cap,cur,rfl,_,W,_⟩:=h1.2
 simp[u']at B;obtain⟨rfl,_⟩|⟨g2,Y,aa,rfl,_,O,_⟩:=h2.2
 simp[u']at J;simp only[u',m?]at B J;rw[B]at W;rw[J,W]at O;simp only[m?,z9]at O;exact V O.2.1
def fC{b}{cs:V?}{t fz}(h:f.1[b]?=y? (c? cs t fz))(U:R? f o I x2 p y0 C)(B:t≠I):O? p≠y? b:=by
 obtain⟨rfl,_⟩|⟨g,cap,cur,rfl,_,J,_⟩:=U.2
 simp[u'];intro O;simp only[u',m?]at O;rw[O,h]at J;simp only[m?,z9]at J;exact B J.2.1
def dK(h:R? f o I x2 p y0 C):∃a cap,p=.slice a y0 cap/\y0<=cap:=by
 obtain⟨rfl,rfl⟩|⟨g,cap,cur,rfl,_,_,B,_⟩:=h.2
 exact⟨x?,0,q?,Zu _⟩;exact⟨_,cap,q?,B⟩
def jB(w:w?)(s:Nat)(v:v?)(n:Nat)(xs:L?):Prop:=
 ∃a cap,v=.slice a n cap/\n<=cap/\cap<=ls/\l? xs=n*s/\∀j u,xs[j]?=y? u->∃b off,a=y? ⟨b,off,x?⟩/\C? w ⟨b,off+j,x?⟩=y? u
def jB.eo(h:R? f o I x2 p y0 C):jB f x2 p y0 C:=by
 let ⟨J,h⟩:=h;obtain⟨rfl,rfl⟩|⟨g,cap,cur,rfl,_,Y,O,B,U,V⟩:=h
 have:=ex<|u! J;subst this;exact⟨x?,0,q?,Zu _,o!,i!,i!⟩;refine⟨y? _,cap,q?,O,B,J,λj u W=>⟨g,0,q?,?_⟩⟩;have:=(h).cells (g:=g) q? j u W;rwa [wh]at this
def jB.nil(w)(s):jB w s (.slice x? 0 0) 0 []:=⟨x?,0,q?,Zu _,o!,i!,i!⟩
def jB.later(h:jB f g p o C)(J:∀a u,C? f a=y? u->C? P a=y? u):jB P g p o C:=by obtain⟨a,cap,O,U,V,W,Y⟩:=h;refine⟨a,cap,O,U,V,W,λj u hj=>?_⟩;obtain⟨b,off,e,B⟩:=Y j u hj;exact⟨b,off,e,J _ _ B⟩
def jB.below{w}(h:jB w g p o C)(hb:B? w f):jB f g p o C:=h.later λ_ _ B=>Z0 hb B
def jB.take{a}(h:jB f g (.slice a o I) o C)(k)(O:k<=o):jB f g (.slice a k I) k<|C.take<|k*g:=by obtain⟨a',J,U,h1,V,hl,W⟩:=h;obtain⟨rfl,_,rfl⟩:=U;have Y:k*g<=o*g:=IN _ O;refine⟨a,I,q?,o!,V,j!,λj u B=>W j u ?_⟩;rw[Zi]at B;split at B;exact B;simp at B
def jB.Xr{b}(h:jB f g (.slice (y? ⟨b,x2,x?⟩) o I) o C)(k)(Y:k<=o):jB f g (.slice (y? ⟨b,x2+k*g,x?⟩) (o-k)<|I-k) (o-k)<|C.drop<|k*g:=by obtain⟨a',B,U,h1,h2,V,W⟩:=h;obtain⟨rfl,_,rfl⟩:=U;refine⟨_,I-k,q?,o!,o!,by rw[u?,V,Nat.sub_mul],λj u J=>⟨b,x2+k*g,q?,?_⟩⟩;rw[i1]at J;obtain⟨b',O,e,hc⟩:=W _ u J;obtain⟨rfl,rfl,_⟩:=e;rwa[nU]
def jB.empty{a c}(B:o=0)(J:c<=ls):jB f g (.slice a o c) o []:=by subst B;exact⟨a,c,q?,ZP _,J,i!,i!⟩
def sL(w)(base)(t ty e)(i)(z)(size bytes)(ht:x6.underlying t=y? (.slice e))(hi:x6.info? e=y? i)(hz:i.8=y? z)
  (J:i.3=size) (ab:i.4=bytes) (ak:z.cells.size=size) (ag:0<size)
  (v) (n) (xs:L?) (B:R? w base e size v n xs)
  (x) (m) (news:L?) (hx:jB w size x m news) (h1:∀u∈news,u.oneCell'=t?)
  (O:(n+m)*bytes<=140737488355328) (ac:n+m<=ls) (ae:base<=w.1.size) :
  ∃v' w',(vA #[t,t] ty #[v,x]).run x6 w=.ok v' w'/\R? w' base e size v' (n+m) (xs++news)/\w.grownBy w' (O? v)/\(O? v'=O? v\/(O? v'=y? w.1.size/\Below w.1.size w w')):=by
 obtain⟨a,cap,rfl,hc,hm,hl,ah⟩:=hx;by_cases al:m=0;subst al;have hn:=ex<|u! hl;subst hn;obtain⟨b,c,rfl,af⟩:=dK B
 have V:(vA #[t,t] ty #[.slice b n c,.slice a 0 cap]).run x6 w=.ok (.slice b n c) w:=by
  cases a with
  |none=>exact kB w t ty e i ht hi b n c cap af|some ad=>cases b<;>simp[vA,l0 ht,sizeOf,typeInfo,hi,vM,vL,af,nl,loadCells,loadCellsFrom]
 exact⟨_,w,V,u! B,World.grownBy.refl _ _,.inl q?⟩;have ai:0<l? news:=by rw[hl];exact o6 o! ag
 let ⟨b,off,ha,_⟩:=ah 0 _<|BY ai;subst ha
 have U:∀j u,news[j]?=y? u->C? w ((⟨b,off,x?⟩:Addr).add j)=y? u:=by intro j u hj;obtain⟨b',ap,he,am⟩:=ah j u hj;simp only[m?,O!]at he;obtain⟨rfl,rfl,_⟩:=he;rwa[wh]
 let ⟨v',w',V,h2,h3,_⟩:=l3 w base t ty e i z size bytes ht hi hz J ab ak ag v n xs B _ m cap news hl U h1 ac O ae;refine⟨v',w',V,h2,h3,?_⟩;have aa:l? news=m*i.3:=by rwa[J]
 obtain⟨rfl,rfl⟩|⟨g,c,cur,rfl,aq,hg,af,ar,an,ao⟩:=B.2
 have W:=mv w t ty e i z ht hi hz _ m cap news aa U o! (by simp only[ls]at ac;omega) (by rw[ab];simp only[ZD]at O;omega);rw[W]at V;simp only[uc]at V;exact .inr ⟨by rw[<-V.1];rfl,by rw[<-V.2];exact((qr _ _).drew).alloc (Zu _) _⟩;by_cases Y:n+m<=c;have aj:n*i.3+l? news<=cur.size:=by rw[aa,an,J,<-o7];exact IN _ Y
 have W:=mp w t ty e i ht hi g n c cur hg _ m cap news aa U h1 Y aj;rw[W]at V;simp only[uc]at V;exact .inl (by rw[<-V.1];rfl);have holds:=B.cells (g:=g) rfl;have W:=mr w t ty e i z ht hi hz _ n c xs (by rw[J];exact B.1) holds _ m cap news aa U o! (by simp only[ls]at ac;omega) (by rw[ab];exact mx o! O);rw[W]at V;simp only[uc]at V;exact .inr ⟨by rw[<-V.1];rfl,by rw[<-V.2];exact((qr _ _).drew).alloc (Zu _) _⟩
def gE(w){ops rest}{o:Oper}{a:Act}{Q}(W:o.6=x?)(s x)(t)
  (ho:o.2=.call {callee:=.builtin .append,args:=#[s,x],argTypes:=#[t,t]})
  (base) (e) (i) (z) (size bytes) (ht:x6.underlying t=y? (.slice e)) (hi:x6.info? e=y? i) (hz:i.8=y? z)
  (J:i.3=size) (Y:i.4=bytes) (aa:z.cells.size=size) (ab:0<size)
  (v) (n) (xs:L?) (hs:a.eval s=v) (V:R? w base e size v n xs)
  (y) (m) (news:L?) (hx:a.eval x=y) (hy:jB w size y m news) (h1:∀u∈news,u.oneCell'=t?)
  (B:(n+m)*bytes<=140737488355328) (ac:n+m<=ls) (O:base<=w.1.size)
  (h:∀U w',R? w' base e size U (n+m) (xs++news)->w.grownBy w' (O? v)->(O? U=O? v\/(O? U=y? w.1.size/\Below w.1.size w w'))->l1 x6 ops Q rest (a.put o.1 U) w'):l1 x6 ops Q (o::rest) a w:=by
 refine ZW W λ_ hK=>?_;obtain⟨U,w',hr,h2,h3,h4⟩:=sL w base t o.3 e i z size bytes ht hi hz J Y aa ab v n xs V y m news hy h1 B ac O;unfold z3 mi;simp only[ho,m5,invoke,builtin,wo,wn,ut,fd,ZK,ZU,hs,hx,hr];exact hK _ _<|h U w' h2 h3 h4
open Maps Go.Sort
def NL(b o B n)(J:List<|W?)(vl)(V:W?)(x:Wd)(w)(W:Qg w)(Y:C? w ⟨b,o,x?⟩=y? (.map<|y? B))(hC:fl w B n<|gu J)(hl:Rd w vl<|du V)(ha:l? V<=2)(O:∀y∈V,y≠[]/\l? y<=24)(hx:x≠[]/\l? x<=24)(U:eK J<=16777216) :
  lw prog 95 #[p?<|y? ⟨b,o,x?⟩,vl,s? ⟨a? x⟩] w λe w'=>e=e? (.agg #[n? .u64<|(tE J x V).1,n? .u64<|(tE J x V).2])/\B? w w':=by
 match V,ha with
 |[],_=>exact Tm b o B n J vl x w W.1 Y hC hl hx U|[u],_=>exact Te b o B n J vl u x w W.1 W.2.1 Y hC hl (O u i!) hx U|[u,v],_=>exact Y9 b o B n J vl u v x w W.1 W.2.1 W.2.2 Y hC hl (O u i!) (O v i!) hx U|_::_::_::_,h=>simp at h
def lj(sc:Wd->Fr)(ws:W?):List v?:=ws.flatMap<|mC sc
def Ed(sc)(ws:W?)(x:Wd):lj sc (ws++[x])=lj sc ws++mC sc x:=by simp[lj]
def G3(sc):∀(ws:W?)(i c)(h),c<3->(lj sc ws)[i*3+c]?=(mC sc ws[i])[c]?:=by
 intro ws;induction ws with
 |nil=>intro i c h;simp at h|cons a l B=>
  intro i c h J;have e:lj sc (a::l)=mC sc a++lj sc l:=by simp[lj]
  rw[e]
  cases i with
  |zero=>rw[Zt (by simp[mC];omega)];simp|succ i=>rw[K? (by simp[mC];omega)];have O:(mC sc a).length=3:=rfl;rw[O,(o!:(i+1)*3+c-3=i*3+c),B i c (u! h) J];simp
def Pj(sc)(x):∀v∈mC sc x,v.oneCell'=t?:=by intro v B;simp[mC]at B;obtain rfl|rfl|rfl:=B<;>rfl
def CL(sc)(h:R? f g o 3 (.slice (y? ⟨y1,0,x?⟩) x2 y0) I<|lj sc x0)(hn:I=l? x0):HoldsK (mC sc) 3 f y1 0 x0.toArray:=by
 intro j hj;have J:=by simpa using hj
 have U:j / 3<l? x0:=o!
 have B:(lj sc x0)[j]?=y? ((flatK (mC sc) 3 x0.toArray)[j]!):=by
  rw[get_flatK _ _ _ _<|u! J];have:=G3 sc x0 _ (j % 3) U o!;rw[(o!:j / 3*3+j % 3=j)]at this;rw[this];have e1:x0.toArray[j / 3]! = x0[j / 3]:=by rw[getElem!_pos _ _<|u! U];simp
  rw[e1];have V:j % 3<(mC sc x0[j / 3]).length:=by simp[mC];omega
  rw[BY V,getElem!_pos (mC sc _) _ V]
 obtain⟨h0,_⟩|⟨g',W,cur,he,_,Y,_,_,aa,O⟩:=h.2
 simp at h0;obtain⟨⟨rfl,_⟩,_,rfl⟩:=he;constructor;rw[dx Y];rw[<-O,Zi,if_pos o!]at B;simpa using B;simp[p4,Y]
def IP{enc:Wd->L?}{d os}(h:B? f P)(hb:f.1.size<=o):B? f<|sortWorldK enc g P o I x2 d os:=by have J:=h.4;refine⟨h.1,h.2,h.3,?_,λj B=>?_⟩;unfold sortWorldK xt yb grow wS;simp;omega;rw[<-h.5 j B];unfold sortWorldK xt yb grow wS;simp;rw[Array.getElem?_append_left j!,Ze,if_neg o!]
end
section
open RowKit Go.Sort
def Vn(a b:Wd)(p q r t:Nat)(w)(hp:p<=419430400)(hq:q<=16777217)(hr:r<=419430400)(ht:t<=16777217) :
  lw prog 97 #[.agg #[s? ⟨a? a⟩,n? .u64 p,n? .u64 q],.agg #[s? ⟨a? b⟩,n? .u64 r,n? .u64 t]] w λe w'=>e=e? (n? i? (if Cd (r*q) (p*t)≠0 then Cd (r*q) (p*t)else uL a b))/\∃k os,w'=grow (w.drewN k) os:=by
 have h1:=λW=>UE r t p q W hr ht hp hq
 have h2:∀W:w?,lw _ 139 _ W λe w'=>e=e? (n? _<|uL a b)/\W=w':=λW=>by apply (Any.strings_Compare Wa ⟨a? a⟩ ⟨a? b⟩ W).mono;rintro e w' ⟨rfl,rfl⟩;exact⟨q?,q?⟩
 obtain⟨z,hz⟩:∃z,z=Cd (r*q) (p*t):=⟨_,q?⟩;obtain⟨y,hy⟩:∃y,y=uL a b:=⟨_,q?⟩;rw[<-hz]at h1⊢;rw[<-hy]at h2⊢;obtain⟨Ot,O⟩:∃Ot,Ot=if z≠0 then z else y:=⟨_,q?⟩
 rw[<-O]
 have aa:∀(g:Nat)(W:w?),C? W _=y? _->C? W _=y? _->lw _ 126 _ W λe w'=>e=e? (n? _ Ot)/\W=w':=λg W k1 k2=>by rw[O];exact Gl z y g W k1 k2
 clear hz hy O;obtain⟨B,J⟩:∃B,B=(w.alloc<|c? #[s? ⟨a? a⟩,n? .u64 p,n? .u64 q] 150).alloc (c? #[s? ⟨a? b⟩,n? .u64 r,n? .u64 t] 150):=⟨_,q?⟩
 have V:∀j,C? B ⟨w.1.size,j,x?⟩=(#[Value.string ⟨a? a⟩,n? .u64 (p:Int),n? .u64 (q:Int)])[j]?:=λj=>by rw[J,p5 _ _ _ i!,Zl _ _ _ _ rfl]
 have U:∀j,C? B ⟨w.1.size+1,j,x?⟩=(#[Value.string ⟨a? b⟩,n? .u64 (r:Int),n? .u64 (t:Int)])[j]?:=λj=>by rw[J,Zl _ _ _ _ i!]
 have ab:B.1.size=w.1.size+2:=by rw[J];simp
 have Y:∃os,B=grow w os:=⟨_,by rw[J,wy,wy,w9]⟩
 have ac:lw prog 138 #[.agg #[n? .u64 (r:Int),n? .u64 (t:Int)],.agg #[n? .u64 (p:Int),n? .u64 (q:Int)]] B.drew λe w1=>e=e? (n? i? z)/\(∃k os,w1=grow (w.drewN k) os)/\C? w1 ⟨w.1.size,0,x?⟩=y? (s? ⟨a? a⟩)/\C? w1 ⟨w.1.size+1,0,x?⟩=y? (s? ⟨a? b⟩):=by apply (h1 B.drew).mono;rintro e w1 ⟨rfl,k,os,rfl⟩;refine⟨q?,?_,?_,?_⟩;obtain⟨ad,ae⟩:=Y;refine⟨1+k,ad++os,?_⟩;rw[ae,<-w9,<-drew_drewN];rfl;rw[F3 _ _ _ (by show w.1.size<B.1.size;omega)];exact V 0;rw[F3 _ _ _ (by show w.1.size+1<B.1.size;omega)];exact U 0
 have a0:C? B _=y? (s? _):=V 0;have a1:C? B _=y? (n? _ p):=V 1;have a2:C? B _=y? (n? _ q):=V 2;have b0:C? B _=y? (s? _):=U 0;have b1:C? B _=y? (n? _ r):=U 1;have b2:C? B _=y? (n? _ t):=U 2;clear h1 V U ab Y;go_enter func97,ntmps97;go_wp2_with fail;rw[<-J];clear J
 go_region_law (first
  |(go_simp
    go_at_call 138;apply ac.mono
    rintro e w1 ⟨rfl,af,ag,ah⟩)
  |(go_simp
    go_at_call 139;apply (h2 _).mono
    rintro e w' ⟨rfl,rfl⟩)
  |(go_simp
    go_at_call 126;apply (aa _ _ (Et l!).1 (Et l!).2).mono
    rintro e w' ⟨rfl,rfl⟩))
 all_goals
  go_wp2;go_ret;obtain⟨k,os,rfl⟩:=af;exact⟨q?,k,_,by rw[wy,w9]⟩
open Maps
def SI:(prog.info? 150).map (λi=>(i.8,i.3,i.4))=y? (y?<|.agg #[s? ⟨#[]⟩,n? .u64 0,n? .u64 0],3,32):=by kernel_rfl
def QG(B:List<|W?)(l:W?)(J:eK B<=16777216)(blk off size)(w):CmpLays prog 97 #[] (mC<|D7 B l) 3 (cfW<|D7 B l) blk off size w:=by intro m os O _ x y;have U:=TI B l x;have V:=TI B l y;exact Vn x y _ _ _ _ _ o! o! o! o!
def Pp(J:List<|W?)(l:W?)(most)(kn:W?)(hk:kn.Perm<|eP J)(aa:eK J<=16777216)(W)(cu)(w wr)
  (B:R? wr w.1.size 150 3 (.slice W kn.length cu) kn.length<|lj (D7 J l) kn) (hb:B? w wr) :
  lw prog 96 #[.slice W kn.length cu,.func (.func 97) #[] #[]] wr λe w2=>e=e? (.tuple #[])/\B? w w2/\
   ∃d:W?,gN J l most=d.take (min most kn.length)/\l? d=l? kn/\∀i(h),∃g,W=y? ⟨g,0,x?⟩/\C? w2 ⟨g,i*3,x?⟩=y? (s? ⟨d[i].toArray⟩)/\(∃a,C? w2 ⟨g,i*3+1,x?⟩=y? (n? .u64 a))/\(∃a,C? w2 ⟨g,i*3+2,x?⟩=y? (n? .u64 a)):=by
 by_cases h0:kn=[];subst h0;apply (AnyF.slices_SortFunc_none Lf W cu (.func (.func 97) #[] #[]) wr).mono;rintro e w2 ⟨rfl,rfl⟩;refine⟨q?,hb,[],?_,q?,nofun⟩;unfold gN;rw[B1 hk.symm];simp[oW]
 obtain⟨g,rfl⟩:∃g,W=y? _:=by
  obtain⟨he,hn⟩|⟨g,cap,cur,he,_⟩:=B.2
  exact absurd (List.length_eq_zero_iff.1<|u! hn) h0;simp only[y6]at he;exact⟨g,he.1⟩
 have U:=B.lt g rfl
 have Y:=AnyQ.slices_SortFunc Lf 3 isAgg150 sizeOf150 _ (λ_=>rfl) (Pj _) _ (VS J l) 97 _ g 0 cu _ wr
  (enters_of func97 k! q?) (QG J l aa g 0 _ wr) (CL _ B q?) U.2 (by have h2:=hk.length_eq;have h3:=sI J _<|Zu _;rw[o?]at h3;simp;omega)
 apply Y.mono;rintro e w2 ⟨rfl,V,nq,os,hp,hs,rfl⟩
 have hH:HoldsK (mC<|D7 J l) 3 (sortWorldK (mC<|D7 J l) 3 wr g 0 nq V os) g 0 V:=by refine holdsK_grow _ _ _ _ _ _ _ ?_ (holdsK_putRowK _ _ _ _ _ _ _ (holdsK_ahead _ _ _ _ _ _ _<|CL _ B q?) hp.1);unfold xt yb wS;simp[Sort.ahead];exact U.2
 refine⟨q?,IP hb U.1,V.1,?_,by simpa using(by rw[hp.1];simp),λi hi=>?_⟩;exact AX J l kn most V hk hp hs;have O:=by simpa using hi
 have g0:=(HoldsK.cell hH O (c:=0) d!).1;have g1:=(HoldsK.cell hH O (c:=1) d!).1;have g2:=(HoldsK.cell hH O (c:=2) d!).1;have e2:V[i]! = V.1[i]:=by rw[getElem!_pos V i O];rfl
 rw[e2]at g0 g1 g2;rw[ZD]at g0 g1 g2;exact⟨g,q?,g0,⟨_,g1⟩,⟨_,g2⟩⟩
def X7{w:w?}{x y z t g}(J:g=w.1.size):jB (w.alloc<|c? #[x,y,z] t) 3 (.slice (y? ⟨g,0,x?⟩) 1 1) 1 [x,y,z]:=by
 subst J;refine⟨y? _,1,q?,Zu _,by unfold ls;omega,q?,λj u B=>⟨w.1.size,0,q?,?_⟩⟩;match j,B with
 |0,B=>simpa using B|1,B=>simpa using B|2,B=>simpa using B|j+3,B=>simp at B
def UF(F:F?)(b)(vB vS)(V:List<|W?)(B n)(vK)(kn l:W?)(vl)(most:Nat)(w)(hW:Qg w)(hP:PW w F b vB vS V B n vK kn)
  (hl:Rd w vl<|du l) (aB:∀y∈l,y≠[]/\l? y<=24) (aU:l? l<=24) (h1:1<=most) (aV:most<=20) (a0:eK V<=16777216) :
  lw prog 68 #[p?<|y? ⟨b,2,x?⟩,vl,n? i? most] w λe w'=>∃v,e=e? v/\R? w' w.1.size 9 1 v (gN V l most).length (du<|gN V l most)/\B? w w':=by
 obtain⟨i0,hi,a1,a2,a3⟩:=Zz SI;obtain⟨i9,aC,aD,aE,aF⟩:=Zz rH;obtain⟨al,cl,rfl,kO,hml,_⟩:=id hl;rw[dz]at hl kO⊢;unfold ls at hml;obtain⟨aK,cK,rfl,aW⟩:=dC hP.6;have aQ:=hP.10
 have aG:J? (∀i u,(du kn)[i]?=y? u->∃b off,aK=y? ⟨b,off,x?⟩/\C? w ⟨b,off+i,x?⟩=y? u):=by obtain⟨aX,aY,a4,_,_,aH⟩:=Rd.eo hP.6;simp only[y6]at a4;obtain⟨rfl,_,rfl⟩:=a4;exact aH
 have ao:=dx hP.1;obtain⟨k,Y⟩:∃k,k=l? l-2:=⟨_,q?⟩;have aZ:max (0:Int) ((l? l:Int)-3+1)=(k:Int):=o!;have ba:(k:Int)<=(l? l:Int):=o!
 have ap:Rd w (.slice (if cl=k then al else q5 (λx=>x.add k) al) (l? l-k)<|cl-k)<|du<|pM l:=by unfold pM;rw[<-Y];exact hl.BR k o!
 have aR:(pM l).length=l? l-k:=by unfold pM;rw[<-Y];simp
 generalize bc:(if cl=k then al else q5 (λx=>x.add k) al)=aa at ap;let ⟨W0,aI,ab,ar⟩:=run_make_own w _ 145 150 i0 _ 3 r' hi a1 a2 i? i? kn.length (by rw[a3];omega) (by unfold ls;omega)<|Zu _;have av:=(qr _ w).grown ar (Zu _) (λk Y=>by cases Y);have a5:=Z0 av<|ao 3;have HP:=h! hP;clear hP hl Y;go_enter func68,ntmps68;go_wp2_with fail;go_loopw [7,31] (λu i wr=>∃j:Nat,j<=l? kn/\i=n? i? j/\R? wr w.1.size 150 3 u j (lj (D7 V l) (kn.take j))/\B? w wr) (λ_ i _=>l? kn-(intOf i).toNat);exact⟨0,ZP _,q?,ab,av⟩;obtain⟨j,hj,rfl,J,hb⟩:=hrel;have HS:=hb.4;obtain⟨au,cu,rfl,bd⟩:=dK J;by_cases aw:j<l? kn
 .obtain⟨bK,oK,rfl,ac⟩:=aG.o j _<|fI kn j aw;have aA:=Z0 hb ac;have ad:=HP.8.mem_iff.1<|Zw aw
  have hx:kn[j]≠[]/\kn[j].length<=24:=by obtain⟨t,ht,aJ⟩:=(mg V _).1 ad;exact HP.9 t ht _ aJ
  have HE:=h!<|IS aw;have ah:=NL b 2 B n V _ _ _ wr (hW.below hb) (Z0 hb<|ao 2) (HP.4.below hb) (ap.below hb) (PQ l) (λy hy=>aB y<|V! hy) hx a0;rw[<-N6 V l _ ad]at ah;clear ad ac;generalize kn[j]=x at *;obtain⟨p1,ax⟩:∃p1:Int,p1=((D7 V l x).1):=⟨_,q?⟩;obtain⟨p2,ay⟩:∃p2:Int,p2=((D7 V l x).2):=⟨_,q?⟩;rw[<-ax,<-ay]at ah
  have HC:J?<|mC (D7 V l) x=[s? ⟨a? x⟩,n? .u64 p1,n? .u64 p2]:=by show mC (D7 V l) x=_;unfold mC;rw[ax,ay]
  clear ax ay;go_wp2_with fail;apply ah.mono;rintro e w1 ⟨rfl,az⟩;clear ah;have aS:=az.4;have a6:=hb.trans<|az.mono HS;have ae:=dJ J<|λk Y=>az.5 k (J.lt k Y).2;go_wp2_with (at_builtin;go_must (refine gE _ q? _ _ 145 q? _ 150 i0 _ 3 32 r' hi a1 a2 a3 q? d! _ _ _ q? (ae.alloc _) _ 1 [s? ⟨a? x⟩,n? .u64 p1,n? .u64 p2] q? ?cr ?c0 ?c1 ?c2 ?c3 ?_))
  case cr=>exact X7 rfl
  case c0=>intro u hu;simp at hu;obtain rfl|rfl|rfl:=hu<;>rfl
  case c1=>omega
  case c2=>unfold ls;omega
  case c3=>first|omega|(simp;omega)
  intro v' w2 af a7 _;rw[<-HC.o,<-Ed,<-HE.o]at af;have ai:=(a6.alloc o! _).grown a7 j!<|λk Y=>(ae.lt k Y).1;go_wp2_with fail;go_roundw
  .exact⟨j+1,o!,by go_num,af,ai⟩
  exact M!
 have ej:j=l? kn:=o!;subst ej;rw[If<|Zu _]at J;have U:=Pp V l most kn HP.8 a0 au cu w wr J hb;clear ao a5 aI ab ar av J hb ap;obtain⟨m,hm⟩:∃m,m=min most kn.length:=⟨_,q?⟩;have be:min (most:Int) (l? kn:Int)=(m:Int):=o!;have bf:(m:Int)<=(cu:Int):=o!;have bg:m<=20:=o!;rw[<-hm]at U;clear hm;go_wp2_with fail;apply U.mono;rintro e w2 ⟨rfl,ai,d,a8,bh,a9⟩;clear U;have aL:=h! a8;have aM:=h! a9;have bi:m<=l? d:=o!;clear a8 a9;have aj:=ai.4;go_wp2_with fail;go_loopw [10,54] (λu i wx=>∃q:Nat,q<=m/\i=n? i? q/\R? wx w2.1.size 9 1 u q (du (d.take q))/\B? w2 wx) (λ_ i _=>m-(intOf i).toNat);exact⟨0,ZP _,q?,Z9 _ _ _ _,qr _ _⟩;obtain⟨q,hq,rfl,O,W⟩:=hrel;have aN:=W.4;have a':=ai.trans<|W.mono aj;obtain⟨aq,cq,rfl,bj⟩:=dC O;by_cases aT:q<m
 .obtain⟨g,rfl,ak,⟨y1,am⟩,⟨y2,an⟩⟩:=aM.o q o!;have ar:=Z0 W ak;have bk:=Z0 W am;have a7:=Z0 W an;have HE:J?<|d.take _=d.take q++[d[q]'o!]:=IS _;clear ak am an;generalize d[q]'o!=x at *;go_wp2_with (at_builtin;go_must (refine eu _ q? _ _ 31 q? _ 9 i9 _ 16 q7 aC aD aE aF q? _ _ _ q? ((O.alloc _).alloc _) _ (s? ⟨a? x⟩) q? ?c0 q? ?c1 ?c2 ?c3 ?_))
  case c0=>exact jn i!
  case c1=>omega
  case c2=>unfold ls;omega
  case c3=>first|omega|(simp;omega)
  intro v' w4 ag aO _;rw[<-iN,<-HE.o]at ag;have aP:=((W.alloc aN _).alloc j! _).grown aO j!<|λk Y=>(O.lt k Y).1;go_wp2_with fail;go_roundw
  .exact⟨q+1,o!,by go_num,ag,aP⟩
  exact M!
 have eq:q=m:=o!;subst eq;go_wp2;go_ret;refine⟨_,q?,?_,a'⟩;rw[aL.o];have:(d.take q).length=q:=j!;rw[this];exact eH O aj
end
section
open RowKit Maps
def Uv(l):∀x∈eR l,x≠[]/\l? x<=l? l:=by
 intro x J;obtain⟨i,O,rfl⟩:=Zv.1 J;obtain⟨U,h2⟩:=Zb.1 O;have B:=G!.1 U;unfold fp at h2;simp only[IT]at h2;unfold yQ;constructor;rw[M? B,eg]
 have:eS l[i]=t?:=by have:=h2.1;rwa[AS,BY B]at this
 rw[this];simp;have:=(Q? (p:=eS) (l:=l.drop i)).length_le;simp at this;omega
def zR(s:b?)(B:eh s.1.1=t?):(∀x∈eR (dP s.1.1),x≠[]/\l? x<=24)/\(eR<|dP s.1.1).length<=24:=by
 have J:=by simp only[eh,IT,decide_eq_true_eq]at B;exact B.1
 constructor;intro x O;have:=Uv _ x O;rw[eB]at this;exact⟨this.1,o!⟩;have:=pQ (dP s.1.1) (dP s.1.1).length;rw[eB]at this;unfold eR;rw[eB];omega
def PE(w:w?)(F:F?)(b:Nat)(J:List<|W?):Prop:=(∀k,F k->k<w.1.size)/\∃O U B n V kn,PW w F b O U J B n V kn
def PW.stay{w w'}{F:F?}{b vB vS}{J:List<|W?}{B n vK}{kn:W?}(h:PW w F b vB vS J B n vK kn)(hb:∀k,F k->w'.1[k]?=w.1[k]?):PW w' F b vB vS J B n vK kn where
 blk:=by rw[hb b h.2];exact h.1
 fb:=h.2;fB:=h.3;cnt:=h.4.stay<|hb B h.3;room:=h.5;row:=dH h.6<|λk O=>hb k<|h.7 k O;Iz:=h.7;perm:=h.8;ok:=h.9;few:=h.10
def UD(w):lw prog 64 #[] w λe w'=>∃B:Nat,e=e? (.agg #[.map<|y? B,.slice x? 0 0])/\w.1.size<=B/\fl w' B 0 (λ_=>0)/\Below w.1.size w w':=by have J:=@run_makeMap prog;go_enter func64,ntmps64;go_wp2;refine lE (v:=.agg #[.map<|y?<|w.1.size+1,.slice x? 0 0]) (by simp[m4,results64,go_sem]) q? ⟨_,q?,o!,?_,((qr ..).alloc (Zu _) _).alloc i! _⟩;have h:=fl.made<|w.alloc<|c? #[.map<|y?<|w.1.size+1,.slice x? 0 0] 88;have e:(w.alloc<|c? #[.map<|y?<|w.1.size+1,.slice x? 0 0] 88).1.size=w.1.size+1:=i!;rwa[e]at h
end
section
open RowKit
def GQ(kind W N M K:Int)(S T:b?)(L:v?)(made:Bool):Array v?:=
 #[n? i? kind,n? i? W,n? i? N,n? i? M,n? i? K,s? S,s? T,L,.bool made]
def An.stay{w w'}{F:F?}{b vB vS}{B:List<|W?}(h:An w F b vB vS B)(hb:∀k,F k->w'.1[k]?=w.1[k]?):An w' F b vB vS B:=by obtain⟨O,W,J,U⟩:=h;exact⟨O,by rwa[hb b J],J,U.stay hb<|λ_ V=>V⟩
def tD:v?:=.slice x? 0 0
def MK{w:w?}{x y t b}(hb:b=w.1.size):∀j u,[x,y][j]?=y? u->C? (w.alloc<|c? #[x,y] t) ((⟨b,0,x?⟩:Addr).add j)=y? u:=by
 intro j u B;rw[wh,Zl _ _ _ _ hb];match j,B with
 |0,B=>simpa using B|1,B=>simpa using B|j+2,B=>simp at B
def S3:(prog.info? 122).map (λi=>(i.8,i.3,i.4))=y? (y?<|.agg #[p? x?,p? x?],2,16):=by kernel_rfl
def UW(B:List<|W?)(s):eK (ml B s).2<=eK B+25:=by
 unfold ml;split;rename_i h
 have J:l? s<=24:=by have:=h.1;simp only[eh,IT,decide_eq_true_eq]at this;exact this.1
 have O:=pQ (dP s) (dP s).length;rw[eB]at O;have U:(eR<|dP s).length<=24:=by unfold eR;rw[eB];omega
 split;simp only;omega;have:eK (B++[eR<|dP s])=eK B+((eR<|dP s).length+1):=by simp[eK]
 simp only;omega;simp only;omega
open Maps
def Bf(most)(w):lw prog 47 #[n? i? most] w λe w'=>e=e? (.bool<|decide<|1<=most/\most<=20)/\w=w':=by
 by_cases B:1<=most
 .by_cases J:most<=20
  .rw[decide_eq_true ⟨B,J⟩];go_wp2;go_ret;exact⟨dW i!,q?⟩
  rw[decide_eq_false _];go_wp2;go_ret;exact⟨dW i!,q?⟩
 rw[decide_eq_false<|λh=>B h.1];go_wp2;go_ret;exact⟨dW i!,q?⟩
def Kk(w)(F:F?)(b)(V:List<|W?)(s:b?)(most)(hW:Qg w)(hP:PE w F b V)(hB:eK V<=16777216)(hs:s.size<=ls) :
  lw prog 35 #[p?<|y? ⟨b,0,x?⟩,s? s,n? i? most] w λe w'=>∃v,e=e? (.tuple #[v,n? i? (oO V s.1.1 most).2])/\
   R? w' w.1.size 9 1 v (oO V s.1.1 most).1.length (du (oO V s.1.1 most).1)/\B? w w':=by
 have hT:=Bf most w;by_cases h:most<1\/20<most
 .have e:oO V s.1.1 most=([],3):=by unfold oO;rw[if_pos h]
  rw[e];rw[decide_eq_false o!]at hT;clear h e;go_enter so,sg;go_wp2_with fail;apply g! hT;go_wp2;go_ret2;exact⟨_,q?,Z9 _ _ _ _,qr _ _⟩
 rw[decide_eq_true o!]at hT;have hY:=qC s w hs;by_cases Y:eh s.1.1=t?
 .rw[Y]at hY;obtain⟨m,rfl⟩:∃m:Nat,most=m:=⟨most.toNat,o!⟩;have e:oO V s.1.1 (m:Int)=(gN V (eR<|dP s.1.1) m,0):=by unfold oO;rw[if_neg h,if_pos Y];rfl
  rw[e];let ⟨ad,ae⟩:=zR s Y;have af:=zV s w.drew Y;have ai:1<=m:=o!;have aj:m<=20:=o!;clear h e Y;generalize eR (dP s.1.1)=l at *;obtain⟨hF,vB,vS,B,n,vK,kn,ag⟩:=hP
  have ah:lw prog 67 #[s? s] w.drew λe w1=>∃a c,e=e? (.slice a l.length c)/\B? w w1/\
    lw prog 68 #[p?<|y? ⟨b,2,x?⟩,.slice a l.length c,n? i? (m:Int)] w1 λe w2=>∃a' c',e=e? (.slice a' (gN V l m).length c')/\R? w2 w.1.size 9 1 (.slice a' (gN V l m).length c') (gN V l m).length (du<|gN V l m)/\B? w w2:=by
   apply af.mono;rintro e w1 ⟨v,rfl,W,J⟩;have aa:R? w1 w.1.size 9 1 v _ _:=W;have U:B? w w1:=⟨J.1,J.2,J.3,J.4,J.5⟩;clear W J;obtain⟨a,c,rfl,_⟩:=dC aa;refine⟨a,c,q?,U,?_⟩;apply (UF F b vB vS V B n vK kn l _ m w1 (hW.below U) (ag.stay<|λk hk=>U.block k<|hF k hk) (Rd.eo aa) ad ae ai aj hB).mono;rintro e w2 ⟨v2,rfl,O,ab⟩;obtain⟨a',c',rfl,_⟩:=dC O;exact⟨a',c',q?,eH O U.4,U.trans<|ab.mono U.4⟩
  clear af ad ae ag;go_enter so,sg;go_wp2_with fail;apply g! hT;go_wp2_with fail;apply g! hY;clear hT hY;go_wp2_with fail
  go_region_law (first
   |(go_simp
     go_at_call 67;apply ah.mono
     rintro e w1 ⟨a,c,rfl,U,ac⟩)
   |(go_simp
     go_at_call 68;apply ac.mono
     rintro e w2 ⟨a',c',rfl,O,ab⟩))
  all_goals
   go_wp2;go_ret2;exact⟨_,q?,O,ab⟩
 have ak:eh s.1.1=f?:=by simpa using Y
 rw[ak]at hY;have e:oO V s.1.1 most=([],2):=by unfold oO;rw[if_neg h,if_neg Y]
 rw[e];clear h e Y;go_enter so,sg;go_wp2_with fail;apply g! hT;go_wp2_with fail;apply g! hY;go_wp2;go_ret2;exact⟨_,q?,Z9 _ _ _ _,qr _ _⟩
end
section
variable {f:P?}{g C:Nat}{i I:List (Wd×v?)}{o P:w?}{J:Oper}
def gf{md ops Q S}(i)(v){listed a}(B:S o)
  (O:∀o,S o->(mi a.eval J).run f o=.ok (.value v) o) (h:m' f md ops Q S g (S? listed i t?) (a.put J.1 v) o)
  (U:ops[i]?=y? J:=by rfl) (V:Region.noSelect ops=t?:=by kernel_rfl) (W:Region.free md ops listed i=t?:=by kernel_rfl)
  (Y:(z8 md ops listed).contains i=t?:=by kernel_rfl) (hQ:∀c a o,Q (.panic c) (a.put J.1 v) o->Q (.panic c) a o:=by exact λ_ _ _ h=>h)
  (hw:z7 J (ne ops a.1)=t?:=by rfl):m' f md ops Q S (g+1) listed a o:=
 wpAnyH_take U V W Y hQ (.inl ⟨hw,O⟩) B h
def kY{md ops Q}{S:w?->Prop}(i){listed a}(h:∀K':Act->w?->Prop,(∀B w',S w'/\m' f md ops Q S g (S? listed i t?) B w'->K' B w')->z3 f J a o K' Q)
  (O:z8 md ops listed=[i]:=by kernel_rfl) (U:ops[i]?=y? J:=by rfl) (V:z7 J (ne ops a.1)=t?:=by rfl):m' f md ops Q S (g+1) listed a o:=
 wpAnyH_all O i! λj W=>by
  obtain rfl:j=i:=by simpa using W
  exact wpOp_step U λK' Y=>by rw[if_pos V];exact h K' Y
open RowKit Maps
def mT(v:v?):Option<|DataW v?×List MemPlace:=y? (.held v,[])
structure Ut(D:DataW v?)(l:List (Wd×v?)):Prop where
 nodup:(l.map B3).Nodup
 short:∀p∈l,l? p.1<=ls
 size:y8 D=l? l
 has:∀x:Wd,zs D (.string x)=l.any λp=>p.1==x
 at_:∀p∈l,∀z,D.atKey (.string p.1) z=.held p.2
def ed(P:P?)(k:TypeId)(w:w?)(B:Nat)(l:List<|Wd×v?):Prop:=∃D:DataW v?,w.ownsMap P k mT B l.length D/\Ut D l
def tL(l:List<|Wd×v?)(x:Wd)(v:v?):List<|Wd×v?:=(l.filter λp=>p.1 != x)++[(x,v)]
def I7{O:Type}{l m:List O}(h:l.Perm m)(f):l.any f=m.any f:=by rw[Z8];simp only[C!];exact⟨λ⟨x,B,J⟩=>⟨x,h.mem_iff.1 B,J⟩,λ⟨x,B,J⟩=>⟨x,h.mem_iff.2 B,J⟩⟩
def Ut.perm{D}(h:Ut D i)(B:i.Perm I):Ut D I where
 nodup:=(B.map B3).nodup_iff.1 h.1
 short:=λp hm=>h.2 p<|B.mem_iff.2 hm;size:=by rw[h.3,B.length_eq]
 has:=λx=>by rw[h.4 x,I7 B]
 at_:=λp hm=>h.5 p<|B.mem_iff.2 hm
def BD{k D}{R:v?->Option (DataW v?×List MemPlace)}(h:o.ownsMap f k R g C D):o.ownsMap f k R g (y8 D) D:=by obtain⟨es,clock,hb,F,_,rfl⟩:=h;exact⟨es,clock,hb,F,by simp[y8,length_sorted],q?⟩
def ed.perm{k}(h:ed f k o g i)(B:i.Perm I):ed f k o g I:=by obtain⟨D,O,J⟩:=h;exact⟨D,by rwa[<-B.length_eq],J.perm B⟩
def ed.lt{k}(h:ed f k o g i):g<o.1.size:=by obtain⟨D,B,_⟩:=h;exact B.lt
def ed.nodup{k}(h:ed f k o g i):(i.map B3).Nodup:=by obtain⟨D,_,B⟩:=h;exact B.1
def ed.stay{k w'}(h:ed f k o g i)(hb:w'.1[g]?=o.1[g]?):ed f k w' g i:=by obtain⟨D,⟨es,clock,B,J⟩,O⟩:=h;exact⟨D,⟨es,clock,hb.trans B,J⟩,O⟩
def ed.below{k w}(h:ed f k w g i)(hb:B? w o):ed f k o g i:=h.stay<|hb.5 g h.lt
def ed.kept{k row}(h:ed f k o g i)(J:o.grownBy P row)(B:y? g≠row):ed f k P g i:=h.stay<|J.5 g h.lt B
def ed.made{k}(w:w?):ed f k (w.alloc<|.map #[] 0) w.1.size []:=
 ⟨.map [],p7 ..,⟨List.Pairwise.nil,nofun,q?,λ_=>rfl,nofun⟩⟩
def NP{k}(B:f.underlying k=y? .string)(x:Wd)(J:l? x<=ls):m0 f k (.string ⟨a? x⟩)=y? (.string x):=by have:=WideMaps.keyOf_string_mk B (s:=⟨a? x⟩) (by show x.toArray.size<=ls;simpa using J);simpa using this
def qp(l:List<|Wd×v?)(x:Wd)(z:v?):v?:=match l.find? λp=>p.1==x with
 |some p=>p.2|none=>z
def ed.look{k t e z}(h:ed f k o g i)(W:f.underlying k=y? .string)(Y:f.underlying t=y? (.map k e))(hz:(m8 e).run f o=.ok z o)(x:Wd)(hx:x.length<=ls) :
  (tb t (.map<|y? g) (.string ⟨a? x⟩) f?).run f o=.ok (qp i x z) o/\(tb t (.map<|y? g) (.string ⟨a? x⟩) t?).run f o=.ok (.tuple #[qp i x z,.bool<|i.any λp=>p.1==x]) o:=by
 obtain⟨D,h1,B⟩:=h;have K:=y7 W;have iV:=NP W x hx;let ⟨v1,p1,r1,J⟩:=h1.lookup K Y hz q? iV;let ⟨v2,p2,r2,O⟩:=h1.look_ok K Y hz q? iV
 have U:D.atKey (.string x) (.held z)=.held (qp i x z):=by
  unfold qp
  cases V:i.find? _ with
  |none=>
   have:zs D (.string x)=f?:=by rw[B.4 x,i6];intro p hp;simpa using List.find?_eq_none.1 V p hp
   exact atKey_of_not_has this _
  |some p=>
   have he:=by simpa using List.find?_some V
   have:=B.5 p (j2 V)<|.held z;rwa[he]at this
 rw[U]at J O;simp only[mT,m?,yu,DataW.held.injEq]at J O;rw[r1,r2,J.1,O.1,B.4 x];exact⟨q?,q?⟩
def ed.len{k t e}(h:ed f k o g i)(B:f.underlying t=y? (.map k e))(ty):(wa #[t] ty #[.map<|y? g]).run f o=.ok (n? i?<|l? i) o:=by obtain⟨D,J,O⟩:=h;rw[J.len B ty,O.3]
def Kr(l:List<|Wd×v?)(x y)(O:y≠x):(l.filter λp=>p.1 != x).any (λp=>p.1==y)=l.any λp=>p.1==y:=by rw[Z8];simp only[C!,Zb,beq_iff_eq,bne_iff_ne];constructor;rintro⟨p,⟨J,_⟩,B⟩;exact⟨p,J,B⟩;rintro⟨p,J,B⟩;exact⟨p,⟨J,by rwa[B]⟩,B⟩
def Vu(x):∀(l:List<|Wd×v?),(l.map B3).Nodup->(l.filter λp=>p.1 != x).length+(if l.any (λp=>p.1==x)then 1 else 0)=l? l:=by
 intro l;induction l with
 |nil=>intro _;rfl|cons p l O=>
  intro B;rw[ZK,Z2]at B;have h:=O B.2;by_cases e:p.1=x
  have J:l.any (λp=>p.1==x)=f?:=by rw[i6];intro q U;simp only[beq_iff_eq];intro V;exact B.1<|Zv.2 ⟨q,U,by rw[V,e]⟩
  rw[J]at h;simp[e]at h⊢;exact h;rw[A!,lo];simp only[bne_iff_ne,ne_eq,e,not_false_eq_true,if_true,w!];have:(p.1==x)=f?:=by simpa using e
  rw[this,ps];omega
def ed.put{k t e}(h:ed f k o g i)(Y:f.underlying k=y? .string)(ht:f.underlying t=y? (.map k e))(hn:i.length<ls)(x:Wd)(hx:x.length<=ls)(v) :
  ∃w',(td t (.map<|y? g) (.string ⟨a? x⟩) v).run f o=.ok () w'/\ed f k w' g (tL i x v)/\o.grownBy w' (y? g)/\w'.1.size=o.1.size:=by
 obtain⟨D,V,B⟩:=h;have K:=y7 Y;let ⟨w',hr,ho,J⟩:=V.store K ht hn (NP Y x hx) (val:=v) rfl
 have O:y8 (D.put (.string x)<|.held v)=(tL i x v).length:=by rw[size_put<|V.tidy K,B.4 x,B.3];have:=Vu x i B.1;unfold tL;rw[Zh,T?];split at this<;>rename_i hh;rw[if_pos hh];omega;rw[if_neg hh];omega
 refine⟨w',hr,⟨_,by rw[<-O];exact BD ho,⟨?_,?_,O,?_,?_⟩⟩,J.grown,?_⟩;unfold tL;rw[Z4,ZK,ZU,Zn];refine⟨B.1.sublist<|(ZN).map _,i!,?_⟩;intro a ha b hb;simp only[Zg]at hb;subst hb;obtain⟨p,U,rfl⟩:=Zv.1 ha;have:=(Zb.1 U).2;simpa using this;intro p U;obtain h|h:=Z3.1 U
 exact B.2 p (Zb.1 h).1;simp only[Zg]at h;subst h;exact hx;intro y;unfold tL;rw[List.any_append];by_cases e:y=x;subst e;rw[has_put_same V.isMap (show WideAt.IsKeyLit (.string y)from trivial)];simp;rw[has_put_other<|by simpa using e,B.4 y,Kr i x y e];have:(x==y)=f?:=by simpa using λh=>e h.symm
 simp[this];intro p U z;obtain h|h:=Z3.1 U
 have hm:=Zb.1 h;rw[y9<|by simpa using(by simpa using hm.2)];exact B.5 p hm.1 z;simp only[Zg]at h;subst h;rw[zk V.isMap (show WideAt.IsKeyLit (.string x)from trivial)];obtain⟨es,clock,aa,W,_,rfl⟩:=J;simp[ChangeMaps.setBlock]
def fg(P:P?)(k:TypeId)(w:w?)(B r:Nat)(l rest:List<|Wd×v?):Prop:=
 (rest.map B3).Nodup/\(∀p∈rest,p∈l)/\∃D left cnt,w.ranges P k mT B r l.length D left cnt/\Ut D l/\∀x:Wd,left (.string x)=rest.any λp=>p.1==x
def fg.owns{k}(h:fg f k o g C i I):ed f k o g i:=by obtain⟨_,_,D,left,cnt,B,J,_⟩:=h;exact⟨D,B.owns,J⟩
def fg.lt{k}(h:fg f k o g C i I):C<o.1.size:=by obtain⟨_,_,D,left,cnt,B,J,_⟩:=h;exact B.lt
def fg.kept{k row}(h:fg f k o g C i I)(B:o.grownBy P row)(J:y? g≠row)(O:y? C≠row):fg f k P g C i I:=by obtain⟨a,b,D,left,cnt,U,V,W⟩:=h;exact⟨a,b,D,left,cnt,U.kept B J O,V,W⟩
def fg.l7(B:P.1[g]?=o.1[g]?)(J:P.1[C]?=o.1[C]?):P.rangeLeft g C=o.rangeLeft g C:=by unfold World.rangeLeft;rw[B,J]
def ed.range{k t e}(h:ed f k o g i)(J:f.underlying k=y? .string)(O:f.underlying t=y? (.map k e)) :
  ∃w',(Instr.range t<|.map<|y? g).run f o=.ok (p?<|y? ⟨o.1.size,0,x?⟩) w'/\fg f k w' g o.1.size i i/\o.grownBy w' x?/\w'.1.size=o.1.size+1:=by
 obtain⟨D,U,B⟩:=h;obtain⟨w',V,W,Y,r3⟩:=U.range (y7 J) O;exact⟨w',V,⟨B.1,λ_ h=>h,D,_,_,W,B,B.4⟩,Y,r3⟩
def Od{k}(B:f.underlying k=y? .string){key kl}(h:m0 f k key=y? kl):∃x:Wd,key=.string ⟨a? x⟩/\kl=.string x:=by cases key<;>simp[m0,B,mapKey]at h;rename_i s;refine⟨s.1.1,?_,h.2.symm⟩;simp
def We:∀{i:List<|Wd×v?},(i.map B3).Nodup->∀{a b},a∈i->b∈i->a.1=b.1->a=b:=by
 intro i;induction i with
 |nil=>intro _ a b h;simp at h|cons c i V=>
  intro B a b J hb e;rw[ZK,Z2]at B;obtain U|J:=Zm.1 J
  obtain O|hb:=Zm.1 hb
  rw[U,O];exact absurd (Zv.2 ⟨b,hb,by rw[<-e,U]⟩) B.1;obtain O|hb:=Zm.1 hb
  exact absurd (Zv.2 ⟨a,J,by rw[e,O]⟩) B.1;exact V B.2 J hb e
def fg.next{k}(h:fg f k o g C i I)(hk:f.underlying k=y? .string)(ty) :
  (I=[]/\(tl (.pointer<|y? ⟨C,0,x?⟩) f? ty).run f o=.ok (.tuple #[.bool f?]) o)\/
  ∃p B w',I.Perm (p::B)/\(tl (.pointer<|y? ⟨C,0,x?⟩) f? ty).run f o=.ok (.tuple #[.bool t?,.string ⟨a? p.1⟩,p.2]) w'/\fg f k w' g C i B/\w'.rangeLeft g C<o.rangeLeft g C/\
   o.grownBy w' (y? C)/\w'.1.size=o.1.size/\(ti<|.pointer<|y? ⟨C,0,x?⟩).run f w'=.ok (.tuple #[.string ⟨a? p.1⟩,p.2]) w':=by
 obtain⟨hn,J,D,left,cnt,h1,h2,h3⟩:=h;obtain⟨_,hl,hr⟩|⟨key,v,kl,y,w',V,iV,aa,hv,ab,hr,W,af,hg,hs,ac⟩:=h1.next (y7 hk) ty
 left;refine⟨?_,hr⟩
 cases I with
 |nil=>rfl|cons p I=>have:=hl<|.string p.1;rw[h3]at this;simp at this
 right;obtain⟨x,rfl,rfl⟩:=Od hk iV;have hx:=aa;rw[h3,C!]at hx;let ⟨p,hp,U⟩:=hx;have U:=by simpa using U
 subst U
 have ad:=by have e1:=h2.5 p (J p hp)<|.held v;rw[ab]at e1;simp only[mT,m?]at hv;rw[<-hv]at e1;simpa using e1
 subst ad;refine⟨p,I.filter λq=>q.1 != p.1,w',?_,hr,⟨?_,?_,D,_,V,W,h2,λx=>?_⟩,?_,hg,hs,ac⟩;have Y:I.Nodup:=List.Pairwise.of_map _ (λa b ae e=>ae<|by rw[e]) hn;rw[j1 Y];intro q;simp only[Zm,Zb,bne_iff_ne];constructor;intro O;by_cases e:q.1=p.1;left;exact We hn O hp e;right;exact⟨O,e⟩;rintro(rfl|⟨O,_⟩);exact hp;exact O;rw[Z2];refine⟨λh=>?_,Y.sublist ZN⟩;have:=(Zb.1 h).2;simp at this;exact hn.sublist<|ZN.map _;exact λq O=>J q (Zb.1 O).1;rw[h3];by_cases e:x=p.1;subst e;have:(Lit.string p.1).sameKey (.string p.1)=t?:=by simp[Lit.sameKey]
 rw[this];simp only[Bool.not_true,Bool.and_false];symm;rw[i6];intro q O;have:=(Zb.1 O).2;simpa using this;have:(Lit.string x).sameKey (.string p.1)=f?:=by simp[Lit.sameKey,e]
 rw[this,Kr I _ x e];simp;rwa[W.left_eq,h1.left_eq]
def DT{k}(w){ops rest}{a:Act}{Q}(V:J.6=x?)(m)(t)(O:J.2=Op.range t m)(e)(W:f.underlying k=y? .string)(Y:f.underlying t=y? (.map k e))
  (hm:a.eval m=.map (y? g)) (h:ed f k w g i)
  (hK:∀w',fg f k w' g w.1.size i i->w.grownBy w' x?->w'.1.size=w.1.size+1->l1 f ops Q rest (a.put J.1<|p?<|y? ⟨w.1.size,0,x?⟩) w') :
  l1 f ops Q (J::rest) a w:=by
 refine ZW V λK' U=>?_;obtain⟨w',B,r1,r2,r3⟩:=h.range W Y;unfold z3;simp[mi,O,hm,B,un];exact U _ _<|hK w' r1 r2 r3
def FM{k}(w){ops rest}{a:Act}{Q}(hg:J.6=x?)(it)(V:J.2=Op.next it f?)(hk:f.underlying k=y? .string)(r)(left)
  (W:a.eval it=p? (y? ⟨r,0,x?⟩)) (h:fg f k w g r i left)
  (U:left=[]->l1 f ops Q rest (a.put J.1<|.tuple #[.bool f?]) w)
  (hMore:∀p B w',left.Perm (p::B)->fg f k w' g r i B->w'.rangeLeft g r<w.rangeLeft g r->w.grownBy w' (y? r)->w'.1.size=w.1.size->(ti<|p?<|y? ⟨r,0,x?⟩).run f w'=.ok (.tuple #[s? ⟨a? p.1⟩,p.2]) w'->
    l1 f ops Q rest (a.put J.1<|.tuple #[.bool t?,s? ⟨a? p.1⟩,p.2]) w') :
  l1 f ops Q (J::rest) a w:=by
 refine ZW hg λK' Y=>?_;unfold z3;obtain⟨h0,O⟩|⟨p,B,w',hp,O,aa,ab,ac,ad,ae⟩:=h.next hk J.3
 simp[mi,V,W,O,un];exact Y _ _<|U h0;simp[mi,V,W,O,un];exact Y _ _<|hMore p B w' hp aa ab ac ad ae
def lq{k}(w){ops rest}{a:Act}{Q}(V:J.6=x?)(m x v)(t)(O:J.2=Op.mapUpdate t m x v)(e)(W:f.underlying k=y? .string)(Y:f.underlying t=y? (.map k e))
  (hm:a.eval m=.map (y? g)) (h:ed f k w g i) (hn:l? i<ls) (y:Wd) (hy:l? y<=ls) (hx:a.eval x=s? ⟨a? y⟩) (u) (hv:a.eval v=u)
  (hK:∀w',ed f k w' g (tL i y u)->w.grownBy w' (y? g)->w'.1.size=w.1.size->l1 f ops Q rest (a.put J.1 undef) w') :
  l1 f ops Q (J::rest) a w:=by
 refine ZW V λK' U=>?_;obtain⟨w',B,r1,r2,r3⟩:=h.put W Y hn y hy u;unfold z3;simp[mi,O,hm,hx,hv,B,un];exact U _ _<|hK w' r1 r2 r3
end
section
open RowKit
variable {g l P:Wd}{i J w':w?}{o:Nat}{p x1:F?}{C x0:W?}
structure eE where
 name:Wd
 gone:Bool
 text:Wd
 dR:Int
 dY:Int
abbrev E?:=List eE
def e9(e:eE):List v?:=[s? ⟨a? e.1⟩,.bool e.2,s? ⟨a? e.3⟩,n? i? e.4,n? i? e.5]
def dG(es:E?):List v?:=es.flatMap e9
def jv(e):(e9 e).length=5:=rfl
def tY(es:E?):(dG es).length=l? es*5:=by
 induction es with
 |nil=>rfl|cons e es B=>simp only[dG,c!,Zh,jv,w!]at B⊢;omega
def xc(es:E?)(e:eE):dG (es++[e])=dG es++e9 e:=by simp[dG]
def Dw(es B:E?):dG (es++B)=dG es++dG B:=by simp[dG]
def tN(es:E?):∀(i)(h)(f),f<5->(dG es)[i*5+f]?=(e9 es[i])[f]?:=by
 induction es with
 |nil=>intro i h;simp at h|cons a es B=>
  intro i h f J;have e:dG (a::es)=e9 a++dG es:=by simp[dG]
  rw[e]
  cases i with
  |zero=>rw[Zt (by rw[jv];omega)];simp|succ i=>rw[K? (by rw[jv];omega),jv,(o!:(i+1)*5+f-5=i*5+f)];have:=B i (u! h) f J;simpa using this
def FJ(es:E?)(k):dG (es.take k)=(dG es).take (k*5):=by
 induction es generalizing k with
 |nil=>simp[dG]|cons a es B=>
  cases k with
  |zero=>simp[dG]|succ k=>
   have e:dG (a::es)=e9 a++dG es:=by simp[dG]
   have J:dG ((a::es).take<|k+1)=e9 a++dG (es.take k):=by simp[dG]
   rw[e,J,B,List.take_append,jv,If (l:=e9 a) (by rw[jv];omega),(o!:(k+1)*5-5=k*5)]
def GH(es:E?)(k):dG (es.drop k)=(dG es).drop (k*5):=by
 induction es generalizing k with
 |nil=>simp[dG]|cons a es B=>
  cases k with
  |zero=>simp[dG]|succ k=>
   have e:dG (a::es)=e9 a++dG es:=by simp[dG]
   rw[kt,B,e,List.drop_append,jv,List.drop_of_length_le (l:=e9 a) (by rw[jv];omega),(o!:(k+1)*5-5=k*5)];rfl
def mz{es:E?}:∀u∈dG es,u.oneCell'=t?:=by intro u B;simp only[dG,r!]at B;obtain⟨e,_,B⟩:=B;simp only[e9,Zm,List.not_mem_nil,or_false]at B;obtain rfl|rfl|rfl|rfl|rfl:=B<;>rfl
variable {f U:E?}
def jo{a m cap}(h:jB J 5 (.slice a m cap) o<|dG U)(i)(hi):∃b off,a=y? ⟨b,off,x?⟩/\
  C? J ⟨b,off+i*5,x?⟩=y? (s? ⟨U[i].1.toArray⟩)/\C? J ⟨b,off+i*5+1,x?⟩=y? (.bool U[i].2)/\C? J ⟨b,off+i*5+2,x?⟩=y? (s? ⟨U[i].3.toArray⟩)/\
  C? J ⟨b,off+i*5+3,x?⟩=y? (n? i? U[i].4)/\C? J ⟨b,off+i*5+4,x?⟩=y? (n? i? U[i].5):=by
 obtain⟨a',V,W,_,_,_,Y⟩:=h;obtain⟨rfl,_,rfl⟩:=W;have g:=λf hf u hu=>Y _ u (by rwa[tN U i hi f hf]);let ⟨b,off,ha,c0⟩:=g 0 o! _ rfl;subst ha;refine⟨b,off,q?,c0,?_,?_,?_,?_⟩;obtain⟨O,B,e,c⟩:=g 1 o! _ rfl;obtain⟨rfl,rfl,_⟩:=e;exact c;obtain⟨O,B,e,c⟩:=g 2 o! _ rfl;obtain⟨rfl,rfl,_⟩:=e;exact c;obtain⟨O,B,e,c⟩:=g 3 o! _ rfl;obtain⟨rfl,rfl,_⟩:=e;exact c;obtain⟨O,B,e,c⟩:=g 4 o! _ rfl;obtain⟨rfl,rfl,_⟩:=e;exact c
def jB.uH{w:w?}{b e t}(hb:b=w.1.size):jB (w.alloc<|c? #[s? ⟨a? e.1⟩,.bool e.2,s? ⟨a? e.3⟩,n? i? e.4,n? i? e.5] t) 5 (.slice (y? ⟨b,0,x?⟩) 1 1) 1<|e9 e:=by
 refine⟨y? _,1,q?,Zu _,by unfold ls;omega,q?,λj u B=>⟨b,0,q?,?_⟩⟩;rw[Zl _ _ _ _ hb];match j,B with
 |0,B=>simpa[e9]using B|1,B=>simpa[e9]using B|2,B=>simpa[e9]using B|3,B=>simpa[e9]using B|4,B=>simpa[e9]using B|j+5,B=>simp[e9]at B
def xe:(prog.info? 202).map (λi=>(i.8,i.3,i.4))=y? (y?<|.agg #[s? ⟨#[]⟩,.bool f?,s? ⟨#[]⟩,n? i? 0,n? i? 0],5,56):=by kernel_rfl
def jC(l:E?)(x:Wd):Option Nat:=l.findIdx? λe=>e.1==x
def zx:Option Nat->Int
 |none=>-1|some i=>(i:Int)
def Np(l:E?)(x)(h:∀j(B:j<l? l),(l[j].1==x)=f?):jC l x=x?:=by unfold jC;rw[List.findIdx?_eq_none_iff];intro e J;obtain⟨j,B,rfl⟩:=ie J;exact h j B
def Mh(l:E?)(x)(k)(J:k<l? l)(h:∀j(B:j<k),(l[j].1==x)=f?)(O:(l[k].1==x)=t?):jC l x=y? k:=by unfold jC;rw[List.findIdx?_eq_some_iff_getElem];exact⟨J,O,λj B=>by simpa using h j B⟩
def xP(v)(l:E?)(x:Wd)(w)(J:jB w 5 v l.length<|dG l) :
  lw prog 144 #[v,s? ⟨a? x⟩] w λe w'=>e=e? (n? i?<|zx<|jC l x)/\w=w':=by
 obtain⟨a,cap,rfl,W,hm,_,_⟩:=id J;have V:=h! J;clear J;unfold ls at hm;go_enter func144,ntmps144;go_wp2;go_loop [5] (λi=>∃k:Nat,k<=l? l/\i=n? i? k/\∀j(hj:j<k)(hj':j<l? l),(l[j].1==x)=f?) (λi=>l? l-(intOf i).toNat);exact⟨0,ZP _,q?,λ_ h=>o!⟩;obtain⟨k,Y,rfl,fu⟩:=hrel;have O:=h! fu;clear fu;by_cases B:k<l? l
 .obtain⟨b,off,rfl,c0,_,_,_,_⟩:=jo V k B
  cases U:l[k].1==x with
  |true=>go_wp2;go_ret;exact⟨dQ (by rw[(h!<|Mh l x k B (λj hj=>O.o j hj o!) U).o];rfl),q?⟩
  |false=>
   go_wp2;go_round
   case rel=>exact⟨k+1,o!,by go_num,λj hj hj'=>by
    by_cases e:j=k;subst e;exact(h! U).o
    exact O j o! hj'⟩
   exact M!
 go_wp2;go_ret;exact⟨dQ (by rw[(h!<|Np l x<|λj hj=>O.o j o! hj).o];rfl),q?⟩
def ix(later:E?)(e:eE):Bool:=(jC later e.1).isNone
def dT(old later:E?):List eE:=old.filter (ix later)++later
def dE(l:E?):List eE:=l.filter λe=>!e.2
def lK(old later:E?)(k:Nat):List eE:=(old.take k).filter<|ix later
def oY(l:E?)(k:Nat):List eE:=(l.take k).filter λe=>!e.2
def Bc(old later:E?)(k)(h)(B:ix later old[k]=t?):lK old later (k+1)=lK old later k++[old[k]]:=by unfold lK;rw[IS h,Zj];simp[B]
def Rz(old later:E?)(k)(h)(B:ix later old[k]=f?):lK old later (k+1)=lK old later k:=by unfold lK;rw[IS h,Zj];simp[B]
def N3(old later:E?)(k):(lK old later k).length<=k:=by have:=No (ix later)<|old.take k;unfold lK;simp at this⊢;omega
def EC(l:E?)(k)(h)(B:l[k].2=f?):oY l (k+1)=oY l k++[l[k]]:=by unfold oY;rw[IS h,Zj];simp[B]
def SK(l:E?)(k)(h)(B:l[k].2=t?):oY l (k+1)=oY l k:=by unfold oY;rw[IS h,Zj];simp[B]
def QF(l:E?)(k):(oY l k).length<=k:=by have:=No (λe=>!e.2)<|l.take k;unfold oY;simp at this⊢;omega
def pW(v)(l:E?)(w)(Y:jB w 5 v l.length<|dG l)(hl:l? l<=1073741824) :
  lw prog 147 #[v] w λe w'=>∃u,e=e? u/\R? w' w.1.size 202 5 u (dE l).length (dG<|dE l)/\B? w w':=by
 obtain⟨i5,aa,ab,ac,ad⟩:=Zz xe;obtain⟨a,cap,rfl,hc,hm,_,_⟩:=id Y;have HV:=h! Y;clear Y;unfold ls at hm;go_enter func147,ntmps147;go_wp2;go_loopw [3,4] (λv i wr=>∃k:Nat,k<=l? l/\i=n? i? k/\R? wr w.1.size 202 5 v (oY l k).length (dG (oY l k))/\B? w wr) (λ_ i _=>l? l-(intOf i).toNat);exact⟨0,ZP _,q?,Z9 _ _ _ _,qr _ _⟩;obtain⟨k,hk,rfl,U,B⟩:=hrel;have HS:=B.4;have ag:=QF l k;by_cases O:k<l? l
 .obtain⟨b,off,rfl,c0,c1,c2,c3,c4⟩:=jo (HV.below B) k O
  cases V:l[k].2 with
  |false=>
   have HE:J?<|dG (oY l<|k+1)=dG (oY l k)++e9 l[k]:=h!<|by rw[EC l k O V,xc]
   have HN:J?<|(oY l k).length+1=(oY l<|k+1).length:=h!<|by rw[EC l k O V];simp
   rw[V]at c1;have ae:=h! V;clear V;go_wp2_with (at_builtin;go_must (refine gE _ q? _ _ 75 q? _ 202 i5 _ 5 56 rt aa ab ac ad q? d! _ _ _ q? (U.alloc _) _ 1 (e9 l[k]) q? ?c0 ?c1 ?c2 ?c3 ?c4 ?_))
   case c0=>go_light;have:=jB.uH (w:=wr) (e:=l[k]) (t:=202) rfl;rwa[ae.o]at this
   case c1=>intro u hu;exact mz (es:=[l[k]]) u (by simpa[dG]using hu)
   case c2=>omega
   case c3=>unfold ls;omega
   case c4=>simp;omega
   intro v' w1 J W _;rw[<-HE.o,HN.o]at J;have af:=(B.alloc HS _).grown W j!<|λb hb=>(U.lt b hb).1;go_wp2;go_roundw
   .exact⟨k+1,o!,by go_num,J,af⟩
   exact M!
  |true=>
   have HE:=h!<|SK l k O V;rw[V]at c1;clear V;go_wp2;go_roundw
   .exact⟨k+1,o!,by go_num,by rwa[HE.o],B⟩
   exact M!
 have ek:k=l? l:=o!;subst ek;go_wp2;go_ret;refine⟨_,q?,?_,B⟩;have e:dE l=oY l l.length:=by unfold dE oY;rw[o?]
 rwa[e]
def I3(v)(l:E?)(w)(B:jB w 5 v l.length<|dG l)(J:l? l<=1073741824) :
  lw prog 146 #[v] w λe w'=>e=e? (n? i?<|(l? l-(dE l).length:Nat))/\B? w w':=by
 obtain⟨a,cap,rfl,Y,hm,_,_⟩:=id B;have O:J? _:=B;have U:(dE l).length<=l? l:=No ..;go_enter func146,ntmps146;go_wp2_with fail;apply (pW _ l w O J).mono;rintro e w1 ⟨u,rfl,V,hb⟩;obtain⟨a1,c1,rfl,W⟩:=dK V;go_wp2;go_ret;refine⟨dQ ?_,hb⟩;omega
def rV(vo vl)(old later:E?)(w)(ho:jB w 5 vo old.length<|dG old)(hl:jB w 5 vl later.length<|dG later)(h1:l? old<=1073741824)(h2:l? later<=1073741824) :
  lw prog 145 #[vo,vl] w λe w'=>∃u,e=e? u/\R? w' w.1.size 202 5 u (dT old later).length (dG<|dT old later)/\B? w w':=by
 obtain⟨i5,Y,aa,ab,ac⟩:=Zz xe;obtain⟨a,cap,rfl,hc,hm,_,_⟩:=id ho;obtain⟨al,ad,rfl,kO,hml,_,_⟩:=id hl;have HO:=h! ho;have HL:=h! hl;clear ho hl;unfold ls at hm hml;go_enter func145,ntmps145;go_wp2;go_loopw [5,6] (λv i wr=>∃k:Nat,k<=l? old/\i=n? i? k/\R? wr w.1.size 202 5 v (lK old later k).length (dG (lK old later k))/\B? w wr) (λ_ i _=>l? old-(intOf i).toNat);exact⟨0,ZP _,q?,Z9 _ _ _ _,qr _ _⟩;obtain⟨k,hk,rfl,O,hbel⟩:=hrel;have HS:=hbel.4;have ae:=N3 old later k;by_cases V:k<l? old
 .obtain⟨b,off,rfl,c0,c1,c2,c3,c4⟩:=jo (HO.below hbel) k V;go_wp2_with fail;apply g!<|xP _ later old[k].name wr<|HL.below hbel
  cases hg:jC later old[k].1 with
  |none=>
   have U:ix later old[k]=t?:=by unfold ix;rw[hg];rfl
   have HE:J?<|dG (lK old later<|k+1)=dG (lK old later k)++e9 old[k]:=h!<|by rw[Bc old later k V U,xc]
   have HN:J?<|(lK old later k).length+1=(lK old later<|k+1).length:=h!<|by rw[Bc old later k V U];simp
   rw[show zx x? = -1 from rfl];clear U hg;go_wp2_with (at_builtin;go_must (refine gE _ q? _ _ 75 q? _ 202 i5 _ 5 56 rt Y aa ab ac q? d! _ _ _ q? (O.alloc _) _ 1 (e9 old[k]) q? ?c0 ?c1 ?c2 ?c3 ?c4 ?_))
   case c0=>go_light;exact jB.uH rfl
   case c1=>intro u hu;exact mz (es:=[old[k]]) u (by simpa[dG]using hu)
   case c2=>omega
   case c3=>unfold ls;omega
   case c4=>simp;omega
   intro v' w1 B J _;rw[<-HE.o,HN.o]at B;have W:=(hbel.alloc HS _).grown J j!<|λb hb=>(O.lt b hb).1;go_wp2;go_roundw
   .exact⟨k+1,o!,by go_num,B,W⟩
   exact M!
  |some j=>
   have U:ix later old[k]=f?:=by unfold ix;rw[hg];rfl
   have HE:=h!<|Rz old later k V U;rw[show zx _=j from rfl];clear U hg;go_wp2;go_roundw
   .exact⟨k+1,o!,by go_num,by rwa[HE.o],hbel⟩
   exact M!
 have ek:k=l? old:=o!;subst ek;have HF:J?<|dT old later=lK old later old.length++later:=h!<|by unfold dT lK;rw[o?]
 go_wp2_with (at_builtin;go_must (refine gE _ q? _ _ 75 q? _ 202 i5 _ 5 56 rt Y aa ab ac q? d! _ _ _ q? O _ later.length (dG later) q? ?d0 mz ?d2 ?d3 ?d4 ?_))
 case d0=>exact HL.below hbel
 case d2=>omega
 case d3=>unfold ls;omega
 case d4=>exact HS
 intro v' w1 B J _;have W:=hbel.grown J HS<|λb hb=>(O.lt b hb).1;go_wp2;go_ret;refine⟨_,q?,?_,W⟩;rwa[HF.o,Dw,Zh]
def gr(l:List UInt8):Bool:=l.all eS&&decide (0<l? l)&&decide (l? l<=8)
def kX(w:w?)(F:F?)(v:v?)(es:E?):Prop:=R? w 0 202 5 v es.length (dG es)/\∀k,O? v=y? k->F k
def Cc(w:w?)(F:F?)(v:v?)(ss:List<|E?):Prop:=
 ∃vs:L?,l? vs=l? ss/\R? w 0 75 1 v ss.length vs/\(∀k,O? v=y? k->F k)/\∀i(h:i<l? ss),∃u,vs[i]?=y? u/\kX w F u ss[i]
def kX.stay{v}(h:kX i p v f)(hb:∀k,p k->w'.1[k]?=i.1[k]?)(J:∀k,p k->x1 k):kX w' x1 v f:=
 ⟨dJ h.1<|λk B=>hb k<|h.2 k B,λk B=>J k<|h.2 k B⟩
def Cc.stay{v}{ss:List<|E?}(h:Cc J p v ss)(hb:∀k,p k->w'.1[k]?=J.1[k]?)(O:∀k,p k->x1 k):Cc w' x1 v ss:=by obtain⟨vs,V,W,U,Y⟩:=h;refine⟨vs,V,dH W<|λk B=>hb k<|U k B,λk B=>O k<|U k B,λi hi=>?_⟩;obtain⟨u,hu,ho⟩:=Y i hi;exact⟨u,hu,ho.stay hb O⟩
def gO(ss:List<|E?):Nat:=(ss.map λs=>l? s+1).sum
def kw(ss:List<|E?)(k:Nat):List eE:=(ss.take k).foldl dT []
def dV(ss:List<|E?)(B:E?):List eE:=dE<|dT (kw ss ss.length) B
def uS(a b:E?):(dT a b).length<=l? a+l? b:=by unfold dT;have:=No (ix b) a;rw[Zh];omega
def xK(ss:List<|E?)(k)(h):kw ss (k+1)=dT (kw ss k) ss[k]:=by unfold kw;rw[IS h,b!];rfl
def qh(ss:List<|E?)(i)(h):gO (ss.take<|i+1)=gO (ss.take i)+(ss[i].length+1):=by unfold gO;rw[IS h,Z4,fm];rfl
def rS(ss:List<|E?)(i):gO (ss.take i)<=gO ss:=by
 have:gO ss=gO (ss.take i)+gO (ss.drop i):=by unfold gO;rw[<-fm,<-Z4,S!]
 omega
def za(ss:List<|E?):l? ss<=gO ss:=by
 induction ss with
 |nil=>simp|cons t J B=>simp only[gO,ZK,J!,w!]at B⊢;omega
def zB(ss:List<|E?)(k)(B:k<=l? ss):(kw ss k).length<=gO (ss.take k):=by
 induction k with
 |zero=>simp[kw]|succ k J=>rw[xK ss k o!,qh ss k o!];have:=uS (kw ss k) ss[k];omega
def uB(F:F?)(b)(vB vS vT)(J:E?)(ss:List<|E?)(w)(hh:w.1[b]?=y? (c? #[vB,vS,vT] 120 (0,0)))(hb:kX w F vB J)(hs:Cc w F vS ss)
  (h1:gO ss<=536870912) (h2:l? J<=536870912) :
  lw prog 143 #[p?<|y? ⟨b,0,x?⟩] w λe w'=>∃u,e=e? u/\R? w' w.1.size 202 5 u (dV ss J).length (dG<|dV ss J)/\B? w w':=by
 have aa:=dx hh;obtain⟨vs,ah,ab,_,ad⟩:=hs;obtain⟨aS,cS,rfl,ay⟩:=dC ab;have ai:=h! ad;have aj:=h! ab;have ak:=h! hb;have al:J?<|C? w _=y? vB:=(aa 0);have am:J?<|C? w _=y? (.slice aS _ cS):=(aa 1);have ax:=za ss;clear ad ab hb aa ah hh;go_enter func143,ntmps143;go_wp2;go_loopw [3,4] (λv i wr=>∃k:Nat,k<=l? ss/\i=n? i? k/\R? wr w.1.size 202 5 v (kw ss k).length (dG (kw ss k))/\B? w wr) (λ_ i _=>l? ss-(intOf i).toNat);exact⟨0,ZP _,q?,Z9 _ _ _ _,qr _ _⟩;obtain⟨k,hk,rfl,Y,B⟩:=hrel;have HS:=B.4;have an:=Z0 B am;have az:=zB ss k hk;have a0:=rS ss k;by_cases ac:k<l? ss
 .let ⟨u,hu,ae⟩:=ai.o k ac;obtain⟨bS,oS,rfl,V⟩:=eM aj k _ hu;have ao:=Z0 B V;have ap:=qh ss k ac;have aq:=rS ss<|k+1;have af:=(jB.eo ae.1).below B;clear hu V ae;go_wp2_with fail;apply (rV _ _ (kw ss k) ss[k] wr (jB.eo Y) af o! o!).mono;rintro e w1 ⟨u1,rfl,O,U⟩;rw[<-(h!<|xK ss k ac).o]at O;have ar:=B.trans<|U.mono HS;have W:=eH O HS;clear O U af an ao ap aq;go_wp2;go_roundw
  .exact⟨k+1,o!,by go_num,W,ar⟩
  exact M!
 have ek:k=l? ss:=o!;subst ek;have a1:=Z0 B al;have au:=(jB.eo ak.1).below B;go_wp2_with fail;apply (rV _ _ (kw ss ss.length) J wr (jB.eo Y) au o! o!).mono;rintro e w1 ⟨u1,rfl,O,U⟩;have a2:=uS (kw ss ss.length) J;go_wp2_with fail;apply (pW u1 (dT (kw ss ss.length) J) w1 (jB.eo O) o!).mono;rintro e w2 ⟨u2,rfl,W,ag⟩;have a3:=U.4;have av:=(B.trans<|U.mono HS).trans<|ag.mono o!;have aw:R? w2 w.1.size 202 5 u2 (dV ss J).length<|dG<|dV ss J:=eH W o!;clear W ag U O;go_wp2;go_ret;exact⟨_,q?,aw,av⟩
def lg(s:b?)(w)(hs:s.size<=ls) :
  lw prog 141 #[s? s] w λe w'=>e=e? (.bool<|gr s.1.1)/\w=w':=by
 unfold ls at hs;go_enter func141,ntmps141;go_wp2;go_loop [3] (λi=>∃k:Nat,k<=s.size/\i=n? i? k/\(s.1.1.take k).all eS=t?) (λi=>s.size-(intOf i).toNat);exact⟨0,ZP _,q?,q?⟩;obtain⟨k,hk,rfl,fu⟩:=hrel;have V:=h! fu;clear fu;by_cases B:k<s.size
 .have HS:=h!<|rZ s k B;go_wp2_with fail;apply g!<|qn _ _
  cases O:eS s[k]with
  |true=>
   have U:=h! O;clear O;go_wp2;go_round
   .exact⟨k+1,o!,by go_num,by rw[HS.o,hJ,V.o];simp[U.o]⟩
   exact M!
  |false=>have U:=h! O;clear O;go_wp2;go_ret;refine⟨dW ?_,q?⟩;symm;rw[j?];intro W;simp only[gr,IT]at W;have:=Zy.1 W.1.1 _<|xh s k B;rw[U.o]at this;simp at this
 have J:=V.o;rw[If j!]at J
 have Y:J?<|gr s.1.1=(decide (0<s.size)&&decide (s.size<=8)):=by show gr _=_;unfold gr;rw[J];simp
 by_cases h0:0<s.size
 .go_wp2;go_ret;rw[Y.o];simp[h0];omega
 go_wp2;go_ret;rw[Y.o];simp[h0]
def dF(e:eE):Wd:=dP e.3
def ji(s p:Wd):Bool:=decide (p <+: s)
def fy(s p):ji s p=t?↔p <+: s:=by simp[ji]
def AF(s p):ji s p=(decide (l? p<=l? s)&&(s.take p.length==p)):=by rw[Z8,fy,IT,decide_eq_true_iff,beq_iff_eq,j'];constructor;intro h;refine⟨?_,h.symm⟩;have:=congrArg lp h;simp at this;omega;intro h;exact h.2.symm
def wv:Wd->Wd->Wd
 |a::u,b::B=>if a=b then a::wv u B else []|_,_=>[]
def uv:∀a b,wv a b <+: a
 |[],b=>by cases b<;>exact fa _
 |a::u,[]=>e4|a::u,b::B=>by unfold wv;split;exact U?.2 ⟨q?,uv u B⟩;exact e4
def tk:∀a b,wv a b <+: b
 |[],b=>by cases b<;>exact e4
 |a::u,[]=>fa _|a::u,b::B=>by unfold wv;split;rename_i h;subst h;exact U?.2 ⟨q?,tk u B⟩;exact e4
def uy:∀(a b r:Wd),r <+: a->r <+: b->r <+: wv a b
 |[],b,r,h,_=>by have:=lf.1 h;subst this;exact e4
 |a::u,[],r,_,h=>by have:=lf.1 h;subst this;exact e4
 |a::u,b::J,[],_,_=>e4|a::u,b::J,c::r,U,V=>by have B:=U?.1 U;have O:=U?.1 V;unfold wv;rw[if_pos<|B.1.symm.trans O.1];exact U?.2 ⟨B.1,uy u J r B.2 O.2⟩
def T8:W?->Wd
 |[]=>[]
 |a::u=>u.foldl wv a
def vG(q:Wd)(S:W?):Prop:=(∀s∈S,q <+: s)/\∀r:Wd,(∀s∈S,r <+: s)->r <+: q
def OV:∀(u:W?)(a),vG (u.foldl wv a) (a::u)
 |[],a=>⟨λs B=>by simp at B;subst B;exact fa _,λr h=>h a i!⟩
 |b::u,a=>by
  have J:=OV u<|wv a b
  refine⟨λs B=>?_,λr h=>?_⟩;have O:=J.1 (wv a b) i!;simp only[Zm]at B;obtain rfl|rfl|B:=B
  exact O.trans<|uv ..;exact O.trans<|tk ..;exact J.1 s (by simp[B]);refine J.2 r<|λs B=>?_;simp only[Zm]at B;obtain rfl|B:=B
  exact uy _ _ _ (h a i!)<|h b i!;exact h s (by simp[B])
def A8(h:C≠[]):vG (T8 C) C:=by
 cases C with
 |nil=>exact absurd q? h|cons a u=>exact OV u a
def vG.one(B:vG g C)(J:vG l C):g=l:=
 (J.2 g B.1).eq_of_length (oo (J.2 g B.1).length_le (B.2 l J.1).length_le)
def Oi(h:C≠[])(B:vG g C):T8 C=g:=(A8 h).one B
def vG.congr(h:∀s,s∈C↔s∈x0)(J:vG g C):vG g x0:=
 ⟨λs B=>J.1 s<|(h s).2 B,λr O=>J.2 r<|λs B=>O s<|(h s).1 B⟩
def Nz(h:∀s,s∈C↔s∈x0):T8 C=T8 x0:=by
 by_cases e:C=[];subst e
 have:x0=[]:=by
  cases x0 with
  |nil=>rfl|cons a x0=>exact absurd ((h a).2 i!) i!
 rw[this]
 exact((A8 e).congr h).one (A8 (λB=>by
  subst B
  cases C with
  |nil=>exact e rfl|cons a C=>exact absurd ((h a).1 i!) i!))
def ya(a b:eE):Bool:=q6 a.1 b.1
def sj(out:E?)(x:eE):List eE:=out.takeWhile (λy=>ya y x)++x::out.dropWhile (λy=>ya y x)
def eY(l:E?):List eE:=l.foldl sj []
def mX(l:E?):Prop:=l.Pairwise λa b=>ya b a=f?
def kp(l:E?):Prop:=l.Pairwise λa b=>ya a b=t?
def Ii{J:Type}(q:J->Bool)(A B:List J)(O:∀a∈A,q a=t?)(U:∀b∈B,q b=f?):(A++B).takeWhile q=A/\(A++B).dropWhile q=B:=by
 induction A with
 |nil=>
  cases B with
  |nil=>simp|cons b B=>have:=U b i!;simp[this]
 |cons a A V=>have:=V (λx W=>O x<|by simp[W]);simp[O a i!,this.1,this.2]
def UY{B:Type}{p}:∀(l:List B)(y),y∈l.takeWhile p->p y=t?:=by
 intro l;induction l with
 |nil=>intro y h;simp at h|cons a l J=>
  intro y h;rw[eg]at h;split at h;rename_i O;obtain rfl|h:=Zm.1 h
  exact O;exact J y h;simp at h
def Of{B:Type}{p}:∀(l:List B)(y)(r),l.dropWhile p=y::r->p y=f?:=by
 intro l;induction l with
 |nil=>intro y r h;simp at h|cons a l J=>intro y r h;rw[iv]at h;split at h;exact J y r h;rename_i O;cases h;simpa using O
variable {I:eE}
def WK{y z}(J:ya y I=f?)(O:ya z y=f?):ya z I=f?:=by
 unfold ya at *
 cases h:q6 .. with
 |false=>rfl|true=>
  obtain B|B|B:=jz ..
  rw[lQ _ _ _ B h]at J;cases J;rw[B,h]at J;cases J;rw[B]at O;cases O
def EW(out:E?)(x)(h:mX out):∃A B,out=A++B/\sj out x=A++x::B/\(∀a∈A,ya a x=t?)/\∀b∈B,ya b x=f?:=by
 refine⟨out.takeWhile _,out.dropWhile _,(D?).symm,q?,λa O=>UY out a O,λb hb=>?_⟩;have U:mX<|out.dropWhile<|λy=>ya y x:=List.Pairwise.sublist (List.dropWhile_sublist _) h;have V:=Of (p:=λy=>ya y x) out;generalize out.dropWhile _=B at *
 cases B with
 |nil=>simp at hb|cons c B=>
  have J:=V c B rfl;simp only[Zm]at hb;obtain rfl|hb:=hb
  exact J;exact WK J<|List.rel_of_pairwise_cons U hb
def C7(out:E?)(x)(h:mX out):mX<|sj out x:=by
 obtain⟨A,B,rfl,O,U,V⟩:=EW out x h;rw[O];unfold mX at *;rw[gg]at h⊢;refine⟨h.1,ZS.2 ⟨V,h.2.1⟩,λa J b hb=>?_⟩;simp only[Zm]at hb;obtain rfl|hb:=hb
 exact sE<|U a J;exact h.2.2 a J b hb
def GW(l:E?):∀out,mX out->mX (l.foldl sj out):=by
 induction l with
 |nil=>intro out h;exact h|cons x l B=>intro out h;exact B _<|C7 out x h
def Hb(l:E?):mX<|eY l:=GW l [] List.Pairwise.nil
def Vf(out:E?)(x):(sj out x).Perm (x::out):=by refine p!.trans (List.Perm.cons x ?_);rw[D?]
def N'(l:E?):∀out,(l.foldl sj out).Perm<|l++out:=by
 induction l with
 |nil=>intro out;exact B0 _|cons x l B=>intro out;apply (B _).trans;apply (I? l<|Vf out x).trans;exact p!
def ii(l:E?):(eY l).Perm l:=by have:=N' l [];rwa[Z6]at this
def jG:I∈eY f↔I∈f:=(ii f).mem_iff
def uV(l:E?):(eY l).length=l? l:=(ii l).length_eq
def Nl(p)(out:E?)(x)(h:mX out):(sj out x).filter p=if p x=t? then sj (out.filter p) x else out.filter p:=by obtain⟨A,B,rfl,U,V,W⟩:=EW out x h;rw[U];have Y:∀a∈A.filter p,(λy=>ya y x) a=t?:=λa J=>V a (Zb.1 J).1;have hB:∀a∈B.filter p,(λy=>ya y x) a=f?:=λa J=>W a (Zb.1 J).1;have O:=Ii _ _ _ Y hB;rw[Zj,Zj,A!];split;unfold sj;rw[O.1,O.2];rfl
def He(p)(l:E?):∀out,mX out->(l.foldl sj out).filter p=(l.filter p).foldl sj (out.filter p):=by
 induction l with
 |nil=>intro out _;rfl|cons x l B=>intro out h;rw[G?,B _<|C7 out x h,Nl p out x h,A!];split;rfl;rfl
def mI(p)(l:E?):(eY l).filter p=eY (l.filter p):=He p l [] List.Pairwise.nil
def W8(out:E?)(x)(h:∀a∈out,ya a x=t?):sj out x=out++[x]:=by have:=Ii _ out [] h i!;rw[Z6]at this;unfold sj;rw[this.1,this.2]
def GI(l:E?):∀out,kp (out++l)->l.foldl sj out=out++l:=by
 induction l with
 |nil=>simp|cons x l B=>intro out h;rw[G?,W8 out x<|λa J=>((gg.1 h).2.2) a J x i!,B];simp;simpa using h
def xx(l:E?)(h:kp l):eY l=l:=by simpa[eY]using GI l [] (u! h)
def P9(h:mX f)(J:(f.map eE.name).Nodup):kp f:=by
 rw[k9,ZY]at J;apply (h.and J).imp;rintro a b ⟨O,U⟩;unfold ya at *;obtain B|B|B:=jz ..
 exact B;exact absurd B U;rw[B]at O;cases O
def po(l:E?)(B:(l.map eE.name).Nodup):kp<|eY l:=
 P9 (Hb l) (((ii l).map _).nodup_iff.2 B)
def kp.nodup(h:kp f):(f.map eE.name).Nodup:=by rw[k9,ZY];exact h.imp<|Fu
def NM(B:kp f)(hm:kp U)(h:f.Perm U):f=U:=by refine Bk ?_ B hm h;intro a b _ _ J h2;have:=sE J;unfold ya at h2;rw[h2]at this;cases this
def Kj(B:(f.map eE.name).Nodup)(h:f.Perm U):eY f=eY U:=
 NM (po f B) (po U<|(h.map _).nodup_iff.1 B) (((ii f).trans h).trans (ii U).symm)
def u8(n:Int):UInt8:=v5 (n % 256).toNat
def dM(s:Wd):Wd:=u8 s.length::s
def gK(n:Int):Wd:=[u8<|n.tdiv 65536,u8<|(n.tdiv 256).tmod 256,u8<|n.tmod 256]
def lH(e:eE):Wd:=dM e.1++(dM e.3++(gK e.4++[u8 e.5]))
def gJ(l:E?):Int:=l.foldl (λg e=>if g<e.4 then e.4 else g) 0
def ma(l:E?)(p:Wd):List eE:=l.filter λe=>ji (dF e) p
def gF(l:E?)(p:Wd):List eE:=l.filter λe=>dF e==p
def iP(l:E?)(p:Wd):Bool:=p.isEmpty || l.any (λe=>dF e==p) || l.any λe=>l.any λf=>ji (dF e) p&&ji (dF f) p&&(dF e).getD p.length 0 != (dF f).getD p.length 0
def zv(l:E?)(s:Wd)(n:Nat):Nat:=n+((e8<|l? s-n).takeWhile λi=>!iP l (s.take<|n+i)).length
def tr(l:E?)(p:Wd)(ch:W?)(e:eE):List Wd:=
 if ji (dF e) p=t?/\dF e≠p then ch.set ((dF e).getD p.length 0).toNat ((dF e).take<|zv l (dF e)<|l? p+1)else ch
def eZ(l:E?)(p:Wd)(k:Nat):List Wd:=(l.take k).foldl (tr l p)<|c5 256 []
def pF(l:E?)(p:Wd):List Wd:=(eZ l p l.length).filter λq=>!q.isEmpty
def mu:Nat->E?->Wd->Wd->Wd
 |0,_,p,a=>dM<|p.drop a.length|f+1,l,p,a=>dM (p.drop a.length)++(gK (gJ<|ma l p)++(u8 (gF l p).length::((gF l p).flatMap lH++(u8 (pF l p).length::(pF l p).flatMap λq=>mu f l q p))))
def kR(G:E?)(p:Wd)(c:UInt8):List eE:=G.filter λe=>ji (dF e)<|p++[c]
def iM:List UInt8:=(e8 256).map v5
def jD(G:E?)(p:Wd):List UInt8:=iM.filter λc=>!(kR G p c).isEmpty
def lm(H:E?):Wd:=T8<|H.map dF
def jP:Nat->Wd->E?->Wd
 |0,_,_=>[]
 |f+1,p,G=>gK (gJ G)++(u8 (gF G p).length::((gF G p).flatMap lH++(u8 (jD G p).length::(jD G p).flatMap λc=>dM ((lm<|kR G p c).drop p.length)++jP f (lm<|kR G p c) (kR G p c))))
def iD(p s:Wd)(c:UInt8):p++[c] <+: s↔p <+: s/\l? p<l? s/\s.getD p.length 0=c:=by
 constructor;rintro⟨t,rfl⟩;simp[AS];rintro⟨⟨t,rfl⟩,B,J⟩
 cases t with
 |nil=>simp at B|cons d t=>subst J;exact⟨t,i!⟩
def oz(h:g <+: l)(J:l≠g):l? g<l? l:=by
 obtain B|B:=H! ..
 exact B;exact absurd (h.eq_of_length<|oo h.length_le B).symm J
def Kt(h:g <+: l):l.take g.length=g:=(j'.1 h).symm
def rl(h:g <+: l)(i)(B:i<l? g):l.getD i 0=g.getD i 0:=by obtain⟨t,rfl⟩:=h;rw[AS,AS,Zt B]
def pq:I∈ma f g↔I∈f/\g <+: dF I:=by simp[ma,fy]
def X5(h:g <+: l):ma (ma f g) l=ma f l:=by unfold ma;rw[ZV];refine d? λe _=>?_;rw[Z8,IT,fy,fy];exact⟨λh=>h.1,λB=>⟨B,h.trans B⟩⟩
def nI(l:E?)(p)(c):kR l p c=ma l (p++[c]):=rfl
def oZ(h:f≠[]):vG (lm f)<|f.map dF:=A8<|u! h
def tI(h:ma f g≠[]):g <+: lm (ma f g):=
 (oZ h).2 g (λs B=>by
  obtain⟨e,J,rfl⟩:=Zv.1 B
  exact(pq.1 J).2)
def SP(h:ma f g≠[]):ma f (lm<|ma f g)=ma f g:=by refine d? λe J=>?_;rw[Z8,fy,fy];refine⟨λB=>(tI h).trans B,λB=>?_⟩;exact(oZ h).1 _<|Zv.2 ⟨e,pq.2 ⟨J,B⟩,q?⟩
def X0(he:I∈U)(hp:l <+: dF I)(hn:dF I≠l) :
  (dF I).take (zv U (dF I)<|l? l+1)=lm (ma U<|l++[(dF I).getD l.length 0]):=by
 have V:=(iD _ _ _).2 ⟨hp,oz hp hn,q?⟩;generalize hc:(dF I).getD l.length 0=c at *;have hH:=kx<|pq.2 ⟨he,V⟩;have hq:=oZ hH;have ab:=tI hH;generalize hS:lm (ma U<|l++[c])=q at *;have B:=hq.1 _<|Zv.2 ⟨I,pq.2 ⟨he,V⟩,q?⟩;have ac:=ab.length_le;have ai:=B.length_le;simp only[Zh,T?]at ac
 have ah:iP U q=t?:=by
  unfold iP;simp only[Z7,C!,beq_iff_eq,IT,bne_iff_ne,fy];by_cases hk:∃x∈U,dF x=q;exact .inl (.inr hk);refine .inr ⟨I,he,?_⟩;have aj:=oz B<|λh=>hk ⟨I,he,h⟩;refine ZX λW=>?_
  have fu:∀f∈U,q <+: dF f->(dF f).getD q.length 0=(dF I).getD q.length 0:=by intro f O J;refine ZX λhd=>W ⟨f,O,⟨B,J⟩,λh=>hd h.symm⟩
  have:=hq.2 _ (λs hs=>by
   obtain⟨f,O,rfl⟩:=Zv.1 hs;have J:=hq.1 _ hs;have aa:=(pq.1 O).1
   exact(iD _ _ _).2 ⟨J,oz J<|λh=>hk ⟨f,aa,h⟩,fu f aa J⟩)
  have:=this.length_le;simp at this;omega
 have W:∀n,l? l+1<=n->n<l? q->iP U ((dF I).take n)=f?:=by
  intro n h1 h2
  have hr:(dF I).take n <+: q:=by have:(dF I).take n <+: dF I:=k' ..;exact f' this B j!
  have ad:((dF I).take n).length=n:=j!;have ae:l++[c] <+: (dF I).take n:=f' V (k' ..) j!;generalize (dF I).take n=r at *;have Y:=λf O h=>hq.1 _<|Zv.2 ⟨f,pq.2 ⟨O,ae.trans h⟩,q?⟩;rw[j?];intro hy;unfold iP at hy;simp only[Z7,C!,beq_iff_eq,IT,bne_iff_ne,fy]at hy;rcases hy with(h|⟨f,O,h⟩)|⟨f,O,g,hg,⟨af,ag⟩,hd⟩
  simp at h;subst h;simp at ad;omega;have:=(Y f O (by rw[h];exact fa _)).length_le;rw[h]at this;omega;exact hd (by rw[rl (Y f O af) r.length o!,rl (Y g hg ag) r.length o!])
 have hN:zv U (dF I) (l? l+1)=l? q:=by unfold zv;rw[lT _ _ (l? q-(l? l+1)) j! (λj hj=>?_)<|λhj=>?_];omega;simp only[ky,pd];exact W _ o! o!;simp only[ky,pp];rwa[(o!:l? l+1+(l? q-(l? l+1))=l? q),Kt B]
 rw[hN,Kt B]
def sF(i)(h:i<l? iM):iM[i]=v5 i:=by simp[iM]
def sy:l? iM=256:=by simp[iM]
def Yw(c):v5 c.toNat=c:=by simp
def W6{c}{i:Nat}(B:i<256)(h:i≠c.toNat):v5 i≠c:=by intro e;have:=congrArg UInt8.toNat e;simp at this;omega
def yF(l B:E?)(p:Wd)(c:UInt8):Wd:=if(B.any λe=>ji (dF e)<|p++[c])=t? then lm (ma l<|p++[c])else []
def LC(l B:E?)(p)(e)(W:e∈l):tr l p (iM.map<|yF l B p) e=iM.map (yF l (B++[e]) p):=by
 unfold tr;by_cases h:ji (dF e) p=t?/\dF e≠p;rw[if_pos h];have J:=(fy ..).1 h.1;rw[X0 W J h.2];have Y:=(iD ..).2 ⟨J,oz J h.2,q?⟩;generalize O:(dF e).getD _ 0=c at *;apply jt;simp;intro i V h2;simp only[List.length_set,Z5,sy]at V;rw[List.getElem_set,z?,z?,sF];split;rename_i U;subst U;unfold yF;simp[fy,Y];rename_i U;unfold yF
 have:ji (dF e) (p++[v5 i])=f?:=by rw[j?];intro hb;have:=((iD ..).1<|(fy ..).1 hb).2.2;rw[O]at this;exact W6 V (λh=>U h.symm) this.symm
 simp[this];rw[if_neg h];refine ZM λc _=>?_;unfold yF
 have:ji (dF e) (p++[c])=f?:=by rw[j?];intro hb;have:=(iD ..).1<|(fy ..).1 hb;exact h ⟨(fy ..).2 this.1,λe=>by rw[e]at this;omega⟩
 simp[this]
def Nk(l:E?)(p):∀(m B:E?),(∀e∈m,e∈l)->m.foldl (tr l p) (iM.map<|yF l B p)=iM.map (yF l (B++m) p):=by
 intro m;induction m with
 |nil=>simp|cons e m J=>intro B h;rw[G?,LC l B p e<|h e i!,J _<|λx O=>h x<|by simp[O]];simp
def TE(l:E?)(p):eZ l p l.length=iM.map (yF l l p):=by
 have B:c5 256 ([])=iM.map (yF l [] p):=by apply jt;rw[hM,Z5,sy];intro i J O;rw[List.getElem_replicate,z?];rfl
 unfold eZ;rw[o?,B,Nk l p l []<|λ_ h=>h];simp
def WC(l:E?)(p):(l.any λe=>ji (dF e) p) = !(ma l p).isEmpty:=by
 unfold ma;induction l with
 |nil=>rfl|cons e l B=>rw[lo,A!,B];cases ji _ p<;>simp
def VO{c}(h:ma f (g++[c])≠[]):lm (ma f<|g++[c])≠[]:=by intro e;have:=(tI h).length_le;rw[e]at this;simp at this
def NY(l:E?)(p)(c):yF l l p c=if(kR l p c).isEmpty=t? then []else lm (kR l p c):=by unfold yF;rw[WC,nI];cases(ma l _).isEmpty<;>simp
def Xt(l:E?)(p):pF l p=(jD l p).map λc=>lm<|kR l p c:=by
 unfold pF jD;rw[TE,List.filter_map]
 have B:∀c∈iM,((λq=>!q.isEmpty) ∘ yF l l p) c = !(kR l p c).isEmpty:=by
  intro c _;show(!(yF l l p c).isEmpty)=_;rw[NY]
  cases h:(kR l p c).isEmpty with
  |true=>simp|false=>have:=VO (by rw[<-nI];intro e;rw[e]at h;simp at h);rw[<-nI]at this;simp[this]
 rw[d? B];refine ZM λc J=>?_;have:=(Zb.1 J).2;rw[NY,if_neg];simpa using this
def YF(l:E?)(p):gF (ma l p) p=gF l p:=by unfold gF ma;rw[ZV];refine d? λe _=>?_;rw[Z8,IT,fy,beq_iff_eq];exact⟨λh=>h.1,λh=>⟨h,by rw[h];exact fa _⟩⟩
def Ve(l:E?)(p)(c):kR (ma l p) p c=ma l (p++[c]):=by rw[nI,X5<|kv ..]
def TB(l:E?)(p):jD (ma l p) p=jD l p:=by refine d? λc _=>?_;rw[Ve,nI]
def rQ{c}(h:c∈jD f g):ma f (g++[c])≠[]:=by have:=(Zb.1 h).2;rw[nI]at this;intro e;rw[e]at this;simp at this
def mV{B J:Type}{f g:B->List J}:∀{l:List B},(∀a∈l,f a=g a)->l.flatMap f=l.flatMap g
 |[],_=>rfl|a::l,h=>by rw[c!,c!,h a i!,mV<|λx O=>h x<|by simp[O]]
def EX(l:E?):∀(f)(p a),mu f l p a=dM (p.drop a.length)++jP f p (ma l p):=by
 intro f;induction f with
 |zero=>simp[mu,jP]|succ f J=>
  intro p a
  have O:((jD l p).map λc=>lm<|kR l p c).flatMap (λq=>mu f l q p)=(jD l p).flatMap λc=>dM ((lm<|kR (ma l p) p c).drop p.length)++jP f (lm<|kR (ma l p) p c) (kR (ma l p) p c):=by rw[ld];refine mV λc U=>?_;have B:=rQ U;rw[J,Ve,nI,SP B]
  rw[mu,jP,YF,TB,Xt,Z5,O]
def qV(n:Nat)(B:Wd):Option<|Wd×Wd:=if n<=B.length then y? (B.take n,B.drop n)else x?
def rdNum:Wd->Option (Nat×Wd)
 |[]=>x?|b::r=>y? (b.toNat,r)
def gL(B:Wd):Option<|Wd×Wd:=(rdNum B).bind λx=>qV x.1 x.2
def fA:Wd->Option (Nat×Wd)
 |a::b::c::r=>y? (a.toNat*65536+b.toNat*256+c.toNat,r)|_=>x?
def mO(B:W?)(last J:Wd):Option<|Wd×Wd:=
 (gL J).bind λx=>if gr x.1=t?/\q6 last x.1=t?/\x.1 ∉ B then y? x else x?
def jF(nm B:Wd):Option<|eE×Wd:=
 (gL B).bind λx=>if eh x.1=t?/\x.1≠[]then(fA x.2).bind λy=>if y.1<=1000000 then(rdNum y.2).bind λz=>y? (⟨nm,f?,x.1,y.1,z.1⟩,z.2)else x? else x?
def pG:Nat->Wd->W?->Wd->Wd->Option (E?×Wd)
 |0,_,_,_,B=>y? ([],B)|n+1,path,J,last,B=>(mO J last B).bind λx=>(jF x.1 x.2).bind λy=>if dF y.1=path then(pG n path (J++[x.1]) x.1 y.2).bind λz=>y? (y.1::z.1,z.2)else x?
def pL(node:Wd->W?->Wd->Option (Nat×E?×Wd)):Nat->Wd->W?->Int->Wd->Option (Nat×E?×Wd)
 |0,_,_,_,B=>y? (0,[],B)|n+1,path,J,last,B=>(gL B).bind λx=>if x.1≠[]/\last<((x.1.getD 0 0).toNat:Int)then
   (node (path++x.1) J x.2).bind λy=>(pL node n path (J++y.2.1.map eE.name) ((x.1.getD 0 0).toNat:Int) y.2.2).bind λz=>y? (max y.1 z.1,y.2.1++z.2.1,z.2.2)else x?
def kP:Nat->Wd->W?->Wd->Option (Nat×E?×Wd)
 |0,_,_,_=>x?|f+1,path,B,J=>if path.length<=24 then
   (fA J).bind λa=>(rdNum a.2).bind λb=>(pG b.1 path B [] b.2).bind λc=>(rdNum c.2).bind λd=>(pL (kP f) d.1 path (B++c.1.map eE.name) (-1) d.2).bind λe=>if(a.1:Int)=max (gJ c.1) e.1/\(path=[]\/0<b.1\/1<d.1)then y? (a.1,c.1++e.2.1,e.2.2)else x?
  else x?
def pN:Nat->W?->Wd->Wd->Option (E?×Wd)
 |0,_,_,B=>y? ([],B)|n+1,J,last,B=>(mO J last B).bind λx=>(pN n (J++[x.1]) x.1 x.2).bind λz=>y? (⟨x.1,t?,[],0,0⟩::z.1,z.2)
def pE(B:Wd):Option<|E?×E?:=
 (rdNum B).bind λa=>(pN a.1 [] [] a.2).bind λb=>(gL b.2).bind λc=>if c.1=[]then(kP 26 [] (b.1.map eE.name) c.2).bind λd=>if d.2.2=[]/\0<l? b.1+l? d.2.1/\a.1<=100/\l? d.2.1<=30 then y? (b.1,d.2.1)else x? else x?
def OO(b):u8 b.toNat=b:=by have h:=b.toNat_lt;unfold u8;rw[(o!:((b.toNat:Int) % 256).toNat=b.toNat)];simp
def vX(n:Nat)(h:n<256):(u8 n).toNat=n:=by unfold u8;simp;omega
def fT(h:rdNum g=y? (o,l)):g=u8 o::l/\o<256:=by
 cases g with
 |nil=>simp[rdNum]at h|cons b t=>obtain⟨rfl,rfl⟩:=h;exact⟨by rw[OO],b.toNat_lt⟩
def tS(n:Nat)(h:n<256)(r:Wd):rdNum (u8 n::r)=y? (n,r):=by simp[rdNum,vX n h]
def gq(h:gL g=y? (P,l)):g=dM P++l/\l? P<256:=by
 unfold gL at h
 cases B:rdNum g with
 |none=>rw[B]at h;simp at h|some x=>obtain⟨n,b⟩:=x;obtain⟨rfl,J⟩:=fT B;rw[B]at h;simp only[Zf,qV]at h;split at h;obtain⟨rfl,rfl⟩:=h;have O:(b.take n).length=n:=j!;refine⟨?_,o!⟩;unfold dM;rw[O,B!,S!];simp at h
def ng(t r:Wd)(h:l? t<256):gL (dM t++r)=y? (t,r):=by unfold gL dM;rw[B!,tS _ h];simp[qV]
def yl(n:Nat)(h:n<16777216):gK n=[u8<|(n / 65536:Nat),u8<|(n / 256 % 256:Nat),u8<|(n % 256:Nat)]:=by rfl
def j9(h:fA g=y? (o,l)):g=gK o++l/\o<16777216:=by
 match g,h with
 |a::b::c::t,h=>obtain⟨rfl,rfl⟩:=h;have B:=a.toNat_lt;have hb:=b.toNat_lt;have J:=c.toNat_lt;refine⟨?_,o!⟩;rw[yl _ o!];rw[(o!:(a.toNat*65536+b.toNat*256+c.toNat) / 65536=a.toNat),(o!:(a.toNat*65536+b.toNat*256+c.toNat) / 256 % 256=b.toNat),(o!:(a.toNat*65536+b.toNat*256+c.toNat) % 256=c.toNat),OO,OO,OO];rfl
 |[],h=>simp[fA]at h|[_],h=>simp[fA]at h|[_,_],h=>simp[fA]at h
def um(n:Nat)(h:n<16777216)(r):fA (gK n++r)=y? (n,r):=by rw[yl n h];simp only[B!,E!,fA];rw[vX _ o!,vX _ o!,vX _ o!];congr 2;omega
def zI(l:E?):∀g,0<=g->l.foldl (λg e=>if g<e.4 then e.4 else g) g=max g (gJ l)/\0<=gJ l:=by
 induction l with
 |nil=>simp[gJ];omega|cons e l B=>intro g O;have J:gJ (e::l)=l.foldl .. := rfl;rw[J,G?,(B (if g<e.4 then e.4 else g)<|by split<;>omega).1,(B (if 0<e.4 then e.4 else 0)<|by split<;>omega).1];constructor;split<;>split<;>omega;split<;>omega
def mZ(l:E?):0<=gJ l:=(zI l 0 o!).2
def mo(e)(l:E?):gJ (e::l)=max (max 0 e.4) (gJ l):=by have:=(zI l (if 0<e.4 then e.4 else 0)<|by split<;>omega).1;rw[show gJ (e::l)=l.foldl .. from rfl,this];split<;>omega
def ll(l m:E?):gJ (l++m)=max (gJ l) (gJ m):=by
 induction l with
 |nil=>have:=mZ m;simp only[E!];rw[show gJ []=0 from rfl];omega|cons e l B=>rw[B!,mo,mo];omega
def Ep(h:f.Perm U):gJ f=gJ U:=by
 induction h with
 |nil=>rfl|cons e _ B=>rw[mo,mo,B]|swap a b f=>simp only[mo];omega|trans _ _ J O=>rw[J,O]
def Es(e:eE):Prop:=e.2=f?/\gr e.1=t?/\eh e.3=t?/\e.3≠[]/\0<=e.4/\e.4<=1000000/\0<=e.5/\e.5<=255
def mA{r}(h:mO C g l=y? (P,r)):l=dM P++r/\gr P=t?/\q6 g P=t?/\P ∉ C:=by obtain⟨x,B,h⟩:=ZC.1 h;split at h;rename_i J;simp only[m?]at h;subst h;exact⟨(gq B).1,J⟩;simp at h
def GK(h:jF g l=y? (I,P)):I.1=g/\l=dM I.3++(gK I.4++(u8 I.5::P))/\(gr g=t?->Es I):=by obtain⟨x,J,h⟩:=ZC.1 h;split at h;rename_i B;obtain⟨y,O,h⟩:=ZC.1 h;split at h;obtain⟨z,U,h⟩:=ZC.1 h;obtain⟨rfl,rfl⟩:=h;have V:=fT U;refine⟨q?,?_,λW=>⟨q?,W,B.1,B.2,i!,j!,i!,j!⟩⟩;rw[(gq J).1,(j9 O).1,V.1];simp at h;simp at h
def JV:∀(n)(path)(O:W?)(last U)(es:E?)(rest),pG n path O last U=y? (es,rest)->
  es.length=n/\U=es.flatMap lH++rest/\(∀e∈es,Es e/\dF e=path/\e.1 ∉ O/\q6 last e.1=t?)/\kp es:=by
 intro n;induction n with
 |zero=>intro path O last U es rest h;simp only[pG,m?,yu]at h;obtain⟨rfl,rfl⟩:=h;exact⟨q?,q?,nofun,List.Pairwise.nil⟩
 |succ n W=>
  intro path O last U es rest h;obtain⟨x,Y,h⟩:=ZC.1 h;obtain⟨y,hy,h⟩:=ZC.1 h;split at h;rename_i hk;obtain⟨z,hz,h⟩:=ZC.1 h;obtain⟨rfl,rfl⟩:=h;obtain⟨h1,h2,V,h4⟩:=W _ _ _ _ _ _ hz;have B:=mA Y;have J:=GK hy;refine⟨by simp[h1],?_,?_,?_⟩;rw[B.1,J.2.1,h2,<-J.1];simp[lH];intro e hm;simp only[Zm]at hm;obtain rfl|hm:=hm
  rw[J.1];exact⟨J.2.2 B.2.1,hk,B.2.2.2,B.2.2.1⟩;obtain⟨g1,g2,g3,g4⟩:=V e hm;exact⟨g1,g2,λhc=>g3<|by simp[hc],lQ _ _ _ B.2.2.1 g4⟩;refine ZS.2 ⟨λe hm=>?_,h4⟩;unfold ya;rw[J.1];exact(V e hm).2.2.2;simp at h
def Mj:PanicEntry:={v:=.iface 264<|.agg #[],recovered:=f?}
def iC(w):lw prog 212 #[.bool t?] w λe w'=>e=e? (.tuple #[])/\w=w':=by go_wp2;go_end0;exact⟨q?,q?⟩
def j6(w):lw prog 212 #[.bool f?] w λe w'=>e=.panicked [Mj]/\w=w':=by go_wp2;exact⟨q?,q?,q?⟩
def Ec(w:w?)(B:Nat)(S:b?)(p:Nat)(J:Nat)(O:v?):Prop:=w.1[B]?=y? (c? #[s? S,n? i? p,.map<|y? J,O] 216 (0,0))
def FI(s:b?)(p n):s.extract p (p+n)=⟨((s.1.1.drop p).take n).toArray⟩:=by apply z4;apply Array.ext';simp[List.take_drop]
def jq{w b v}{F:F?}(hF:F b):dy F w<|w.setCell ⟨b,o,x?⟩ v:=
 ⟨q?,q?,q?,by simp[pu],λk J B=>ZH _ _ _ _ (by intro e;subst e;exact B hF)⟩
def Un(Rb)(S:b?)(p Mk)(vt)(n)(w)(h:Ec w Rb S p Mk vt)(hp:p+n<=S.size)(hS:S.size<=1099511627776) :
  lw prog 236 #[p?<|y? ⟨Rb,0,x?⟩,n? i? n] w λe w'=>e=e? (s?<|S.extract p<|p+n)/\Ec w' Rb S (p+n) Mk vt/\dy (· = Rb) w w'/\w'.1.size=w.1.size:=by
 unfold Ec at h;have c0:=dx h;have f1:=dO h 1;have V:=h! h;have W:IntKind.i64.wrap ((S.size:Int)-(p:Int))=(S.size:Int)-(p:Int):=by simp only[X?];omega
 have Y:(n:Int)<=(S.size:Int)-(p:Int):=o!;have J:IntKind.i64.wrap ((p:Int)+(n:Int))=((p+n:Nat):Int):=by simp only[X?];omega
 have O:(p:Int)<=((p+n:Nat):Int):=o!;have U:((p+n:Nat):Int)<=(S.size:Int):=o!;clear h;go_enter func236,ntmps236;go_wp2_with fail;go_region_held3 (λw'=>C? w' ⟨Rb,0,x?⟩=y? (s? S)/\C? w' ⟨Rb,1,x?⟩=y? (n? i? p)) (go_keep) (first|(go_at_call 212;apply g!<|iC _));go_wp2_with fail;go_quiet (fail);go_wp2;go_ret
 have h1:((w.drewN<|1+nq).setCell ⟨Rb,1,x?⟩<|n? i?<|(p:Int)+(n:Int)).1[Rb]?=y? (c? #[s? S,n? i? ((p+n:Nat):Int),.map<|y? Mk,vt] 216 (0,0)):=by rw[heap_set (w:=w.drewN _) V.o];simp
 refine⟨q?,h1,?_,by simp[pu,p']⟩;have B:=jq (w:=w.drewN<|1+nq) (o:=1) (v:=n? i?<|p+n) (F:=(· = Rb)) rfl;exact⟨B.1,B.2,B.3,B.4,B.5⟩
def V0(R)(Rb)(S:b?)(p Mk)(vt)(n)(w)(h:Ec w Rb S p Mk vt)(W:S.size<p+n)(O:p<=S.size)(Y:S.size<=1099511627776)(B:R (.panicked [Mj]) w.drew) :
  lw prog 236 #[p?<|y? ⟨Rb,0,x?⟩,n? i? n] w R:=by
 unfold Ec at h;have c0:=dx h;have U:IntKind.i64.wrap ((S.size:Int)-(p:Int))=(S.size:Int)-(p:Int):=by simp only[X?];omega
 have V:decide (n<=S.size-(p:Int))=f?:=decide_eq_false o!;have J:∀tm:V?,bodyPost prog f236 R (.panic _) {tmps:=tm,defers:=[]} _:=λ_=>⟨q?,B⟩;clear h;go_enter func236,ntmps236;go_wp2_with fail;refine wp_region_held (S:=λw'=>w'=w.drew) k! ?_;refine gf 0 ?_ q? ?_<|gf 1 ?_ q? ?_<|gf 2 ?_ q? ?_<|gf 3 ?_ q? ?_<|gf 4 ?_ q? ?_<|gf 5 ?_ q? ?_<|gf 6 ?_ q? ?_<|gf 7 ?_ q? ?_<|gf 8 ?_ q? ?_<|gf 9 ?_ q? ?_<|gf 10 ?_ q? ?_<|gf 11 ?_ q? ?_ ?_
 any_goals(rintro _ rfl;exact n!)
 refine kY 12 λK' _=>?_;unfold z3;go_simp;apply g!<|j6 _;exact⟨q?,B⟩
def VP(Rb)(S:b?)(p Mk)(vt)(n)(w)(h:Ec w Rb S p Mk vt)(J:S.size<p+n)(B:p<=S.size)(O:S.size<=1099511627776) :
  lw prog 236 #[p?<|y? ⟨Rb,0,x?⟩,n? i? n] w λe w'=>e=.panicked [Mj]/\dy (· = Rb) w w'/\w'.1.size=w.1.size:=
 V0 _ Rb S p Mk vt n w h J B O ⟨q?,⟨q?,q?,q?,Zu _,λ_ _ _=>rfl⟩,q?⟩
def Lt(w:w?)(B:Nat)(S:b?)(rest:Wd)(J:Nat)(O:v?):Prop:=∃p:Nat,Ec w B S p J O/\p<=S.size/\S.1.1.drop p=rest
def Ends{B:Type}(F:F?)(w:w?)(X:Option B)(ok:B->Ending->w?->Prop)(e:Ending)(w':w?):Prop:=dy F w w'/\match X with
 |some x=>ok x e w'|none=>e=.panicked [Mj]
def CM(Rb)(S:b?)(rest)(Mk)(vt)(n:Nat)(w)(h:Lt w Rb S rest Mk vt)(J:S.size<=1099511627776) :
  lw prog 236 #[p?<|y? ⟨Rb,0,x?⟩,n? i? n] w (Ends (· = Rb) w (qV n rest) λx e w'=>e=e? (s? ⟨a? x.1⟩)/\Lt w' Rb S x.2 Mk vt/\w'.1.size=w.1.size):=by
 obtain⟨p,O,W,rfl⟩:=h;have hl:(S.1.1.drop p).length=S.size-p:=i!;unfold qV;by_cases U:n<=(S.1.1.drop p).length;rw[if_pos U];apply (Un Rb S p Mk vt n w O o! J).mono;rintro e w' ⟨rfl,Y,B,V⟩;refine⟨B,?_,⟨p+n,Y,o!,i!⟩,V⟩;rw[FI];rw[if_neg U];apply (VP Rb S p Mk vt n w O o! W J).mono;rintro e w' ⟨rfl,B,V⟩;exact⟨B,q?⟩
def pO(Rb)(S:b?)(rest)(Mk)(vt)(w)(h:Lt w Rb S rest Mk vt)(V:S.size<=1099511627776) :
  lw prog 233 #[p?<|y? ⟨Rb,0,x?⟩] w (Ends (· = Rb) w (rdNum rest) λx e w'=>e=e? (n? i? x.1)/\Lt w' Rb S x.2 Mk vt/\w'.1.size=w.1.size):=by
 have U:=CM Rb S rest Mk vt 1 w h V
 cases rest with
 |nil=>go_enter func233,ntmps233;go_wp2_with fail;apply U.mono;rintro e w' ⟨B,J⟩;subst J;exact⟨q?,B,q?⟩
 |cons b r=>go_enter func233,ntmps233;go_wp2_with fail;apply U.mono;rintro e w' ⟨B,J⟩;obtain⟨rfl,W,Y⟩:=J;have O:J?<|dy _ w w'/\Lt w' Rb S r Mk vt/\w'.1.size=w.1.size:=⟨B,W,Y⟩;go_wp2;go_ret;refine⟨O.1,?_,O.2.1,O.2.2⟩;have hb:=b.toNat_lt;show Ending.returned (n? _<|z1 b.toNat)=e? _;apply dQ;unfold z1;omega
def dy.then{a b c}(h:dy p a b)(k:dy p b c):dy p a c:=h.trans k<|λ_ _ h=>h
def xo(Rb)(S:b?)(rest)(Mk)(vt)(w)(h:Lt w Rb S rest Mk vt)(W:S.size<=1099511627776) :
  lw prog 213 #[p?<|y? ⟨Rb,0,x?⟩] w (Ends (· = Rb) w (gL rest) λx e w'=>e=e? (s? ⟨a? x.1⟩)/\Lt w' Rb S x.2 Mk vt/\w'.1.size=w.1.size):=by
 have O:=pO Rb S rest Mk vt w h W;unfold gL;clear h
 cases J:rdNum rest with
 |none=>rw[J]at O;clear J;go_enter func213,ntmps213;go_wp2_with fail;apply O.mono;rintro e w' ⟨U,rfl⟩;exact⟨q?,U,q?⟩
 |some x=>
  obtain⟨n,r⟩:=x;rw[J]at O;go_enter func213,ntmps213;go_wp2_with fail;apply O.mono;rintro e w1 ⟨U,rfl,g2,g3⟩;have B:=CM Rb S r Mk vt n w1 g2 W
  cases J:qV n r with
  |none=>rw[J]at B;go_wp2_with fail;apply B.mono;rintro e w2 ⟨V,rfl⟩;exact⟨q?,U.then V,by simp only[Zf,J]⟩
  |some y=>rw[J]at B;go_wp2_with fail;apply B.mono;rintro e w2 ⟨V,rfl,g5,g6⟩;have Y:J?<|dy _ w w2/\Lt w2 Rb S _ Mk vt/\w2.1.size=w.1.size:=⟨U.then V,g5,o!⟩;go_wp2;go_ret;refine⟨Y.1,?_⟩;simp only[Zf,(h! J).o];exact⟨q?,Y.2⟩
def F5(n:Nat)(h:n<18446744073709551616):(BitVec.ofInt 64 n).toNat=n:=by rw[BitVec.toNat_ofInt];omega
def U1(x y:Nat)(B:x<4294967296)(J:y<4294967296):bits .or i? x y=((x ||| y:Nat)):=by
 show IntKind.i64.wrap ((BitVec.ofInt 64 x ||| BitVec.ofInt 64 _).toNat)=_;rw[BitVec.toNat_or,F5 x o!,F5 y o!];have h:x ||| y<2 ^ 32:=Nat.or_lt_two_pow o! o!
 rw[X?];omega
def MY(a b c:UInt8):bits BinOp.or IntKind.i64 (bits BinOp.or IntKind.i64 (z1<|z1 a.toNat*65536)<|z1<|z1 b.toNat*256) (z1 c.toNat)=((a.toNat*65536+b.toNat*256+c.toNat:Nat)):=by
 have V:=a.toNat_lt;have hb:=b.toNat_lt;have W:=c.toNat_lt;have B:z1 (z1 a.toNat*65536)=((a.toNat <<< 16)):=by unfold z1;omega
 have J:z1 (z1 b.toNat*256)=((b.toNat <<< 8)):=by unfold z1;omega
 have O:z1 c.toNat=c.toNat:=by unfold z1;omega
 have U:(a.toNat <<< 16+b.toNat <<< 8) ||| c.toNat=a.toNat <<< 16+b.toNat <<< 8+c.toNat:=by have:a.toNat <<< 16+b.toNat <<< 8=(a.toNat*256+b.toNat) <<< 8:=o!;rw[this];exact(n7 o! _).symm
 rw[B,J,O,U1 _ _ o! o!,(n7 o! _).symm,U1 _ _ o! o!,U];simp only[Nat.shiftLeft_eq]
def Cw(Rb)(S:b?)(rest)(Mk)(vt)(w)(h:Lt w Rb S rest Mk vt)(V:S.size<=1099511627776) :
  lw prog 237 #[p?<|y? ⟨Rb,0,x?⟩] w (Ends (· = Rb) w (fA rest) λx e w'=>e=e? (n? i? x.1)/\Lt w' Rb S x.2 Mk vt/\w'.1.size=w.1.size):=by
 have B:=CM Rb S rest Mk vt 3 w h V;clear h V
 have J:∀rest:Wd,l? rest<3->lw prog 236 #[p?<|y? ⟨Rb,0,x?⟩,n? i? 3] w (Ends (· = Rb) w (qV 3 rest) λx e w'=>e=e? (s? ⟨a? x.1⟩)/\Lt w' Rb S x.2 Mk vt/\w'.1.size=w.1.size)->fA rest=x?->
   lw prog 237 #[p?<|y? ⟨Rb,0,x?⟩] w (Ends (· = Rb) w (fA rest) λx e w'=>e=e? (n? i? x.1)/\Lt w' Rb S x.2 Mk vt/\w'.1.size=w.1.size):=by
  intro rest hl B W;have Y:qV 3 rest=x?:=by unfold qV;rw[if_neg o!]
  rw[Y]at B;rw[W];go_enter func237,ntmps237;go_wp2_with fail;apply B.mono;rintro e w' ⟨U,rfl⟩;exact⟨q?,U,q?⟩
 match rest,B with
 |[],B=>exact J _ i! B rfl|[_],B=>exact J _ i! B rfl|[_,_],B=>exact J _ i! B rfl|a::b::c::r,B=>go_enter func237,ntmps237;go_wp2_with fail;apply B.mono;rintro e w1 ⟨U,rfl,g2,g3⟩;have O:J?<|dy _ w w1/\Lt w1 Rb S r Mk vt/\w1.1.size=w.1.size:=⟨U,g2,g3⟩;go_wp2_with fail;go_quiet (fail);go_wp2;go_ret;refine⟨⟨O.1.1,O.1.2,O.1.3,O.1.4,O.1.5⟩,?_,O.2.1,O.2.2⟩;exact dQ<|MY a b c
def bytes_eta(s:b?):s=⟨a? s.1.1⟩:=by simp
def lc(w:w?)(F:F?)(b:Nat)(B:E?)(ss:List<|E?)(V:List<|W?):Prop:=
 ∃J O U,w.1[b]?=y? (c? #[J,O,U] 120 (0,0))/\F b/\kX w F J B/\Cc w F O ss/\nM w F U V
def lc.stay{b}{ss:List<|E?}{J:List<|W?}(h:lc i p b f ss J)(hb:∀k,p k->w'.1[k]?=i.1[k]?):lc w' p b f ss J:=by obtain⟨U,V,W,h1,O,Y,h4,h5⟩:=h;exact⟨U,V,W,by rwa[hb b O],O,Y.stay hb<|λ_ B=>B,h4.stay hb<|λ_ B=>B,h5.stay hb<|λ_ B=>B⟩
def wI{b vB vS vT u}{ss:List<|E?}{ts:List<|W?}(hF:∀k,p k->k<J.1.size)
  (hh:J.1[b]?=y? (c? #[vB,vS,vT] 120 (0,0))) (V:p b) (hs:Cc J p vS ss) (hT:nM J p vT ts) (hb:B? J w')
  (ho:R? w' J.1.size 202 5 u f.length<|dG f) :
  lc (w'.setCell ⟨b,0,x?⟩ u) (iJ p J<|w'.setCell ⟨b,0,x?⟩ u) b f ss ts/\dy p J (w'.setCell ⟨b,0,x?⟩ u):=by
 have aa:=hF b V;have W:(w'.setCell ⟨b,0,x?⟩ u).1.size=w'.1.size:=by simp[pu]
 have ab:w'.1[b]?=y? (c? #[vB,vS,vT] 120 (0,0)):=by rwa[hb.5 b aa]
 have O:∀k,k≠b->(w'.setCell ⟨b,0,x?⟩ u).1[k]?=w'.1[k]?:=λk B=>ZH _ _ _ _ B;have hold:∀k,p k->k≠b->(w'.setCell _ u).1[k]?=J.1[k]?:=λk B ac=>by rw[O k ac,hb.5 k<|hF k B]
 refine⟨⟨u,vS,vT,?_,.inl V,⟨?_,?_⟩,?_,?_⟩,?_⟩;rw[heap_set ab];rfl;refine dJ (eH ho<|ZP _)<|λk B=>O k<|λe=>?_;have:=(ho.lt k B).1;omega;intro k B;have:=ho.lt k B;exact .inr ⟨this.1,by rw[W];exact this.2⟩;obtain⟨vs,h1,Y,h3,h4⟩:=hs;refine⟨vs,h1,dH Y<|λk B=>hold k (h3 k B) (λe=>by subst e;exact fD hh Y d! B),λk B=>Or.inl<|h3 k B,λi hi=>?_⟩;obtain⟨v,hv,U⟩:=h4 i hi;exact⟨v,hv,dJ U.1<|λk B=>hold k (U.2 k B) (λe=>by subst e;exact fC hh U.1 d! B),λk B=>Or.inl<|U.2 k B⟩;obtain⟨vs,h1,Y,h3,h4⟩:=hT;refine⟨vs,h1,dH Y<|λk B=>hold k (h3 k B) (λe=>by subst e;exact fD hh Y d! B),λk B=>Or.inl<|h3 k B,λi hi=>?_⟩;obtain⟨v,hv,U,hf⟩:=h4 i hi;exact⟨v,hv,dH U<|λk B=>hold k (hf k B) (λe=>by subst e;exact fD hh U d! B),λk B=>Or.inl<|hf k B⟩;refine⟨hb.1,hb.2,hb.3,by rw[W];exact hb.4,λk B hn=>?_⟩;rw[O k<|λe=>hn<|by rwa[e],hb.5 k B]
def kM(B:E?)(ss:List<|E?)(name text:Wd)(dR dY:Int):Nat×List eE:=
 if gr name=t? then
  if eh text=t?/\text≠[]then
   if dR<0\/1000000<dR\/dY<0\/255<dY then(3,B)
   else if 30<=(dV ss B).length/\jC (dV ss B) name=x? then(4,B)
   else(0,dT B [⟨name,f?,text,dR,dY⟩])
  else(2,B)
 else(1,B)
def iJ.pa{b}{ss:List<|E?}{J:List<|W?}(h:lc i p b f ss J):lc i (iJ p i i) b f ss J:=by obtain⟨O,U,V,W,Y,h3,h4,h5⟩:=h;exact⟨O,U,V,W,.inl Y,h3.stay (λ_ _=>rfl)<|λ_ B=>Or.inl B,h4.stay (λ_ _=>rfl)<|λ_ B=>Or.inl B,h5.stay (λ_ _=>rfl)<|λ_ B=>Or.inl B⟩
def kH{b}{ss:List<|E?}{O:List<|W?}(h:lc i p b f ss O)(hF:∀k,p k->k<i.1.size)(hb:B? i J):lc J (iJ p i J) b f ss O:=by obtain⟨V,W,Y,h1,U,h3,h4,h5⟩:=h;have B:=λk B=>hb.5 k<|hF k B;exact⟨V,W,Y,by rwa[B b U],.inl U,h3.stay B<|λ_ B=>Or.inl B,h4.stay B<|λ_ B=>Or.inl B,h5.stay B<|λ_ B=>Or.inl B⟩
def QS(F:F?)(b)(B:E?)(ss:List<|E?)(ts:List<|W?)(name text:b?)(dR dY)(w:w?)(hF:∀k,F k->k<w.1.size)(hR:lc w F b B ss ts)(hn:name.size<=ls)(ht:text.size<=ls)
  (h1:gO ss<=536870912) (h2:l? B<=536870912) :
  lw prog 103 #[p?<|y? ⟨b,0,x?⟩,s? name,s? text,n? i? dR,n? i? dY] w λe w'=>e=e? (n? i? (kM B ss name.1.1 text.1.1 dR dY).1)/\
   lc w' (iJ F w w') b (kM B ss name.1.1 text.1.1 dR dY).2 ss ts/\dy F w w':=by
 have HR:=h! hR;clear hR;by_cases J:gr name.1.1=t?
 .by_cases ae:eh text.1.1=t?/\text.1.1≠[]
  .obtain⟨O,ai⟩:=ae
   have ao:text.toList.isEmpty=f?:=by
    rw[X!]
    cases h:text.1.1 with
    |nil=>exact absurd h ai|cons a l=>rfl
   by_cases ad:dR<0\/1000000<dR\/dY<0\/255<dY
   .have HU:J?<|kM B ss name.1.1 text.1.1 dR dY=(3,B):=h!<|by unfold kM;rw[if_pos J,if_pos ⟨O,ai⟩,if_pos ad]
    have a7:dR<0\/(0<=dR/\1000000<dR)\/(0<=dR/\dR<=1000000/\dY<0)\/(0<=dR/\dR<=1000000/\0<=dY/\255<dY):=o!;clear ad;obtain c1|⟨c1,c2⟩|⟨c1,c2,c3⟩|⟨c1,c2,c3,c4⟩:=a7
    all_goals
     go_enter rx,ro;go_wp2_with fail;apply g!<|lg name _ hn;rw[J];go_wp2_with fail;apply g!<|gY text _ ht;rw[O];go_wp2;go_ret;refine⟨dQ (by rw[HU.o];rfl),?_,dy.refl _ _⟩;rw[HU.o];exact iJ.pa HR
   have a':0<=dR:=o!;have aA:dR<=1000000:=o!;have aB:0<=dY:=o!;have aC:dY<=255:=o!;let ⟨vB,vS,vT,hh,ak,ap,aq,ar⟩:=HR.o;have av:=hF b ak
   have HU:J? (kM B ss name.1.1 text.1.1 dR dY=if 30<=(dV ss B).length/\jC (dV ss B) name.1.1=x? then(4,B)else(0,dT B [⟨name.1.1,f?,text.1.1,dR,dY⟩])):=by show kM _ _ _ _ _ _=_;unfold kM;rw[if_pos J,if_pos ⟨O,ai⟩,if_neg ad]
   clear ad ai;go_enter rx,ro;go_wp2_with fail;apply g!<|lg name _ hn;rw[J];go_wp2_with fail;apply g!<|gY text _ ht;rw[O];have HH:=h! hh;have aw:=h! ap;have al:=h! aq;have ax:=h! ar;clear hh ap aq ar J O;go_wp2_with fail;apply (uB F b vB vS vT B ss w HH aw al h1 h2).mono;rintro e w1 ⟨u,rfl,ay,aa⟩;obtain⟨au,cu,rfl,aD⟩:=dK ay;have az:=aa.4;have aE:C? w1 ⟨b,0,x?⟩=y? vB:=Z0 aa (by rw[dx HH.o];rfl);have a0:=(jB.eo aw.1).below aa;by_cases a1:30<=(dV ss B).length
   .go_wp2_with fail;have am:=xP _ _ name.1.1 w1<|jB.eo ay;rw[<-bytes_eta name]at am;apply am.mono;clear am;rintro e w' ⟨rfl,rfl⟩
    cases aj:jC (dV ss B) name.1.1 with
    |none=>
     have V:J?<|kM B ss name.1.1 text.1.1 dR dY=(4,B):=h!<|by rw[HU.o,if_pos ⟨a1,aj⟩]
     rw[show zx x? = -1 from rfl];clear aj;go_wp2;go_ret;refine⟨dQ (by rw[V.o];rfl),?_,dy.eF aa⟩;rw[V.o];exact kH HR hF aa
    |some j=>
     have V:J?<|kM B ss name.1.1 text.1.1 dR dY=(0,dT B [⟨name.1.1,f?,text.1.1,dR,dY⟩]):=h!<|by rw[HU.o,if_neg (λh=>by rw[aj]at h;simp at h)]
     rw[show zx _=j from rfl];clear aj
     have W:jB (w1.alloc<|c? #[s? name,.bool f?,s? text,n? i? dR,n? i? dY] 202) 5 (.slice (y? ⟨w1.1.size,0,x?⟩) 1 1) 1<|dG [⟨name.1.1,f?,text.1.1,dR,dY⟩]:=by have:=jB.uH (w:=w1) (e:=⟨name.1.1,f?,text.1.1,dR,dY⟩) (t:=202) rfl;simp only[<-bytes_eta]at this;simpa[dG]using this
     have ab:Below _ w<|w1.alloc<|c? #[s? name,.bool f?,s? text,n? i? dR,n? i? dY] 202:=aa.alloc az _;have Y:=a0.below<|(qr _ _).alloc (Zu _)<|c? #[s? name,.bool f?,s? text,n? i? dR,n? i? dY] 202;have a8:b<w1.1.size:=o!;go_wp2_with fail;apply (rV _ _ B [⟨name.1.1,f?,text.1.1,dR,dY⟩] _ Y W o! i!).mono;rintro e w3 ⟨u3,rfl,ac,af⟩;obtain⟨a3,c3,rfl,a9⟩:=dK ac;have ag:=ab.4;have U:=ab.trans<|af.mono ag;have ah:=wI hF HH ak al ax U<|eH ac ag;have a2:C? w3 ⟨b,0,x?⟩=y? vB:=Z0 U (by rw[dx HH.o];rfl);have a4:w3.frozen? ⟨b,0,x?⟩=f?:=by rw[U.frozen av];exact dO HH 0
     have an:=h! ah;clear ah ac af U W Y ab;generalize dT B [⟨name.1.1,f?,text.1.1,dR,dY⟩]=nb at *;go_wp2;go_ret;refine⟨dQ (by rw[V.o];rfl),?_⟩;rw[V.o];exact an
   have V:J?<|kM B ss name.1.1 text.1.1 dR dY=(0,dT B [⟨name.1.1,f?,text.1.1,dR,dY⟩]):=h!<|by rw[HU.o,if_neg<|λh=>a1 h.1]
   have W:jB (w1.alloc<|c? #[s? name,.bool f?,s? text,n? i? dR,n? i? dY] 202) 5 (.slice (y? ⟨w1.1.size,0,x?⟩) 1 1) 1<|dG [⟨name.1.1,f?,text.1.1,dR,dY⟩]:=by have:=jB.uH (w:=w1) (e:=⟨name.1.1,f?,text.1.1,dR,dY⟩) (t:=202) rfl;simp only[<-bytes_eta]at this;simpa[dG]using this
   have ab:Below _ w<|w1.alloc<|c? #[s? name,.bool f?,s? text,n? i? dR,n? i? dY] 202:=aa.alloc az _;have Y:=a0.below<|(qr _ _).alloc (Zu _)<|c? #[s? name,.bool f?,s? text,n? i? dR,n? i? dY] 202;have a8:b<w1.1.size:=o!;go_wp2_with fail;apply (rV _ _ B [⟨name.1.1,f?,text.1.1,dR,dY⟩] _ Y W o! i!).mono;rintro e w3 ⟨u3,rfl,ac,af⟩;obtain⟨a3,c3,rfl,a9⟩:=dK ac;have ag:=ab.4;have U:=ab.trans<|af.mono ag;have ah:=wI hF HH ak al ax U<|eH ac ag;have a2:C? w3 ⟨b,0,x?⟩=y? vB:=Z0 U (by rw[dx HH.o];rfl);have a4:w3.frozen? ⟨b,0,x?⟩=f?:=by rw[U.frozen av];exact dO HH 0
   have an:=h! ah;clear ah ac af U W Y ab;generalize dT B [⟨name.1.1,f?,text.1.1,dR,dY⟩]=nb at *;go_wp2;go_ret;refine⟨dQ (by rw[V.o];rfl),?_⟩;rw[V.o];exact an
  have HU:J?<|kM B ss name.1.1 text.1.1 dR dY=(2,B):=h!<|by unfold kM;rw[if_pos J,if_neg ae]
  by_cases O:eh text.1.1=t?
  .have h0:text.1.1=[]:=by
    by_cases h0:text.1.1=[];exact h0;exact absurd ⟨O,h0⟩ ae
   have ao:text.toList.isEmpty=t?:=by rw[X!,h0];rfl
   clear h0 ae;go_enter rx,ro;go_wp2_with fail;apply g!<|lg name _ hn;rw[J];go_wp2_with fail;apply g!<|gY text _ ht;rw[O];go_wp2;go_ret;refine⟨dQ (by rw[HU.o];rfl),?_,dy.refl _ _⟩;rw[HU.o];exact iJ.pa HR
  have a5:eh text.1.1=f?:=by simpa using O
  clear O ae;go_enter rx,ro;go_wp2_with fail;apply g!<|lg name _ hn;rw[J];go_wp2_with fail;apply g!<|gY text _ ht;rw[a5];go_wp2;go_ret;refine⟨dQ (by rw[HU.o];rfl),?_,dy.refl _ _⟩;rw[HU.o];exact iJ.pa HR
 have HU:J?<|kM B ss name.1.1 text.1.1 dR dY=(1,B):=h!<|by unfold kM;rw[if_neg J]
 have a6:gr name.1.1=f?:=by simpa using J
 clear J;go_enter rx,ro;go_wp2_with fail;apply g!<|lg name _ hn;rw[a6];go_wp2;go_ret;refine⟨dQ (by rw[HU.o];rfl),?_,dy.refl _ _⟩;rw[HU.o];exact iJ.pa HR
open Maps
def tZ(s:b?)(w)(hs:s.size<=ls) :
  lw prog 69 #[s? s] w λe w'=>e=e? (.bool<|gr s.1.1)/\w=w':=by
 unfold ls at hs;by_cases h0:0<s.size
 .by_cases h8:s.size<=8
  .go_enter sm,sd;go_wp2;go_loop [14] (λi=>∃k:Nat,k<=s.size/\i=n? i? k/\(s.1.1.take k).all eS=t?) (λi=>s.size-(intOf i).toNat);exact⟨0,ZP _,q?,q?⟩;obtain⟨k,hk,rfl,fu⟩:=hrel;have V:=h! fu;clear fu;by_cases B:k<s.size
   .have Y:=h!<|rZ s k B;go_wp2_with fail;apply g!<|pe _ _
    cases O:eS s[k]with
    |true=>
     have U:=h! O;clear O;go_wp2;go_round
     .exact⟨k+1,o!,by go_num,by rw[Y.o,hJ,V.o];simp[U.o]⟩
     exact M!
    |false=>have U:=h! O;clear O;go_wp2;go_ret;refine⟨dW ?_,q?⟩;symm;rw[j?];intro W;simp only[gr,IT]at W;have:=Zy.1 W.1.1 _<|xh s k B;rw[U.o]at this;simp at this
   go_wp2;go_ret;refine⟨dW ?_,q?⟩;have e:s.1.1.take k=s.1.1:=If j!;have J:=V.o;rw[e]at J;unfold gr;rw[J];simp;omega
  go_enter sm,sd;go_wp2;go_ret;refine⟨dW ?_,q?⟩;simp[gr];omega
 go_enter sm,sd;go_wp2;go_ret;refine⟨dW ?_,q?⟩;simp[gr];omega
def Gy(e:eE):Wd:=if e.2 then []else e.1
def ve(e:eE):v?:=.agg #[.bool e.2,s? ⟨(Gy e).toArray⟩,s? ⟨a? e.3⟩,n? i? e.4,n? i? e.5]
def mQ(e:eE):Wd×v?:=(e.1,ve e)
def Yh(e:eE):Wd×v?:=(e.1,.agg #[])
def fN(w:w?)(B:Nat)(es:E?):Prop:=ed prog 9 w B<|es.map mQ
def ed.map{P k l}(h:ed P k i o l):∃es clock,i.1[o]?=y? (.map es clock):=by obtain⟨D,⟨es,clock,B,_⟩,_⟩:=h;exact⟨es,clock,B⟩
def ed.qc{P k b l}(h:ed P k i o l){cs:V?}{t fz}(hb:i.1[b]?=y? (c? cs t fz)):o≠b:=by obtain⟨es,clock,B⟩:=h.map;intro e;rw[e,hb]at B;cases B
def eN{k o}(h:i.1[k]?=y? o):k<i.1.size:=(AI.1 h).1
def P8(told:E?)(x):((told.map Yh).any λp=>p.1==x)=decide (x∈told.map eE.name):=by rw[Z8,decide_eq_true_eq,C!,Zv];constructor;rintro⟨p,J,h⟩;obtain⟨e,B,rfl⟩:=Zv.1 J;exact⟨e,B,by simpa[Yh]using h⟩;rintro⟨e,B,rfl⟩;exact⟨Yh e,Zv.2 ⟨e,B,q?⟩,by simp[Yh]⟩
def Q7(told:E?)(x):qp (told.map Yh) x (.agg #[])=.agg #[]:=by unfold qp;split;rename_i p B;obtain⟨e,_,rfl⟩:=Zv.1<|j2 B;rfl;rfl
def QP(B:W?)(last bs):mO B last bs=(gL bs).bind λx=>if gr x.1=t?/\q6 last x.1=t?/\x.1 ∉ B then y? x else x?:=rfl
def Za8(x y:Wd):(!q6 x y && !x==y)=q6 y x:=by
 obtain h|h|h:=jz x y
 rw[h,sE h];rfl;subst h;rw[jl];simp;rw[h,sE h];have:(x==y)=f?:=by rw[beq_eq_false_iff_ne];exact λe=>Fu h e.symm
 rw[this];rfl
def Wk(w):(m8 263).run prog w=.ok (.agg #[]) w:=by kernel_rfl
def CE(e:eE):v?:=.agg #[s? ⟨a? e.1⟩,s? ⟨a? e.3⟩,n? i? e.4,n? i? e.5]
def NV(told:E?)(e)(f:eE->Wd×v?)(B:∀e,(f e).1=e.1)(h:e.1 ∉ told.map eE.name):tL (told.map f) e.1 (f e).2=(told++[e]).map f:=by
 unfold tL;rw[ZO.2,Z4,ZK,ZU];have:(e.1,(f e).2)=f e:=by rw[<-B e]
 rw[this];intro p J;obtain⟨x,O,rfl⟩:=Zv.1 J;simp only[bne_iff_ne,ne_eq,B];intro U;exact h<|Zv.2 ⟨x,O,U⟩
def dy.rY(h:i.grownBy J<|y? o):dy (· = o) i J:=⟨h.1,h.2,h.3,h.4,λk B O=>h.5 k B<|λe=>O<|u! e⟩
def Vh(Bx Bs)(told:E?)(e:eE)(at_)(w:w?)(U:w.1[Bx]?=y? (c? #[.map<|y? Bs] 85 (0,0)))(hs:fN w Bs told)(hn:e.1 ∉ told.map eE.name)(hl:l? told<1099511627776)(V:l? e.1<=ls) :
  lw prog 130 #[n? i? at_,s? ⟨a? e.1⟩,ve e,p?<|y? ⟨Bx,0,x?⟩] w λen w'=>en=e? (.tuple #[])/\fN w' Bs (told++[e])/\dy (· = Bs) w w':=by
 have ab:=eN U;obtain⟨w0,J⟩:∃w0,w.alloc (c? #[.bool e.2,s? ⟨(Gy e).toArray⟩,s? ⟨a? e.3⟩,n? i? e.4,n? i? e.5] 111)=w0:=⟨_,q?⟩;have B:B? w w0:=by rw[<-J];exact(qr _ _).alloc (Zu _) _
 have O:w0.1[w.1.size]?=y? (c? #[.bool e.2,s? ⟨(Gy e).toArray⟩,s? ⟨a? e.3⟩,n? i? e.4,n? i? e.5] 111 (0,0)):=by rw[<-J];exact heap_alloc_new w _
 have d0:=dx O;have ac:=Z0 B<|dx U 0;have W:=h! B;have Y:=h!<|ed.below hs B;have HP:=h!<|NV told e mQ (λ_=>rfl) hn;clear U hs hn O B;unfold ve;go_enter func130,ntmps130;go_wp2_with (first|(at_mapUpdate;apply lq _ q? _ _ _ 85 q? 111 q' underlying85 q? Y (by rw[Z5];unfold ls;omega) e.name V q? (ve e) rfl;intro w1 ad aa ae));go_end0;refine⟨q?,?_,?_⟩;unfold fN;rwa[<-HP.o];exact(dy.eF W).then<|dy.rY aa
end
section
open RowKit
variable {f:Wd}{g i:E?}
def Part(f:Nat)(path:Wd)(x:UInt8×E?):Wd:=dM ((lm x.2).drop path.length)++jP f (lm x.2) (eY x.2)
def XT(node:Wd->W?->Wd->Option (Nat×E?×Wd))(f:Nat):Prop:=
 ∀(path:Wd)(B:W?)(J:Wd)(g:Nat)(es:E?)(rest:Wd),node path B J=y? (g,es,rest)->
  (∀e∈es,Es e/\path <+: dF e/\e.1 ∉ B)/\(es.map eE.name).Nodup/\(g:Int)=gJ es/\(path≠[]->es≠[]/\lm es=path)/\J=jP f path (eY es)++rest
def OM(B:List<|UInt8×E?):Prop:=B.Pairwise λa b=>a.1.toNat<b.1.toNat
def CU(path:Wd)(B:List<|UInt8×E?):Prop:=∀x∈B,x.2≠[]/\∀e∈x.2,path++[x.1] <+: dF e
def mH(B:List<|UInt8×E?):List eE:=B.flatMap λx=>x.2
def nodup_append(B:(g.map eE.name).Nodup)(J:(i.map eE.name).Nodup)(O:∀e∈i,e.1 ∉ g.map eE.name):((g++i).map eE.name).Nodup:=by rw[Z4,Zn];refine⟨B,J,λa U b hb=>?_⟩;obtain⟨e,V,rfl⟩:=Zv.1 hb;intro h;subst h;exact O e V U
def Hv{node:Wd->W?->Wd->Option (Nat×E?×Wd)}{f:Nat}(hN:XT node f):∀(n:Nat)(path:Wd)(V:W?)(last:Int)(W:Wd)(g:Nat)(es:E?)(rest:Wd),
  pL node n path V last W=y? (g,es,rest)->∃U:List<|UInt8×E?,l? U=n/\es=mH U/\OM U/\CU path U/\(∀x∈U,last<(x.1.toNat:Int))/\W=U.flatMap (Part f path)++rest/\
   (∀e∈es,Es e/\e.1 ∉ V)/\(es.map eE.name).Nodup/\(g:Int)=gJ es:=by
 intro n;induction n with
 |zero=>intro path V last W g es rest h;simp only[pL,m?,yu]at h;obtain⟨rfl,rfl,rfl⟩:=h;exact⟨[],q?,q?,List.Pairwise.nil,nofun,nofun,q?,nofun,i!,q?⟩
 |succ n ih=>
  intro path V last W g es rest h;obtain⟨⟨t,r⟩,B,h⟩:=ZC.1 h;split at h;rename_i hc;obtain⟨⟨gy,ey,ry⟩,hy,h⟩:=ZC.1 h;obtain⟨⟨gz,ez,rz⟩,hz,h⟩:=ZC.1 h;simp only[m?,yu]at h hc;obtain⟨rfl,rfl,rfl⟩:=h;obtain⟨Y,a2,a3,a4,a5⟩:=hN _ _ _ _ _ _ hy;obtain⟨U,b1,b2,b3,b4,b5,b6,b7,b8,b9⟩:=ih _ _ _ _ _ _ _ hz;obtain⟨ht,O⟩:=hc
  cases t with
  |nil=>exact absurd q? ht|cons c t=>
   simp only[List.getD_cons_zero]at O b5;let ⟨a6,a7⟩:=a4 i!;refine⟨(c,ey)::U,by simp[b1],by rw[b2];rfl,?_,?_,?_,?_,?_,?_,?_⟩;exact ZS.2 ⟨λx B=>by have:=b5 x B;show c.toNat<x.1.toNat;omega,b3⟩;intro x B;simp only[Zm]at B;obtain rfl|B:=B
   exact⟨a6,λe J=>List.IsPrefix.trans (⟨t,i!⟩) (Y e J).2.1⟩;exact b4 x B;intro x B;simp only[Zm]at B;obtain rfl|B:=B
   exact O;have:=b5 x B;omega;have aa:r=jP f _ _++ry:=a5;have ab:ry=U.flatMap _++rz:=b6;rw[(gq B).1,aa,ab,c!];unfold Part;rw[a7];simp;intro e J;rw[Z3]at J;obtain J|J:=J
   exact⟨(Y e J).1,(Y e J).2.2⟩;exact⟨(b7 e J).1,λhk=>(b7 e J).2<|by simp[hk]⟩;exact nodup_append a2 b8<|λe J hm=>(b7 e J).2<|Z' _ hm;rw[ll];omega
  simp at h
def BJ{c:UInt8}(h:∀e∈g,¬f++[c] <+: dF e):kR g f c=[]:=by unfold kR;rw[R!];intro e B hb;exact h e B<|(fy ..).1 hb
def WZ{c:UInt8}(h:∀e∈g,f++[c] <+: dF e):kR g f c=g:=by unfold kR;rw[ZO];intro e B;exact(fy ..).2<|h e B
def NA(l m:E?)(path)(c):kR (l++m) path c=kR l path c++kR m path c:=by unfold kR;rw[Zj]
def tH{s:Wd}{c d:UInt8}(B:f++[c] <+: s)(J:f++[d] <+: s):c=d:=by rw[<-((iD ..).1 B).2.2,((iD ..).1 J).2.2]
def Vy(path):∀(B:List<|UInt8×E?),CU path B->∀c,(∀x∈B,x.1≠c)->kR (mH B) path c=[]:=by intro B O c U;refine BJ λe V W=>?_;obtain⟨x,J,hm⟩:=r!.1 V;exact U x J<|tH ((O x J).2 e hm) W
def Tt(path):∀(B:List<|UInt8×E?),OM B->CU path B->∀x∈B,kR (mH B) path x.1=x.2:=by
 intro B;induction B with
 |nil=>intro _ _ x J;simp at J|cons y B Y=>
  intro hH V x J;have O:=ZS.1 hH;have U:CU path B:=λz W=>V z (by simp[W]);rw[show mH _=y.2++mH B from rfl,NA];simp only[Zm]at J;obtain rfl|J:=J
  rw[WZ (V x i!).2,Vy path B U _ (λz W e=>by have:=O.1 z W;rw[e]at this;omega),Z6];rw[BJ _,Y O.2 U x J,E!];intro e he hp;have:=tH ((V y i!).2 e he) hp;have h2:=O.1 x J;rw[this]at h2;omega
def xy:iM.Pairwise λa b=>a.toNat<b.toNat:=by rw[Zr];intro i j B J O;rw[sF,sF];rw[sy]at B J;simp;omega
def En(c):c∈iM:=by exact Zv.2 ⟨c.toNat,G!.2 c.toNat_lt,i!⟩
def pj{cs:List UInt8}(h:cs.Pairwise λa b=>a.toNat<b.toNat):cs.Nodup:=h.imp (λh e=>by rw[e]at h;omega)
def FO(p)(cs)(h:cs.Pairwise λa b=>a.toNat<b.toNat)(J:∀c,p c=t?↔c∈cs):iM.filter p=cs:=by have B:=xy.filter p;apply Bk (le:=λa b=>a.toNat<b.toNat) (λa b _ _ B O=>o!) B h;rw[j1 (pj B)<|pj h];intro c;rw[Zb,<-J c];exact⟨λh=>h.2,λh=>⟨En c,h⟩⟩
def Uc(h:∀e∈g,dF e≠f):gF g f=[]:=by unfold gF;rw[R!];intro e B hb;exact h e B<|beq_iff_eq.1 hb
def Xd(h:∀e∈g,dF e=f):gF g f=g:=by unfold gF;rw[ZO];intro e B;exact beq_iff_eq.2<|h e B
def SZ{B:List<|UInt8×E?}(h:CU f B):∀e∈mH B,dF e≠f:=by intro e J O;obtain⟨x,U,hm⟩:=r!.1 J;have:=((iD ..).1<|(h x U).2 e hm).2.1;rw[O]at this;omega
def X3(h:∀e∈g,dF e=f)(c:UInt8):kR g f c=[]:=
 BJ λe B J=>by have:=((iD ..).1 J).2.1;rw[h e B]at this;omega
def Ck(f)(path)(own:E?)(B:List<|UInt8×E?)(h1:kp own)(Y:∀e∈own,dF e=path)(U:OM B)(O:CU path B) :
  jP (f+1) path (eY<|own++mH B)=gK (gJ<|own++mH B)++(u8 own.length::(own.flatMap lH++(u8 B.length::B.flatMap (Part f path)))):=by
 have e1:gF (eY<|own++mH B) path=own:=by rw[gF,mI,Zj];have a:=Xd Y;have b:=Uc<|SZ O;unfold gF at a b;rw[a,b,Z6,xx own h1]
 have e2:∀c,kR (eY<|own++mH B) path c=eY (kR (mH B) path c):=by intro c;unfold kR;rw[mI,Zj];have a:=X3 Y c;unfold kR at a;rw[a,E!]
 have e3:jD (eY<|own++mH B) path=B.map (·.1):=by
  refine FO _ _ (ZY.2 U)<|λc=>?_;rw[e2,Zv];constructor;intro h;refine ZX λV=>?_;rw[Vy path B O c<|λx J e=>V ⟨x,J,e⟩]at h;simp[eY]at h;rintro⟨x,J,rfl⟩;rw[Tt path B U O x J];have:=(O x J).1;have W:=uV x.2
  cases hq:eY _ with
  |nil=>rw[hq]at W;cases h:x.2 with
   |nil=>exact absurd h this|cons a b=>rw[h]at W;simp at W
  |cons a b=>rfl
 rw[jP,e1,e3,Ep<|ii _,Z5,ld];congr 4;refine mV λx J=>?_;rw[e2,Tt path B U O x J];unfold Part
 have:lm (eY _)=lm x.2:=Nz λs=>by rw[Zv,Zv];exact⟨λ⟨e,h,k⟩=>⟨e,jG.1 h,k⟩,λ⟨e,h,k⟩=>⟨e,jG.2 h,k⟩⟩
 rw[this]
def Pv(Y:∀e∈g,f <+: dF e)(h:(∃e∈g,dF e=f)\/∃a∈g,∃b∈g,∃c d:UInt8,c≠d/\f++[c] <+: dF a/\f++[d] <+: dF b):g≠[]/\lm g=f:=by
 have O:g≠[]:=by obtain⟨e,J,_⟩|⟨e,J,_⟩:=h<;>exact kx J
 refine⟨O,Oi (u! O) ⟨λs hs=>?_,λr hr=>?_⟩⟩;obtain⟨e,J,rfl⟩:=Zv.1 hs;exact Y e J;have B:=λe J=>hr _<|Zv.2 ⟨e,J,q?⟩;obtain⟨e,J,hk⟩|⟨a,V,b,hb,c,d,W,h1,h2⟩:=h
 rw[<-hk];exact B e J;obtain U|U:=H! ..
 have g1:=((iD ..).1 h1).2.2;have g2:=((iD ..).1 h2).2.2;rw[rl (B a V) _ U]at g1;rw[rl (B b hb) _ U]at g2;exact absurd (g1.symm.trans g2) W;exact f' (B a V) (Y a V) U
def Iy:∀f,XT (kP f) f:=by
 intro f;induction f with
 |zero=>intro path ks bs g es rest h;simp[kP]at h|succ f ih=>
  intro path ks bs g es rest h;unfold kP at h;split at h;obtain⟨⟨a,ra⟩,ha,h⟩:=ZC.1 h;obtain⟨⟨b,rb⟩,hb,h⟩:=ZC.1 h;obtain⟨⟨own,rc⟩,hc,h⟩:=ZC.1 h;obtain⟨⟨d,rd⟩,hd,h⟩:=ZC.1 h;obtain⟨⟨gk,ek,re⟩,O,h⟩:=ZC.1 h;split at h;rename_i B;simp only[m?,yu]at h B hb hc hd O;obtain⟨rfl,rfl,rfl⟩:=h;obtain⟨o1,o2,U,o4⟩:=JV _ _ _ _ _ _ _ hc;obtain⟨hs,k1,V,k3,k4,_,k5,k6,k7,k8⟩:=Hv ih _ _ _ _ _ _ _ _ O
  have J:∀e∈own++ek,path <+: dF e:=by
   intro e hm;rw[Z3]at hm;obtain hm|hm:=hm
   rw[(U e hm).2.1];exact fa _;rw[V]at hm;obtain⟨x,hx,hm⟩:=r!.1 hm;exact List.IsPrefix.trans (kv _ _)<|(k4 x hx).2 e hm
  refine⟨λe hm=>⟨?_,J e hm,?_⟩,?_,?_,?_,?_⟩;rw[Z3]at hm;obtain hm|hm:=hm
  exact(U e hm).1;exact(k6 e hm).1;rw[Z3]at hm;obtain hm|hm:=hm
  exact(U e hm).2.2.1;exact λhk=>(k6 e hm).2 (by simp[hk]);exact nodup_append o4.nodup k7<|λe O hm=>(k6 e O).2<|Z' _ hm;rw[ll,B.1,k8];intro hp;apply Pv J;obtain h|h|h:=B.2
  exact absurd h hp
  cases own with
  |nil=>simp at o1;omega|cons e own=>exact .inl ⟨e,i!,(U e i!).2.1⟩
  match hs,k1 with
  |[],k1=>simp at k1;omega|[_],k1=>simp at k1;omega|x::y::ab,k1=>have hx:=k4 x i!;have hy:=k4 y i!;have aa:=(ZS.1 k3).1 y i!;let ⟨e1,W⟩:=L! _ hx.1;let ⟨e2,Y⟩:=L! _ hy.1;refine .inr ⟨e1,?_,e2,?_,x.1,y.1,λh=>by rw[h]at aa;omega,hx.2 e1 W,hy.2 e2 Y⟩;rw[V];simp[mH,W];rw[V];simp[mH,Y]
  have b6:a=gJ (own++mH hs):=by rw[ll,B.1,k8,V]
  rw[V,Ck f path own hs o4 (λe O=>(U e O).2.1) k3 k4,(j9 ha).1,(fT hb).1,o2,(fT hd).1,k5,<-b6,o1,k1];simp;simp at h;simp at h
def ur:∀(n)(J:W?)(last O)(es:E?)(rest),pN n J last O=y? (es,rest)->
  es.length=n/\O=es.flatMap (λe=>dM e.1)++rest/\(∀e∈es,e=⟨e.1,t?,[],0,0⟩/\gr e.1=t?/\e.1 ∉ J/\q6 last e.1=t?)/\kp es:=by
 intro n;induction n with
 |zero=>intro J last O es rest h;simp only[pN,m?,yu]at h;obtain⟨rfl,rfl⟩:=h;exact⟨q?,q?,nofun,List.Pairwise.nil⟩
 |succ n V=>
  intro J last O es rest h;obtain⟨x,W,h⟩:=ZC.1 h;obtain⟨z,Y,h⟩:=ZC.1 h;obtain⟨rfl,rfl⟩:=h;obtain⟨h1,h2,U,h4⟩:=V _ _ _ _ _ Y;have B:=mA W;refine⟨by simp[h1],?_,?_,?_⟩;rw[B.1,h2];simp;intro e hm;simp only[Zm]at hm;obtain rfl|hm:=hm
  exact⟨q?,B.2.1,B.2.2.2,B.2.2.1⟩;obtain⟨g1,g2,g3,g4⟩:=U e hm;exact⟨g1,g2,λhc=>g3<|by simp[hc],lQ _ _ _ B.2.2.1 g4⟩;exact ZS.2 ⟨λe hm=>(U e hm).2.2.2,h4⟩
def fc(l:E?):Wd:=u8 ((eY l).filter λe=>e.2).length::(((eY l).filter λe=>e.2).flatMap (λe=>dM e.1)++(dM []++jP 26 [] ((eY l).filter λe=>!e.2)))
def Sh(e:eE):Prop:=Es e\/(e=⟨e.1,t?,[],0,0⟩/\gr e.1=t?)
structure nz(l:E?):Prop where
 each:∀e∈l,Sh e
 nodup:(l.map eE.name).Nodup
 some:l≠[]
 gone:(l.filter λe=>e.2).length<=100
 there:(l.filter λe=>!e.2).length<=30
def CO{es:E?}(h:pE f=y? (i,es)):nz (i++es)/\f=fc (i++es)/\(∀e∈i,e.2=t?)/\∀e∈es,e.2=f?:=by
 obtain⟨⟨n,ra⟩,ha,h⟩:=ZC.1 h;obtain⟨⟨gs',rb⟩,hb,h⟩:=ZC.1 h;obtain⟨⟨t,rc⟩,W,h⟩:=ZC.1 h;split at h;rename_i Y;obtain⟨⟨g,O,rd⟩,hd,h⟩:=ZC.1 h;split at h
 rename_i B;simp only[m?,yu]at h B Y hb W hd;obtain⟨rfl,rfl⟩:=h;subst Y;obtain⟨g1,g2,U,g4⟩:=ur _ _ _ _ _ _ hb;obtain⟨n1,n2,n3,n4,n5⟩:=Iy 26 _ _ _ _ _ _ hd;have V:∀e∈gs',e.2=t?:=λe J=>by rw[(U e J).1]
 have J:=λe J=>(n1 e J).1.1;have f1:=ZO.2 V;have f2:O.filter (λe=>e.2)=[]:=R!.2 (λe h=>by rw[J e h];simp);have f3:gs'.filter (λe=>!e.2)=[]:=R!.2 (λe h=>by rw[V e h];simp);have f4:O.filter (λe=>!e.2)=O:=ZO.2 (λe h=>by rw[J e h];rfl);refine⟨⟨?_,?_,?_,?_,?_⟩,?_,V,J⟩;intro e hm;rw[Z3]at hm;obtain hm|hm:=hm
 exact .inr ⟨(U e hm).1,(U e hm).2.1⟩;exact .inl (n1 e hm).1;exact nodup_append g4.nodup n2<|λe J=>(n1 e J).2.2;intro e;have:=congrArg lp e;rw[Zh,F!]at this;omega;rw[Zj,f1,f2,Z6,g1];exact B.2.2.1;rw[Zj,f3,f4];exact B.2.2.2;unfold fc;rw[mI,mI,Zj,Zj,f1,f2,f3,f4,Z6,xx gs' g4,g1,(fT ha).1,g2,(gq W).1,n5,B.1];simp;simp at h;simp at h
def gG(B:Wd):Option<|E?:=if 4000<B.length then x? else(pE B).map λx=>x.1++x.2
def yx(bs):gG bs=if 4000<bs.length then x? else(pE bs).map λx=>x.1++x.2:=rfl
end
