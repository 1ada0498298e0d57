import PyProof.Rows.All
import Wide.All
import OpenK.AllK
import Wide.FinOn
import Lean
import PyProof.EqAt
import PyProof.EqKinds
import PyProof.TupleCall
import KE.KRevIter
import KE.KIntText
import PyProof.Rows.StrNews
import KE.KSortTup
import PyProof.Rows.SetFrom
import PyProof.WalksMore
import KE.KRevSl
import PyProof.ZipIter
import PyProof.TupleIter
import KE.KItemsList
import PyProof.ListRange
import PyProof.Rows.SortRuns
import PyProof.WalksEnum
import PyProof.EnumMake
import PyProof.TupleOfStr
import PyProof.SetRoads
import PySem.Challenge.RW_pathask_k61_what_shows_it
set_option compiler.extract_closed false
set_option genSizeOf false
def q0(h:0=0:=by rfl)(j:0=0:=by decide):True:=⟨⟩
def r0:=q0._auto_1
def r1:=q0._auto_3
open List renaming findIdx?_eq_some_iff_getElem->zaa,eq_nil_of_length_eq_zero->zab,getElem?_append_right->zac,getD_eq_getElem?_getD->zad,getElem?_eq_some_iff->zaf,getElem?_append_left->zag,getElem?_zip_eq_some->zah,drop_eq_getElem_cons->zai,getElem?_eq_getElem->zal,getElem?_cons_succ->zam,take_of_length_le->zan,drop_of_length_le->zao,filter_eq_nil_iff->zap,mem_append_right->zav,length_singleton->zaw,set_append_right->zax,length_filter_le->zay,getElem?_eq_none->zaz,mem_cons_of_mem->zaC,mem_append_left->zaD,getElem?_set_ne->zaE,mem_of_getElem? -> zaF,set_append_left->zaG,filterMap_cons->zaK,getElem_of_mem->zaL,length_reverse->zaM,map_congr_left->zaN,filter_eq_self->zaO,mem_map_of_mem->zaP,mem_filterMap->zaT,length_append->zaU,mem_cons_self->zaV,getElem?_take->zaW,zip_cons_cons->zaX,mem_singleton->zaY,set_cons_zero->zaZ,set_cons_succ->zba,pairwise_cons->zbb,size_toArray->zbj,any_eq_false->zbk,getElem?_map->zbl,getElem?_set->zbm,append_assoc->zbn,length_range->zbo,nodup_append->zbp,ext_getElem? -> zbq,pairwise_map->zbr,length_take->zbA,length_cons->zbB,length_drop->zbC,lookup_cons->zbD,all_eq_true->zbE,take_length->zbF,getElem_mem->zbG,not_mem_nil->zbH,any_eq_true->zbI,cons_append->zbJ,ext_getElem->zbK,perm_middle->zbL,nodup_range->zbM,filter_cons->zbN,mem_flatten->zbO,isEmpty_map->zbP,isEmpty_iff->zbQ,mem_filter->zbT,mem_append->zbU,length_map->zbV,append_nil->zbW,nodup_cons->zbX,length_set->zbY,foldl_cons->zbZ,map_append->zca,nil_append->zcb,range_succ->zcc,mem_range->zci,replicate->zcj,mem_cons->zcq,any_cons->zcr,map_cons->zcs,all_cons->zct,map_take->zcu,all_map->zcB,any_map->zcC,set_set->zcD,mem_map->zcE,map_map->zcF,length->zcQ,range->zcV,cons->zcW,map->zcY
open Array renaming getElem?_eq_some_iff->zae,getElem?_eq_getElem->zaj,getElem?_eq_none->zaq,getElem?_toList->zaA,toArray_toList->zaI,toList_extract->zaJ,length_toList->zaR,forIn_toList->zbg,toList_push->zbw
open PySem.Calls renaming call_function_entry->zak,callWith_builtin->zau,spliced_cons->zbi,spliced_nil->zbz
open Option renaming map_eq_some_iff->zar,some->zcU
open PySem.Heap renaming get?_push_of_some->zas,get?_update_other->zat,get?_update_self->zaB,get?_push_size->zaS,size_push->zcp,lt_size->zcP
open Nat renaming pow_le_pow_right->zaH,add_left_cancel->zaQ,lt_of_lt_of_le->zbc,lt_succ_of_lt->zbs,le_of_lt_succ->zbt,not_lt_zero->zcd,lt_irrefl->zcv,ne_of_lt->zcG,le_trans->zcH,le_of_lt->zcI,ne_of_gt->zcJ,lt_trans->zcK,lt_or_ge->zcL,le_refl->zcR,zero_le->zcS,le_succ->zcT
open Int renaming emod_lt_of_pos->zbd,toNat_natCast->zbu,emod_nonneg->zce,toNat->zcX
open Bool renaming false_ne_true->zbe,not_eq_false'->zbf,not_eq_true'->zbv,and_eq_true->zbR,eq_iff_iff->zcf,false_bne->zck,false_and->zcl,and_self->zcw,and_true->zcx,true_and->zcy,true_bne->zcz
open PySem.W renaming mg_none_of->zbh,hasDictIn->zbx,emptyDict->zby,plainGet->zbS,instObj->zcg,kia_one->zch,findIn->zcm,keepIn->zcn,codeIn->zco,mg_of->zcA,isFn->zcM,fnOf->zcN,nsIn->zcO
open PySem renaming wpAny_bind->yaa,wpAny_pure->yab,wpAny_mono->yac,wpAny_holding->yad,wpAny_newObj_type->yae,sizeLine_eq->yaf,sizeLine->yag,Shared->yah,Value->yai,Program->yaj,World->yak,Around->yal,PyData->yam,compareOp->yan,starEach->yao,FuncData->yap,mainGlobals->yaq,wpAny->yar,sysModules->yas,swapsWith->yat,backTo->yau,DictEntry->yav,GenState->yaw,codeAny_mono->yax,wpAny_standAt->yay,callWith->yaz,bindArgs->yaA,BindsTo->yaB,wpAny_onRaise->yaC,getMethod->yaD,keywordEach->yaE,backToKw->yaF,wpAny_execs_nil->yaG,wpAny_execs_cons->yaH,wpAny_call->yaI
open PySem.W renaming Frag->yaJ
def yDf{p:Prop}[Decidable p](h:¬p):decide p=false:=decide_eq_false h
def yDt{p:Prop}[Decidable p](h:p):decide p=true:=decide_eq_true h
theorem yIn.{u}{h:Decidable c} (n:¬c) {α:Sort u}{t e:α}:(ite c t e)=e:=if_neg n
theorem yIp.{u}{h:Decidable c} (n:c) {α:Sort u}{t e:α}:(ite c t e)=t:=if_pos n
def ySz(n:Nat)(h:autoParam (n<=100) r1):n<=PySem.sizeLine:=by rw[PySem.sizeLine_eq];lia
set_option Elab.async false
set_option linter.all false
set_option autoImplicit true
set_option relaxedAutoImplicit true
set_option maxRecDepth 100000
def x0_1{p q:Prop}{C:Prop}(k:p->q->C):(p/\q)->C:=λn=>k n.1 n.2
def x0_2{p q r:Prop}{C:Prop}(k:p->q->r->C):(p/\q/\r)->C:=λn=>k n.1 n.2.1 n.2.2
def x0_3{p q r s:Prop}{C:Prop}(k:p->q->r->s->C):(p/\q/\r/\s)->C:=λn=>k n.1 n.2.1 n.2.2.1 n.2.2.2
def x0_4{p q r s t:Prop}{C:Prop}(k:p->q->r->s->t->C):(p/\q/\r/\s/\t)->C:=λn=>k n.1 n.2.1 n.2.2.1 n.2.2.2.1 n.2.2.2.2
def x0_5{p q r s t u:Prop}{C:Prop}(k:p->q->r->s->t->u->C):(p/\q/\r/\s/\t/\u)->C:=λn=>k n.1 n.2.1 n.2.2.1 n.2.2.2.1 n.2.2.2.2.1 n.2.2.2.2.2
def x0_6{p q r s t u v:Prop}{C:Prop}(k:p->q->r->s->t->u->v->C):(p/\q/\r/\s/\t/\u/\v)->C:=λn=>k n.1 n.2.1 n.2.2.1 n.2.2.2.1 n.2.2.2.2.1 n.2.2.2.2.2.1 n.2.2.2.2.2.2
def x1_0{A:Type}{p:A->Prop}{C:Prop}(k:∀a,p a->C):(∃a,p a)->C:=λn=>n.elim k
def x1_1{A:Type}{p q:A->Prop}{C:Prop}(k:∀a,p a->q a->C):(∃a,p a/\q a)->C:=λn=>n.elim λn=>x0_1 (k n)
def x1_2{A:Type}{p q r:A->Prop}{C:Prop}(k:∀a,p a->q a->r a->C):(∃a,p a/\q a/\r a)->C:=λn=>n.elim λn=>x0_2 (k n)
def x1_3{A:Type}{p q r s:A->Prop}{C:Prop}(k:∀a,p a->q a->r a->s a->C):(∃a,p a/\q a/\r a/\s a)->C:=λn=>n.elim λn=>x0_3 (k n)
def x1_4{A:Type}{p q r s t:A->Prop}{C:Prop}(k:∀a,p a->q a->r a->s a->t a->C):(∃a,p a/\q a/\r a/\s a/\t a)->C:=λn=>n.elim λn=>x0_4 (k n)
def x1_5{A:Type}{p q r s t u:A->Prop}{C:Prop}(k:∀a,p a->q a->r a->s a->t a->u a->C):(∃a,p a/\q a/\r a/\s a/\t a/\u a)->C:=λn=>n.elim λn=>x0_5 (k n)
def x2_0{A B:Type}{p:A->B->Prop}{C:Prop}(k:∀a b,p a b->C):(∃a b,p a b)->C:=λn=>n.elim λn=>x1_0 (k n)
def x2_1{A B:Type}{p q:A->B->Prop}{C:Prop}(k:∀a b,p a b->q a b->C):(∃a b,p a b/\q a b)->C:=λn=>n.elim λn=>x1_1 (k n)
def x2_2{A B:Type}{p q r:A->B->Prop}{C:Prop}(k:∀a b,p a b->q a b->r a b->C):(∃a b,p a b/\q a b/\r a b)->C:=λn=>n.elim λn=>x1_2 (k n)
def x2_3{A B:Type}{p q r s:A->B->Prop}{C:Prop}(k:∀a b,p a b->q a b->r a b->s a b->C):(∃a b,p a b/\q a b/\r a b/\s a b)->C:=λn=>n.elim λn=>x1_3 (k n)
def x2_4{A B:Type}{p q r s t:A->B->Prop}{C:Prop}(k:∀a b,p a b->q a b->r a b->s a b->t a b->C):(∃a b,p a b/\q a b/\r a b/\s a b/\t a b)->C:=λn=>n.elim λn=>x1_4 (k n)
def x3_0{A B D:Type}{p:A->B->D->Prop}{C:Prop}(k:∀a b c,p a b c->C):(∃a b c,p a b c)->C:=λn=>n.elim λn=>x2_0 (k n)
def x3_1{A B D:Type}{p q:A->B->D->Prop}{C:Prop}(k:∀a b c,p a b c->q a b c->C):(∃a b c,p a b c/\q a b c)->C:=λn=>n.elim λn=>x2_1 (k n)
def x3_2{A B D:Type}{p q r:A->B->D->Prop}{C:Prop}(k:∀a b c,p a b c->q a b c->r a b c->C):(∃a b c,p a b c/\q a b c/\r a b c)->C:=λn=>n.elim λn=>x2_2 (k n)
def x3_3{A B D:Type}{p q r s:A->B->D->Prop}{C:Prop}(k:∀a b c,p a b c->q a b c->r a b c->s a b c->C):(∃a b c,p a b c/\q a b c/\r a b c/\s a b c)->C:=λn=>n.elim λn=>x2_3 (k n)
def x4_0{A B D E:Type}{p:A->B->D->E->Prop}{C:Prop}(k:∀a b c d,p a b c d->C):(∃a b c d,p a b c d)->C:=λn=>n.elim λn=>x3_0 (k n)
def x4_1{A B D E:Type}{p q:A->B->D->E->Prop}{C:Prop}(k:∀a b c d,p a b c d->q a b c d->C):(∃a b c d,p a b c d/\q a b c d)->C:=λn=>n.elim λn=>x3_1 (k n)
def x4_2{A B D E:Type}{p q r:A->B->D->E->Prop}{C:Prop}(k:∀a b c d,p a b c d->q a b c d->r a b c d->C):(∃a b c d,p a b c d/\q a b c d/\r a b c d)->C:=λn=>n.elim λn=>x3_2 (k n)
def x5_0{A B D E F:Type}{p:A->B->D->E->F->Prop}{C:Prop}(k:∀a b c d e,p a b c d e->C):(∃a b c d e,p a b c d e)->C:=λn=>n.elim λn=>x4_0 (k n)
def x5_1{A B D E F:Type}{p q:A->B->D->E->F->Prop}{C:Prop}(k:∀a b c d e,p a b c d e->q a b c d e->C):(∃a b c d e,p a b c d e/\q a b c d e)->C:=λn=>n.elim λn=>x4_1 (k n)
def x6_0{A B D E F G:Type}{p:A->B->D->E->F->G->Prop}{C:Prop}(k:∀a b c d e f,p a b c d e f->C):(∃a b c d e f,p a b c d e f)->C:=λn=>n.elim λn=>x5_0 (k n)
def xe2{A B:Type}{p:A->B->Prop}(a b)(k:p a b):∃a b,p a b:=⟨a,b,k⟩
def xe3{A B D:Type}{p:A->B->D->Prop}(a b c)(k:p a b c):∃a b c,p a b c:=⟨a,b,c,k⟩
def xe4{A B D E:Type}{p:A->B->D->E->Prop}(a b c d)(k:p a b c d):∃a b c d,p a b c d:=⟨a,b,c,d,k⟩
def xe5{A B D E F:Type}{p:A->B->D->E->F->Prop}(a b c d e)(k:p a b c d e):∃a b c d e,p a b c d e:=⟨a,b,c,d,e,k⟩
def xe6{A B D E F G:Type}{p:A->B->D->E->F->G->Prop}(a b c d e f)(k:p a b c d e f):∃a b c d e f,p a b c d e f:=⟨a,b,c,d,e,f,k⟩
def xe7{A B D E F G H:Type}{p:A->B->D->E->F->G->H->Prop}(a b c d e f g)(k:p a b c d e f g):∃a b c d e f g,p a b c d e f g:=⟨a,b,c,d,e,f,g,k⟩
def xe8{A B D E F G H I:Type}{p:A->B->D->E->F->G->H->I->Prop}(a b c d e f g h)(k:p a b c d e f g h):∃a b c d e f g h,p a b c d e f g h:=⟨a,b,c,d,e,f,g,h,k⟩
def xe9{A B D E F G H I J:Type}{p:A->B->D->E->F->G->H->I->J->Prop}(a b c d e f g h i)(k:p a b c d e f g h i):∃a b c d e f g h i,p a b c d e f g h i:=⟨a,b,c,d,e,f,g,h,i,k⟩
local macro_rules|`(tactic|let ⟨$x,*⟩:=$t)=>do
 let l:=x.getElems;let n:=l.size;if n>7 then let z<-`(z);return<-`(tactic|(let ⟨$[$((l.extract 0 6).push z)],*⟩:=$t;let ⟨$[$(l.extract 6 n)],*⟩:=$z)) else
 let y:Array (Lean.TSyntax `ident)<-l.mapM λ(e:Lean.Term)=>if e.raw.isIdent&&e.raw.getId != `rfl then pure ⟨e.raw⟩ else Lean.withFreshMacroScope `(z)
 let mut r<-`(tactic|fail)
 for k in [0:n] do
  let c:=Lean.mkIdent (.mkSimple s!"x{k}_{n-1-k}")
  r<-if t.raw.isIdent then `(tactic|first|(revert $(⟨t⟩):ident;refine $c fun $y* =>?_)|$r:tactic) else `(tactic|first|refine $c (fun $y* =>?_) $t|$r:tactic)
 for e in l,z in y do
  if e.raw.isOfKind `Lean.Parser.Term.anonymousCtor then r<-`(tactic|($r;let $e:term:=$z)) else if e.raw.getId==`rfl then r<-`(tactic|($r;subst $z))
 return r
local macro_rules|`(tactic|refine ⟨$x,*⟩)=>do
 let l:=x.getElems;let mut r<-`(tactic|refine (⟨$x,*⟩))
 for i in [2:min 10 l.size] do
  let c:=Lean.mkIdent (.mkSimple s!"xe{i}")
  let b:=l.extract i l.size
  let b<-if h:b.size=1 then pure b[0] else `(⟨$[$b],*⟩)
  r<-`(tactic|first|refine $c $((l.extract 0 i).push b)*|$r:tactic)
 return r
namespace L2
open PySem PySem.Spec PyProof.Rows
abbrev Key:=Sum Int Str
noncomputable def pF:Key->yai->Bool
 |.inl k,v=>Value.isInt k v
 |.inr x,v=>Value.isStrOf x v
noncomputable def Ux(w:yak):Key->Int
 |.inl k=>hashInt k
 |.inr x=>hashStr w x
theorem bP:∀{k:Key}{v:yai},pF k v=true->(∃i t,k=Sum.inl i/\v=Value.int i t)∨(∃x t,k=Sum.inr x/\v=Value.str x t)
 |.inl i,v,h=>by
  let⟨t,e⟩:=Value.isInt_shape h;exact .inl ⟨i,t,rfl,e⟩
 |.inr x,v,h=>by
  let⟨t,e⟩:=Value.isStrOf_shape h;exact .inr ⟨x,t,rfl,e⟩
def BY(i)(t):pF (.inl i) (.int i t)=true:=by simp[pF,Value.isInt]
def BX(x)(t):pF (.inr x) (.str x t)=true:=by simp[pF,Value.isStrOf]
def OB(a b):decide ((Sum.inl a:Key)=Sum.inl b)=(a==b):=by
 lia
def OA(a b):decide ((Sum.inr a:Key)=Sum.inr b)=decide (a=b):=by
 simp
noncomputable def bA(prog)(w):PySem.KeyKind prog w Key where
 is:=pF
 hash:=Ux w
 inj:=λv a b o m=>by
  rcases bP o with⟨i,t,rfl,rfl⟩|⟨x,t,rfl,rfl⟩
  ·rcases bP m with⟨j,u,rfl,e⟩|⟨y,u,rfl,e⟩
   ·simp_all
   simp_all
  ·rcases bP m with⟨j,u,rfl,e⟩|⟨y,u,rfl,e⟩
   ·simp_all
   simp_all
 byValue:=λk v h=>by
  rcases bP h with⟨i,t,rfl,rfl⟩|⟨x,t,rfl,rfl⟩<;>rfl
 pyHash:=λl h=>by
  rcases bP l with⟨i,t,rfl,rfl⟩|⟨x,t,rfl,rfl⟩
  ·exact wpAny_pyHash_int h
  ·exact wpAny_pyHash_str h
 eqBool:=λn l h=>by
  rcases bP n with⟨i,t,rfl,rfl⟩|⟨x,t,rfl,rfl⟩
  ·rcases bP l with⟨j,u,rfl,rfl⟩|⟨y,u,rfl,rfl⟩
   ·rw[OB] at h;exact wpAny_eqBool_int h
   ·exact SeqAt.EqAt.int_str i t y u _ _ _ _ h
  ·rcases bP l with⟨j,u,rfl,rfl⟩|⟨y,u,rfl,rfl⟩
   ·exact SeqAt.EqAt.str_int x t j u _ _ _ _ h
   ·rw[OA] at h;exact wpAny_eqBool_str h
 «strs»:=λk x t v h=>by
  rcases bP h with⟨i,u,rfl,e⟩|⟨y,u,rfl,e⟩
  ·simp_all
  ·injection e with e1 _;subst e1;cases v<;>rfl
def vv(prog)(w)(i)(t):(bA prog w).is (.inl i) (.int i t)=true:=BY i t
def vt(prog)(w)(x)(t):(bA prog w).is (.inr x) (.str x t)=true:=BX x t
inductive V where
 |bU|bl (b:Bool)|int (i:Int)|str (x:Str)|wZ (b:Array UInt8)|OQ (b:UInt64)|ref (a:Addr)|ty (n:String)
 deriving DecidableEq
def RelV:V->yai->Prop
 |.bU,u=>u=Value.none
 |.bl b,u=>u=Value.bool b
 |.int i,u=>∃t,u=Value.int i t
 |.str x,u=>∃t,u=Value.str x t
 |.wZ b,u=>∃t,u=Value.bytes b t
 |.OQ b,u=>∃t,u=Value.float b t
 |.ref a,u=>u=Value.ref a
 |.ty n,u=>u=Value.type n
abbrev Vals:List V->List yai->Prop:=Paired RelV
theorem Vals.length(r:Vals a h):a.length=h.length:=Paired.length r
theorem Vals.get:∀{a:List V}{h:List yai}{i:Nat}{x:V},Vals a h->a[i]? =some x->∃u,h[i]? =some u/\RelV x u
 |_,_,_,_,.nil,e=>by simp at e
 |_,_,0,_,.cons r _,e=>by simp at e;subst e;refine⟨_,rfl,r⟩
 |_,_,i+1,x,.cons _ t,e=>by
  let⟨u,h1,h2⟩:=Vals.get t (by simpa using e);refine⟨u,by simp_all,h2⟩
theorem Vals.set(r:RelV x u):∀{a:List V}{h:List yai}(i),Vals a h->Vals (a.set i x) (h.set i u)
 |_,_,_,.nil=>.nil
 |_,_,0,.cons _ t=>.cons r t
 |_,_,i+1,.cons q t=>.cons q (Vals.set r i t)
def Vals.append:∀{j a:List V}{l ws:List yai},Vals j l->Vals a ws->Vals (j++a) (l++ws):=by
 intro j a l ws h g
 induction h with
 |nil=>exact g
 |cons r t ih=>exact .cons r ih
theorem Vals.take:∀{a:List V}{h:List yai}(n),Vals a h->Vals (a.take n) (h.take n)
 |_,_,0,_=>.nil
 |_,_,_+1,.nil=>.nil
 |_,_,n+1,.cons r t=>.cons r (Vals.take n t)
theorem Vals.drop:∀{a:List V}{h:List yai}(n),Vals a h->Vals (a.drop n) (h.drop n)
 |_,_,0,r=>r
 |_,_,_+1,.nil=>.nil
 |_,_,n+1,.cons _ t=>Vals.drop n t
def iB:Option V->Option yai->Prop
 |some v,some u=>RelV v u
 |none,none=>True
 |_,_=>False
def KV{κ:Type}:List (κ×V)->List (κ×yai)->Prop:=Paired λ(p:κ×V)(q:κ×yai)=>p.1=q.1/\RelV p.2 q.2
noncomputable def kV:Key->V
 |.inl i=>.int i
 |.inr x=>.str x
inductive HO where
 |lst (xs:List V)
 |tup (xs:List V)
 |dK (kvs:List (Key×V))|dT (kvs:List (List Key×V))
 |set (S:Int->Bool) (n:Nat)
 |ins (C dx:Addr) (fs:List (Str×V))
 |own (x:Addr)
 |xd (fs:List (Str×V))
 |met (f x:Addr)
 |Ua (lo hi:Int)
 |Am (o:Obj) (u:HO)
 |Mq (ps:Array yai)
 |ext (φ:Heap->Prop)
abbrev Hp:=Addr->Option HO
noncomputable def upd(H:Hp)(a:Addr)(o:HO):Hp:=λb=>if b=a then some o else H b
def bW:upd H a o a=some o:=by unfold upd;simp
def aR(h:b≠a):upd H a o b=H b:=by unfold upd;simp_all
def Ri{H:Hp}(h:H a=some o)(h':H b=some u)(d:o≠u):a≠b:=by
 lia
def bF{H:Hp}(h:H a=some o)(h':H b=none):a≠b:=by
 lia
section
variable (P:yaj)(w:yak)
def bK(H:Hp)(h:Heap)(a:Addr):HO->Prop
 |.lst l=>l.length<=yag/\∃(j:List yai)(n:Nat),Vals l j/\h.get? a=some {cls:=.type "list",data:=.seq j.toArray n}
 |.tup l=>l.length<=yag/\∃j:List yai,Vals l j/\IsTup h a j.toArray
 |.dK kvs=>kvs.length<=yag/\(a==yas)=false/\∃vs,KV kvs vs/\h.DictOf (bA P w) a vs
 |.dT kvs=>kvs.length<=yag/\(a==yas)=false/\∃l:List (List Key×Addr×yai),
   Paired (λ(p:List Key×V)(q:List Key×Addr×yai)=>p.1=q.1/\H q.2.1=some (.tup (p.1.map kV))/\RelV p.2 q.2.2) kvs l/\
   ∃o m s,h.get? a=some o/\o.ExactDict/\o.data=.dict m s/\m.toList=l.map (entryOfKey (tupleKind (bA P w)))/\(l.map (·.1)).Nodup
 |.set S n=>h.SetOf (intKind P w) a S n
 |.ins C dx fs=>H dx=some (.own a)/\fs.length<=1000/\dx≠a/\h.get? a=some (zcg C dx)/\
   ∃mA,h.Ns1 dx mA/\(∀f,iB (fs.lookup f) (mA f))/\PySem.Within mA (fs.map (·.1))
 |.own _=>∃o,h.get? a=some o
 |.xd fs=>∃mA,h.Ns1 a mA/\∀f,iB (fs.lookup f) (mA f)
 |.Ua lo hi=>∃t u v,h.get? a=some {cls:=.type "range",data:=.fields #[.int lo t,.int hi u,.int 1 v]}
 |.Am o u=>h.get? a=some o/\bK H h a u
 |.Mq ps=>h.get? a=some {cls:=.none,data:=.fields ps}
 |.met f x=>h.get? a=some (PySem.W.methodObj (.ref f) (.ref x))
 |.ext φ=>φ h/\(∃o,h.get? a=some o)/\∀h1 h2:Heap,φ h1->(∀o,h1.get? a=some o->h2.get? a=some o)->φ h2
def iZ(H:Hp)(h:Heap):Prop:=∀a o,H a=some o->bK P w H h a o
end
section
variable {P:yaj}{w:yak}{H H':Hp}{h h':Heap}{a:Addr}{o:HO}
theorem bK.lt(x:bK P w H h a o):a<h.objs.size:=by
 cases o with
 |lst xs=>let⟨_,_,_,_,e⟩:=x;exact zcP e
 |tup xs=>let⟨_,_,_,p⟩:=x;exact p.lt
 |dK kvs=>let⟨_,_,_,_,o,_,_,e,_⟩:=x;exact zcP e
 |dT kvs=>let⟨_,_,_,_,o,_,_,e,_⟩:=x;exact zcP e
 |set S n=>let⟨o,_,_,_,e,_⟩:=x;exact zcP e
 |ins C dx fs=>let⟨_,_,_,e,_⟩:=x;exact zcP e
 |own y=>let⟨_,e⟩:=x;exact zcP e
 |xd fs=>let⟨_,⟨_,_,_,e,_⟩,_⟩:=x;exact zcP e
 |Ua lo hi=>let⟨_,_,_,e⟩:=x;exact zcP e
 |Am ob u=>let⟨e,_⟩:=x;exact zcP e
 |Mq ps=>exact zcP (show h.get? a=some _ from x)
 |met f y=>exact zcP (show h.get? a=some _ from x)
 |ext φ=>let⟨_,⟨_,e⟩,_⟩:=x;exact zcP e
def Paired.Rk{α m:Type}{F G:α->m->Prop}:∀{l:List α}{j:List m},Paired F l j->(∀a b,F a b->G a b)->Paired G l j:=by
 intro a b h f
 induction h with
 |nil=>exact .nil
 |cons r t ih=>exact .cons (f _ _ r) ih
def bK.stay(x:bK P w H h a o)(k:∀b u,(b=a∨H b=some (.own a))->h.get? b=some u->h'.get? b=some u)(I:∀b,H b=some (.own a)->H' b=some (.own a))(G:∀b E,H b=some (.tup E)->H' b=some (.tup E)):bK P w H' h' a o:=by
 induction o with
 |lst E=>let⟨z,s,n,r,e⟩:=x;refine⟨z,s,n,r,k _ _ (.inl rfl) e⟩
 |tup E=>let⟨z,s,r,j,e,c⟩:=x;refine⟨z,s,r,j,k _ _ (.inl rfl) e,c⟩
 |dK kvs=>let⟨z,y,vs,r,j,l,m,e,c⟩:=x;refine⟨z,y,vs,r,j,l,m,k _ _ (.inl rfl) e,c⟩
 |dT kvs=>
  let⟨z,y,E,r,j,l,m,e,c⟩:=x;refine⟨z,y,E,Paired.Rk r λp q z=>⟨z.1,G _ _ z.2.1,z.2.2⟩,j,l,m,k _ _ (.inl rfl) e,c⟩
 |set S n=>let⟨j,l,m,t,e,c⟩:=x;refine⟨j,l,m,t,k _ _ (.inl rfl) e,c⟩
 |ins C dx fs=>
  let⟨d,z,ne,e,mA,⟨F,l,m,L,c⟩,r⟩:=x;refine⟨I _ d,z,ne,k _ _ (.inl rfl) e,mA,⟨F,l,m,k _ _ (.inr d) L,c⟩,r⟩
 |own y=>let⟨j,e⟩:=x;exact⟨j,k _ _ (.inl rfl) e⟩
 |xd fs=>let⟨mA,⟨F,l,m,e,c⟩,r⟩:=x;refine⟨mA,⟨F,l,m,k _ _ (.inl rfl) e,c⟩,r⟩
 |Ua lo hi=>let⟨t,u,v,e⟩:=x;refine⟨t,u,v,k _ _ (.inl rfl) e⟩
 |Am j u ih=>let⟨e,q⟩:=x;exact⟨k _ _ (.inl rfl) e,ih q⟩
 |Mq ps=>
  have e  :=x;exact k a _ (.inl rfl) e
 |met f y=>
  have e  :=x;exact k a _ (.inl rfl) e
 |ext φ=>let⟨p,⟨o,e⟩,st⟩:=x;refine⟨st _ _ p λo q=>k _ _ (.inl rfl) q,⟨o,k _ _ (.inl rfl) e⟩,st⟩
theorem iZ.lt(x:iZ P w H h)(e:H a=some o):a<h.objs.size:=(x a o e).lt
def iZ.fresh(x:iZ P w H h)(e:h.objs.size<=a):H a=none:=by
 cases q:H a with
 |none=>rfl
 |some u=>exact absurd (zbc (x.lt q) e) (zcv _)
def iZ.kept(x:iZ P w H h)(k:∀b u,h.get? b=some u->h'.get? b=some u):iZ P w H h':=λa o e=>
 (x a o e).stay (λb u _ q=>k b u q) (λ_ q=>q) λ_ _ q=>q
def iZ.laid(x:iZ P w H h)(k:∀b u,h.get? b=some u->h'.get? b=some u)(m:h.objs.size<=a)(new:bK P w (upd H a o) h' a o):iZ P w (upd H a o) h':=λb u e=>by
 have j:=x.fresh m;by_cases l:b=a
 ·subst l;rw[bW] at e;cases e;exact new
 ·rw[aR l] at e;exact(x b u e).stay (λc v _ q=>k c v q) (λc q=>by rw[aR (bF q j)];exact q) λc n q=>by rw[aR (bF q j)];exact q
end
def Rd(H:Hp)(a:Addr)(u:HO):Prop:=H a=some u∨∃o,H a=some (.Am o u)
def Rd.ok(r:Rd H a u)(x:iZ P w H h):bK P w H h a u:=by
 obtain r|⟨o,r⟩:=r
 ·exact x a u r
 ·let⟨_,q⟩:=x a _ r;exact q
def SW:Option HO->Prop
 |some (.lst _)=>True
 |some (.dK _)=>True
 |some (.dT _)=>True
 |some (.set _ _)=>True
 |some (.ins _ _ _)=>True
 |some (.ext _)=>True
 |_=>False
section
variable {P:yaj}{w:yak}{H:Hp}{h h':Heap}{x e:Addr}{o':HO}
def iZ.write(ok:iZ P w H h)(mu:SW (H x))(C:e=x∨H e=some (.own x))(k:∀b u,b≠e->h.get? b=some u->h'.get? b=some u)(j:∃u,h'.get? e=some u)(new:bK P w (upd H x o') h' x o'):iZ P w (upd H x o') h':=λb u q=>by
 have o:∀c y,H c=some (.own y)->c≠x:=λc y r z=>by subst z;rw[r] at mu;exact mu
 have s:∀c a,H c=some (.tup a)->c≠x:=λc a r z=>by subst z;rw[r] at mu;exact mu
 by_cases m:b=x
 ·subst m;rw[bW] at q;cases q;exact new
 ·rw[aR m] at q;by_cases n:b=e
  ·have l:H b=some (.own x):=by
    lia
   rw[q] at l;cases l;let⟨v,t⟩:=j;exact⟨v,by simp_all⟩
  ·refine(ok b u q).stay (λc v E r=>k c v ?_ r) (λc r=>by rw[aR (o c b r)];exact r) λc a r=>by rw[aR (s c a r)];exact r
   grind
end
structure Un(fs ex:List Addr)(H H':Hp)(h h':Heap):Prop where
 keep:∀b o,h.get? b=some o->H b=none->b ∉ fs->b ∉ ex->h'.get? b=some o
 slot:∀b o,h.get? b=some o->H b=none->b∈fs->b ∉ ex->∃sl,h'.get? b=some {o with slots:=sl}
 free:∀b o,h.get? b=some o->H b=none->b ∉ ex->H' b=none
 there:∀b o,h.get? b=some o->b ∉ ex->∃o',h'.get? b=some o'
 tups:∀b xs,H b=some (.tup xs)->H' b=some (.tup xs)
 qP:∀b o u,H b=some (.Am o u)->H' b=some (.Am o u)
 sJ:∀b ps,H b=some (.Mq ps)->∃more,H' b=some (.Mq (ps++more))
section
variable {fs fs' ex ex':List Addr}{H H1 H2:Hp}{h h1 h2 h':Heap}{a x e:Addr}{o:HO}
def Un.any(u:Un fs ex H H1 h h1)(q:h.get? b=some ob)(n:H b=none)(j:b ∉ ex):∃sl,h1.get? b=some {ob with slots:=sl}:=by
 by_cases l:b∈fs
 ·exact u.slot b ob q n l j
 ·exact⟨ob.slots,u.keep b ob q n l j⟩
def Un.kept(k:∀b u,h.get? b=some u->h'.get? b=some u):Un fs ex H H h h':=
 ⟨λb j q _ _ _=>k b j q,λb j q _ _ _=>⟨j.slots,k b j q⟩,λ_ _ _ n _=>n,λb j q _=>⟨j,k b j q⟩,λ_ _ q=>q,λ_ _ _ q=>q,λ_ l q=>⟨#[],by simp_all⟩⟩
def Un.refl:Un fs ex H H h h:=Un.kept λ_ _ q=>q
def Un.laid(k:∀b u,h.get? b=some u->h'.get? b=some u)(m:h.objs.size<=a)(j:H a=none):Un fs ex H (upd H a o) h h' where
 keep:=λb u q _ _ _=>k b u q
 slot:=λb u q _ _ _=>⟨u.slots,k b u q⟩
 free:=λb u q n _=>by rw[aR (zcG (zbc (zcP q) m))];exact n
 there:=λb u q _=>⟨u,k b u q⟩
 tups:=λb l q=>by rw[aR (bF q j)];exact q
 qP:=λb u l q=>by rw[aR (bF q j)];exact q
 sJ:=λb s q=>⟨#[],by rw[aR (bF q j),q];simp⟩
def Un.write(mu:SW (H x))(E:e=x∨H e=some (.own x))(k:∀b u,b≠e->h.get? b=some u->h'.get? b=some u)(m:∃u,h'.get? e=some u):Un fs ex H (upd H x o) h h':=by
 have v:∀b,H b=none->b≠x:=λb n z=>by subst z;rw[n] at mu;exact mu
 have s:∀b,H b=none->b≠e:=λb n z=>by
  simp_all
 have l:∀b u,H b=some u->¬SW (some u)->b≠x:=λb u q C z=>by simp_all
 refine⟨λb u q n _ _=>k b u (s b n) q,λb u q n _ _=>⟨u.slots,k b u (s b n) q⟩,λb u q n _=>by rw[aR (v b n)];exact n,λb u q _=>?_,
  λb t q=>by rw[aR (l b _ q λz=>z)];exact q,λb u t q=>by rw[aR (l b _ q λz=>z)];exact q,λb y q=>⟨#[],by rw[aR (l b _ q λz=>z),q];simp⟩⟩
 by_cases j:b=e
 ·subst j;exact m
 ·exact⟨u,k b u j q⟩
end
noncomputable def To(h:Heap)(H:Hp):List Addr:=(zcV h.objs.size).filter λa=>(H a).isSome
noncomputable def vN(h:Heap)(H:Hp):Heap:=PySem.W.hideAll h (To h H)
def B5(h)(H):(vN h H).objs.size=h.objs.size:=PySem.W.hideAll_size _ _
def Fq(e:h.get? b=some o)(n:H b=none):(vN h H).get? b=some o:=
 PySem.W.hideAll_get _ e λa=>by
  have q  :=(zbT.mp a).2;simp_all
def IW(e:(vN h H).get? b=some o):h.get? b=some o/\H b=none:=by
 have e'  :=PySem.W.of_hideAll (To h H) e;refine⟨e',?_⟩;cases q:H b with
 |none=>rfl
 |some x=>
  have a:b∈To h H:=zbT.mpr ⟨zci.mpr (zcP e'),by simp[q]⟩;have z:(vN h H).get? b=none:=PySem.W.hideAll_none (To h H) a;simp_all
noncomputable def JY(g h:Heap)(L:Addr):List (Addr×Obj):=(zcV h.objs.size).filterMap λa=>if a=L∨(g.get? a).isSome=true then none else(h.get? a).map λo=>(a,o)
noncomputable def rest(g h:Heap)(L d:Addr):List (Addr×Obj):=(JY g h L).filter λp=>decide (p.1≠d)
structure Mod(K:yaJ)(mg:Str->Option yai)(base:Heap):Prop where
 Rp:K.In base
 glob:base.Ns yaq mg
 blt:∃mb,base.Ns builtinsNs mb/\∀x:Str,x≠"__name__"->mb x=bootBuiltins x
 nolimit:base.NoLimit
structure Cx where
 prog:yaj
 w:yak
 K:yaJ
 mg:Str->Option yai
 base:Heap
 A:yal
 N:List Str
 s₀:yah
 H₀:Hp
 env:Env
 outer:List Env
 stack:List Env
 ex:List Addr
 fn:Str->Bool
 calm:Bool
 pn:List (Addr×Obj)
 xe:yai->yah->Prop
end L2
variable {P prog:yaj}{w:yak}{K:yaJ}{mg:PySem.Str->Option yai}{base:PySem.Heap}{C fi:PySem.Addr}{X:L2.Cx}{A:yal}{E:yai->yah->Prop}{pins:List (PySem.Addr×PySem.Obj)}{σ:List (Option L2.V)}{s:yah}{H:L2.Hp}{Q:yai->yah->Prop}{XP:(PySem.Str->Option yai)->PySem.Heap->Prop}{es:Array (Int×yai)}{osl sl:Array (Option yai)}{its items:Array yai}{G:Array yaw->Array yaw->Prop}{b neg:Bool}{H':L2.Hp}{v y:L2.V}{kvs:List (List L2.Key×L2.V)}{caps:List (Option Nat)}{keys:List (Option PySem.Expr)}{kw:List (PySem.Str×yai)}{ks B:List (yam×PySem.Addr)}{xs:List L2.V}{ch fp:List PySem.Addr}{os:List PySem.Obj}{ps loose ss ms:List PySem.Str}{us:List yai}{p:List yai->Prop}{t' i j c n m ep:Nat}{a f l I:PySem.Addr}{env:PySem.Env}{h h':PySem.Heap}{ob:PySem.Obj}{scope:PySem.Scope}{t:PySem.SetTable}{x name qual:PySem.Str}{tk:PySem.Tok}{u:yai}{YP:yak->PySem.Heap->Prop}{fd:yap}{values ifs:List PySem.Expr}{body:List PySem.Stmt}{tg value iter:PySem.Expr}{st:PySem.Stmt}{pos pos' apos cpos p2 pos2:PySem.Pos}
namespace L2
open PySem PySem.Spec PyProof.Rows
noncomputable def frs(l:List Env):List Addr:=l.filterMap (·.frame)
noncomputable abbrev Cx.fs(X:Cx):List Addr:=frs X.outer
def Tw(a:Scope)(x:Str):Prop:=a.names.lookup x=some .local∨a.names.lookup x=some .cell∨a.names.lookup x=some .free
def Loc(a:Scope)(x:Str):Prop:=a.names.lookup x=some .local∨a.names.lookup x=some .cell
def Look(env:Env)(h:Heap)(m:Str->Option yai)(x:Str)(u:yai):Prop:=
 (env.kindOf x=some .local/\m x=some u)∨((env.kindOf x=some .cell∨env.kindOf x=some .free)/\∃c,env.cells.lookup x=some c/\h.IsCell c (some u))
structure Cx.Ok(X:Cx):Prop where
 mod:Mod X.K X.mg X.base
 kind:X.env.scope.kind=.function
 glob:X.env.globals=yaq
 blt:X.env.builtins=builtinsNs
 above:X.s₀.heap.objs.size<=X.env.locals
 inj:∀x y c,X.env.cells.lookup x=some c->X.env.cells.lookup y=some c->x=y
 has:∀x,(X.env.kindOf x=some .cell∨X.env.kindOf x=some .free)->∃c,X.env.cells.lookup x=some c
 Sx:∀x c,X.fn x=true->X.env.cells.lookup x=some c->X.s₀.heap.objs.size<=c
 hd:X.calm=true->X.A.handled=none
 frames:X.A.frames=some X.stack
 stk:X.stack=X.outer∨(X.stack=X.env::X.outer/\X.env.frame=some X.env.locals)
 UH:∀b∈X.ex,b≠X.env.locals/\∀x c,X.env.cells.lookup x=some c->c≠b
 bs:∀b o,X.base.get? b=some o->X.s₀.heap.get? b=some o/\X.H₀ b=none
 JR:X.base.objs.size<=X.s₀.heap.objs.size
 EK:∀b o,X.base.get? b=some o->b ∉ X.ex
 Jx:∀b∈X.ex,b ∉ X.fs
 mY:X.s₀.heap.FunFrames X.base X.outer
 OP:∀b∈X.fs,X.H₀ b=none
structure Inv(X:Cx)(pins:List (Addr×Obj))(σ:List (Option V))(H:Hp)(s:yah):Prop where
 ok:X.Ok
 os:s.os=X.s₀.os
 bare:AllBare s.gens
 base:Un X.fs X.ex X.H₀ H X.s₀.heap s.heap
 loc:∃m,s.heap.Ns X.env.locals m/\∀(i:Nat)(x:Str)(v:V),X.N[i]? =some x->σ[i]? =some (some v)->Tw X.env.scope x->∃u,RelV v u/\Look X.env s.heap m x u
 cell:∀x c,X.env.cells.lookup x=some c->∃v,s.heap.IsCell c v
 free:H X.env.locals=none
 gG:∀x c,X.env.cells.lookup x=some c->H c=none
 pin:∀p∈X.pn++pins,s.heap.get? p.1=some p.2/\H p.1=none/\p.1≠X.env.locals/\p.1 ∉ X.fs/\∀v,p.2.data≠ .cell v
 hok:iZ X.prog X.w H s.heap
 len:σ.length=X.N.length
def Cx.Ok.Uu(ok:X.Ok)(e:X.base.get? d=some o):d ∉ X.fs:=λa=>by
 have:=(ok.mY.mem a).1;simp_all
theorem Inv.bs(I:Inv X pins σ H s):∀b o,X.base.get? b=some o->s.heap.get? b=some o/\H b=none:=λb o e=>
 ⟨I.base.keep b o (I.ok.bs b o e).1 (I.ok.bs b o e).2 (I.ok.Uu e) (I.ok.EK b o e),I.base.free b o (I.ok.bs b o e).1 (I.ok.bs b o e).2 (I.ok.EK b o e)⟩
def Inv.bk(I:Inv X pins σ H s):∀b o,X.base.get? b=some o->s.heap.get? b=some o:=λb o e=>(I.bs b o e).1
theorem Inv.mod(I:Inv X pins σ H s):Mod X.K X.mg X.base:=I.ok.mod
def Inv.mK(I:Inv X pins σ H s):X.K.In s.heap:=I.ok.mod.Rp.keeps I.bk
theorem Inv.lt(I:Inv X pins σ H s):X.env.locals<s.heap.objs.size:=by let⟨_,a,_⟩:=I.loc;exact a.lt
def Inv.sz(I:Inv X pins σ H s):X.s₀.heap.objs.size<=s.heap.objs.size:=zcH I.ok.above (zcI I.lt)
def Inv.Rh(I:Inv X pins σ H s)(h:s.heap.objs.size<=a):a ∉ X.fs:=λl=>by
 let⟨_,o,j,_⟩:=I.ok.mY.mem l;exact absurd (zbc (zcP j) (zcH I.sz h)) (zcv _)
def Inv.Pb(I:Inv X pins σ H s):∀x c,X.env.cells.lookup x=some c->c≠X.env.locals:=λx c e z=>by
 let⟨v,o,l,hd⟩:=I.cell x c e;let⟨m,⟨j,n,q,a,h,_⟩,_⟩:=I.loc;simp_all
theorem Inv.mY(I:Inv X pins σ H s):s.heap.FunFrames X.base X.outer:=by
 have all:∀l,(∀b∈frs l,b∈X.fs)->X.s₀.heap.FunFrames X.base l->s.heap.FunFrames X.base l:=by
  intro l
  induction l with
  |nil=>intro _ _;trivial
  |cons env r ih=>
   intro h t;let⟨u,⟨L,o,j,q,n,hd⟩,m⟩:=t;have hL  :=h L (by unfold frs;simp_all);let⟨v,e⟩:=I.base.slot L o n (I.ok.OP L hL) hL λz=>I.ok.Jx L z hL;refine⟨u,⟨L,_,j,q,e,hd⟩,ih (λb a=>h b (by unfold frs;rw[zaK,j];exact zaC _ a)) m⟩
 exact all X.outer (λ_ a=>a) I.ok.mY
theorem Inv.stack(I:Inv X pins σ H s):s.heap.FunFrames X.base X.stack:=by
 obtain e|⟨e,h⟩:=I.ok.stk
 ·rw[e];exact I.mY
 ·rw[e];let⟨m,a,_⟩:=I.loc;refine .cons (by rw[I.ok.kind];decide) h a ?_ I.mY;exact Heap.get?_none_of_le (zcH I.ok.JR I.ok.above)
def Inv.n8(I:Inv X pins σ H s):∀b∈frs X.stack,b∈X.env.locals::X.fs:=λb a=>by
 obtain e|⟨e,h⟩:=I.ok.stk
 ·simp_all
 ·rw[e] at a;unfold frs at a;rw[zaK,h] at a;exact a
def Inv.zh(I:Inv X pins σ H s):∀b∈frs X.stack,H b=none:=λb a=>by
 obtain e|a:=zcq.mp (I.n8 b a)
 ·rw[e];exact I.free
 ·let⟨_,o,h,_⟩:=I.ok.mY.mem a;exact I.base.free b o h (I.ok.OP b a) λz=>I.ok.Jx b z a
def Inv.step{g':Array yaw}{Z:Drawn}(I:Inv X pins σ H s)(h:∀b∈ch,(b∈X.ex∨X.s₀.heap.objs.size<=b)/\b≠X.env.locals/\(∀x c,X.env.cells.lookup x=some c->c≠b)/\∀p∈X.pn++pins,p.1≠b)(keep:∀b o,b≠X.env.locals->b ∉ X.fs->b ∉ ch->s.heap.get? b=some o->H b=none->h'.get? b=some o)(slot:∀b o,b≠X.env.locals->b∈X.fs->b ∉ ch->s.heap.get? b=some o->H b=none->∃sl,h'.get? b=some {o with slots:=sl})(free:∀b o,b ∉ ch->s.heap.get? b=some o->H b=none->H' b=none)(there:∀b o,b ∉ ch->s.heap.get? b=some o->∃o',h'.get? b=some o')(tups:∀b C,H b=some (.tup C)->H' b=some (.tup C))(qP:∀b o u,H b=some (.Am o u)->H' b=some (.Am o u))(sJ:∀b ps,H b=some (.Mq ps)->∃more,H' b=some (.Mq (ps++more)))(ns:∀m,s.heap.Ns X.env.locals m->h'.Ns X.env.locals m)(hok:iZ X.prog X.w H' h')(W:AllBare g'):
  Inv X pins σ H' {s with heap:=h',gens:=g',drawn:=Z,toks:=t'}:=by
 have G:∀b o,X.s₀.heap.get? b=some o->b≠X.env.locals:=λb o e=>zcG (zbc (zcP e) I.ok.above);have t:∀b o,X.s₀.heap.get? b=some o->b ∉ X.ex->b ∉ ch:=λb o e a E=>by
  rcases(h b E).1 with z|z
  ·exact a z
  ·exact absurd (zbc (zcP e) z) (zcv _)
 have j:∀x c,X.env.cells.lookup x=some c->∀v,s.heap.IsCell c v->h'.IsCell c v:=λx c e v ⟨o,F,hd⟩=>by
  have nch  :=λz=>(h c z).2.2.1 x c e rfl;by_cases Q:c∈X.fs
  ·let⟨sl,q⟩:=slot c o (I.Pb x c e) Q nch F (I.gG x c e);refine⟨_,q,hd⟩
  ·refine⟨o,keep c o (I.Pb x c e) Q nch F (I.gG x c e),hd⟩
 refine⟨I.ok,I.os,W,⟨λb o e n E a=>?_,λb o e n E a=>?_,λb o e n a=>?_,λb o e a=>?_,λb C e=>tups b C (I.base.tups b C e),λb o C e=>qP b o C (I.base.qP b o C e),λb ps e=>?_⟩,?_,λx c e=>?_,?_,λx c e=>?_,λp P=>?_,hok,I.len⟩
 ·exact keep b o (G b o e) E (t b o e a) (I.base.keep b o e n E a) (I.base.free b o e n a)
 ·let⟨sl,y⟩:=I.base.slot b o e n E a;let⟨O,L⟩:=slot b _ (G b o e) E (t b o e a) y (I.base.free b o e n a);exact⟨O,L⟩
 ·let⟨o',y⟩:=I.base.there b o e a;exact free b o' (t b o e a) y (I.base.free b o e n a)
 ·let⟨o',y⟩:=I.base.there b o e a;exact there b o' (t b o e a) y
 ·let⟨m1,y⟩:=I.base.sJ b ps e;let⟨m2,L⟩:=sJ b _ y;exact⟨m1++m2,by simp_all⟩
 ·let⟨m,S,U⟩:=I.loc;refine⟨m,ns m S,λi x v y L Y=>?_⟩;let⟨u,r,l⟩:=U i x v y L Y;refine⟨u,r,?_⟩;obtain l|⟨k,c,e,z⟩:=l
  ·exact .inl l
  ·exact .inr ⟨k,c,e,j x c e _ z⟩
 ·let⟨v,z⟩:=I.cell x c e;exact⟨v,j x c e v z⟩
 ·let⟨m,⟨o,_,_,F,_⟩,_⟩:=I.loc;exact free _ o (λz=>(h _ z).2.1 rfl) F I.free
 ·let⟨v,o,F,hd⟩:=I.cell x c e;exact free c o (λz=>(h c z).2.2.1 x c e rfl) F (I.gG x c e)
 ·let⟨e,n,ne,nf,d⟩:=I.pin p P;have nch  :=λz=>(h p.1 z).2.2.2 p P rfl;refine⟨keep p.1 p.2 ne nf nch e n,free p.1 p.2 nch e n,ne,nf,d⟩
def Inv.un(I:Inv X pins σ H s)(u:Un X.fs [] H H' s.heap h')(hok:iZ X.prog X.w H' h'):Inv X pins σ H' {s with heap:=h',toks:=t'}:=by
 let⟨m,⟨o,F,G,q,r⟩,_⟩:=id I.loc;let⟨y,x⟩:=u.any q I.free (by simp);exact I.step (ch:=[]) (λ_ z=>nomatch z) (λb o _ h _ e n=>u.keep b o e n h (by simp)) (λb o _ h _ e n=>u.slot b o e n h (by simp)) (λb o _ e n=>u.free b o e n (by simp)) (λb o _ e=>u.there b o e (by simp)) u.tups u.qP u.sJ (λE v=>by
  let⟨C,j,l,a,t⟩:=v;rw[q] at a;cases a;refine⟨_,j,l,x,t⟩) hok I.bare
def Inv.call{g':Array yaw}{G:Drawn}(I:Inv X pins σ H s)(u:Un (frs X.stack) ch H H' s.heap h')(hok:iZ X.prog X.w H' h')(E:AllBare g')(j:∀b∈ch,(b∈X.ex∨X.s₀.heap.objs.size<=b)/\b≠X.env.locals/\(∀x c,X.env.cells.lookup x=some c->c≠b)/\∀p∈X.pn++pins,p.1≠b):
  Inv X pins σ H' {s with heap:=h',gens:=g',drawn:=G,toks:=t'}:=by
 let⟨m,⟨o,Q,S,v,r⟩,_⟩:=id I.loc;let⟨L,l⟩:=u.any v I.free λz=>(j _ z).2.1 rfl;exact I.step j (λb o l F a e n=>u.keep b o e n (λz=>(zcq.mp (I.n8 b z)).elim l F) a) (λb o _ _ a e n=>u.any e n a) (λb o a e n=>u.free b o e n a) (λb o a e=>u.there b o e a) u.tups u.qP u.sJ (λP C=>by
  let⟨O,q,t,h,y⟩:=C;rw[v] at h;cases h;refine⟨_,q,t,l,y⟩) hok E
def Inv.turned(I:Inv X pins σ H s)(k:∀b o,b≠it->s.heap.get? b=some o->h'.get? b=some o)(G:H it=none)(h:it≠X.env.locals)(h1:it∈X.ex∨X.s₀.heap.objs.size<=it)(h2:∀x c,X.env.cells.lookup x=some c->c≠it)(y:∀p∈X.pn++pins,p.1≠it):Inv X pins σ H {s with heap:=h',toks:=t'}:=by
 refine I.step (ch:=[it]) (λb t=>?_) (λb o _ _ a e _=>k b o (λz=>a (by simp[z])) e) (λb o _ _ a e _=>⟨o.slots,k b o (λz=>a (by simp[z])) e⟩) (λ_ _ _ _ n=>n)
  (λb o a e=>⟨o,k b o (λz=>a (by simp[z])) e⟩) (λ_ _ e=>e) (λ_ _ _ e=>e) (λb F e=>⟨#[],by simp_all⟩) (λm l=>?_) (λb u e=>?_) I.bare
 ·have e  :=by simpa using t
  subst e;refine⟨h1,h,h2,y⟩
 ·let⟨o,C,E,j,r⟩:=l;refine⟨o,C,E,k _ o (Ne.symm h) j,r⟩
 ·refine(I.hok b u e).stay (λc v a q=>k c v ?_ q) (λ_ q=>q) λ_ _ q=>q;lia
def Inv.tok(I:Inv X pins σ H s)(t):Inv X pins σ H {s with toks:=t}:=I.un (h':=s.heap) (t':=t) Un.refl I.hok
theorem Inv.kept(I:Inv X pins σ H s)(k:∀b u,s.heap.get? b=some u->h'.get? b=some u):Inv X pins σ H {s with heap:=h',toks:=t'}:=I.un (Un.kept k) (I.hok.kept k)
theorem Inv.laid(I:Inv X pins σ H s)(k:∀b u,s.heap.get? b=some u->h'.get? b=some u)(h:s.heap.objs.size<=a)(new:bK X.prog X.w (upd H a o) h' a o):
  Inv X pins σ (upd H a o) {s with heap:=h',toks:=t'}:=I.un (Un.laid k h (I.hok.fresh h)) (I.hok.laid k h new)
theorem Inv.write{x e:Addr}(I:Inv X pins σ H s)(mu:SW (H x))(h:e=x∨H e=some (.own x))(k:∀b u,b≠e->s.heap.get? b=some u->h'.get? b=some u)(a:∃u,h'.get? e=some u)(new:bK X.prog X.w (upd H x o) h' x o):Inv X pins σ (upd H x o) {s with heap:=h',toks:=t'}:=I.un (Un.write mu h k a) (I.hok.write mu h k a new)
def Inv.jN(I:Inv X pins σ H s)(h:∀p∈d,s.heap.get? p.1=some p.2/\H p.1=none/\p.1≠X.env.locals/\p.1 ∉ X.fs/\∀v,p.2.data≠ .cell v):Inv X d σ H s:=
 ⟨I.ok,I.os,I.bare,I.base,I.loc,I.cell,I.free,I.gG,λp j=>(zbU.mp j).elim (λz=>I.pin p (zaD _ z)) (h p),I.hok,I.len⟩
def vp{N:List Str}(hN:N.Nodup)(a:N[i]? =some x)(b:N[j]? =some x):i=j:=by
 let⟨h1,l⟩:=zaf.mp a;let⟨h2,h⟩:=zaf.mp b;exact(List.getElem_inj hN).mp (l.trans h.symm)
def Bw(I:Inv X pins σ H s)(hN:X.N.Nodup)(Z:X.N[i]? =some x)(F:Loc X.env.scope x)(r:RelV v u)(h:∀s',Inv X pins (σ.set i (some v)) H s'->(∃a,Heap.SameBut a s.heap s'.heap/\(a=X.env.locals∨X.env.cells.lookup x=some a))->g () s')(hf:X.fn x=true∨X.env.scope.names.lookup x=some .local:=by first|exact .inl rfl|exact .inr rfl|assumption):yar M A (storeName X.env x u) g E s:=by
 let⟨m,hn,hl⟩:=id I.loc;have ab:(X.env.scope.kind== .class||(X.env.scope.kind== .module&&X.env.locals != X.env.globals))=false:=by rw[I.ok.kind];rfl
 have O:i<σ.length:=by rw[I.len];exact(zaf.mp Z).1
 have Pb:=I.Pb;have t:∀{a:Addr}{Y:Heap},(∃o,s.heap.get? a=some o/\H a=none)->Heap.SameBut a s.heap Y->iZ X.prog X.w H Y:=λ{a Y} ha l b ob e=>by
  refine(I.hok b ob e).stay (λc w' G q=>(l.2 c ?_).trans q) (λ_ q=>q) λ_ _ q=>q;lia
 obtain W|W:=F
 ·refine wpAny_storeName_local W hn (λY hn' l=>?_) ab;let⟨oL,_,_,hoL,_⟩:=id hn;refine h _ ⟨I.ok,I.os,I.bare,⟨λb o e n U F=>?_,λb o e n U F=>?_,I.base.free,λb o e F=>?_,I.base.tups,I.base.qP,I.base.sJ⟩,⟨_,hn',λj y v' C L e3=>?_⟩,λy c e=>?_,I.free,I.gG,λp hp=>?_,t ⟨oL,hoL,I.free⟩ l,by simpa using I.len⟩ ⟨_,l,.inl rfl⟩
  ·exact(l.2 b (zcG (zbc (zcP e) I.ok.above))).trans (I.base.keep b o e n U F)
  ·let⟨sl,C⟩:=I.base.slot b o e n U F;exact⟨sl,(l.2 b (zcG (zbc (zcP e) I.ok.above))).trans C⟩
  ·let⟨o',C⟩:=I.base.there b o e F;exact⟨o',(l.2 b (zcG (zbc (zcP e) I.ok.above))).trans C⟩
  ·by_cases P:j=i
   ·subst P;rw[Z] at C;cases C;rw[List.getElem?_set_self O] at L;cases L;refine⟨u,r,.inl ⟨W,by simp⟩⟩
   ·rw[zaE (Ne.symm P)] at L;let⟨u',r',q⟩:=hl j y v' C L e3;refine⟨u',r',?_⟩;rcases q with⟨k,e⟩|⟨k,c,e,z⟩
    ·refine .inl ⟨k,?_⟩;have:y≠x:=λe=>P (vp hN C (e▸Z));simp_all
    ·exact .inr ⟨k,c,e,z.sameBut l (Pb y c e)⟩
  ·let⟨w',z⟩:=I.cell y c e;exact⟨w',z.sameBut l (Pb y c e)⟩
  ·let⟨e,n,ne,nf,d⟩:=I.pin p hp;refine⟨(l.2 p.1 ne).trans e,n,ne,nf,d⟩
 ·have S:X.fn x=true:=by
   simp_all
  let⟨c,G⟩:=I.ok.has x (.inl W);let⟨w',z⟩:=I.cell x c G;refine wpAny_storeName_cell I.ok.kind W G z (λY hc' l=>?_);let⟨oc,hoc,ac⟩:=id z;refine h {s with heap:=Y} ⟨I.ok,I.os,I.bare,⟨λb o e n U F=>?_,λb o e n U F=>?_,I.base.free,λb o e F=>?_,I.base.tups,I.base.qP,I.base.sJ⟩,⟨m,hn.sameBut l (Ne.symm (Pb x c G)),λj y v' C L e3=>?_⟩,λy c' e=>?_,I.free,I.gG,λp hp=>?_,t ⟨oc,hoc,I.gG x c G⟩ l,by simpa using I.len⟩ ⟨c,l,.inr G⟩
  ·exact(l.2 b (zcG (zbc (zcP e) (I.ok.Sx x c S G)))).trans (I.base.keep b o e n U F)
  ·let⟨sl,C⟩:=I.base.slot b o e n U F;exact⟨sl,(l.2 b (zcG (zbc (zcP e) (I.ok.Sx x c S G)))).trans C⟩
  ·let⟨o',C⟩:=I.base.there b o e F;exact⟨o',(l.2 b (zcG (zbc (zcP e) (I.ok.Sx x c S G)))).trans C⟩
  ·by_cases P:j=i
   ·subst P;rw[Z] at C;cases C;rw[List.getElem?_set_self O] at L;cases L;refine⟨u,r,.inr ⟨.inl W,c,G,hc'⟩⟩
   ·rw[zaE (Ne.symm P)] at L;let⟨u',r',q⟩:=hl j y v' C L e3;refine⟨u',r',?_⟩;obtain q|⟨k,c',e,z'⟩:=q
    ·exact .inl q
    ·refine .inr ⟨k,c',e,z'.sameBut l ?_⟩;rintro rfl;exact P (vp hN C (I.ok.inj _ _ _ e G▸Z))
  ·by_cases hcc:c'=c
   ·subst hcc;exact⟨_,hc'⟩
   ·let⟨w2,z2⟩:=I.cell y c' e;exact⟨w2,z2.sameBut l hcc⟩
  ·let⟨e,n,ne,nf,d⟩:=I.pin p hp;refine⟨(l.2 p.1 ?_).trans e,n,ne,nf,d⟩
   grind
def jB(I:Inv X pins σ H s)(hN:X.N.Nodup)(l:X.N[i]? =some x)(j:Loc X.env.scope x)(r:RelV v u)(h:∀a,Inv X pins (σ.set i (some v)) H a->d () a)(m:X.fn x=true∨X.env.scope.names.lookup x=some .local:=by first|exact .inl rfl|exact .inr rfl|assumption):yar M A (storeName X.env x u) d E s:=
 Bw I hN l j r (λa n _=>h a n) m
def Inv.Sw(I:Inv X pins σ H s)(j:d.os=s.os)(u:Un (frs X.stack) ch H H' s.heap d.heap)(hok:iZ X.prog X.w H' d.heap)(l:AllBare d.gens)(h:∀b∈ch,(b∈X.ex∨X.s₀.heap.objs.size<=b)/\b≠X.env.locals/\(∀x c,X.env.cells.lookup x=some c->c≠b)/\∀p∈X.pn++pins,p.1≠b):Inv X pins σ H' d:=by
 let⟨o,q,t,m,n⟩:=d;have e  :=j;subst e;exact I.call u hok l h
abbrev XK:=yai->Option Addr->Hp->Prop
abbrev St:=List (Option V)
abbrev VK:=V->Hp->Prop
abbrev TE:=St->Hp->VK->Prop
abbrev TT:=St->Hp->(Bool->Hp->Prop)->Prop
abbrev TA:=St->Hp->(List V->Hp->Prop)->Prop
structure Ends where
 nx:St->Hp->Prop
 rt:VK
 bk:St->Hp->Prop:=λ_ _=>False
 ct:St->Hp->Prop:=λ_ _=>False
abbrev TS:=Ends->St->Hp->Prop
def EP(X:Cx)(a:List (Addr×Obj))(j:St)(Q:VK)(u:yai)(l:yah):Prop:=∃v h,Inv X a j h l/\RelV v u/\Q v h
def TP(X:Cx)(a:List (Addr×Obj))(j:St)(Q:Bool->Hp->Prop)(b:Bool)(l:yah):Prop:=∃h,Inv X a j h l/\Q b h
def AP(X:Cx)(a:List (Addr×Obj))(j:St)(Q:List V->Hp->Prop)(l:List yai)(m:yah):Prop:=∃vs h,Inv X a j h m/\Vals vs l/\Q vs h
def SP(X:Cx)(h:List (Addr×Obj))(D:Ends)(f:Flow)(l:yah):Prop:=
 match f with
 |.next=>∃a j,Inv X h a j l/\D.nx a j
 |.brk=>∃a j,Inv X h a j l/\D.bk a j
 |.cont=>∃a j,Inv X h a j l/\D.ct a j
 |.ret u=>∃v a j,Inv X h a j l/\RelV v u/\D.rt v j
def PE(X:Cx)(e:Expr)(t:TE):Prop:=
 ∀(a)(s)(h:St)(H)(Q),Inv X a h H s->t h H Q->yar (model X.prog X.w) X.A (eval e X.env) (EP X a h Q) X.xe s
def PT(X:Cx)(e:Expr)(t:TT):Prop:=
 ∀(a)(s)(h:St)(H)(Q),Inv X a h H s->t h H Q->yar (model X.prog X.w) X.A (isTrue e X.env (eval e X.env)) (TP X a h Q) X.xe s
def PW(X:Cx)(e:Expr)(t:TT):Prop:=
 ∀(h)(a)(s)(j:St)(H)(Q),Inv X a j H s->t j H Q->yar (model X.prog X.w) X.A (isTrue e X.env h) (TP X a j Q) X.xe s
def PW.pt(h:PW X e d):PT X e d:=h _
def PA(X:Cx)(es:List Expr)(t:TA):Prop:=
 ∀(j)(a)(s)(h:St)(H)(Q),Inv X a h H s->t h H Q->yar (model X.prog X.w) X.A (spliced (yau j (yao es X.env))) (AP X a h Q) X.xe s
def PS(X:Cx)(st:Stmt)(t:TS):Prop:=
 ∀(a)(s)(h:St)(H)(D),Inv X a h H s->t D h H->yar (model X.prog X.w) X.A (exec st X.env) (SP X a D) X.xe s
def yR(X:Cx)(st:List Stmt)(t:TS):Prop:=
 ∀(a)(s)(h:St)(H)(D),Inv X a h H s->t D h H->yar (model X.prog X.w) X.A (execs st X.env) (SP X a D) X.xe s
def cB{α:Type}{t:Sem α}{Q j:α->yah->Prop}(h:yar M A t Q E s)(l:∀a s,Q a s->j a s):yar M A t j E s:=yac h l λ_ _ x=>x
section
def Qc(i:Nat):TE:=λa H Q=>∃v,a[i]? =some (some v)/\Q v H
def tC(v:V):TE:=λ_ H Q=>Q v H
def NT(hN:X.N[i]? =some x)(C:Tw X.env.scope x)(hd:autoParam ((x==("__debug__":Str))=false) r1)(q:autoParam ((x==("__classdict__":Str))=false) r1):PE X (.Name x pos) (Qc i):=by
 intro o s y H Q I h;let⟨v,e,h⟩:=h;let⟨m,E,G⟩:=I.loc;let⟨u,r,l⟩:=G i x v hN e C;have n:EP X o y Q u s:=⟨v,H,I,r,h⟩
 rcases l with⟨j,F⟩|⟨j,c,t,a⟩
 ·exact wpAny_Name (wpAny_loadName_local I.ok.kind j E F n) hd
 ·obtain j|j:=j
  ·exact wpAny_Name (wpAny_loadName_cell I.ok.kind j t a n) hd
  ·exact wpAny_Name (wpAny_loadName_free I.ok.kind j t a n q) hd
def ao:PE X (.Constant (.int d) e g) (tC (.int d)):=λ_ _ _ H _ I h=>wpAny_Constant_int ⟨.int d,H,I.tok _,⟨_,rfl⟩,h⟩
def c9:PE X (.Constant (.bool d) e g) (tC (.bl d)):=λ_ _ _ H _ I h=>Constant_bool ⟨.bl d,H,I,rfl,h⟩
def av:PE X (.Constant (.str d) e g) (tC (.str d)):=λ_ _ _ H _ I h=>Calls.Constant_str ⟨.str d,H,I.tok _,⟨_,rfl⟩,h⟩
def Gl(X:Cx)(x:Str):Prop:=X.env.kindOf x=some .globalImplicit
def tR(I:Inv X pins d H s)(l:Gl X x)(j:X.mg x=some u)(h:Q u s)(hd:autoParam ((x==("__debug__":Str))=false) r1):yar (model X.prog X.w) X.A (eval (.Name x pos) X.env) Q E s:=
 Calls.Name_function_global I.ok.kind l (Calls.loadGlobal_global (by rw[I.ok.glob];exact I.mod.glob.keeps I.bk) j h) hd
def eZ(I:Inv X pins d H s)(n:Gl X x)(m:X.mg x=none)(j:bootBuiltins x=some u)(h:Q u s)(l:autoParam (x≠"__name__") r1)(hd:autoParam ((x==("__debug__":Str))=false) r1):yar (model X.prog X.w) X.A (eval (.Name x pos) X.env) Q E s:=by
 let⟨o,h1,h2⟩:=I.mod.blt;exact Calls.Name_function_global I.ok.kind n (Calls.loadGlobal_builtin (by rw[I.ok.glob];exact I.mod.glob.keeps I.bk) m (by rw[I.ok.blt];exact h1.keeps I.bk) ((h2 x l).trans j) h) hd
def jP(j:Gl X x)(a:X.mg x=some u)(r:RelV v u)(hd:autoParam ((x==("__debug__":Str))=false) r1):PE X (.Name x pos) (tC v):=
 λ_ _ _ H _ I h=>tR I j a ⟨v,H,I,r,h⟩ hd
def IL(m:Gl X x)(l:X.mg x=none)(a:bootBuiltins x=some u)(r:RelV v u)(j:autoParam (x≠"__name__") r1)(hd:autoParam ((x==("__debug__":Str))=false) r1):PE X (.Name x pos) (tC v):=
 λ_ _ _ H _ I h=>eZ I m l a ⟨v,H,I,r,h⟩ j hd
variable {a b:Expr}{ta tb:TE}
def tB(t:TE):TT:=λh H Q=>t h H λx j=>∃c,x=.bl c/\Q c j
variable {tA tB':TT}{rest:List Expr}
def Qp(t u:TT):TT:=λh H Q=>t h H λc j=>if c=true then u h j Q else Q false j
def U8(t u:TT):TT:=λh H Q=>t h H λc j=>if c=true then Q true j else u h j Q
def Qk(t:TT):TT:=λh H Q=>t h H λc j=>Q (!c) j
def pw_and1(m:PT X a tA):PW X (.BoolOp .And [a] pos) tA:=by
 intro n j s l H Q I h;refine isTrue_and (cB (m j s l H Q I h) λc o e=>?_);cases c with
 |true=>exact isTrue_and_nil e
 |false=>exact e
def pw_or1(m:PT X a tA):PW X (.BoolOp .Or [a] pos) tA:=by
 intro n j s l H Q I h;refine isTrue_or (cB (m j s l H Q I h) λc o e=>?_);cases c with
 |false=>exact isTrue_or_nil e
 |true=>exact e
def pw_and(x:PT X a tA)(v:PW X (.BoolOp .And (b::rest) pos) tB'):PW X (.BoolOp .And (a::b::rest) pos) (Qp tA tB'):=by
 intro t j s m H Q I h;refine isTrue_and (cB (x j s m H _ I h) λc u l=>?_);let⟨q,o,n⟩:=l;cases c with
 |true=>exact v t j u m q Q o n
 |false=>refine⟨q,o,n⟩
def pw_or(x:PT X a tA)(v:PW X (.BoolOp .Or (b::rest) pos) tB'):PW X (.BoolOp .Or (a::b::rest) pos) (U8 tA tB'):=by
 intro t j s m H Q I h;refine isTrue_or (cB (x j s m H _ I h) λc u l=>?_);let⟨q,o,n⟩:=l;cases c with
 |true=>refine⟨q,o,n⟩
 |false=>exact v t j u m q Q o n
def k8(m:PT X a tA):PT X (.UnaryOp .Not a pos) (Qk tA):=by
 intro j s l H Q I h;exact isTrue_not (m j s l H (λc n=>Q (!c) n) I h)
def KZ(ta tb:TE):TE:=λh H Q=>ta h H λx j=>∃c,x=.bl c/\if c=true then tb h j Q else Q (.bl false) j
def Qi(ta tb:TE):TE:=λh H Q=>ta h H λx j=>∃c,x=.bl c/\if c=true then Q (.bl true) j else tb h j Q
def gu(h:PE X a d):PE X (.BoolOp op [a] pos) d:=λj s l H Q I hw=>BoolOp_one (h j s l H Q I hw)
def fQ(C:PE X a ta)(y:PE X (.BoolOp .And (b::rest) pos) tb):PE X (.BoolOp .And (a::b::rest) pos) (KZ ta tb):=by
 intro j s n H Q I h;refine BoolOp_and (cB (C j s n H _ I h) λv t m=>?_);let⟨x,q,o,u,l⟩:=m;let⟨c,rfl,l⟩:=l;cases u;refine wpAny_truthy_bool ?_;cases c with
 |true=>exact y j t n q Q o l
 |false=>refine⟨.bl false,q,o,rfl,l⟩
def EB(C:PE X a ta)(y:PE X (.BoolOp .Or (b::rest) pos) tb):PE X (.BoolOp .Or (a::b::rest) pos) (Qi ta tb):=by
 intro j s n H Q I h;refine BoolOp_or (cB (C j s n H _ I h) λv t m=>?_);let⟨x,q,o,u,l⟩:=m;let⟨c,rfl,l⟩:=l;cases u;refine wpAny_truthy_bool ?_;cases c with
 |false=>exact y j t n q Q o l
 |true=>refine⟨.bl true,q,o,rfl,l⟩
def U9(t:TT)(ta tb:TE):TE:=λh H Q=>t h H λc j=>if c=true then ta h j Q else tb h j Q
def jO(u:PT X e tA)(x:PE X a ta)(v:PE X b tb):PE X (.IfExp e a b pos) (U9 tA ta tb):=by
 intro j s l H Q I h;refine wpAny_IfExp (cB (u j s l H _ I h) λd n m=>?_);let⟨t,q,o⟩:=m;cases d with
 |true=>exact x j n l t Q q o
 |false=>exact v j n l t Q q o
end
def dF(K:yaJ)(H:Hp)(a:Addr)(j:List V):Prop:=
 Rd H a (.lst j)∨
  ∃(o:Obj)(h:Array yai)(n:Nat),K.lookup a=some o/\o.cls=.type "list"/\o.dict=none/\o.data=.seq h n/\h.size<=yag/\Vals j h.toList
def eO(K:yaJ)(H:Hp)(a:Addr)(j:List V):Prop:=
 Rd H a (.tup j)∨
  ∃(o:Obj)(h:Array yai)(n:Nat),K.lookup a=some o/\o.cls=.type "tuple"/\o.data=.seq h n/\h.size<=yag/\Vals j h.toList
noncomputable def UP:yai->Option V
 |.none=>some .bU
 |.bool b=>some (.bl b)
 |.int i _=>some (.int i)
 |.str x _=>some (.str x)
 |.bytes b _=>some (.wZ b)
 |.float b _=>some (.OQ b)
 |.ref a=>some (.ref a)
 |.type n=>some (.ty n)
 |_=>none
def RelV.abs(r:RelV d u):UP u=some d:=by
 cases d with
 |bU=>cases r;rfl
 |bl _=>cases r;rfl
 |int _=>let⟨t,rfl⟩:=r;rfl
 |str _=>let⟨t,rfl⟩:=r;rfl
 |wZ _=>let⟨t,rfl⟩:=r;rfl
 |OQ _=>let⟨t,rfl⟩:=r;rfl
 |ref _=>cases r;rfl
 |ty _=>cases r;rfl
theorem RelV.inj(r:RelV d u)(q:RelV y u):d=y:=zcU.inj (r.abs.symm.trans q.abs)
theorem Vals.inj:∀{j a:List V}{l:List yai},Vals j l->Vals a l->j=a:=by
 intro j a l h
 induction h generalizing a with
 |nil=>intro g;cases g;rfl
 |cons r t ih=>
  intro g;cases g with
  |cons r' t'=>rw[r.inj r',ih t']
section
variable {σ:St}{ys:List V}
def dF.of(h:H a=some (.lst xs)):dF K H a xs:=.inl (.inl h)
def eO.of(h:H a=some (.tup xs)):eO K H a xs:=.inl (.inl h)
def Inv.list(I:Inv X pins σ H s)(h:dF X.K H a xs):∃its:List yai,Vals xs its/\PlainL s.heap a its.toArray/\xs.length<=yag:=by
 obtain h|⟨o,its,n,j,l,hd,m,hz,r⟩:=h
 ·let⟨z,its,n,r,e⟩:=h.ok I.hok;refine⟨its,r,⟨_,n,e,rfl,rfl,rfl⟩,z⟩
 ·refine⟨its.toList,r,⟨o,n,I.mK a o j,l,hd,by simp_all⟩,?_⟩;have e:=r.length;simp_all
def Inv.tuple(I:Inv X pins σ H s)(h:eO X.K H a xs):∃its:List yai,Vals xs its/\IsTup s.heap a its.toArray/\xs.length<=yag:=by
 obtain h|⟨o,its,n,j,l,m,hz,r⟩:=h
 ·let⟨z,its,r,p⟩:=h.ok I.hok;refine⟨its,r,p,z⟩
 ·refine⟨its.toList,r,⟨o,I.mK a o j,l,n,by simp_all⟩,?_⟩;have e:=r.length;simp_all
def Inv.E9(I:Inv X pins σ H s)(h:dF X.K H a xs)(h':dF X.K H a ys):xs=ys:=by
 let⟨l,r,⟨o,n,e,_,_,d⟩,_⟩:=I.list h;let⟨j,m,⟨q,t,u,_,_,v⟩,_⟩:=I.list h';have:l=j:=by simp_all
 subst this;exact r.inj m
def Inv.Bu(I:Inv X pins σ H s)(h:eO X.K H a xs)(h':eO X.K H a ys):xs=ys:=by
 let⟨l,r,⟨o,e,_,n,d⟩,_⟩:=I.tuple h;let⟨j,m,⟨q,u,_,t,v⟩,_⟩:=I.tuple h';have:l=j:=by simp_all
 subst this;exact r.inj m
end
noncomputable abbrev Cx.qI(X:Cx)(E:yai->yah->Prop):Cx:={X with xe:=E}
noncomputable abbrev Cx.HH(X:Cx):Cx:=X.qI λ_ _=>False
theorem Cx.Ok.qI(ok:X.Ok)(E):(X.qI E).Ok:=
 ⟨ok.mod,ok.kind,ok.glob,ok.blt,ok.above,ok.inj,ok.has,ok.Sx,ok.hd,ok.frames,ok.stk,ok.UH,ok.bs,ok.JR,ok.EK,ok.Jx,ok.mY,ok.OP⟩
def Cx.Ok.gP(ok:(X.qI E).Ok):X.Ok:=
 ⟨ok.mod,ok.kind,ok.glob,ok.blt,ok.above,ok.inj,ok.has,ok.Sx,ok.hd,ok.frames,ok.stk,ok.UH,ok.bs,ok.JR,ok.EK,ok.Jx,ok.mY,ok.OP⟩
section
variable {σ:St}
theorem Inv.qI(I:Inv X pins σ H s)(E):Inv (X.qI E) pins σ H s:=⟨I.ok.qI E,I.os,I.bare,I.base,I.loc,I.cell,I.free,I.gG,I.pin,I.hok,I.len⟩
theorem Inv.gP(I:Inv (X.qI E) pins σ H s):Inv X pins σ H s:=⟨I.ok.gP,I.os,I.bare,I.base,I.loc,I.cell,I.free,I.gG,I.pin,I.hok,I.len⟩
theorem SP.gP(h:SP (X.qI E) pins D d e):SP X pins D d e:=by
 cases d with
 |next=>let⟨a,j,I,q⟩:=h;refine⟨a,j,I.gP,q⟩
 |brk=>let⟨a,j,I,q⟩:=h;refine⟨a,j,I.gP,q⟩
 |cont=>let⟨a,j,I,q⟩:=h;refine⟨a,j,I.gP,q⟩
 |ret u=>let⟨v,a,j,I,r,q⟩:=h;refine⟨v,a,j,I.gP,r,q⟩
theorem yR.HH(h:yR X.HH d e):yR X d e:=λa s σ H D I hw=>
 yac (h a s σ H D (I.qI _) hw) (λ_ _ q=>q.gP) λ_ _ z=>False.elim z
end
section
variable {rest:List Stmt}{t u:TS}{e:Expr}{te:TE}
def KS:TS:=λD a H=>D.nx a H
def Qg(t u:TS):TS:=λD a H=>t {D with nx:=u D} a H
def aJ:yR X [] KS:=λ_ _ a H _ I h=>yaG ⟨a,H,I,h⟩
def aa(h1:PS X st t)(h2:yR X rest u):yR X (st::rest) (Qg t u):=by
 intro a s l H D I h;refine yaH (cB (h1 a s l H {D with nx:=u D} I h) λf m q=>?_);cases f with
 |next=>
  let⟨j,o,n,q⟩:=q;exact h2 a m j o D n q
 |ret v=>exact q
 |brk=>exact q
 |cont=>exact q
def ah(h1:PS X st t):yR X [st] t:=by
 intro a s j H D I h;refine yaH (cB (h1 a s j H D I h) λf l q=>?_);cases f with
 |next=>exact yaG q
 |ret v=>exact q
 |brk=>exact q
 |cont=>exact q
def Inv.quiet(I:Inv X pins d H s):interactive X.env=false:=by simp[interactive,I.ok.kind]
def KW(te:TE):TS:=λD a H=>te a H λ_ h=>D.nx a h
def bD(o:PE X e te)(n:autoParam (yat e none pos.line X.env=pure false) r0):PS X (.Expr e pos) (KW te):=by
 intro a s l H D I h;refine wpAny_Expr_any (cB (o a s l H _ I h) λv C j=>?_) I.quiet n;let⟨x,y,q,E,m⟩:=j;refine⟨l,y,q,m⟩
def Qh(te:TE):TS:=λD a H=>te a H D.rt
def aE(o:PE X e te):PS X (.Return (some e) pos) (Qh te):=by
 intro a s l H D I h;refine wpAny_Return_some (cB (o a s l H _ I h) λv C j=>?_);let⟨x,y,q,m,n⟩:=j;refine⟨x,l,y,q,m,n⟩
def Qn(c:TT)(t u:TS):TS:=λD a H=>c a H λb h=>if b=true then t D a h else u D a h
def aP(y:PT X g z)(E:yR X k t)(C:yR X r u):PS X (.If g k r pos) (Qn z t u):=by
 intro j s l H D I h;refine wpAny_If (cB (y j s l H _ I h) λd o m=>?_);let⟨x,v,q⟩:=m;cases d with
 |true=>exact E j o l x D v q
 |false=>exact C j o l x D v q
end
abbrev TG:=V->St->Hp->(St->Hp->Prop)->Prop
abbrev J4:=List V->St->Hp->(St->Hp->Prop)->Prop
def PG(X:Cx)(a:Expr)(t:TG):Prop:=
 ∀(h)(s)(l:St)(H)(v)(u)(Q),Inv X h l H s->RelV v u->t v l H Q->
  yar (model X.prog X.w) X.A (assign a X.env u) (λ_ n=>∃j m,Inv X h j m n/\Q j m) X.xe s
def PF(X:Cx)(ts:List Expr)(t:J4):Prop:=
 ∀(a)(s)(j:St)(H)(vs)(l)(Q),Inv X a j H s->Vals vs l->t vs j H Q->
  yar (model X.prog X.w) X.A (assignInOrder ((assignEach ts X.env).map (·.2)) l) (λ_ n=>∃h m,Inv X a h m n/\Q h m) X.xe s
abbrev PB:=V->V->V->Hp->(Hp->Prop)->Prop
def SQ(X:Cx)(t:PB):Prop:=
 ∀(a)(s)(h:St)(H)(o i v)(j l u)(Q),Inv X a h H s->RelV o j->RelV i l->RelV v u->t o i v H Q->
  yar (model X.prog X.w) X.A (setItem j l u) (λ_ n=>∃m,Inv X a h m n/\Q m) X.xe s
abbrev Tz:=V->V->Hp->VK->Prop
def Vl(X:Cx)(op:Operator)(t:Tz):Prop:=
 ∀(a)(s)(h:St)(H)(x y)(v u)(Q),Inv X a h H s->RelV x v->RelV y u->t x y H Q->
  yar (model X.prog X.w) X.A (inplaceOp op v u) (EP X a h Q) X.xe s
def Ai(i:Nat):TG:=λv a H Q=>Q (a.set i (some v)) H
def dX(hN:X.N.Nodup)(l:X.N[i]? =some x)(j:Loc X.env.scope x)(m:X.fn x=true∨X.env.scope.names.lookup x=some .local:=by first|exact .inl rfl|exact .inr rfl|assumption):PG X (.Name x pos) (Ai i):=by
 intro a s o H v u Q I r h;exact wpAny_assign_Name (jB I hN l j r (λq n=>⟨_,H,n,h⟩) m)
def RD:J4:=λvs a H Q=>vs=[]/\Q a H
def LJ(t:TG)(u:J4):J4:=λvs h H Q=>∃v r,vs=v::r/\t v h H λa j=>u r a j Q
def cQ:PF X [] RD:=by
 intro a s j H vs l Q I r h;let⟨e,h⟩:=h;exact assignInOrder_nil ⟨j,H,I,h⟩
def aQ(h1:PG X e g)(h2:PF X d k)(o:autoParam ((assignEach (e::d) X.env).map (·.2)=assign e X.env::(assignEach d X.env).map (·.2)) r0):PF X (e::d) (LJ g k):=by
 intro a s l H vs E Q I r h;let⟨v,C,q,h⟩:=h;subst q;cases r with
 |cons r rr=>
  rw[o];refine assignInOrder_cons (cB (h1 a s l H _ _ _ I r h) λ_ m ⟨j,y,x,n⟩=>?_);exact h2 a m j y _ _ Q x rr n
def RB(K:yaJ)(n:Nat)(t:J4):TG:=λv j H Q=>∃a h,v=.ref a/\eO K H a h/\h.length=n/\t h j H Q
def dO(O:X.calm=true)(h:PF X d g)(G:autoParam ((assignEach d X.env).length=n) r0)(l:autoParam ((assignEach d X.env).findIdx? (·.1)=none) r0):PG X (.Tuple d k pos) (RB X.K n g):=by
 intro j s m H v u Q I r hw;let⟨a,x,S,F,L,hw⟩:=hw;subst S;cases r;let⟨y,q,E,hz⟩:=I.tuple F;refine assign_Tuple_tuple (I.ok.hd O) E (by simp[G,<-L,q.length]) l λP C=>?_;have U:Inv X j m H {s with heap:=P}:=I.kept λb o e=>C b o (zcG (zcP e)) e;exact h j _ m H x _ Q U (by simpa using q) hw
def RC(to h:TE)(t:PB):TG:=λv a H Q=>to a H λo m=>h a m λi l=>t o i v l λj=>Q a j
def NS(P:PE X o to)(S:PE X d q)(O:SQ X e)(U:∀v,assign (.Subscript o d pos) X.env v=(do
   let l <-holding [v] (eval o X.env);let m <-holding [v,l] (eval d X.env)
   standAt pos
   holding [v,l,m] (setItem l m v)
   release [v,l,m] []):=by intro _;rfl):PG X (.Subscript o d pos) (RC to q e):=by
 intro j s n H v u Q I r h;rw[U];refine yaa (yad (cB (P j s n H _ I h) λl E a=>?_));let⟨x,H1,Z,G,L⟩:=a;refine yaa (yad (cB (S j E n H1 _ Z L) λm C a=>?_));let⟨y,H2,Y,F,q2⟩:=a;refine yaa (yay (yaa (yad (cB (O j C n H2 x y v l m u _ Y G F r q2) λ_ s3 a=>?_))));let⟨H3,W,q3⟩:=a;exact wpAny_release ⟨n,H3,W,q3⟩
def C5(h:TE)(g:TG):TS:=λD a H=>h a H λx j=>g x a j D.nx
def oQ(C:PE X e d)(y:PG X tg g)(u:autoParam (swapsWithSole [tg] e pos.line X.env=pure false) r0)(hw:autoParam (swappedStores [tg] e X.env=pure none) r0)(h1:autoParam ((assignEach [tg] X.env).map (·.2)=[assign tg X.env]) r0):PS X (.Assign [tg] e pos) (C5 d g):=by
 intro a s l H D I h;refine wpAny_Assign_stores (cB (C a s l H _ I h) λv n j=>?_) u hw;let⟨x,F,E,o,t⟩:=j;rw[h1];exact cB (y a n l F x v _ E o t) λ_ G q=>q
def xU(hN:X.N.Nodup)(u:X.N[i]? =some x)(q:Loc X.env.scope x)(E:PE X e d)(t:autoParam (yat e (some (.Name x pos')) pos.line X.env=pure false) r0)(C:X.fn x=true∨X.env.scope.names.lookup x=some .local:=by first|exact .inl rfl|exact .inr rfl|assumption):
  PS X (.Assign [.Name x pos'] e pos) (C5 d (Ai i)):=by
 intro a s m H D I h;refine wpAny_Assign_Name (cB (E a s m H _ I h) λv P j=>?_) t;let⟨y,L,G,n,o⟩:=j;exact jB G hN u q n (λO F=>⟨_,L,F,o⟩) C
def TX(i:Nat)(j:TE)(h:Tz):TS:=λD a H=>∃x,a[i]? =some (some x)/\j a H λy m=>h x y m λz l=>D.nx (a.set i (some z)) l
def NQ(hN:X.N.Nodup)(O:X.N[i]? =some x)(E:Loc X.env.scope x)(he:PE X e L)(W:Vl X op d)(hf:X.fn x=true∨X.env.scope.names.lookup x=some .local:=by first|exact .inl rfl|exact .inr rfl|assumption):
  PS X (.AugAssign (.Name x pos') op e pos) (TX i L d):=by
 intro a s F H D I h;let⟨v,e1,h⟩:=h;let⟨m,Y,hl⟩:=I.loc;have C:Tw X.env.scope x:=by obtain k|k:=E;exact .inl k;exact .inr (.inl k)
 let⟨u,r,l⟩:=hl i x v O e1 C;refine wpAny_AugAssign_Name ?_;have go:yar (model X.prog X.w) X.A (eval e X.env) (λw t=>yar (model X.prog X.w) X.A (inplaceOp op u w) (λr q=>yar (model X.prog X.w) X.A (storeName X.env x r) (λ_=>SP X a D .next) X.xe q) X.xe t) X.xe s:=by
  refine cB (he a s F H _ I h) λw P n=>?_;let⟨y,H1,I1,S,U⟩:=n;refine cB (W a P F H1 v y u w _ I1 r S U) λz s2 n=>?_;let⟨zv,H2,I2,Q,q2⟩:=n;exact jB I2 hN O E Q (λs3 I3=>⟨_,H2,I3,q2⟩) hf
 rcases l with⟨j,Z⟩|⟨j,c,hc,o⟩
 ·exact wpAny_loadName_local I.ok.kind j Y Z go
 ·obtain j|j:=j
  ·exact wpAny_loadName_cell I.ok.kind j hc o go
  ·obtain k|k:=E
   ·have:X.env.scope.names.lookup x=some .free:=j;rw[k] at this;cases this
   ·have:X.env.scope.names.lookup x=some .free:=j;rw[k] at this;cases this
def ipI(f:Int->Int->Int):Tz:=λx y H Q=>∃i j,x=.int i/\y=.int j/\Q (.int (f i j)) H
def OI:Vl X .Add (ipI λi j=>i+j):=by
 intro a s C H x y v u Q I m l h;let⟨i,j,o,n,q⟩:=h;subst o;subst n;let⟨t,rfl⟩:=m;let⟨E,rfl⟩:=l;exact iadd_int ⟨.int _,H,I.tok _,⟨_,rfl⟩,q⟩
structure It where
 go:Nat->Hp->Prop
 HN:Nat->Hp->V->Hp->Prop
 stop:Nat->Hp->Prop
def nu(X:Cx)(a:List (Addr×Obj))(H:Hp)(b:Addr):Prop:=
 H b=none/\b≠X.env.locals/\b ∉ X.fs/\(b∈X.ex∨X.s₀.heap.objs.size<=b)/\(∀x c,X.env.cells.lookup x=some c->c≠b)/\∀p∈X.pn++a,p.1≠b
def Inv.Fy(I:Inv X pins d H s)(a:s.heap.objs.size<=g)(l:H' g=none):nu X pins H' g:=by
 refine⟨l,zcJ (zbc I.lt a),I.Rh a,.inr (zcH I.sz a),λx c e z=>?_,λp j z=>?_⟩
 ·let⟨v,q⟩:=I.cell x c e;exact absurd (zbc q.lt (by simp_all)) (zcv _)
 ·exact absurd (zbc (zcP (I.pin p j).1) (by simp_all)) (zcv _)
structure Turn(P:yaj)(w:yak)(K:yaJ)(tg:Expr)(J:It)(fp:List Addr)(it:Addr)(tn:Nat->Heap->Prop):Prop where
 mem:it∈fp
 obj:∀i h,tn i h->∀b∈fp,∃o,h.get? b=some o/\∀v,o.data≠ .cell v
 keep:∀i h h',tn i h->(∀b∈fp,∀o,h.get? b=some o->h'.get? b=some o)->tn i h'
 item:∀(X:Cx),X.prog=P->X.w=w->X.K=K->X.calm=true->∀(i:Nat)(pins:List (Addr×Obj))(s:yah)(σ:St)(H:Hp)(E:yai->yah->Prop),Inv X pins σ H s->(∀b∈fp,nu X pins H b)->tn i s.heap->J.go i H->
  yar (model P w) X.A (pyNext (.ref it)) (λr s1=>∃u,r=some u/\yar (model P w) X.A (letOwnedTupleGo tg (.ref it) u) (λ_ s2=>∃x H',Inv X pins σ H' s2/\RelV x u/\J.HN i H x H'/\tn (i+1) s2.heap/\∀b∈fp,H' b=none) E s1) E s
 done:∀(X:Cx),X.prog=P->X.w=w->X.K=K->X.calm=true->∀(i:Nat)(pins:List (Addr×Obj))(s:yah)(σ:St)(H:Hp)(E:yai->yah->Prop),Inv X pins σ H s->(∀b∈fp,nu X pins H b)->tn i s.heap->J.stop i H->
  yar (model P w) X.A (pyNext (.ref it)) (λr s1=>r=none/\Inv X pins σ H s1) E s
 self:∀(A:yal)(i:Nat)(s:yah)(Q:yai->yah->Prop)(E:yai->yah->Prop),tn i s.heap->Q (.ref it) s->yar (model P w) A (pyIter (.ref it)) Q E s
abbrev TI:=St->Hp->(It->Hp->Prop)->Prop
def PIE(X:Cx)(a:List (Addr×Obj))(n:St)(o:Expr)(R:It->Hp->Prop)(h:yai)(l:yah):Prop:=
 ∃(it:Addr)(m:List Addr)(tn:Nat->Heap->Prop)(J:It)(j:Hp),h=.ref it/\Inv X a n j l/\Turn X.prog X.w X.K o J m it tn/\tn 0 l.heap/\(∀b∈m,nu X a j b)/\R J j
def PI(X:Cx)(m h:Expr)(l:TI):Prop:=
 ∀(a)(s)(j:St)(H)(R),Inv X a j H s->l j H R->
  yar (model X.prog X.w) X.A (eval h X.env) (λv n=>yar (model X.prog X.w) X.A (pyIter v) (PIE X a j m R) X.xe n) X.xe s
def Fv(h:s.heap.get? it=some o)(j:o.cls=.type d)(hd:o.data=.fields vs)(l:["enumerate","zip","dict_itemiterator","dict_reverseitemiterator","odict_iterator","itertools.zip_longest","itertools.pairwise"].contains d=false)(a:e () s):yar M A (letOwnedTupleGo tg (.ref it) u) e E s:=by
 cases tg<;>first
  |exact yab a
  |(cases u<;>first|exact yab a|(refine yaa (wpAny_load h ?_);rw[j,hd];show yar M A (if(["enumerate","zip","dict_itemiterator","dict_reverseitemiterator","odict_iterator","itertools.zip_longest","itertools.pairwise"].contains d&&vs[0]? ==some (rawInt _))=true then _ else _) e E s;rw[yIn (by lia)];exact yab a))
noncomputable def TL(K:yaJ)(a:Addr):It:=
 ⟨λi H=>∃h x,dF K H a h/\h[i]? =some x,λi H x j=>j=H/\∀h,dF K H a h->h[i]? =some x,λi H=>∃h,dF K H a h/\h.length<=i⟩
noncomputable def Vp(K:yaJ)(a:Addr):It:=
 ⟨λi H=>∃h x,eO K H a h/\h[i]? =some x,λi H x j=>j=H/\∀h,eO K H a h->h[i]? =some x,λi H=>∃h,eO K H a h/\h.length<=i⟩
noncomputable def Itr(a:Int)(n:Nat):It:=⟨λi _=>i<n,λi H x h=>h=H/\x=.int (a+i),λi _=>n<=i⟩
def Bt(a it):Turn P w K tg (TL K a) [it] it (λi h=>h.IsListIter it a i) where
 mem:=by simp
 obj:=λi h st b l=>by
  have e  :=by simpa using l
  subst e;let⟨o,e,c,d⟩:=st;refine⟨o,e,λv z=>by simp_all⟩
 keep:=λi h O st k=>st.at λo e=>k it (by simp) o e
 item:=by
  intro X G hw L hc i j s Z H E I q st F;subst G hw L;let⟨xs,x,n,C⟩:=F;let⟨y,t,p,hz⟩:=I.list n;let⟨u,hu,ru⟩:=t.get C;let⟨Y,W,f2,U,S,Q⟩:=q it (by simp);refine wpAny_pyNext_list_item st p.isList (x:=u) (by simp_all) λO m sb=>?_;have I1:Inv X j Z H {s with heap:=O}:=I.turned (λb o l e=>(sb.2 b l).trans e) Y W U S Q;let⟨o,e,c,d⟩:=id m;refine⟨u,rfl,Fv e c d (by decide) ⟨x,H,I1,ru,⟨rfl,λys hy=>by rw[I.E9 hy n];exact C⟩,m,λb l=>(q b l).1⟩⟩
 done:=by
  intro X G hw L hc i j s Z H E I q st F;subst G hw L;let⟨xs,n,C⟩:=F;let⟨y,t,p,hz⟩:=I.list n;let⟨Y,W,f2,U,S,Q⟩:=q it (by simp);have hl:=t.length;exact wpAny_pyNext_list_end (I.ok.hd hc) st p.isList (by simp;lia) λO eb=>⟨rfl,I.turned (λb o l e=>eb b o l e) Y W U S Q⟩
 self:=λ_ _ _ _ _ st h=>wpAny_pyIter_listiter st h
def xq(a it):Turn P w K tg (Vp K a) [it] it (λi h=>h.IsTupleIter it a i) where
 mem:=by simp
 obj:=λi h st b m=>by
  have e  :=by simpa using m
  subst e;let⟨o,e,c,d⟩:=st;refine⟨o,e,λv z=>by simp_all⟩
 keep:=λi h O st k=>st.at λo e=>k it (by simp) o e
 item:=by
  intro X G hw L hc i j s Z H E I t st F;subst G hw L;let⟨xs,x,q,C⟩:=F;let⟨l,y,p,hz⟩:=I.tuple q;let⟨u,hu,ru⟩:=y.get C;let⟨Y,W,f2,U,S,Q⟩:=t it (by simp);refine wpAny_pyNext_tuple_item st (show s.heap.IsTuple a l.toArray from p) (x:=u) (by simp_all) λO n sb=>?_;have I1:Inv X j Z H {s with heap:=O}:=I.turned (λb o m e=>(sb.2 b m).trans e) Y W U S Q;let⟨o,e,c,d⟩:=id n;refine⟨u,rfl,Fv e c d (by decide) ⟨x,H,I1,ru,⟨rfl,λys hy=>by rw[I.Bu hy q];exact C⟩,n,λb m=>(t b m).1⟩⟩
 done:=by
  intro X G hw L hc i j s Z H E I t st F;subst G hw L;let⟨xs,q,C⟩:=F;let⟨l,y,p,hz⟩:=I.tuple q;let⟨Y,W,f2,U,S,Q⟩:=t it (by simp);have hl:=y.length;exact wpAny_pyNext_tuple_end (I.ok.hd hc) st (show s.heap.IsTuple a l.toArray from p) (by simp;lia) λO eb=>⟨rfl,I.turned (λb o m e=>eb b o m e) Y W U S Q⟩
 self:=λ_ _ _ _ _ st h=>wpAny_pyIter_tupleiter st h
def xr(it)(m)(n):Turn P w K tg (Itr m n) [it] it (λi h=>IsRangeIter h it (m+(i:Nat)*1) ((n:Int) - (i:Nat)) 1) where
 mem:=by simp
 obj:=λi h st b j=>by
  have e  :=by simpa using j
  subst e;refine⟨_,st,λv z=>by
   simp_all⟩
 keep:=λi h y st k=>k it (by simp) _ st
 item:=by
  intro X S hw U x i a s Q H E I q st u;subst S hw U;let⟨O,L,f2,G,F,C⟩:=q it (by simp);have W:=Walks.range (prog:=X.prog) (w:=X.w) (I.ok.hd x) it m 1 n;refine W.item i s _ _ u st λv y Y hv l Z=>?_;let⟨t,rfl⟩:=hv;have I1:Inv X a Q H {s with heap:=y,toks:=Y}:=I.turned (λb o j e=>Z b o (by simp_all) e) O L G F C;refine⟨_,rfl,Fv l rfl rfl (by decide) ⟨.int (m+i),H,I1,⟨t,?_⟩,⟨rfl,rfl⟩,l,λb j=>(q b j).1⟩⟩;simp
 done:=by
  intro X S hw U x i a s Q H E I q st u;let⟨O,L,f2,G,F,C⟩:=q it (by simp);exact wpAny_pyNext_range_end (I.ok.hd x) st (by have:n<=i:=u;lia) λy eb=>⟨rfl,I.turned (λb o j e=>eb b o j e) O L G F C⟩
 self:=λ_ _ _ _ _ st h=>wpAny_pyIter_rangeiter st h
noncomputable def jk(fp:List Addr)(h:Heap):List (Addr×Obj):=fp.filterMap λb=>(h.get? b).map λo=>(b,o)
def gy(a:d∈fp)(e:h.get? d=some o):(d,o)∈jk fp h:=zaT.mpr ⟨d,a,by rw[e];rfl⟩
def BK(a:d∈jk fp h):d.1∈fp/\h.get? d.1=some d.2:=by
 let⟨b,j,e⟩:=zaT.mp a;cases q:h.get? b with
 |none=>simp_all
 |some o=>
  grind
def Inv.pinned(I:Inv X pins g H s)(n:∀b∈fp,nu X pins H b)(m:∀b∈fp,∃o,s.heap.get? b=some o/\∀v,o.data≠ .cell v):Inv X (pins++jk fp s.heap) g H s:=
 I.jN λp l=>(zbU.mp l).elim (λz=>I.pin p (zav _ z)) λz=>by
  let⟨h,e⟩:=BK z;let⟨u,t,q,_⟩:=n p.1 h;let⟨o,j,d⟩:=m p.1 h;rw[e] at j;cases j;refine⟨e,u,t,q,d⟩
def Inv.fV(I:Inv X (pins++pl) d H s):Inv X pins d H s:=I.jN λp h=>I.pin p (zav _ (zaD _ h))
abbrev R2:=V->V->Hp->VK->Prop
def iI(X:Cx)(f:yai->yai->Sem yai)(r:R2):Prop:=
 ∀(a)(s)(h:St)(H)(x y)(v u)(Q),Inv X a h H s->RelV x v->RelV y u->r x y H Q->
  yar (model X.prog X.w) X.A (f v u) (EP X a h Q) X.xe s
def P0(X:Cx)(f:yai->Sem yai)(r:V->Hp->VK->Prop):Prop:=
 ∀(a)(s)(h:St)(H)(x)(v)(Q),Inv X a h H s->RelV x v->r x H Q->
  yar (model X.prog X.w) X.A (f v) (EP X a h Q) X.xe s
def cG(X:Cx)(f:yai)(r:List V->Hp->VK->Prop):Prop:=
 ∀(a)(s)(h:St)(H)(j)(l)(Q),Inv X a h H s->Vals j l->r j H Q->
  yar (model X.prog X.w) X.A (call f l) (EP X a h Q) X.xe s
def UX(X:Cx)(r:V->Hp->(Bool->Hp->Prop)->Prop):Prop:=
 ∀(a)(s)(h:St)(H)(x)(v)(Q),Inv X a h H s->RelV x v->r x H Q->
  yar (model X.prog X.w) X.A (truthy v) (TP X a h Q) X.xe s
def Qj(r:R2)(j h:TE):TE:=λa H Q=>j a H λx m=>h a m λy l=>r x y l Q
def TR(r:V->Hp->VK->Prop)(h:TE):TE:=λa H Q=>h a H λx j=>r x j Q
def rI(C:Int->Int->Prop)(g:Int->Int->V):R2:=λx y H Q=>∃i j,x=.int i/\y=.int j/\C i j/\Q (g i j) H
def Lp(g:Int->Int->V):R2:=λx y H Q=>∃i j,x=.int i/\y=.int j/\Q (g i j) H
def rU(g:Int->V):V->Hp->VK->Prop:=λx H Q=>∃i,x=.int i/\Q (g i) H
section
variable {a b c:Expr}{ta tb tc:TE}
def Pd(O:PE X a ta)(L:PE X b tb){R:V->V->Hp->Prop}(I:Inv X pins d H s)(h:ta d H λx q=>tb d q λy l=>R x y l){f:yai->yai->Sem yai}(G:∀v u o x y l,Inv X pins d l o->RelV x v->RelV y u->R x y l->yar (model X.prog X.w) X.A (f v u) Q X.xe o):
  yar (model X.prog X.w) X.A (eval a X.env) (λv n=>yar (model X.prog X.w) X.A (eval b X.env) (λu m=>yar (model X.prog X.w) X.A (f v u) Q X.xe m) X.xe n) X.xe s:=by
 refine cB (O pins s d H _ I h) λv t ⟨x,q,S,E,F⟩=>?_;refine cB (L pins t d q _ S F) λu o ⟨y,l,P,C,q2⟩=>?_;exact G v u o x y l P E C q2
def aN(t:iI X (binaryOp op) r)(E:PE X a ta)(C:PE X b tb):PE X (.BinOp a op b pos) (Qj r ta tb):=by
 intro j s l H Q I h;exact wpAny_BinOp (Pd E C I h λv u m x y G F o n q=>t j m l G x y v u Q F o n q)
def zQ(t:P0 X (unaryOp op) r)(u:PE X a ta):PE X (.UnaryOp op a pos) (TR r ta):=by
 intro j s m H Q I h;refine UnaryOp_ (cB (u j s m H _ I h) λv n l=>?_);let⟨x,C,y,o,q⟩:=l;exact t j n m C x v Q y o q
def Tq{g:Int->Int->Int}(l:∀(i j)(t u)(s)(Q)(E),e i j->Q (.int (g i j) s.toks) {s with toks:=s.toks+1}->yar (model X.prog X.w) X.A (d (.int i t) (.int j u)) Q E s):
  iI X d (rI e λi j=>.int (g i j)):=by
 intro m s L H x y v u Q I F o h;let⟨i,j,rfl,rfl,G,q⟩:=h;let⟨t,rfl⟩:=F;let⟨n,rfl⟩:=o;exact l i j t n s _ _ G ⟨.int (g i j),H,I.tok _,⟨_,rfl⟩,q⟩
def Rb{g:Int->Int->Int}(l:∀(i j)(t u)(s)(Q)(E),Q (.int (g i j) s.toks) {s with toks:=s.toks+1}->yar (model X.prog X.w) X.A (d (.int i t) (.int j u)) Q E s):
  iI X d (Lp λi j=>.int (g i j)):=by
 intro m s F H x y v u Q I C o h;let⟨i,j,rfl,rfl,q⟩:=h;let⟨t,rfl⟩:=C;let⟨n,rfl⟩:=o;exact l i j t n s _ _ ⟨.int (g i j),H,I.tok _,⟨_,rfl⟩,q⟩
def Oc{g:Int->Int->Bool}(l:∀(i j)(t u)(s)(Q)(E),Q (.bool (g i j)) s->yar (model X.prog X.w) X.A (d (.int i t) (.int j u)) Q E s):
  iI X d (Lp λi j=>.bl (g i j)):=by
 intro m s F H x y v u Q I C o h;let⟨i,j,rfl,rfl,q⟩:=h;let⟨t,rfl⟩:=C;let⟨n,rfl⟩:=o;exact l i j t n s _ _ ⟨.bl (g i j),H,I,rfl,q⟩
def KI(i j:Int):Prop:=0<j/\j<1073741824
def KH(i j:Int):Prop:=0<=j/\j<=1000000/\i.natAbs<2 ^ 64
def HE(i j:Int):Prop:=(-(2 ^ 64)<i/\i<2 ^ 64)∨(-(2 ^ 64)<j/\j<2 ^ 64)
def HE.ok(h:HE d e):IntMulOk d e:=by
 rcases h with⟨h1,h2⟩|⟨h1,h2⟩
 ·exact .of_left (intBits_le_64 h1 h2)
 ·exact .of_right (intBits_le_64 h1 h2)
def Ob:iI X (binaryOp .Add) (Lp λi j=>.int (i+j)):=Rb λ_ _ _ _ _ _ _ q=>add_int q
def NV:iI X (binaryOp .Sub) (Lp λi j=>.int (i - j)):=Rb λ_ _ _ _ _ _ _ q=>sub_int q
def NZ:iI X (binaryOp .Mult) (rI HE λi j=>.int (i*j)):=Tq λ_ _ _ _ _ _ _ h q=>mul_int q h.ok
def IS:iI X (binaryOp .FloorDiv) (rI KI λi j=>.int (i / j)):=Tq λi j _ _ _ _ _ h q=>by
 have h1  :=h.1;have h2  :=h.2;exact floordiv_int (by lia) (by rw[Int.fdiv_eq_ediv_of_nonneg i (by lia)];exact q) (.inl (PyProof.noPylong_small (by lia)))
def N6:iI X (binaryOp .Mod) (rI (λ_ j=>0<j) λi j=>.int (i % j)):=Tq λi j _ _ _ _ _ h q=>by
 exact mod_int' (by lia) (by rw[Int.fmod_eq_emod_of_nonneg i (by lia)];exact q)
def NX:iI X (binaryOp .Pow) (rI KH λi j=>.int (i ^ j.toNat)):=Tq λ_ _ _ _ _ _ _ h q=>pow_int_small h.1 h.2.1 h.2.2 q
def unI{g:Int->Int}(j:∀(i)(t)(s)(Q)(E),Q (.int (g i) s.toks) {s with toks:=s.toks+1}->yar (model X.prog X.w) X.A (d (.int i t)) Q E s):
  P0 X d (rU λi=>.int (g i)):=by
 intro l s n H x v Q I m h;let⟨i,rfl,q⟩:=h;let⟨t,rfl⟩:=m;exact j i t s _ _ ⟨.int (g i),H,I.tok _,⟨_,rfl⟩,q⟩
def CN:P0 X (unaryOp .USub) (rU λi=>.int (-i)):=unI λ_ _ _ _ _ q=>neg_int q
end
noncomputable def Qt:V->V->Bool
 |.bU,.bU=>true|.bU,.int _=>true|.int _,.bU=>true|.bU,.bl _=>true|.bl _,.bU=>true|.bU,.str _=>true|.str _,.bU=>true
 |.int _,.int _=>true|.bl _,.bl _=>true|.str _,.str _=>true|.wZ _,.wZ _=>true
 |.int _,.str _=>true|.str _,.int _=>true|.bl _,.str _=>true|.str _,.bl _=>true
 |_,_=>false
def rEq:R2:=λx y H Q=>Qt x y=true/\Q (.bl (decide (x=y))) H
def rNe:R2:=λx y H Q=>Qt x y=true/\Q (.bl (!decide (x=y))) H
def Aw:decide (V.int d=V.int e)=(d==e):=by
 rw[zcf];simp
def FG:decide (V.bl d=V.bl e)=(d==e):=by
 rw[zcf];simp
def Av:decide (V.str d=V.str e)=(d==e):=by
 rw[zcf];simp
def Ax:decide (V.wZ d=V.wZ e)=(d.toList==e.toList):=by
 rw[zcf];simp
section
variable {a b c:Expr}{ta tb tc:TE}
def bg(I:Inv X pins d H s)(q:g (.bl k) H)(e:k=o):EP X pins d g (.bool o) s:=by
 subst e;refine⟨.bl k,H,I,rfl,q⟩
def Ra:iI X (yan .Eq) rEq:=by
 intro C s E H x y v u Q I o l h;let⟨n,q⟩:=h;cases x with
 |bU=>
  cases o;cases y with
  |bU=>cases l;exact PySem.EqNone.eq_none_none (bg I q (by simp))
  |bl j=>cases l;exact PySem.EqNone.eq_none_bool (bg I q (by simp))
  |int j=>let⟨m,rfl⟩:=l;exact PySem.EqNone.eq_none_int (bg I q (by simp))
  |str j=>let⟨m,rfl⟩:=l;exact PySem.EqNone.eq_none_str (bg I q (by simp))
  |_=>exact absurd (show false=true from n) zbe
 |bl i=>
  cases o;cases y with
  |bU=>cases l;exact PySem.EqNone.eq_bool_none (bg I q (by simp))
  |bl j=>cases l;exact eq_bool (bg I q FG)
  |str j=>let⟨m,rfl⟩:=l;exact PySem.EqMixed.eq_bool_str (bg I q (by simp))
  |_=>exact absurd (show false=true from n) zbe
 |int i=>
  let⟨t,rfl⟩:=o;cases y with
  |bU=>cases l;exact PySem.EqNone.eq_int_none (bg I q (by simp))
  |int j=>let⟨m,rfl⟩:=l;exact eq_int (bg I q Aw)
  |str j=>let⟨m,rfl⟩:=l;exact PySem.EqMixed.eq_int_str (bg I q (by simp))
  |_=>exact absurd (show false=true from n) zbe
 |str i=>
  let⟨t,rfl⟩:=o;cases y with
  |bU=>cases l;exact PySem.EqNone.eq_str_none (bg I q (by simp))
  |bl j=>cases l;exact PySem.EqMixed.eq_str_bool (bg I q (by simp))
  |int j=>let⟨m,rfl⟩:=l;exact PySem.EqMixed.eq_str_int (bg I q (by simp))
  |str j=>let⟨m,rfl⟩:=l;exact eq_str (bg I q Av)
  |_=>exact absurd (show false=true from n) zbe
 |wZ i=>
  let⟨t,rfl⟩:=o;cases y with
  |wZ j=>let⟨m,rfl⟩:=l;exact PySem.W.eq_bytes (bg I q Ax)
  |_=>exact absurd (show false=true from n) zbe
 |_=>cases y<;>exact absurd (show false=true from n) zbe
def Q6:iI X (yan .NotEq) rNe:=by
 intro C s E H x y v u Q I o l h;let⟨n,q⟩:=h;cases x with
 |bU=>
  cases o;cases y with
  |bU=>cases l;exact PySem.EqNone.ne_none_none (bg I q (by simp))
  |bl j=>cases l;exact PySem.EqNone.ne_none_bool (bg I q (by simp))
  |int j=>let⟨m,rfl⟩:=l;exact PySem.EqNone.ne_none_int (bg I q (by simp))
  |str j=>let⟨m,rfl⟩:=l;exact PySem.EqNone.ne_none_str (bg I q (by simp))
  |_=>exact absurd (show false=true from n) zbe
 |bl i=>
  cases o;cases y with
  |bU=>cases l;exact PySem.EqNone.ne_bool_none (bg I q (by simp))
  |bl j=>cases l;exact ne_bool (bg I q (congrArg not FG))
  |str j=>let⟨m,rfl⟩:=l;exact PySem.EqMixed.ne_bool_str (bg I q (by simp))
  |_=>exact absurd (show false=true from n) zbe
 |int i=>
  let⟨t,rfl⟩:=o;cases y with
  |bU=>cases l;exact PySem.EqNone.ne_int_none (bg I q (by simp))
  |int j=>let⟨m,rfl⟩:=l;exact ne_int (bg I q (congrArg not Aw))
  |str j=>let⟨m,rfl⟩:=l;exact PySem.EqMixed.ne_int_str (bg I q (by simp))
  |_=>exact absurd (show false=true from n) zbe
 |str i=>
  let⟨t,rfl⟩:=o;cases y with
  |bU=>cases l;exact PySem.EqNone.ne_str_none (bg I q (by simp))
  |bl j=>cases l;exact PySem.EqMixed.ne_str_bool (bg I q (by simp))
  |int j=>let⟨m,rfl⟩:=l;exact PySem.EqMixed.ne_str_int (bg I q (by simp))
  |str j=>let⟨m,rfl⟩:=l;exact ne_str (bg I q (congrArg not Av))
  |_=>exact absurd (show false=true from n) zbe
 |wZ i=>
  let⟨t,rfl⟩:=o;cases y with
  |wZ j=>let⟨m,rfl⟩:=l;exact PySem.W.ne_bytes (bg I q (congrArg not Ax))
  |_=>exact absurd (show false=true from n) zbe
 |_=>cases y<;>exact absurd (show false=true from n) zbe
def Q7:iI X (yan .Lt) (Lp λi j=>.bl (decide (i<j))):=Oc λ_ _ _ _ _ _ _ q=>lt_int q
def Q8:iI X (yan .Gt) (Lp λi j=>.bl (decide (j<i))):=Oc λ_ _ _ _ _ _ _ q=>gt_int q
def Q9:iI X (yan .GtE) (Lp λi j=>.bl (decide (j<=i))):=Oc λ_ _ _ _ _ _ _ q=>ge_int q
def BJ:iI X (yan .Lt) (λx y H Q=>∃i j,x=.str i/\y=.str j/\Q (.bl (decide (i.cps.toList<j.cps.toList))) H):=by
 intro l s o H x y v u Q I n m h;let⟨i,j,rfl,rfl,q⟩:=h;let⟨t,rfl⟩:=n;let⟨C,rfl⟩:=m;exact lt_str (bg I q rfl)
def aG(b)(h:autoParam (op≠ .In) r1)(h2:autoParam (op≠ .NotIn) r1):behindInMarks op b=false:=by
 have l:(op==CmpOp.In)=false:=by simp_all
 have j:(op==CmpOp.NotIn)=false:=by simp_all
 cases b<;>simp[behindInMarks,l,j]
def bq(t:iI X (yan op) r)(F:PE X a ta)(E:PE X b tb)(C:behindInMarks op b=false):PE X (.Compare a [op] [b] pos) (Qj r ta tb):=by
 intro j s l H Q I h;exact wpAny_Compare1 (Pd F E I h λv u m x y L G o n q=>t j m l L x y v u Q G o n q) C
def Qf(t:TE):TT:=λh H Q=>t h H λx j=>∃k,x=.bl k/\Q k j
def aq(L:iI X (yan op) r)(S:PE X a ta)(P:PE X b tb)(O:behindInMarks op b=false):PT X (.Compare a [op] [b] pos) (Qf (Qj r ta tb)):=by
 intro j s l H Q I h;refine wpAny_isTrue_Compare1 (cB (S j s l H _ I h) λv t o=>?_) O;let⟨x,H1,Y,F,G⟩:=o;refine cB (P j t l H1 _ Y G) λu q n=>?_;let⟨y,H2,W,E,q2⟩:=n;refine cB (L j q l H2 x y v u _ W F E q2) λc s3 m=>?_;let⟨z,Z,U,C,k,e,q3⟩:=m;subst e;cases C;exact wpAny_truthy_bool ⟨Z,U,q3⟩
def GF(K:yaJ)(x:V)(H:Hp)(k:Bool):Prop:=
 match x with
 |.bU=>k=false
 |.bl b=>k=b
 |.int i=>k=(i != 0)
 |.str y=>y.length<=yag/\k=((y.length:Int) != 0)
 |.wZ y=>y.size<=yag/\k=((y.size:Int) != 0)
 |.ref p=>(∃h,dF K H p h/\k= !h.isEmpty)∨(∃h,eO K H p h/\k= !h.isEmpty)∨∃j,H p=some (.dK j)/\k= !j.isEmpty
 |_=>False
def ym{κ:Type}{h:List (κ×V)}{vs:List (κ×yai)}(r:KV h vs):(!vs.isEmpty)= !h.isEmpty:=by
 cases r<;>rfl
def pH(r:Vals xs d):(!d.toArray.isEmpty)= !xs.isEmpty:=by
 cases r<;>simp
def tQ:(yag:Nat)<2 ^ 63:=by decide
def Mm:UX X (λx H Q=>∃k,GF X.K x H k/\Q k H):=by
 intro E s O H x v Q I n h;let⟨k,e,q⟩:=h;have hs  :=yaf;cases x with
 |bU=>
  cases n;have j  :=e;subst j;exact truthy_none ⟨H,I,q⟩
 |bl b=>
  cases n;have j  :=e;subst j;exact wpAny_truthy_bool ⟨H,I,q⟩
 |int i=>
  let⟨t,rfl⟩:=n;have j  :=e;subst j;exact PySem.P.truthy_int ⟨H,I,q⟩
 |str y=>
  let⟨t,rfl⟩:=n;obtain⟨G,j⟩:y.length<=yag/\k=((y.length:Int) != 0):=e;subst j;exact PySem.P.truthy_str (by lia) ⟨H,I.tok _,q⟩
 |wZ y=>
  let⟨t,rfl⟩:=n;obtain⟨G,j⟩:y.size<=yag/\k=((y.size:Int) != 0):=e;subst j;exact PySem.W.truthy_bytes (by lia) ⟨H,I.tok _,q⟩
 |ref p=>
  cases n;have j  :=e;rcases j with⟨F,u,j⟩|⟨F,u,j⟩|⟨o,u,j⟩
  ·subst j;let⟨C,r,pl,hz⟩:=I.list u;have l:=r.length;exact wpAny_truthy_list pl.isList (by simp only[zbj];lia) ⟨H,I.tok _,by rw[pH r];exact q⟩
  ·subst j;let⟨C,r,pl,hz⟩:=I.tuple u;have l:=r.length;exact truthy_tuple pl (by simp only[zbj];lia) ⟨H,I.tok _,by rw[pH r];exact q⟩
  ·subst j;obtain⟨hz,L,vs,r,m⟩:o.length<=yag/\(p==yas)=false/\∃vs,KV o vs/\s.heap.DictOf (bA X.prog X.w) p vs:=I.hok p _ u;have l  :=Paired.length r;exact wpAny_truthy_dict L m (by lia) ⟨H,I.tok _,by rw[ym r];exact q⟩
 |_=>exact(show False from e).elim
def Eu(y:PE X a ta)(u:∀j,isTrue a X.env j=(do let v <-j;standAt a.pos;holding [v] (truthy v))):
  PT X a (λm H Q=>ta m H λx H'=>∃k,GF X.K x H' k/\Q k H'):=by
 intro l s m H Q I h;refine isTrue_plain (cB (y l s m H _ I h) λv o n=>?_) (u _);let⟨x,E,C,q,t⟩:=n;exact Mm l o m E x v Q C q t
def xX:iI X (binaryOp .Add) (λx y H Q=>∃i j,x=.str i/\y=.str j/\i.length+j.length<=yag/\Q (.str (i++j)) H):=by
 intro l s C H x y v u Q I o n h;let⟨i,j,rfl,rfl,hz,q⟩:=h;let⟨t,rfl⟩:=o;let⟨m,rfl⟩:=n;exact add_str (λm E=>⟨.str (i++j),H,I.tok _,⟨_,rfl⟩,q⟩) hz
def vals1(r:Vals [d] us):∃u,us=[u]/\RelV d u:=by
 cases r with
 |cons r1 r2=>cases r2;refine⟨_,rfl,r1⟩
def vals2(r:Vals [d,y] us):∃u h,us=[u,h]/\RelV d u/\RelV y h:=by
 cases r with
 |cons r1 r2=>
  cases r2 with
  |cons r3 r4=>cases r4;refine⟨_,_,rfl,r1,r3⟩
def Cg(o:X.calm=true):cG X (.builtin "max") (λm H Q=>∃i j,m=[.int i,.int j]/\Q (.int (if j> i then j else i)) H):=by
 intro n s v H m y Q I r h;let⟨i,j,rfl,q⟩:=h;let⟨u,x,rfl,⟨t,rfl⟩,⟨E,rfl⟩⟩:=vals2 r;refine max_two_ints (I.ok.hd o) λF C k=>⟨_,H,I.kept k,?_,q⟩
 by_cases l:j> i
 ·rw[yIp l,yIp l];exact⟨_,rfl⟩
 ·rw[yIn l,yIn l];exact⟨_,rfl⟩
def Cf(o:X.calm=true):cG X (.builtin "min") (λm H Q=>∃i j,m=[.int i,.int j]/\Q (.int (if j<i then j else i)) H):=by
 intro n s v H m y Q I r h;let⟨i,j,rfl,q⟩:=h;let⟨u,x,rfl,⟨t,rfl⟩,⟨E,rfl⟩⟩:=vals2 r;refine min_two_ints (I.ok.hd o) λF C k=>⟨_,H,I.kept k,?_,q⟩
 by_cases l:j<i
 ·rw[yIp l,yIp l];exact⟨_,rfl⟩
 ·rw[yIn l,yIn l];exact⟨_,rfl⟩
def Ck:cG X (.type "int") (λj H Q=>(∃i,j=[.int i]/\Q (.int i) H)∨∃k,j=[.bl k]/\Q (.int (if k then 1 else 0)) H):=by
 intro l s n H j o Q I r h;rcases h with⟨i,rfl,q⟩|⟨k,rfl,q⟩
 ·obtain⟨u,rfl,t,rfl⟩:=vals1 r;exact call_int_int ⟨.int i,H,I,⟨_,rfl⟩,q⟩
 ·obtain⟨u,rfl,m⟩:=vals1 r;cases m;exact call_int_bool ⟨.int (if k then 1 else 0),H,I.tok _,⟨_,rfl⟩,q⟩
def U0(K:yaJ)(x:V)(H:Hp)(n:Nat):Prop:=
 match x with
 |.str y=>y.length<=yag/\n=y.length
 |.wZ y=>y.size<=yag/\n=y.size
 |.ref p=>(∃h,dF K H p h/\n=h.length)∨∃h,eO K H p h/\n=h.length
 |_=>False
def Gd:cG X (.builtin "len") (λm H Q=>∃x n,m=[x]/\U0 X.K x H n/\Q (.int n) H):=by
 intro F s L H m O Q I r h;let⟨x,n,rfl,e,q⟩:=h;let⟨u,rfl,o⟩:=vals1 r;have hs  :=yaf;cases x with
 |str y=>
  let⟨t,rfl⟩:=o;obtain⟨G,l⟩:y.length<=yag/\n=y.length:=e;subst l;exact len_str (by lia) ⟨.int _,H,I.tok _,⟨_,rfl⟩,q⟩
 |wZ y=>
  let⟨t,rfl⟩:=o;obtain⟨G,l⟩:y.size<=yag/\n=y.size:=e;subst l;exact PySem.W.len_bytes (by lia) ⟨.int _,H,I.tok _,⟨_,rfl⟩,q⟩
 |ref p=>
  cases o;have l  :=e;rcases l with⟨m,E,l⟩|⟨m,E,l⟩
  ·subst l;let⟨C,v,pl,hz⟩:=I.list E;have j:=v.length;exact Calls.call_len_list pl.isList (by simp only[zbj];lia) ⟨.int m.length,H,I.tok _,⟨_,by simp only[zbj];rw[j]⟩,q⟩
  ·subst l;let⟨C,v,pl,hz⟩:=I.tuple E;have j:=v.length;exact len_tuple pl (by simp only[zbj];lia) ⟨.int m.length,H,I.tok _,⟨_,by simp only[zbj];rw[j]⟩,q⟩
 |_=>exact(show False from e).elim
end
structure yS(h:Heap)(x dx C:Addr)(mA:Str->Option yai):Prop where
 obj:h.get? x=some (zcg C dx)
 ns:h.Ns1 dx mA
 ne:dx≠x
def BV(n:h.Ns1 dx mA):∃m,h.get? dx=some m/\∀j,PySem.W.lookIn j m=some (mA j):=by
 let⟨o,x,C,s,hd,v,_,u⟩:=n;refine⟨o,s,λj=>?_⟩;have e:=u j;unfold nsFind findBy at e;unfold PySem.W.lookIn;rw[hd];dsimp only;split
 ·simp_all
 ·have a:x.toList.any (·.refKey)=false:=by
   rw[zbk];intro y q;let⟨z,t,l⟩:=v y (Array.mem_toList_iff.mp q);simp[DictEntry.refKey,l]
  grind
def yS.look(I:yS h d dx C mA):∃j,PySem.W.InstAt h d (zcg C dx) C (some j)/\∀a,PySem.W.lookIn a j=some (mA a):=
 by let⟨j,l,m⟩:=BV I.ns;refine⟨j,⟨I.obj,rfl,rfl,l⟩,m⟩
section
variable {x dx:Addr}{mA:Str->Option yai}{v:yai}
def get_map(X:K.In s.heap)(I:yS s.heap x dx C mA)(o:zbS K C name=true)(n:zbx K C=true)(q:zcm K (.ref C) name=some none)(l:mA name=some v)(j:PySem.W.handedIn v=true)(h:Q v {s with toks:=s.toks+1}):
  yar (model prog w) A (getAttr (.ref x) name d) Q E s:=by
 let⟨t,J,m⟩:=I.look;exact PySem.W.get_value X J (PySem.W.plainGet_of o).1 (PySem.W.findObj_own n q rfl (by rw[m,l])) j h
def Fw(X:K.In s.heap)(I:yS s.heap x dx C mA)(a:zbS K C name=true)(m:zcm K (.ref C) name=some (some (.ref f)))(l:zcM K (.ref f)=true)(n:mA name=none)(h:d (.ref f,[.ref x]) s):
  yar (model prog w) A (yaD (.ref x) name pl) d E s:=by
 let⟨j,J,o⟩:=I.look;exact PySem.W.method_fn X J (PySem.W.plainGet_of a).1 (PySem.W.plainGet_of a).2 m (beq_iff_eq.mp l) (by show(PySem.W.lookIn name j).map (·.isSome)=some false;simp_all) h
def Ic(X:K.In s.heap)(I:yS s.heap x dx C mA)(t:zcm K (.ref C) "__setattr__"=some (some (.builtin "object.__setattr__")))(u:PySem.W.plainOver K C=true)(o:PySem.W.takerIn K C name=some none)(F:zbx K C=true)(hw:PySem.Within mA ns)(q:ns.length<=yag)(h:∀h',yS h' x dx C (λy=>if y=name then some v else mA y)->Heap.SameBut dx s.heap h'->d () {s with heap:=h',toks:=s.toks+2}):
  yar (model prog w) A (setAttr (.ref x) name v) d E s:=by
 let⟨O,J,S⟩:=I.look;refine PySem.W.set_plain X J t (PySem.W.osa_open X J u o λb=>?_);let⟨U,G,m⟩:=PySem.W.any_some F;have hx  :=I.obj;refine yaa (yab (yaa (yaa (wpAny_loadPart hx (yaa (PySem.W.Looks.here (PySem.W.looks_clsIn X G) ?_))))));rw[m];refine yab (yaa (yab (yaa ?_)));refine wpAny_nsSet1 I.ns λh' j a=>?_;let⟨P,H,L,l,Vh,n⟩:=j.count (PySem.Within.cons name v hw);refine yaa (wpAny_lookBehind l (by rw[Vh];exact pastItsLine_dict (zcH n (by simp_all))) ?_);exact yab (h _ ⟨(a.2 _ (Ne.symm I.ne)).trans I.obj,j,I.ne⟩ a)
def EU(X:K.In s.heap)(a:PySem.W.makesIn K C=true)(j:zcm K (.ref C) "__init__"=some (some (.ref f)))(l:PySem.W.typeIn K (.ref f)=some (.type "function"))(h:codeAny (model prog w) (A.under (.builtin "type.__call__" ⟨.ref C::vs,kw⟩)) (.call (.ref f) ⟨.ref (s.heap.objs.size+1)::vs,kw⟩) (PySem.W.InitBack (s.heap.objs.size+1) R) {s with heap:=(s.heap.push zby).push (zcg C s.heap.objs.size)}):
  codeAny (model prog w) A (.call (.ref C) ⟨vs,kw⟩) R s:=by
 exact PySem.W.make_core (PySem.W.makes_of X a) (PySem.W.looks_findIn X j) (λself=>PySem.W.bind_fn X self l) (.inl rfl) h
end
noncomputable def gK(f:Str)(v:V):List (Str×V)->List (Str×V)
 |[]=>[(f,v)]
 |(g,x)::r=>if g=f then(g,v)::r else(g,x)::gK f v r
theorem mF(f g)(v):∀fs:List (Str×V),(gK f v fs).lookup g=if g=f then some v else fs.lookup g
 |[]=>by
  show List.lookup g [(f,v)]=_
  grind
 |(k,x)::r=>by
  have a:=mF f g v r;rw[show gK f v ((k,x)::r)=(if k=f then(k,v)::r else(k,x)::gK f v r) from rfl]
  grind
theorem lC(f)(v):∀fs:List (Str×V),f∈(gK f v fs).map (·.1)/\∀g,g∈fs.map (·.1)->g∈(gK f v fs).map (·.1)
 |[]=>⟨by simp[gK],λg h=>by simp at h⟩
 |(k,x)::r=>by
  let⟨j,a⟩:=lC f v r;rw[show gK f v ((k,x)::r)=(if k=f then(k,v)::r else(k,x)::gK f v r) from rfl]
  grind
theorem mH(f)(v):∀fs:List (Str×V),(gK f v fs).length<=fs.length+1
 |[]=>by simp[gK]
 |(k,x)::r=>by
  have a:=mH f v r;rw[show gK f v ((k,x)::r)=(if k=f then(k,v)::r else(k,x)::gK f v r) from rfl];by_cases h:k=f
  ·simp_all
  simp_all
def iB.some_of(r:iB (some v) o):∃u,o=some u/\RelV v u:=by
 cases o with
 |none=>exact(show False from r).elim
 |some u=>refine⟨u,rfl,r⟩
def iB.none_of(r:iB none o):o=none:=by
 cases o with
 |none=>rfl
 |some u=>exact(show False from r).elim
def B6(r:RelV v u):PySem.W.handedIn u=true:=by
 cases v with
 |bU=>cases(show u=Value.none from r);rfl
 |bl b=>cases(show u=Value.bool b from r);rfl
 |int i=>let⟨t,e⟩:=(show∃t,u=Value.int i t from r);cases e;rfl
 |str x=>let⟨t,e⟩:=(show∃t,u=Value.str x t from r);cases e;rfl
 |wZ b=>let⟨t,e⟩:=(show∃t,u=Value.bytes b t from r);cases e;rfl
 |OQ b=>let⟨t,e⟩:=(show∃t,u=Value.float b t from r);cases e;rfl
 |ref a=>cases(show u=Value.ref a from r);rfl
 |ty n=>cases(show u=Value.type n from r);rfl
section
variable {dx:Addr}{fs fs':List (Str×V)}
def nJ(hok:iZ P w H h)(e:H a=some (.ins C dx fs)):∃mA,yS h a dx C mA/\(∀f,iB (fs.lookup f) (mA f))/\PySem.Within mA (fs.map (·.1))/\fs.length<=1000/\H dx=some (.own a):=by
 let⟨d,z,ne,j,mA,n,r,q⟩:=(show bK P w H h a (.ins C dx fs) from hok a _ e)
 refine⟨mA,⟨j,n,ne⟩,r,q,z,d⟩
end
structure y9(K:yaJ)(C:Addr):Prop where
 pg:zbS K C Str.empty=true
 hd:zbx K C=true
 po:PySem.W.plainOver K C=true
 sa:zcm K (.ref C) "__setattr__"=some (some (.builtin "object.__setattr__"))
def y9.get(c:y9 K C)(f):zbS K C f=true:=c.pg
def eG(K:yaJ)(C:Addr)(f:Str):Prop:=zcm K (.ref C) f=some none
def eG.P8(n:eG K C d):PySem.W.takerIn K C d=some none:=by
 unfold PySem.W.takerIn;rw[show zcm K (.ref C) d=some none from n];rfl
structure Meth(K:yaJ)(C:Addr)(m:Str)(f:Addr):Prop where
 at_:zcm K (.ref C) m=some (some (.ref f))
 fn:zcM K (.ref f)=true
 kp:zcn K (.ref f)=true
section
variable {σ:St}{dx:Addr}{fs:List (Str×V)}{f:Str}
def yo(I:Inv X pins σ H s)(e:H a=some (.ins C dx fs))(c:y9 X.K C)(n:eG X.K C f)(l:fs.lookup f=some v)(h:∀u j,Inv X pins σ H j->RelV v u->Q u j):yar (model X.prog X.w) A (getAttr (.ref a) f b) Q E s:=by
 let⟨mA,O,r,_,_,_⟩:=nJ I.hok e;let⟨u,m,ru⟩:=iB.some_of (by rw[<-l];exact r f);exact get_map I.mK O (c.get f) c.hd n m (B6 ru) (h u _ (I.tok _) ru)
def pL(I:Inv X pins σ H s)(e:H a=some (.ins C dx fs))(c:y9 X.K C)(k:Meth X.K C d g)(l:fs.lookup d=none)(h:o (.ref g,[.ref a]) s):yar (model X.prog X.w) A (yaD (.ref a) d pl) o E s:=by
 let⟨mA,O,r,_,_,_⟩:=nJ I.hok e;have hn  :=iB.none_of (by rw[<-l];exact r d);exact Fw I.mK O (c.get d) k.at_ k.fn hn h
def xC(I:Inv X pins σ H s)(e:H a=some (.ins C dx fs))(c:y9 X.K C)(n:eG X.K C f)(P:fs.length<1000)(v:RelV y u)(h:∀m,Inv X pins σ (upd H a (.ins C dx (gK f y fs))) m->d () m):yar (model X.prog X.w) A (setAttr (.ref a) f u) d E s:=by
 let⟨mA,O,r,l,_,t⟩:=nJ I.hok e;have hz:(fs.map (·.1)).length<=yag:=by rw[zbV,yaf];lia
 refine Ic I.mK O c.sa c.po n.P8 c.hd l hz λG j sb=>h _ ?_;have hd:∃o,G.get? dx=some o:=by let⟨o,_,_,L,_⟩:=j.ns;exact⟨o,L⟩
 refine I.write (by rw[e];exact True.intro) (.inr t) (λb q F z=>(sb.2 b F).trans z) hd ?_;refine⟨by rw[aR O.ne];exact t,?_,O.ne,j.obj,_,j.ns,λg=>?_,λg x=>?_⟩
 ·have:=mH f y fs;lia
 ·rw[mF];by_cases q:g=f
  ·rw[yIp q,yIp q];exact v
  ·rw[yIn q,yIn q];exact r g
 ·by_cases q:g=f
  ·rw[q];exact(lC f y fs).1
  ·refine(lC f y fs).2 g (l g λz=>x ?_);simp_all
def Inv.made(I:Inv X pins σ H s):Inv X pins σ (upd (upd H s.heap.objs.size (.own (s.heap.objs.size+1))) (s.heap.objs.size+1) (.ins C s.heap.objs.size []))
  {s with heap:=(s.heap.push zby).push (zcg C s.heap.objs.size)}:=by
 have a:(s.heap.push zby).get? s.heap.objs.size=some zby:=zaS s.heap rfl;have m:((s.heap.push zby).push (zcg C s.heap.objs.size)).get? (s.heap.objs.size+1)=some (zcg C s.heap.objs.size):=by
  have:=zaS (s.heap.push zby) (o:=zcg C s.heap.objs.size) rfl;simp_all
 have l:(s.heap.push zby).Ns s.heap.objs.size (λ_=>none):=⟨zby,#[],_,a,rfl,(λe j=>absurd j (by simp)),λ_=>rfl⟩
 have n:=I.laid (o:=.own (s.heap.objs.size+1)) (t':=s.toks) (λb u q=>zas _ q) (zcR _) ⟨_,a⟩;refine n.laid (λb u q=>zas _ q) (Nat.le_of_eq (zcp _ _)) ?_;have ne:s.heap.objs.size≠s.heap.objs.size+1:=zcG (Nat.lt_succ_self _);refine⟨by rw[aR ne,bW],zcS _,ne,m,λ_=>none,(Heap.Ns1.of_empty l).at λo q=>zas _ q,λ_=>True.intro,λy h=>absurd rfl h⟩
def JU(j:attributeBase e d env (eval e env)=eval e env)(h:yar (model prog w) A (eval e env) (λo a=>yar (model prog w) A (getAttr o d true) Q E a) E g):yar (model prog w) A (eval (.Attribute e d pos) env) Q E g:=
 Attribute_any_ h (by rw[arm_eval_Attribute,j])
end
def TU(K:yaJ)(l:TE)(f:Str):TE:=λj H Q=>l j H λx h=>∃a C dx fs v,x=.ref a/\h a=some (.ins C dx fs)/\y9 K C/\eG K C f/\fs.lookup f=some v/\Q v h
def T8(K:yaJ)(m l:TE)(f:Str):TS:=λD h H=>l h H λy n=>m h n λx j=>∃a C dx fs,x=.ref a/\j a=some (.ins C dx fs)/\y9 K C/\eG K C f/\fs.length<1000/\
 D.nx h (upd j a (.ins C dx (gK f y fs)))
section
variable {o e:Expr}{f:Str}{tpos:Pos}{ta tv:TE}
def fP(E:PE X e ta)(F:attributeBase e f X.env (eval e X.env)=eval e X.env):PE X (.Attribute e f pos) (TU X.K ta f):=by
 intro j s t H Q I h;refine JU F (cB (E j s t H _ I h) λu W m=>?_);let⟨x,P,O,y,a,C,dx,fs,v,ex,G,c,n,l,q⟩:=m;subst ex;obtain rfl:u=Value.ref a:=y;exact yo O G c n l λS U L ru=>⟨v,P,L,ru,q⟩
def k9(Q:PE X o ta)(O:PE X value tv)(P:yat value (some (.Attribute o f pos')) pos.line X.env=pure false):PS X (.Assign [.Attribute o f pos'] value pos) (T8 X.K ta tv f):=by
 intro j s m H D I h;refine plainObj_wpAny_Assign_Attribute (cB (O j s m H _ I h) λu E v=>?_) P;obtain⟨y,Z,Y,F,q⟩:=v;refine cB (Q j E m Z _ Y q) λL s2 t=>?_;obtain⟨x,H2,W,G,a,C,dx,fs,ex,S,c,n,l,q2⟩:=t;subst ex;obtain rfl:L=Value.ref a:=G;exact xC W S c n l F λs3 U=>⟨m,_,U,q2⟩
end
section
variable {σ:St}{c:yai}
inductive kq(K:yaJ)(H:Hp):V->yai->Prop where
 |bU:kq K H .bU (.type "NoneType")
 |bl (x:Bool):kq K H (.bl x) (.type "bool")
 |int (i:Int):kq K H (.int i) (.type "int")
 |str (x:Str):kq K H (.str x) (.type "str")
 |OQ (x:UInt64):kq K H (.OQ x) (.type "float")
 |lst {a:Addr}{xs:List V} (e:H a=some (.lst xs)):kq K H (.ref a) (.type "list")
 |Am {a:Addr}{o:Obj}{xs:List V} (e:H a=some (.Am o (.lst xs))):kq K H (.ref a) (.type "list")
 |tup {a:Addr}{xs:List V} (e:H a=some (.tup xs)):kq K H (.ref a) (.type "tuple")
 |dK {a:Addr}{kvs:List (Key×V)} (e:H a=some (.dK kvs)):kq K H (.ref a) (.type "dict")
 |dT {a:Addr}{kvs:List (List Key×V)} (e:H a=some (.dT kvs)):kq K H (.ref a) (.type "dict")
 |ins {a C dx:Addr}{fs:List (Str×V)} (e:H a=some (.ins C dx fs)) (cl:y9 K C) (ha:zcm K (.ref C) "__class__"=some (some (.builtin "object.__class__")))
   (hn:PySem.W.specialIn K (.builtin "object.__class__") "__get__"=some (some (.builtin "getset_descriptor.__get__"))) (htk:PySem.W.takesIn K (.builtin "object.__class__")=some true)
   (hm:PySem.W.mroIn K C (.type "object")=some true):kq K H (.ref a) (.ref C)
theorem B0(I:Inv X pins σ H s)(j:RelV d u)(ty:kq X.K H d g)(e:PySem.W.kitOne X.K g c=some b)(h:∀tk,Q (.bool b) {s with toks:=tk}):
  yar (model X.prog X.w) A (call (.builtin "isinstance") [u,c]) Q E s:=by
 cases ty with
 |bU=>cases(show u=Value.none from j);exact zch PySem.W.kitx_none I.mK True.intro e (λz=>nomatch z) h
 |bl y=>cases(show u=Value.bool y from j);exact zch PySem.W.kitx_bool I.mK True.intro e (λz=>nomatch z) h
 |int i=>let⟨g,q⟩:=(show∃g,u=Value.int i g from j);cases q;exact zch PySem.W.kitx_int I.mK True.intro e (λz=>nomatch z) h
 |str y=>let⟨g,q⟩:=(show∃g,u=Value.str y g from j);cases q;exact zch PySem.W.kitx_str I.mK True.intro e (λz=>nomatch z) h
 |OQ y=>let⟨g,q⟩:=(show∃g,u=Value.float y g from j);cases q;exact zch PySem.W.kitx_float I.mK True.intro e (λz=>nomatch z) h
 |@lst a l ea=>
  cases(show u=Value.ref a from j);let⟨_,_,n,_,h1⟩:=(show bK X.prog X.w H s.heap a (.lst l) from I.hok a _ ea)
  exact zch PySem.W.kitx_list I.mK ⟨_,h1,rfl⟩ e (λz=>nomatch z) h
 |@Am a ob l ea=>
  cases(show u=Value.ref a from j);let⟨_,_,_,n,_,h1⟩:=(show bK X.prog X.w H s.heap a (.Am ob (.lst l)) from I.hok a _ ea)
  exact zch PySem.W.kitx_list I.mK ⟨_,h1,rfl⟩ e (λz=>nomatch z) h
 |@tup a l ea=>
  cases(show u=Value.ref a from j);let⟨_,_,_,p⟩:=(show bK X.prog X.w H s.heap a (.tup l) from I.hok a _ ea)
  let⟨o,h1,h2,_⟩:=p;exact zch PySem.W.kitx_tuple I.mK ⟨o,h1,h2⟩ e (λz=>nomatch z) h
 |@dK a kvs ea=>
  cases(show u=Value.ref a from j);let⟨_,_,vs,_,p⟩:=(show bK X.prog X.w H s.heap a (.dK kvs) from I.hok a _ ea)
  let⟨o,m,v,h1,h2,_⟩:=p;exact zch PySem.W.kitx_dict I.mK ⟨o,h1,h2.1⟩ e (λz=>nomatch z) h
 |@dT a kvs ea=>
  cases(show u=Value.ref a from j);let⟨_,_,l,_,o,m,v,h1,h2,_⟩:=(show bK X.prog X.w H s.heap a (.dT kvs) from I.hok a _ ea)
  exact zch PySem.W.kitx_dict I.mK ⟨o,h1,h2.1⟩ e (λz=>nomatch z) h
 |@ins a C dx fs ea cl ha hn htk hm=>
  cases(show u=Value.ref a from j);let⟨mA,O,_⟩:=nJ I.hok ea;let⟨F,J,_⟩:=O.look;exact zch (PySem.W.kitx_own (cl.get _) cl.hd ha hn htk hm) I.mK J e (λz=>nomatch z) h
end
structure bB(k:Nat)(A:yal):Prop where
 hd:A.handled=none
 dp:A.depth+3*k+5<recursionLimit
 un:A.units+16*k+200<cLine
 gd:A.guards=some []
def bB.mono(r:bB k A)(h:j<=k):bB j A:=⟨r.hd,by have:=r.dp;lia,by have:=r.un;lia,r.gd⟩
theorem bB.deeper(r:bB (k+1) A)(env):bB k (A.deeper env):=
 ⟨r.hd,by have:=r.dp;show A.depth+1+3*k+5<_;lia,by have:=r.un;show A.units+3+16*k+200<_;lia,r.gd⟩
def yg:(A.under (.builtin "type.__call__" ⟨.ref C::us,kw⟩)).depth=A.depth+1:=by
 rfl
def yf:(A.under (.builtin "type.__call__" ⟨.ref C::us,kw⟩)).units=A.units+1:=by
 rfl
def bB.make(r:bB (k+1) A)(C)(a)(h):bB k (A.under (.builtin "type.__call__" ⟨.ref C::a,h⟩)):=
 ⟨r.hd,by have:=r.dp;rw[yg];lia,by have:=r.un;rw[yf];lia,r.gd⟩
theorem bB.depth(r:bB k A):A.depth<recursionLimit:=by have:=r.dp;lia
theorem bB.units(r:bB k A):A.units+64<cLine:=by have:=r.un;lia
def Mr:TA:=λ_ H Q=>Q [] H
def C2(j:TE)(tr:TA):TA:=λa H Q=>j a H λx m=>tr a m λh l=>Q (x::h) l
section
variable {e:Expr}{es:List Expr}{te:TE}{t:TA}
def ai:PA X [] Mr:=λ_ _ _ _ H Q I h=>zbz ⟨[],H,I,.nil,h⟩
def IM(F:PE X e te)(E:PA X es t)(C:autoParam (yao (e::es) X.env=(false,eval e X.env)::yao es X.env) r0):PA X (e::es) (C2 te t):=by
 intro l a s m H Q I h;rw[C];refine zbi (cB (F a s m H _ I h) λu o j=>?_);let⟨x,P,L,v,y⟩:=j;refine cB (E l a o m P _ L y) λS U j=>?_;let⟨n,O,G,q,q2⟩:=j;refine⟨x::n,O,G,.cons v q,q2⟩
def Qe(t:TA):TE:=λj H Q=>t j H λa h=>a.length<=yag/\∀p,h p=none->Q (.ref p) (upd h p (.tup a))
def Qm(t:TA):TE:=λj H Q=>t j H λa h=>a.length<=yag/\∀p,h p=none->Q (.ref p) (upd h p (.lst a))
def aF(h:PA X es t):PE X (.Tuple es x1 pos) (Qe t):=by
 intro a s n H Q I x;refine wpAny_Tuple_spliced (cB (h pos a s n H _ I x) λv l j=>?_);let⟨o,y,m,r,z,q⟩:=j;refine⟨by rw[<-r.length];exact z,?_⟩;have hf  :=m.hok.fresh (zcR _);refine⟨.ref l.heap.objs.size,upd y l.heap.objs.size (.tup o),m.laid (λb u e=>zas _ e) (zcR _) ?_,rfl,q _ hf⟩;refine⟨z,v,r,⟨_,zaS _ rfl,rfl,_,rfl⟩⟩
def aL(h:PA X es t):PE X (.List es pos) (Qm t):=by
 intro a s n H Q I x;refine wpAny_List_spliced (cB (h pos a s n H _ I x) λv l j=>?_);let⟨o,y,m,r,z,q⟩:=j;refine⟨by rw[<-r.length];exact z,?_⟩;have hf  :=m.hok.fresh (zcR _);refine⟨.ref l.heap.objs.size,upd y l.heap.objs.size (.lst o),m.laid (λb u e=>zas _ e) (zcR _) ?_,rfl,q _ hf⟩;refine⟨z,v,0,r,zaS _ rfl⟩
end
abbrev Sp:=List V->Hp->VK->XK->Prop
abbrev HC:=List Env->Hp->yah->XK->yai->yah->Prop
structure yY(P:yaj)(w:yak)(K:yaJ)(mg:Str->Option yai)(base:Heap)(A:yal)(outer:List Env)(s:yah)(H:Hp):Prop where
 frames:A.frames=some outer
 mod:Mod K mg base
 bs:∀b o,base.get? b=some o->s.heap.get? b=some o/\H b=none
 JR:base.objs.size<=s.heap.objs.size
 mY:s.heap.FunFrames base outer
 OP:∀b∈frs outer,H b=none
 hok:iZ P w H s.heap
 bare:AllBare s.gens
def CE(outer:List Env)(P:yaj)(w:yak)(H:Hp)(s:yah)(Q:VK)(u:yai)(a:yah):Prop:=
 ∃v h,a.os=s.os/\AllBare a.gens/\Un (frs outer) [] H h s.heap a.heap/\iZ P w h a.heap/\RelV v u/\Q v h
def CR(CX:HC)(outer:List Env)(P:yaj)(w:yak)(H:Hp)(s:yah)(Q:VK)(E:XK)(r:Result)(a:yah):Prop:=
 match r with
 |.ok (.ret u)=>CE outer P w H s Q u a
 |.ok _=>False
 |.error e=>CX outer H s E e a
structure eK(P:yaj)(w:yak)(K:yaJ)(mg:Str->Option yai)(base:Heap)(CX:HC)(k:Nat)(f:Addr)(fd:yap)(ps:List Str)(sp:Sp):Prop where
 len:∀vs H Q E,sp vs H Q E->vs.length=ps.length
 run:∀(A:yal)(outer:List Env)(s:yah)(H:Hp)(args:Args)(us:List yai)(vs:List V)(Q:VK)(E:XK),bB k A->yY P w K mg base A outer s H->yaB s fd args (ps.zip us)->Vals vs us->sp vs H Q E->
  codeAny (model P w) A (.call (.ref f) args) (CR CX outer P w H s Q E) s
def eK.imp(F:eK P w K mg base CX k f fd ps sp)(h:∀vs H Q E,d vs H Q E->sp vs H Q E):eK P w K mg base CX k f fd ps d:=
 ⟨λvs H Q E q=>F.len vs H Q E (h _ _ _ _ q),λA outer s H j l vs Q E o t u m n=>F.run A outer s H j l vs Q E o t u m (h _ _ _ _ n)⟩
def yY.make(e:yY P w K mg base A outer s H)(C)(a)(h):
  yY P w K mg base (A.under (.builtin "type.__call__" ⟨.ref C::a,h⟩)) outer s H:=⟨by first|exact e.frames|(simpa[Around.under,Code.envs,Code.isFrame,pushEnvs] using e.frames),e.mod,e.bs,e.JR,e.mY,e.OP,e.hok,e.bare⟩
section
variable {σ:St}{s':yah}
def Inv.RM(I:Inv X pins σ H s):yY X.prog X.w X.K X.mg X.base X.A X.stack s H:=
 ⟨I.ok.frames,I.ok.mod,I.bs,zcH I.ok.JR I.sz,I.stack,I.zh,I.hok,I.bare⟩
def Inv.after(I:Inv X pins σ H s)(h:CE X.stack X.prog X.w H s e u s'):EP X pins σ e u s':=by
 let⟨v,j,os,bare,un,hok,r,q⟩:=h;let⟨l,g,d,t,a⟩:=s';obtain rfl:a=s.os:=os;refine⟨v,j,I.call un hok bare (λb z=>absurd z (by simp)),r,q⟩
end
def C4(sp:Sp)(a:List V)(E:XK)(t:TA):TE:=λh H Q=>t h H λvs j=>sp (vs++a) j Q E
def CW(C:Addr)(m:Str)(sp:Sp)(h:List V)(E:XK)(n:TE)(t:TA):TE:=λj H Q=>n j H λx l=>∃a dx fs,x=.ref a/\l a=some (.ins C dx fs)/\fs.lookup m=none/\
 t j l λvs o=>sp (x::(vs++h)) o Q E
def Ql(C:Addr)(sp:Sp)(a:List V)(E:XK)(t:TA):TE:=λj H Q=>t j H λvs h=>∀x dx,h x=none->h dx=none->dx≠x->
 sp (.ref x::(vs++a)) (upd (upd h dx (.own x)) x (.ins C dx [])) (λv l=>v=.bU/\Q (.ref x) l) E
def Binds(K:yaJ)(fd:yap)(ps:List Str)(ds:List yai):Prop:=
 ∀(s)(a),K.In s.heap->(a++ds).length=ps.length->yaB s fd ⟨a,[]⟩ (ps.zip (a++ds))
def Binds.all(h:∀a:List yai,a.length=ps.length->yaA fd ⟨a,[]⟩=pure (ps.zip a)):Binds K fd ps []:=λs a _ j=>by
 rw[zbW] at j⊢;exact .of_eq (h a j)
def Passes(CX:HC)(X:Cx)(E:XK):Prop:=∀(a)(j:St)(H)(s)(e)(h),Inv X a j H s->CX X.stack H s E e h->X.xe e h
section
variable {CX:HC}{k:Nat}{sp:Sp}{dvs:List V}{ds:List yai}{E:XK}{m:Str}{p:Pos}{e o:Expr}{es:List Expr}{ta:TE}{t:TA}
def xR(F:eK X.prog X.w X.K X.mg X.base CX k f fd ps sp)(q:bB k X.A)(x:Binds X.K fd ps ds)(hd:Vals dvs ds)(n:Passes CX X E)(I:Inv X pins d H s)(r:Vals vs us)(h:sp (vs++dvs) H g E):yar (model X.prog X.w) X.A (call (.ref f) us) (EP X pins d g) X.xe s:=by
 have r2  :=r.append hd;have v:(us++ds).length=ps.length:=by rw[<-r2.length];exact F.len _ _ _ _ h
 refine yaI (yax (F.run X.A X.stack s H ⟨us,[]⟩ (us++ds) (vs++dvs) g E q I.RM (x s us I.mK v) r2 h) λr l a=>?_);cases r with
 |error e=>exact n pins d H s e l I a
 |ok fl=>
  cases fl with
  |ret u=>exact I.after a
  |next=>exact False.elim a
  |brk=>exact False.elim a
  |cont=>exact False.elim a
def IJ(F:eK X.prog X.w X.K X.mg X.base CX k f fd ps sp)(C:bB k X.A)(O:Gl X x)(G:X.mg x=some (.ref f))(L:zcn X.K (.ref f)=true)(S:Binds X.K fd ps ds)(hd:Vals dvs ds)(y:Passes CX X E)(U:PA X (e::es) t)(n:autoParam ((x==("__debug__":Str))=false) r1)(P:autoParam (yao (e::es) X.env=(false,eval e X.env)::yao es X.env) r0)(l:autoParam ((yau pos (yao es X.env)).any (·.1)=false) r0):
  PE X (.Call (.Name x p) (e::es) [] pos) (C4 sp dvs E t):=by
 intro a s v H Q I h;refine wpAny_Call_Name_kw (tR I O G ?_ n);refine PySem.W.callWith_K I.ok.mod.Rp L (cB (U pos a s v H _ I h) λY Z j=>?_) P l;let⟨vs,H1,u,r,q⟩:=j;refine⟨u.mK,?_⟩;exact xR F C S hd y u r q
def iP{pl:Sem Bool}(he:PE X o ta)(c:y9 X.K C)(L:Meth X.K C m f)(F:eK X.prog X.w X.K X.mg X.base CX k f fd ps sp)(hr:bB k X.A)(hb:Binds X.K fd ps ds)(hd:Vals dvs ds)(Y:Passes CX X E)(ha:PA X (e::es) t)(v:autoParam (yao (e::es) X.env=(false,eval e X.env)::yao es X.env) r0)(y:autoParam ((yau pos (yao es X.env)).any (·.1)=false) r0)(Z:autoParam (eval (.Call (.Attribute o m apos) (e::es) [] pos) X.env=(do
   let ov <-eval o X.env
   standAt apos.atName
   let(f,first) <-holding [ov] (yaD ov m pl)
   yaz pos f first (yau pos (yao (e::es) X.env)) (yaF pos (yaE [] X.env)))) r0):
  PE X (.Call (.Attribute o m apos) (e::es) [] pos) (CW C m sp dvs E ta t):=by
 intro j s G H Q I h;refine PySem.W.methodCall_KW (cB (he j s G H _ I h) λu S n=>?_) Z;let⟨x,H1,P,U,a,dx,fs,ex,ea,l,q⟩:=n;subst ex;obtain rfl:u=Value.ref a:=U;refine pL P ea c L l ?_;refine PySem.W.callWith_K I.ok.mod.Rp L.kp (cB (ha pos j S G H1 _ P q) λus s2 n=>?_) v y;let⟨vs,H2,O,r,q2⟩:=n;refine⟨O.mK,?_⟩;exact xR (vs:=.ref a::vs) F hr hb hd Y O (.cons rfl r) q2
def oV(U:PE X o ta)(c:y9 X.K C)(y:Meth X.K C m f)(F:eK X.prog X.w X.K X.mg X.base CX k f fd ps sp)(S:bB k X.A)(Y:Binds X.K fd ps ds)(hd:Vals dvs ds)(O:Passes CX X E)(P:autoParam (eval (.Call (.Attribute o m apos) [] [] pos) X.env=(do
   let ov <-eval o X.env
   standAt apos.atName
   let(f,first) <-holding [ov] (yaD ov m pl)
   yaz pos f first (yau pos (yao [] X.env)) (yaF pos (yaE [] X.env)))) r0):
  PE X (.Call (.Attribute o m apos) [] [] pos) (CW C m sp dvs E ta Mr):=by
 intro j s G H Q I h;refine PySem.W.methodCall_KW (cB (U j s G H _ I h) λu s1 n=>?_) P;let⟨x,H1,v,L,a,dx,fs,ex,Z,l,q⟩:=n;subst ex;obtain rfl:u=Value.ref a:=L;refine pL v Z c y l ?_;exact PySem.W.callWith_K0 v.mK y.kp (xR (vs:=[.ref a]) F S Y hd O v (.cons rfl .nil) q)
structure Mk(K:yaJ)(C f:Addr):Prop where
 makes:PySem.W.makesIn K C=true
 init:zcm K (.ref C) "__init__"=some (some (.ref f))
 fn:zcM K (.ref f)=true
 kp:zcn K (.ref C)=true
theorem D5(M:Mk X.K C f)(F:eK X.prog X.w X.K X.mg X.base CX k f fd ps sp)(O:bB (k+1) X.A)(P:Binds X.K fd ps ds)(hd:Vals dvs ds)(L:Passes CX X E)(I:Inv X pins d H s)(r:Vals vs us)(h:∀x dx,H x=none->H dx=none->dx≠x->sp (.ref x::(vs++dvs)) (upd (upd H dx (.own x)) x (.ins C dx [])) (λv W=>v=.bU/\g (.ref x) W) E):
  yar (model X.prog X.w) X.A (call (.ref C) us) (EP X pins d g) X.xe s:=by
 have q:=h (s.heap.objs.size+1) s.heap.objs.size (I.hok.fresh (zcT _)) (I.hok.fresh (zcR _)) (zcG (Nat.lt_succ_self _));have j:=Inv.made (C:=C) I;have n:Vals (V.ref (s.heap.objs.size+1)::(vs++dvs)) (Value.ref (s.heap.objs.size+1)::(us++ds)):=.cons rfl (r.append hd);have hl  :=by
  have e:=n.length;rw[F.len _ _ _ _ q] at e;exact e.symm
 refine yaI (EU I.mK M.makes M.init (beq_iff_eq.mp M.fn) (yax (F.run _ X.stack _ _ ⟨Value.ref (s.heap.objs.size+1)::us,[]⟩ (Value.ref (s.heap.objs.size+1)::(us++ds)) _ _ E (O.make C us []) (j.RM.make C us []) (P _ (Value.ref (s.heap.objs.size+1)::us) j.mK hl) n q) λr y a=>?_));cases r with
 |error e=>exact L pins d _ _ e y j a
 |ok fl=>
  cases fl with
  |ret u=>
   let⟨v,Y,U,G,S,q3⟩:=j.after a;subst S;exact⟨G,⟨V.ref (s.heap.objs.size+1),Y,U,rfl,q3⟩⟩
  |next=>exact False.elim a
  |brk=>exact False.elim a
  |cont=>exact False.elim a
def tw(M:Mk X.K C f)(F:eK X.prog X.w X.K X.mg X.base CX k f fd ps sp)(G:bB (k+1) X.A)(O:Gl X x)(L:X.mg x=some (.ref C))(S:Binds X.K fd ps ds)(hd:Vals dvs ds)(y:Passes CX X E)(U:PA X (e::es) t)(n:autoParam ((x==("__debug__":Str))=false) r1)(P:autoParam (yao (e::es) X.env=(false,eval e X.env)::yao es X.env) r0)(l:autoParam ((yau pos (yao es X.env)).any (·.1)=false) r0):
  PE X (.Call (.Name x p) (e::es) [] pos) (Ql C sp dvs E t):=by
 intro a s v H Q I h;refine wpAny_Call_Name_kw (tR I O L ?_ n);refine PySem.W.callWith_K I.ok.mod.Rp M.kp (cB (U pos a s v H _ I h) λY Z j=>?_) P l;let⟨vs,H1,u,r,q⟩:=j;refine⟨u.mK,?_⟩;exact D5 M F G S hd y u r q
end
structure aH(N P:List Str)(sc:Scope):Prop where
 kind:sc.kind=.function
 co:sc.isCoroutine=false
 gen:sc.isGenerator=false
 nd:N.Nodup
 pre:N.take P.length=P
 par:∀x∈P,sc.names.lookup x=some .local∨sc.names.lookup x=some .cell
 Oh:∀y∈sc.names,y.2≠ .free
theorem sA:∀{binds:List (Str×yai)}{m:Str->Option yai},(∀v,(e,v) ∉ binds)->bindL d binds m e=m e
 |[],_,_=>rfl
 |(n,v)::r,m,h=>by
  unfold bindL;rw[sA λw hw=>h w (zaC _ hw)];split
  ·grind
  ·rfl
theorem sD:∀{binds:List (Str×yai)}{m:Str->Option yai},(∀v,(e,v) ∉ binds)->bindC d binds m e=m e
 |[],_,_=>rfl
 |(n,v)::r,m,h=>by
  unfold bindC;rw[sD λw hw=>h w (zaC _ hw)];split
  ·rfl
  grind
theorem sC{a:Str->Option NameKind}{x:Str}{v:yai}:∀{P:List Str}{vs:List yai}{i:Nat}{m:Str->Option yai},P.Nodup->P[i]? =some x->vs[i]? =some v->a x=some .local->
  bindL a (P.zip vs) m x=some v
 |[],_,_,_,_,h,_,_=>by simp at h
 |_::_,[],_,_,_,_,h,_=>by simp at h
 |p::P,w::vs,0,m,nd,h1,h2,hk=>by
  simp at h1 h2;subst h1;subst h2;show bindL a ((p,w)::P.zip vs) m p=_;unfold bindL;rw[sA λv j=>(zbX.mp nd).1 (List.of_mem_zip j).1,yIp hk];simp
 |p::P,w::vs,i+1,m,nd,h1,h2,hk=>by
  show bindL a ((p,w)::P.zip vs) m x=_;exact sC (zbX.mp nd).2 (by simpa using h1) (by simpa using h2) hk
theorem sE{a:Str->Option NameKind}{x:Str}{v:yai}:∀{P:List Str}{vs:List yai}{i:Nat}{m:Str->Option yai},P.Nodup->P[i]? =some x->vs[i]? =some v->a x≠some .local->
  bindC a (P.zip vs) m x=some v
 |[],_,_,_,_,h,_,_=>by simp at h
 |_::_,[],_,_,_,_,h,_=>by simp at h
 |p::P,w::vs,0,m,nd,h1,h2,hk=>by
  simp at h1 h2;subst h1;subst h2;show bindC a ((p,w)::P.zip vs) m p=_;unfold bindC;rw[sD λv j=>(zbX.mp nd).1 (List.of_mem_zip j).1,yIn hk];simp
 |p::P,w::vs,i+1,m,nd,h1,h2,hk=>by
  show bindC a ((p,w)::P.zip vs) m x=_;exact sE (zbX.mp nd).2 (by simpa using h1) (by simpa using h2) hk
noncomputable def start(N:List Str)(vs:List V):St:=vs.map some++zcj (N.length - vs.length) none
noncomputable def m5(CX:HC)(P:yaj)(w:yak)(K:yaJ)(mg:Str->Option yai)(base:Heap)(N:List Str)(a:Str)(scope:Scope)(f:Addr)(j:yai)(A:yal)(outer:List Env)(s:yah)(H:Hp)(E:XK):Cx where
 prog:=P
 w:=w
 K:=K
 mg:=mg
 base:=base
 A:=A.deeper (envOfC a scope s.heap.objs.size f j)
 N:=N
 s₀:=s
 H₀:=H
 env:=envOfC a scope s.heap.objs.size f j
 outer:=outer
 stack:=envOfC a scope s.heap.objs.size f j::outer
 ex:=[]
 calm:=true
 fn:=λ_=>true
 pn:=[]
 xe:=λe l=>yar (model P w) (A.deeper (envOfC a scope s.heap.objs.size f j)) (leaving (envOfC a scope s.heap.objs.size f j) e) (λ_ h=>CX outer H s E e h) (λm h=>CX outer H s E m h) l
def wg{a:Scope}(h:a.names.lookup x=some .cell):∃c,(cellsFrom n a.names []).lookup x=some c:=by
 have q:=PySem.W.cellsFrom_some a.names n [] (.inl h);exact Option.isSome_iff_exists.mp q
def B3(S:aH N ps scope)(hd:A.handled=none)(a:yY P w K mg base A outer s H)(Q:vs.length=ps.length)(r:Vals vs us)(x:InCallC s s.heap.objs.size (bindL (envOfC qual scope s.heap.objs.size f d).kindOf (ps.zip us) λ_=>none) (cellsFrom (s.heap.objs.size+1) scope.names []) (bindC (envOfC qual scope s.heap.objs.size f d).kindOf (ps.zip us) λ_=>none) s1):
  Inv (m5 CX P w K mg base N qual scope f d A outer s H g) [] (start N vs) H s1:=by
 have I:ps.length<=N.length:=by have:=congrArg zcQ S.pre;rw[zbA] at this;lia
 obtain⟨h1,O,rfl,F⟩:=x.done;have j:∀b,b ∉ (m5 CX P w K mg base N qual scope f d A outer s H g).ex:=λb z=>absurd (show b∈([]:List Addr) from z) (by simp);refine⟨⟨a.mod,S.kind,rfl,rfl,zcR _,λy z c h1 h2=>?_,λy m=>?_,λy c _ h=>?_,λ_=>hd,Around.frames_deeper a.frames,.inr ⟨rfl,rfl⟩,λb z=>absurd z (j b),a.bs,a.JR,λb _ _=>j b,λb z=>absurd z (j b),a.mY,a.OP⟩,rfl,a.bare,Un.kept F,⟨_,x.toInCall.ns,λi y v h1 h2 U=>?_⟩,λy c h=>⟨_,x.cell y c h⟩,a.hok.fresh (zcR _),λy c h=>?_,λp n=>absurd (show p∈([]:List (Addr×Obj)) from n) (by simp),a.hok.kept F,?_⟩
 ·exact name_of_addr x.apart (PySem.mem_of_lookup h1) (PySem.mem_of_lookup h2)
 ·obtain m|m:=m
  ·exact wg m
  ·exact absurd rfl (S.Oh _ (PySem.mem_of_lookup m))
 ·exact zcI (x.above y c (PySem.mem_of_lookup h))
 ·have o:i<vs.length:=by
   unfold start at h2;by_cases o:i<vs.length
   ·exact o
   ·rw[zac (by simpa using o)] at h2;rw[List.getElem?_replicate] at h2;simp_all
  have L:vs[i]? =some v:=by
   unfold start at h2;rw[zag (by simpa using o)] at h2;simp_all
  obtain⟨u,C,G⟩:=r.get L;have n:ps[i]? =some y:=by
   rw[<-S.pre,List.getElem?_take_of_lt (by lia)];exact h1
  have l:ps.Nodup:=by rw[<-S.pre];exact S.nd.sublist (List.take_sublist _ _)
  refine⟨u,G,?_⟩;obtain k|k:=S.par y (zaF n)
  ·exact .inl ⟨k,sC l n C k⟩
  ·obtain⟨c,e⟩:=wg k;refine .inr ⟨.inl k,c,e,?_⟩;have q:=x.cell y c e;rw[sE l n C (by show scope.names.lookup y≠_;simp_all)] at q;exact q
 ·exact a.hok.fresh (zcI (x.above y c (PySem.mem_of_lookup h)))
 ·unfold start;show _=N.length;simp_all
theorem RJ(lk:K.lookup f=some ⟨oc,od,.func (zcN name qual d body scope dV g O pm an z ct),osl⟩)(Z:zco K z qual=true)(S:aH N ps scope)(len:∀vs H Q E,sp vs H Q E->vs.length=ps.length)(m:∀(A)(outer)(s)(H)(vs)(Q)(E),bB k (A.deeper (envOfC qual scope s.heap.objs.size f z))->sp vs H Q E->∃t,yR (m5 CX P w K mg base N qual scope f z A outer s H E) body t/\t {nx:=λ_ H'=>Q .bU H',rt:=Q} (start N vs) H):
  eK P w K mg base CX (k+1) f (zcN name qual d body scope dV g O pm an z ct) ps sp:=by
 refine⟨len,λA outer s H ab us vs Q E Y L hb r F=>?_⟩;have hl:=len _ _ _ _ F;have KX  :=L.mod.Rp.keeps λb o e=>(L.bs b o e).1;have lim  :=L.mod.nolimit.keeps λb o e=>(L.bs b o e).1;have l:∀y∈ps.zip us,scope.names.lookup y.1=some .local∨(scope.names.lookup y.1=some .cell/\((cellsFrom (s.heap.objs.size+1) scope.names []).lookup y.1).isSome=true):=λ⟨n,v⟩ hy=>by
  obtain q|q:=S.par n (List.of_mem_zip hy).1
  ·exact .inl q
  ·exact .inr ⟨q,PySem.W.cellsFrom_some _ _ _ (.inl q)⟩
 refine codeAny_call_function Y.depth (KX _ _ lk) rfl S.co S.gen rfl (PySem.W.codeRec_of KX Z) (hb _ _ _ _ ?_);refine wpAny_newFunctionEnv_cells S.kind l λenv he s1 x=>?_;subst he;refine⟨lim.keeps x.toInCall.keep,codeAny_func ?_⟩;let⟨t,ht,hq⟩:=m A outer s H vs Q E (Y.deeper _) F;have I:Inv (m5 CX P w K mg base N qual scope f z A outer s H E) [] (start N vs) H s1:=B3 S Y.hd L hl r x;refine yac (ht [] s1 (start N vs) H _ I hq) (λfl U C=>?_) λe U C=>C;have G:∀{j:St}{H':Hp}{v:V}{u:yai},Inv (m5 CX P w K mg base N qual scope f z A outer s H E) [] j H' U->RelV v u->Q v H'->CE outer P w H s Q u U:=
  λ{j H' v u} J X q=>⟨v,H',J.os,J.bare,J.base,J.hok,X,q⟩
 cases fl with
 |ret u=>
  let⟨v,j,H',J,X,q⟩:=C;exact G J X q
 |next=>
  let⟨j,H',J,q⟩:=C;exact G (v:=V.bU) J rfl q
 |brk=>
  let⟨_,_,_,q⟩:=C;exact False.elim q
 |cont=>
  let⟨_,_,_,q⟩:=C;exact False.elim q
section
variable {p:Pos}{e:Expr}{es:List Expr}{t:TA}{id T:String}{r:List V->Hp->VK->Prop}
def Qo(r:List V->Hp->VK->Prop)(t:TA):TE:=λa H Q=>t a H λvs h=>r vs h Q
def ED(L:cG X (.builtin id) r)(F:Gl X x)(E:X.mg x=none)(y:bootBuiltins x=some (.builtin id))(O:PA X (e::es) t)(C:autoParam (x≠"__name__") r1)(m:autoParam ((x==("__debug__":Str))=false) r1)(G:autoParam (yao (e::es) X.env=(false,eval e X.env)::yao es X.env) r0)(l:autoParam ((yau pos (yao es X.env)).any (·.1)=false) r0):PE X (.Call (.Name x p) (e::es) [] pos) (Qo r t):=by
 intro a s n H Q I h;refine wpAny_Call_Name_kw (eZ I F E y ?_ C m);refine PyProof.Rows.callWith_builtin1 (cB (O pos a s n H _ I h) λo q j=>?_) G l;let⟨vs,S,P,u,v⟩:=j;exact L a q n S vs o Q P u v
def BF(G:cG X (.type T) r)(E:Gl X x)(C:X.mg x=none)(v:bootBuiltins x=some (.type T))(L:PA X (e::es) t)(y:autoParam (x≠"__name__") r1)(l:autoParam ((x==("__debug__":Str))=false) r1)(F:autoParam (yao (e::es) X.env=(false,eval e X.env)::yao es X.env) r0)(j:autoParam ((yau pos (yao es X.env)).any (·.1)=false) r0):PE X (.Call (.Name x p) (e::es) [] pos) (Qo r t):=by
 intro a s m H Q I h;refine wpAny_Call_Name_kw (eZ I E C v ?_ y l);exact PyProof.Rows.callWith_type1 (cB (L pos a s m H _ I h) λn o ⟨vs,P,O,q,u⟩=>G a o m P vs n Q O q u) F j
end
section
variable {κ:Type}[DecidableEq κ]
noncomputable def fN(a:List (κ×V))(k:κ):Option V:=(a.find? λh=>decide (h.1=k)).map (·.2)
noncomputable def putK(a:List (κ×V))(k:κ)(v:V):List (κ×V):=
 if(a.any λh=>decide (h.1=k))=true then a.map (λh=>if h.1=k then(h.1,v) else h) else a++[(k,v)]
def nW{k:κ}(e:d.1=k):fN (d::r) k=some d.2:=by simp[fN,e]
def nX{k:κ}(e:¬d.1=k):fN (d::r) k=fN r k:=by simp[fN,e]
theorem nY(k):∀a:List (κ×V),(a.any λh=>decide (h.1=k))=(fN a k).isSome
 |[]=>rfl
 |p::r=>by
  rw[zcr];by_cases e:p.1=k
  ·simp only[nW e,yDt e,Bool.true_or,Option.isSome_some]
  ·rw[nX e,yDf e];exact nY k r
def ef(a:List (κ×V))(k)(v):(putK a k v).length<=a.length+1:=by
 unfold putK;split
 ·simp
 simp
def iB.gg(r:iB o d):o.isSome=d.isSome:=by
 cases o with
 |none=>cases d with
  |none=>rfl
  |some _=>exact(show False from r).elim
 |some _=>cases d with
  |none=>exact(show False from r).elim
  |some _=>rfl
theorem iB.getD(r:iB o e)(h:RelV d g):RelV (o.getD d) (e.getD g):=by
 cases o with
 |none=>cases e with
  |none=>exact h
  |some _=>exact(show False from r).elim
 |some _=>cases e with
  |none=>exact(show False from r).elim
  |some _=>exact r
def KV.val(r:KV d vs)(k:κ):iB (fN d k) (valueAt vs k):=by
 induction r with
 |nil=>exact True.intro
 |@cons p q ps qs h t ih=>
  let⟨h1,h2⟩:=h;by_cases e:p.1=k
  ·have j  :=h1.symm.trans e;have b:valueAt (q::qs) k=some q.2:=by simp[valueAt,j]
   rw[nW e,b];exact h2
  ·have j:¬q.1=k:=λz=>e (h1.trans z);have b:valueAt (q::qs) k=valueAt qs k:=by simp[valueAt,j]
   rw[nX e,b];exact ih
theorem KV.any(r:KV d vs)(k:κ):(d.any λj=>decide (j.1=k))=vs.any λj=>decide (j.1=k):=by
 induction r with
 |nil=>rfl
 |cons h t ih=>simp_all
theorem KV.repl(r:KV d vs)(k:κ)(l:RelV y u):
  KV (d.map λa=>if a.1=k then(a.1,y) else a) (vs.map λa=>if a.1=k then(a.1,u) else a):=by
 induction r with
 |nil=>exact .nil
 |@cons p q ps qs h t ih=>
  refine .cons ?_ ih;lia
def KV.put(r:KV d vs)(k:κ)(h:RelV y u):KV (putK d k y) (stored vs k u):=by
 unfold putK stored;rw[r.any k];by_cases e:(vs.any λj=>decide (j.1=k))=true
 ·rw[yIp e,yIp e];exact r.repl k h
 ·rw[yIn e,yIn e];exact Paired.snoc r ⟨rfl,h⟩
theorem KV.length{vs:List (κ×yai)}(r:KV d vs):d.length=vs.length:=Paired.length r
end
def jW(r:RelV (kV k) u):(bA P w).is k u=true:=by
 cases k with
 |inl i=>let⟨t,e⟩:=(show∃t,u=Value.int i t from r);subst e;exact vv P w i t
 |inr x=>let⟨t,e⟩:=(show∃t,u=Value.str x t from r);subst e;exact vt P w x t
theorem rX:∀{a:List Key}{j:List yai},Vals (a.map kV) j->ItemsAre (bA d e) a j
 |[],_,r=>by cases r;exact .nil
 |k::a,_,r=>by
  cases r with
  |cons h t=>exact .cons (jW h) (rX t)
abbrev KT(H:Hp):List (List Key×V)->List (List Key×Addr×yai)->Prop:=Paired λp q=>p.1=q.1/\H q.2.1=some (.tup (p.1.map kV))/\RelV p.2 q.2.2
def KT.val(r:KT H kvs d)(k):iB (fN kvs k) ((atKey d k).map (·.2)):=by
 induction r with
 |nil=>exact True.intro
 |@cons p q ps qs h t ih=>
  let⟨h1,_,h2⟩:=h;by_cases e:p.1=k
  ·have a  :=h1.symm.trans e;have b:atKey (q::qs) k=some q.2:=by simp[atKey,a]
   rw[nW e,b];exact h2
  ·have a:¬q.1=k:=λz=>e (h1.trans z);have b:atKey (q::qs) k=atKey qs k:=by simp[atKey,a]
   rw[nX e,b];exact ih
theorem KT.repl(r:KT H kvs d)(k)(l:RelV y u):
  KT H (kvs.map λa=>if a.1=k then(a.1,y) else a) (d.map (putAt k u)):=by
 induction r with
 |nil=>exact .nil
 |@cons p q ps qs h t ih=>
  rw[zcs];refine .cons ?_ ih;let⟨h1,h2,m⟩:=h;unfold putAt;by_cases e:p.1=k
  ·rw[yIp e,yIp (h1.symm.trans e)];refine⟨h1,h2,l⟩
  simp_all
def KT.put(r:KT H kvs d)(k)(l:H g=some (.tup (k.map kV)))(h:RelV y u):
  KT H (putK kvs k y) (storedH d k g u):=by
 have e:(kvs.any λj=>decide (j.1=k))=(atKey d k).isSome:=by
  rw[nY,(r.val k).gg,Option.isSome_map]
 unfold putK storedH;rw[e];by_cases q:(atKey d k).isSome=true
 ·rw[yIp q,yIp q];exact r.repl k h
 ·rw[yIn q,yIn q];exact Paired.snoc r ⟨rfl,l,h⟩
def KT.keeps(r:KT H kvs d)(j:∀b a,H b=some (.tup a)->H' b=some (.tup a)):KT H' kvs d:=
 Paired.Rk r λ_ _ z=>⟨z.1,j _ _ z.2.1,z.2.2⟩
def Ln(ok:iZ P w H h)(e:Rd H a d):bK P w H h a d:=e.ok ok
def mP(ok:iZ P w H h)(e:Rd H a (.dK d)):d.length<=yag/\(a==yas)=false/\∃vs,KV d vs/\h.DictOf (bA P w) a vs:=
 show bK P w H h a (.dK d) from Ln ok e
def As(ok:iZ P w H h)(e:H a=some (.dK d)):d.length<=yag/\(a==yas)=false/\∃vs,KV d vs/\h.DictOf (bA P w) a vs:=mP ok (.inl e)
def lE(ok:iZ P w H h)(e:H a=some (.tup (d.map kV))):(tupleKind (bA P w)).is h d a:=by
 let⟨_,l,r,o,h1,h2,n,m⟩:=(show bK P w H h a (.tup (d.map kV)) from ok a _ e)
 refine⟨o,l.toArray,n,h1,h2,m,by simpa using rX r⟩
def pO(ok:iZ P w H h)(e:Rd H a (.dT kvs)):kvs.length<=yag/\(a==yas)=false/\
  ∃n,KT H kvs n/\h.DictOfH (tupleKind (bA P w)) a n:=by
 let⟨z,y,n,r,o,C,E,h1,h2,v,u,s⟩:=(show bK P w H h a (.dT kvs) from Ln ok e)
 refine⟨z,y,n,r,o,C,E,h1,h2,v,u,λx j=>?_,s⟩;have all:∀{l:List (List Key×V)}{m:List (List Key×Addr×yai)},KT H l m->∀x∈m,(tupleKind (bA P w)).is h x.1 x.2.1:=by
  intro l m q
  induction q with
  |nil=>intro x j;exact nomatch j
  |@cons p q ps qs hq t ih=>
   intro x j;obtain e|j:=zcq.mp j
   ·exact lE ok (by simp_all)
   ·exact ih x j
 exact all r x j
def RN(ok:iZ P w H h)(e:H a=some (.dT kvs)):kvs.length<=yag/\(a==yas)=false/\
  ∃j,KT H kvs j/\h.DictOfH (tupleKind (bA P w)) a j:=pO ok (.inl e)
def l9(H:Hp)(a:Addr)(y:V)(r:Option V):Prop:=
 (∃h k,Rd H a (.dK h)/\y=kV k/\r=fN h k)∨∃h k b,Rd H a (.dT h)/\y=.ref b/\H b=some (.tup (k.map kV))/\r=fN h k
def CF(H:Hp)(a:Addr)(y v:V)(H':Hp):Prop:=
 (∃h k,H a=some (.dK h)/\y=kV k/\h.length<yag/\H'=upd H a (.dK (putK h k v)))∨
 ∃h k b,H a=some (.dT h)/\y=.ref b/\H b=some (.tup (k.map kV))/\h.length<yag/\H'=upd H a (.dT (putK h k v))
theorem l9.k{H:Hp}{a:Addr}{h:List (Key×V)}{k:Key}(e:H a=some (.dK h)):l9 H a (kV k) (fN h k):=.inl ⟨h,k,.inl e,rfl,rfl⟩
theorem CF.k{H:Hp}{a:Addr}{h:List (Key×V)}{k:Key}{v:V}(e:H a=some (.dK h))(j:h.length<yag):CF H a (kV k) v (upd H a (.dK (putK h k v))):=.inl ⟨h,k,e,rfl,j,rfl⟩
section
variable {σ:St}{r:yai}{o:Option V}
def Inv.big(I:Inv X pins σ H s):yas<s.heap.objs.size:=by
 have h  :=(I.mod.glob.keeps I.bk).lt;exact zcK (by decide) h
def B8(L:A.units+1<cLine)(I:Inv X pins σ H s)(g:l9 H a y (some v))(G:RelV y u)(h:∀n F,Inv X pins σ H F->RelV v n->Q n F):
  yar (model X.prog X.w) A (getItem (.ref a) u) Q E s:=by
 rcases g with⟨q,k,e,x,l⟩|⟨q,k,b,e,x,P,l⟩
 ·subst x;let⟨z,hd,vs,m,C⟩:=mP I.hok e;let⟨n,hw,j⟩:=iB.some_of (by rw[l];exact m.val k);exact wpAny_getItem_of (jW G) C.mapOf hw (h n _ (I.tok _) j)
 ·subst x;cases(show u=Value.ref b from G);let⟨z,hd,S,m,C⟩:=pO I.hok e;let⟨n,hw,j⟩:=iB.some_of (by rw[l];exact m.val k);let⟨p,O,t⟩:=zar.mp hw;refine wpAny_getItem_heap (tupleKind_room_in1 L) (lE I.hok P) C O ?_;rw[t];exact h n _ (I.tok _) j
def UM(C:A.units+1<cLine)(I:Inv X pins σ H s)(g:l9 H a y o)(x:RelV y u)(h:∀v,Inv X pins σ H v->Q (.bool o.isSome) v):
  yar (model X.prog X.w) A (yan .In u (.ref a)) Q E s:=by
 rcases g with⟨m,k,e,n,l⟩|⟨m,k,b,e,n,F,l⟩
 ·subst n;let⟨z,hd,vs,j,t⟩:=mP I.hok e;refine wpAny_in_of (jW x) hd t.mapOf ?_;rw[<-(j.val k).gg,<-l];exact h _ (I.tok _)
 ·subst n;cases(show u=Value.ref b from x);let⟨z,hd,G,j,t⟩:=pO I.hok e;refine wpAny_in_heap (tupleKind_room_in1 C) (lE I.hok F) hd t ?_;have q:=(j.val k).gg;rw[Option.isSome_map] at q;rw[<-q,<-l];exact h _ (I.tok _)
def JD(C:A.units+1<cLine)(I:Inv X pins σ H s)(g:l9 H a y o)(x:RelV y u)(h:∀v,Inv X pins σ H v->Q (.bool (!o.isSome)) v):
  yar (model X.prog X.w) A (yan .NotIn u (.ref a)) Q E s:=by
 rcases g with⟨m,k,e,n,l⟩|⟨m,k,b,e,n,F,l⟩
 ·subst n;let⟨z,hd,vs,j,t⟩:=mP I.hok e;refine wpAny_notIn_of (jW x) hd t.mapOf ?_;rw[<-(j.val k).gg,<-l];exact h _ (I.tok _)
 ·subst n;cases(show u=Value.ref b from x);let⟨z,hd,G,j,t⟩:=pO I.hok e;refine wpAny_notIn_heap (tupleKind_room_in1 C) (lE I.hok F) hd t ?_;have q:=(j.val k).gg;rw[Option.isSome_map] at q;rw[<-q,<-l];exact h _ (I.tok _)
def nQ(I:Inv X pins σ H s)(mu:SW (H a))(h:Heap.SameBut a s.heap h')(j:∃q,h'.get? a=some q)(new:bK X.prog X.w (upd H a d) h' a d):
  Inv X pins σ (upd H a d) {s with heap:=h',toks:=t'}:=
 I.write (x:=a) (e:=a) mu (.inl rfl) (λb q l z=>(h.2 b l).trans z) j new
def yu(z:d.length<=yag)(hd:(a==yas)=false)(j:KV d vs)(l:h'.DictOf (bA P w) a vs):
  bK P w H' h' a (.dK d):=⟨z,hd,vs,j,l⟩
def B7(hu:A.units+1<cLine)(I:Inv X pins σ H s)(g:CF H a y v H')(P:RelV y u)(S:RelV v r)(h:∀O,Inv X pins σ H' O->d () O):
  yar (model X.prog X.w) A (setItem (.ref a) u r) d E s:=by
 rcases g with⟨m,k,e,F,l,G⟩|⟨m,k,b,e,F,Y,l,G⟩
 ·subst F G;let⟨z,hd,vs,j,L⟩:=As I.hok e;have hz:vs.length<=yag:=by rw[<-j.length];exact z
  have C:(putK m k v).length<=yag:=by have:=ef m k v;lia
  refine wpAny_setItem_pairs (jW P) L λU n x=>h _ ?_;have he:∃q,U.get? a=some q:=by let⟨q,_,_,t,_⟩:=n;exact⟨q,t⟩
  exact nQ I (by rw[e];exact True.intro) x he (yu C hd (j.put k S) n)
 ·subst F G;cases(show u=Value.ref b from P);let⟨z,hd,Z,j,L⟩:=RN I.hok e;have hz:Z.length<=yag:=by rw[<-Paired.length j];exact z
  have C:(putK m k v).length<=yag:=by have:=ef m k v;lia
  refine wpAny_setItem_heap (tupleKind_room_in1 hu) (lE I.hok Y) L λU n x=>h _ ?_;let⟨q,es,ep,t,h2,h3,h4,_,h5⟩:=n;refine nQ I (by rw[e];exact True.intro) x ⟨q,t⟩ ⟨C,hd,_,(j.put k Y S).keeps λc ys W=>?_,q,es,ep,t,h2,h3,h4,h5⟩;rw[aR (Ri W e (λz=>nomatch z))];exact W
end
section
variable {σ:St}{kvs:List (Key×V)}{k:Key}
def RO(I:Inv X pins σ H s)(e:Rd H a (.dK kvs))(h:∀t l,Inv X pins σ H l->Q (.int kvs.length t) l):yar (model X.prog X.w) A (call (.builtin "len") [.ref a]) Q E s:=by
 let⟨z,hd,vs,j,m⟩:=mP I.hok e;refine call_len_dict hd m (by rw[<-j.length];rw[yaf] at z;lia) ?_;rw[<-j.length];exact h _ _ (I.tok _)
end
def KG(i:Expr):Prop:=∀a h,subscripted i false a h=operate [a,h] (getItem a h)
def HY(y:typeLookup (.type T) "__getitem__"=pure (some (.builtin e)))(v:KG d)(h:yar (model prog w) A (eval value env) (λo n=>yar (model prog w) A (eval d env) (λi j=>j.TypeIs o T/\yar (model prog w) A (getItem o i) Q E j) E n) E s):
  yar (model prog w) A (eval (.Subscript value d pos) env) Q E s:=by
 refine Subscript_ (yac h (λo n u=>yac u (λi j l=>?_) λ_ _ x=>x) λ_ _ x=>x);let⟨C,l⟩:=l;refine yaa ?_;refine yaa (wpAny_specialOf C y ?_);have q:yar (model prog w) A (subscripted d false o i) (λr m=>yar (model prog w) A (letTemporaryGo value o r >>= λ_=>pure r) Q E m) E j:=by
  rw[v o i];exact wpAny_operating (yac l (λr m t=>yaa (wpAny_letTemporaryGo (yab t))) λ_ _ x=>x)
 first
  |exact yab (yaa q)
  |exact yaa (yab (yaa q))
  |exact yaa q
def vU(I:Inv X pins d H s)(g:l9 H a y o):s.TypeIs (.ref a) "dict":=by
 rcases g with⟨h,k,e,_,_⟩|⟨h,k,b,e,_,_,_⟩
 ·let⟨_,_,vs,_,j⟩:=mP I.hok e;exact j.typeIs
 ·let⟨_,_,m,_,j⟩:=pO I.hok e;exact j.typeIs
def C1(l ty:TE):TE:=λh H Q=>l h H λx m=>ty h m λy j=>∃a v,x=.ref a/\l9 j a y (some v)/\Q v j
def DY(m ty l:TE):TS:=λD h H=>l h H λv q=>m h q λx o=>ty h o λy n=>∃a j,x=.ref a/\CF n a y v j/\D.nx h j
section
variable {o i e:Expr}{tpos:Pos}{td ty tv:TE}
def dY(O:X.A.units+1<cLine)(S:PE X o td)(U:PE X i ty)(P:KG i):PE X (.Subscript o i pos) (C1 td ty):=by
 intro j s q H Q I h;refine HY PySem.F.slot_dict_getitem.lookup P (cB (S j s q H _ I h) λu C m=>?_);let⟨x,H1,Y,G,L⟩:=m;refine cB (U j C q H1 _ Y L) λiv s2 l=>?_;let⟨y,Z,t,E,a,v,ex,g,q2⟩:=l;subst ex;obtain rfl:u=Value.ref a:=G;exact⟨vU t g,B8 O t g E λw' s3 W n=>⟨v,Z,W,n,q2⟩⟩
def iO(P:X.A.units+1<cLine)(S:PE X o td)(U:PE X i ty)(O:PE X value tv)(Q:yat value (some (.Subscript o i pos')) pos.line X.env=pure false):
  PS X (.Assign [.Subscript o i pos'] value pos) (DY td ty tv):=by
 intro j s l H D I h;refine wpAny_Assign_Subscript (cB (O j s l H _ I h) λr C q=>?_) Q;let⟨v,H1,I1,G,L⟩:=q;refine cB (S j C l H1 _ I1 L) λu t n=>?_;let⟨x,H2,Z,F,q2⟩:=n;refine cB (U j t l H2 _ Z q2) λiv s3 m=>?_;let⟨y,H3,Y,E,a,H4,ex,g,q3⟩:=m;subst ex;obtain rfl:u=Value.ref a:=F;exact B7 P Y g E G λs4 W=>⟨l,H4,W,q3⟩
end
def vS(h:Heap)(a:yas<h.objs.size):bK P w H (h.push {cls:=.type "dict",data:=.dict #[]}) h.objs.size (.dK []):=
 ⟨zcS _,beq_eq_false_iff_ne.mpr (Ne.symm (zcG a)),[],.nil,Heap.DictOf.new h⟩
def CZ:TE:=λ_ H Q=>∀p,H p=none->Q (.ref p) (upd H p (.dK []))
def jQ:PE X (.Dict [] [] pos) CZ:=λj s l H Q I h=>
 wpAny_Dict_empty ⟨.ref s.heap.objs.size,_,I.laid (a:=s.heap.objs.size) (o:=.dK []) (t':=s.toks) (λ_ _ q=>zas _ q) (zcR _) (vS s.heap I.big),rfl,h _ (I.hok.fresh (zcR _))⟩
def sL:List (TE×TE)->St->Hp->(List (V×V)->Hp->Prop)->Prop
 |[],_,H,Q=>Q [] H
 |(tk,tv)::r,σ,H,Q=>tk σ H λx l=>tv σ l λy j=>sL r σ j λa h=>Q ((x,y)::a) h
abbrev VV:List (V×V)->List (yai×yai)->Prop:=Paired λp q=>RelV p.1 q.1/\RelV p.2 q.2
def SR(X:Cx)(m:Pos)(j:List (Option Expr))(a:List Expr)(zd:List (TE×TE)):Prop:=
 ∀(h)(s)(l:St)(H)(Q),Inv X h l H s->sL zd l H Q->
  yar (model X.prog X.w) X.A (evalPairs (pairTrees j a X.env m)) (λvs q=>∃n o,Inv X h l o q/\VV n vs/\Q n o) X.xe s
def sZ:SR X pos [] [] []:=λa s j H Q I h=>pairTrees_nil_walk ⟨[],H,I,.nil,h⟩
def gU(U:PE X k g)(P:PE X d q)(S:SR X pos e vs zd):
  SR X pos (some k::e) (d::vs) ((g,q)::zd):=by
 refine λa s j H Q I h=>pairTrees_cons_walk (cB (U a s j H _ I h) λu E n=>?_);let⟨x,H1,Z,G,L⟩:=n;refine cB (P a E j H1 _ Z L) λw2 C m=>?_;let⟨y,H2,Y,F,q2⟩:=m;refine cB (S a C j H2 _ Y q2) λws s3 l=>?_;let⟨O,H3,W,o,q3⟩:=l;refine⟨(x,y)::O,H3,W,.cons ⟨G,F⟩ o,q3⟩
noncomputable def ic(a more:List (Key×V)):List (Key×V):=more.foldl (λh j=>putK h j.1 j.2) a
def KV.merge:∀{more:List (Key×V)}{j:List (Key×yai)}{a:List (Key×V)}{vs:List (Key×yai)},KV more j->KV a vs->KV (ic a more) (merged vs j):=by
 intro more j a vs r;unfold KV at r
 induction r generalizing a vs with
 |nil=>intro q;exact q
 |@cons p q ps qs h t ih=>
  intro l;have e:KV (putK a p.1 p.2) (stored vs q.1 q.2):=by
   have:=l.put p.1 h.2;rw[<-h.1];exact this
  exact ih e
theorem i9:∀(more a),(ic a more).length<=a.length+more.length
 |[],a=>by show a.length<=a.length+0;lia
 |p::r,a=>by
  have h1:=i9 r (putK a p.1 p.2);have h2:=ef a p.1 p.2;show(ic (putK a p.1 p.2) r).length<=_;rw[zbB];lia
theorem pV{P:yaj}{w:yak}:∀{j:List (Key×V)}{ws:List (yai×yai)},VV (j.map λm=>(kV m.1,m.2)) ws->∃l,Carries (bA P w) ws l/\KV j l
 |[],_,r=>by rw[List.map_nil] at r;cases r;exact⟨[],True.intro,.nil⟩
 |p::j,_,r=>by
  rw[zcs] at r;cases r with
  |@cons a b as bs h t=>
   obtain⟨l,c,q⟩:=pV (P:=P) (w:=w) t;obtain⟨o,n⟩:=b;exact⟨(p.1,n)::l,⟨jW h.1,rfl,c⟩,.cons ⟨rfl,h.2⟩ q⟩
def KY(zd:List (TE×TE)):TE:=λl H Q=>∀p,H p=none->sL zd l (upd H p (.dK [])) λm j=>j p=some (.dK [])/\∃a:List (Key×V),m=a.map (λh=>(kV h.1,h.2))/\a.length<=15/\Q (.ref p) (upd j p (.dK (ic [] a)))
def tE{zd:List (TE×TE)}(h:SR X pos keys values zd)(m:keys.all (·.isSome)=true)(U:keys.length=values.length)(Y:keys≠[])(v:keys.length<=15):PE X (.Dict keys values pos) (KY zd):=by
 intro j s y H Q I q;have S:=I.hok.fresh (zcR s.heap.objs.size);have I1:=I.laid (a:=s.heap.objs.size) (o:=.dK []) (h':=s.heap.push {cls:=.type "dict",data:=.dict #[]}) (t':=s.toks) (λ_ _ q=>zas _ q) (zcR _) (vS s.heap I.big);refine wpAny_Dict_walk (knd:=bA X.prog X.w) m U Y v (cB (h j _ y _ _ I1 (q _ S)) λws s2 t=>?_);let⟨ps,H2,x,u,e,l,Z,lk,q2⟩:=t;subst Z;let⟨E,c,F⟩:=pV (P:=X.prog) (w:=X.w) u;let⟨z,hd,C,G,dd⟩:=As x.hok e;cases G;refine⟨E,c,dd,λh' n L=>⟨.ref s.heap.objs.size,_,?_,rfl,q2⟩⟩;have hz:(ic [] l).length<=yag:=by
  have h1:=i9 l [];rw[List.length_nil] at h1;rw[yaf];lia
 have W:∃q,h'.get? s.heap.objs.size=some q:=by let⟨q,_,_,O,_⟩:=n;exact⟨q,O⟩
 exact nQ x (by rw[e];exact True.intro) L W (yu hz hd (F.merge .nil) n)
structure M1(X:Cx)(o:Expr)(m:Str)(apos:Pos)(e:Expr)(cpos:Pos):Prop where
 base:attributeBase o m X.env (eval o X.env)=eval o X.env
 few:((yau cpos (yao [e] X.env)).all (λx=>!x.1)&&(yaF cpos (yaE [] X.env)).all (λx=>x.1.isSome)&&decide (([e]:List Expr).length+([]:List Keyword).length+(if([]:List Keyword).isEmpty then 0 else 1)<30))=true
 line:(apos.endLine==cpos.line)=true
 trees:yau cpos (yao [e] X.env)=[(false,eval e X.env)]
structure M2(X:Cx)(o:Expr)(m:Str)(apos:Pos)(e f:Expr)(cpos:Pos):Prop where
 base:attributeBase o m X.env (eval o X.env)=eval o X.env
 few:((yau cpos (yao [e,f] X.env)).all (λx=>!x.1)&&(yaF cpos (yaE [] X.env)).all (λx=>x.1.isSome)&&decide (([e,f]:List Expr).length+([]:List Keyword).length+(if([]:List Keyword).isEmpty then 0 else 1)<30))=true
 line:(apos.endLine==cpos.line)=true
 trees:yau cpos (yao [e,f] X.env)=[(false,eval e X.env),(false,eval f X.env)]
def U1(H:Hp)(a:Addr):Prop:=(∃h,Rd H a (.dK h))∨∃h,Rd H a (.dT h)
def Fl(I:Inv X pins g H s)(d:U1 H a):
  s.TypeIs (.ref a) "dict"/\(∀b,Value.ref a=.ref b->∃ob,s.heap.get? b=some ob/\ob.dict=none)/\(a==yas)=false:=by
 rcases d with⟨j,e⟩|⟨j,e⟩
 ·let⟨_,hd,vs,_,h⟩:=mP I.hok e;refine⟨h.typeIs,λb q=>?_,hd⟩;cases q;let⟨ob,_,_,h1,h2,_⟩:=h;refine⟨ob,h1,h2.2.1⟩
 ·let⟨_,hd,m,_,h⟩:=pO I.hok e;refine⟨h.typeIs,λb q=>?_,hd⟩;cases q;let⟨ob,_,_,h1,h2,_⟩:=h;refine⟨ob,h1,h2.2.1⟩
section
variable {σ:St}{d:V}{r:yai}{o:Option V}
def OS(L:A.units+1<cLine)(I:Inv X pins σ H s)(g:l9 H a y o)(x:RelV y u)(C:RelV d r)(h:∀t v,Inv X pins σ H v->RelV (o.getD d) t->Q t v):
  yar (model X.prog X.w) A (call (.builtin "dict.get") [.ref a,u,r]) Q E s:=by
 rcases g with⟨n,k,e,q,l⟩|⟨n,k,b,e,q,O,l⟩
 ·subst q;let⟨z,hd,vs,j,m⟩:=mP I.hok e;refine call_meetsIn PySem.F.slot_dict_get m.typeIs PySem.F.entry_dict_get (PySem.F.args_dict_get_3 _ _ _) (meets_dict_get_default (bA X.prog X.w) a (jW x) hd r) ⟨_,m.mapOf,h _ _ (I.tok _) ?_⟩;rw[l];exact(j.val k).getD C
 ·subst q;cases(show u=Value.ref b from x);let⟨z,hd,G,j,m⟩:=pO I.hok e;refine call_meetsIn PySem.F.slot_dict_get m.typeIs PySem.F.entry_dict_get (PySem.F.args_dict_get_3 _ _ _) (meetsH_dict_get_default (tupleKind (bA X.prog X.w)) a b hd r) ⟨tupleKind_room_in1 L,k,G,lE I.hok O,m,h _ _ (I.tok _) ?_⟩;rw[l];exact(j.val k).getD C
end
def C0(n ty m:TE):TE:=λh H Q=>n h H λx l=>∃a,x=.ref a/\U1 l a/\ty h l λy q=>m h q λz j=>∃o,l9 j a y o/\Q (o.getD z) j
section
variable {o e f:Expr}{td ty tx:TE}
def oX(W:X.A.units+1<cLine)(Y:PE X o td)(he:PE X e ty)(Z:PE X f tx)(m:M2 X o "get" apos e f cpos):PE X (.Call (.Attribute o "get" apos) [e,f] [] cpos) (C0 td ty tx):=by
 intro j s n H Q I h;refine wpAny_Call_method m.base m.few m.line PySem.F.plainAttrs_dict PySem.F.slot_dict_get PySem.F.type_dict_get (cB (Y j s n H _ I h) λu L l=>?_);let⟨x,H1,v,S,a,ex,d,U⟩:=l;subst ex;obtain rfl:u=Value.ref a:=S;let⟨E,C,_⟩:=Fl v d;refine⟨E,C,?_⟩;rw[m.trees];refine zau rfl (Calls.evalArgs_plain (zbi (cB (he j L n H1 _ v U) λiv G l=>?_)));let⟨y,H2,I2,P,q2⟩:=l;refine zbi (cB (Z j G n H2 _ I2 q2) λfv s3 q=>?_);let⟨z,H3,I3,O,ov,g,q3⟩:=q;refine zbz ?_;exact OS W I3 g P O λw' s4 I4 t=>⟨_,H3,I4,t,q3⟩
end
end L2
variable {te:L2.TE}
namespace HT
open PySem PyProof.Rows
def JQ(y:IsTup s.heap d vs.toArray)(H:IsTup s.heap g ws.toArray)(I:vs≠[])(h1:ws=[]->Q (.ref d) s)(h2:ws≠[]->Q (.ref s.heap.objs.size) {s with heap:=s.heap.push {cls:=.type "tuple",data:=.seq (vs++ws).toArray}})(C:vs.length+ws.length<=yag):yar (model prog w) A (binaryOp .Add (.ref d) (.ref g)) Q E s:=by
 let⟨⟨cls,v,data,u⟩,l,G,n,hd⟩:=id y;let⟨⟨x,j,q,h⟩,a,o,n2,m⟩:=id H;subst G hd o m;have e:vs.toArray++ws.toArray=(vs++ws).toArray:=by simp
 by_cases hw:ws=[]
 ·exact concat_meets ⟨_,l,rfl⟩ ⟨_,a,rfl⟩ noFill_tuple_add seq_tuple_add PySem.F.slot_tuple_add PySem.F.entry_tuple_add (PySem.F.args_tuple_add_2 _ _)
   (tuple_addW1 d g vs.toArray ws.toArray n n2 v j u h (by simp_all) (by simp[hw])) ⟨l,a,h1 hw⟩
 ·refine concat_meets ⟨_,l,rfl⟩ ⟨_,a,rfl⟩ noFill_tuple_add seq_tuple_add PySem.F.slot_tuple_add PySem.F.entry_tuple_add (PySem.F.args_tuple_add_2 _ _)
   (tuple_addW2 d g vs.toArray ws.toArray n n2 v j u h (by simp_all) (by simp_all) (by simp_all)) ⟨l,a,?_⟩
  rw[e];exact h2 hw
noncomputable def cV(n d:Nat):Option Int->Nat
 |none=>d
 |some v=>if v<0 then(v+(n:Int)).toNat else min v.toNat n
def iM(n d k:Nat):cV n d (some (k:Int))=min k n:=by
 rfl
def AH(v)(n d:Nat):(if v<0 then max (v+(n:Int)) 0 else min v (n:Int))=((cV n d (some v):Nat):Int):=by
 show(if v<0 then max (v+n) 0 else min v n)=(((if v<0 then(v+n).toNat else min v.toNat n):Nat):Int);by_cases a:v<0
 ·simp_all
 ·simp only[yIn a];lia
def yO(a h)(n:Nat):Builtin.Slice.sliceAdjust a h 1 (n:Int)=(((cV n 0 a:Nat):Int),((cV n n h:Nat):Int)):=by
 refine Prod.ext ?_ ?_
 ·cases a with
  |none=>rfl
  |some v=>exact AH v n 0
 ·cases h with
  |none=>rfl
  |some v=>exact AH v n n
def xV(i j:Nat):Builtin.Slice.slicePlaces (i:Int) (j:Int) 1=j - i:=by
 unfold Builtin.Slice.slicePlaces;split<;>lia
def oh(p:IsPart d o)(h:e o s):yar (model prog w) A (Builtin.Slice.slicePartIndex d) e E s:=by
 cases p with
 |none=>exact slicePart_none h
 |int i t=>exact slicePart_int h
def fW(t:s.heap.IsSliceOf d q o .none)(pl:IsPart q e)(pu:IsPart o g)(h:k (((cV n 0 e:Nat):Int),1,cV n n g - cV n 0 e) s):yar (model prog w) A (Builtin.Slice.sliceApplied (.ref d) (pure (n:Int))) k E s:=by
 let⟨os,j,u,m⟩:=id t;refine yaa (yaa (wpAny_field j m rfl (yaa (wpAny_field j m rfl (yaa (wpAny_field j m rfl (yab ?_)))))));refine yaa (slicePart_none ?_);refine yaa (oh pl (yaa (oh pu (yaa (yab ?_)))));show yar _ _ (match Builtin.Slice.sliceAdjust e g 1 n with|(e,g)=>pure (e,(1:Int),Builtin.Slice.slicePlaces e g 1)) _ _ s;rw[yO e g n];show yar _ _ (pure (((cV n 0 e:Nat):Int),(1:Int),Builtin.Slice.slicePlaces ((cV n 0 e:Nat):Int) ((cV n n g:Nat):Int) 1)) _ _ s;rw[xV];exact yab h
def Ey(a:Array yai)(i k:Nat):((zcV k).filterMap λ(m:Nat)=>a[((i:Int)+(m:Int)*1).toNat]?).toArray=((a.toList.drop i).take k).toArray:=by
 have e:(λ(m:Nat)=>a[((i:Int)+m*1).toNat]?)=λm=>a[i+m]?:=by
  funext m;have:((i:Int)+m*1).toNat=i+m:=by lia
  rw[this]
 have:=pick_run a i k;have h:((λx=>a[x]?) ∘ λx=>i+x)=λm=>a[i+m]?:=rfl;simp_all
def j5(l:IsTup s.heap d items)(y:s.heap.IsSliceOf e g k .none)(pl:IsPart g r)(pu:IsPart k z)(hw:¬(cV items.size 0 r=0/\cV items.size items.size z=items.size))(h:Q (.ref s.heap.objs.size) {s with heap:=s.heap.push {cls:=.type "tuple",data:=.seq ((items.toList.drop (cV items.size 0 r)).take (cV items.size items.size z - cV items.size 0 r)).toArray}})(C:items.size<=yag):yar (model prog w) A (getItem (.ref d) (.ref e)) Q E s:=by
 have Ag  :=by
  show((items.toList.drop (cV items.size 0 r)).take (cV items.size items.size z - cV items.size 0 r)).toArray.size<=yag;rw[zbj,zbA,zbC,zaR];lia
 let⟨os,n,q,F⟩:=id y;have u:s.TypeIs (.ref e) "slice":=⟨os,n,q⟩
 unfold getItem
 try with_reducible refine yad ?_
 refine yaa (wpAny_sequenceKey l.typeIs (by decide) ?_);refine yaa (wpAny_callSpecial?_slot l.typeIs PyProof.Rows.slot_tuple_getitem (wpAny_call_entry PyProof.Rows.slot_tuple_getitem l.typeIs entry_tuple_getitem ?_ (args_tuple_getitem _ _)));show yar _ _ (Builtin.Tuple.tupleItemsOf (.ref d) >>= _) _ _ s;refine yaa (tupleItemsOf_ l ?_);refine yaa (wpAny_typeOf u ?_);refine yaa (fW y pl pu ?_);have o:¬((((cV items.size 0 r:Nat):Int)==0&&(1:Int)==1&&(cV items.size items.size z - cV items.size 0 r)==items.size)=true):=by
  simp_all
 show yar _ _ (if(((cV items.size 0 r:Nat):Int)==0&&(1:Int)==1&&(cV items.size items.size z - cV items.size 0 r)==items.size)=true then _ else _) _ _ s;rw[yIn o,Ey]
 first
  |exact yaa (yae (yab ⟨_,rfl,yab h⟩) Ag)
  |exact yaa (m:=Builtin.Tuple.tupleExact _) (yae (yaa (yab (yab ⟨_,rfl,yab h⟩))) Ag)
  |exact yaa (yaa (m:=Builtin.Tuple.tupleExact _) (yae (yab (yab ⟨_,rfl,yab h⟩)) Ag))
  |exact yaa (yaa (m:=Builtin.Tuple.tupleExact _) (yae (yab ⟨_,rfl,yab h⟩) Ag))
end HT
namespace L2
open PySem PySem.Spec PyProof.Rows
abbrev TO:=St->Hp->(Option Int->Hp->Prop)->Prop
def PO(X:Cx)(e:Option Expr)(t:TO):Prop:=
 ∀(a)(s)(h:St)(H)(Q),Inv X a h H s->t h H Q->
  yar (model X.prog X.w) X.A (evalPart e X.env) (λu l=>∃o j,Inv X a h j l/\IsPart u o/\Q o j) X.xe s
def zg:TO:=λ_ H Q=>Q none H
def KQ(t:TE):TO:=λa H Q=>t a H λx h=>∃i,x=.int i/\Q (some i) h
def intsAre_of:∀{a:List yai},Vals (ns.map V.int) a->IntsAre a ns:=by
 induction ns with
 |nil=>intro a r;cases r;exact .nil
 |cons n ns ih=>
  intro a r;cases r with
  |cons r1 r2=>
   let⟨t,e⟩:=r1;subst e;exact .cons n t (ih r2)
section
variable {e:Expr}{lo hi:Option Expr}{tl th:TO}
def cP:PO X none zg:=by
 intro a s j H Q I h;exact yab ⟨none,H,I,.none,h⟩
def cO(h:PE X e te):PO X (some e) (KQ te):=by
 intro a s l H Q I hw;refine cB (h a s l H _ I hw) λu y j=>?_;let⟨x,v,o,m,n⟩:=j;let⟨i,rfl,q⟩:=n;let⟨t,rfl⟩:=m;refine⟨some i,v,o,.int i t,q⟩
def HK(X:Cx)(r:V->Option Int->Option Int->Hp->VK->Prop):Prop:=
 ∀(a)(s)(h:St)(H)(x)(v l j)(lo hi)(m)(Q),Inv X a h H s->RelV x v->s.heap.IsSliceOf m l j .none->IsPart l lo->IsPart j hi->r x lo hi H Q->
  ∃T id,typeLookup (.type T) "__getitem__"=pure (some (.builtin id))/\s.TypeIs v T/\yar (model X.prog X.w) X.A (getItem v (.ref m)) (EP X a h Q) X.xe s
def HK.or(h:HK X r)(h':HK X d):HK X (λx lo hi H Q=>r x lo hi H Q∨d x lo hi H Q):=by
 intro a s j H x v m l lo hi n Q I o u pl pu q;obtain q|q:=q
 ·exact h a s j H x v m l lo hi n Q I o u pl pu q
 ·exact h' a s j H x v m l lo hi n Q I o u pl pu q
def U7(r:V->Option Int->Option Int->Hp->VK->Prop)(h:TE)(tl th:TO):TE:=λa H Q=>h a H λx n=>tl a n λl m=>th a m λu j=>r x l u j Q
def cj(S:HK X r)(Y:PE X e te)(U:PO X lo tl)(O:PO X hi th):PE X (.Subscript e (.Slice lo hi none p2) pos) (U7 r te tl th):=by
 intro a s m H Q I h;refine Subscript_ (cB (Y a s m H _ I h) λv F j=>?_);let⟨x,H1,I1,G,L⟩:=j;refine wpAny_Slice (cB (U a F m H1 _ I1 L) λy E j=>?_);let⟨l,H2,I2,pl,q2⟩:=j;refine cB (O a E m H2 _ I2 q2) λt n o=>?_;let⟨u,C,I3,pu,q3⟩:=o;refine yab ?_;have I4:Inv X a m C {n with heap:=n.heap.push {cls:=.type "slice",data:=.fields #[y,t,.none]}}:=I3.kept λb ob q=>zas _ q;let⟨T,id,Z,P,W⟩:=S a {n with heap:=n.heap.push {cls:=.type "slice",data:=.fields #[y,t,.none]}} m C x v y t l u n.heap.objs.size Q I4 G (Heap.IsSliceOf.new ..) pl pu q3;exact tail_any P Z W (by rfl)
noncomputable def Ca(a:List V)(lo hi:Option Int):List V:=(a.drop (HT.cV a.length 0 lo)).take (HT.cV a.length a.length hi - HT.cV a.length 0 lo)
def mR(a)(lo hi):(Ca a lo hi).length<=a.length:=by
 unfold Ca;rw[zbA,zbC];lia
def Ue(K:yaJ):V->Option Int->Option Int->Hp->VK->Prop:=λx lo hi H Q=>∃a h,x=.ref a/\eO K H a h/\
 ¬(HT.cV h.length 0 lo=0/\HT.cV h.length h.length hi=h.length)/\∀p,H p=none->Q (.ref p) (upd H p (.tup (Ca h lo hi)))
def My:HK X (Ue X.K):=by
 intro n s C H x v F E lo hi G Q I t y pl pu h;let⟨a,l,rfl,u,hw,q⟩:=h;cases t;let⟨m,r,o,hz⟩:=I.tuple u;have j:m.toArray.size=l.length:=by exact r.length.symm
 refine⟨"tuple",_,PyProof.Rows.slot_tuple_getitem.lookup,o.typeIs,?_⟩;refine HT.j5 o y pl pu (by rw[j];exact hw) ?_ (by rw[j];exact hz);rw[j];refine⟨.ref s.heap.objs.size,_,I.laid (λb L q=>zas _ q) (zcR _) ?_,rfl,q _ (I.hok.fresh (zcR _))⟩;refine⟨zcH (mR l lo hi) hz,_,(r.drop (HT.cV l.length 0 lo)).take (HT.cV l.length l.length hi - HT.cV l.length 0 lo),IsTup.new _ _⟩
def QZ(K:yaJ):R2:=λx y H Q=>∃a b j h,x=.ref a/\y=.ref b/\eO K H a j/\eO K H b h/\j≠[]/\j.length+h.length<=yag/\
 (h=[]->Q (.ref a) H)/\(h≠[]->∀p,H p=none->Q (.ref p) (upd H p (.tup (j++h))))
def Vals.tN(r:Vals xs us):us=[]↔xs=[]:=by
 cases r with
 |nil=>simp
 |cons _ _=>simp
def IU:iI X (binaryOp .Add) (QZ X.K):=by
 intro m s S H x y v u Q I t o h;let⟨a,b,W,U,rfl,rfl,P,O,L,hz,C,q2⟩:=h;cases t;cases o;let⟨G,l,F,_⟩:=I.tuple P;let⟨n,j,E,_⟩:=I.tuple O;refine HT.JQ F E (λz=>L (l.tN.mp z)) (λz=>⟨.ref a,H,I,rfl,C (j.tN.mp z)⟩) (λz=>?_) (by rw[<-l.length,<-j.length];exact hz);refine⟨.ref s.heap.objs.size,_,I.laid (λb Y q=>zas _ q) (zcR _) ?_,rfl,q2 (λw=>z (j.tN.mpr w)) _ (I.hok.fresh (zcR _))⟩;refine⟨by simp_all,_,l.append j,IsTup.new _ _⟩
end
noncomputable def BZ(n:Nat)(i:Int):Option Nat:=if 0<=i then(if i<n then some i.toNat else none) else if -(n:Int)<=i then some (i+n).toNat else none
noncomputable def jw{α:Type}(a:List α)(i:Int):Option α:=(BZ a.length i).bind λj=>a[j]?
def Ad(h:BZ n d=some j):seqIndex? d n=some j/\j<n/\-(n:Int)<=d/\d<n:=by
 unfold BZ at h;by_cases a:0<=d
 ·rw[yIp a] at h;by_cases h1:d<n
  ·rw[yIp h1] at h;have e  :=zcU.inj h;refine⟨by rw[seqIndex_of a h1,e],by lia,by lia,h1⟩
  simp_all
 ·rw[yIn a] at h;by_cases h1: -n<=d
  ·rw[yIp h1] at h;have e  :=zcU.inj h;refine⟨by rw[seqIndex_neg (by lia) h1,e],by lia,h1,by lia⟩
  simp_all
def uh{α:Type}{a:List α}{v:α}(h:jw a d=some v):∃j,seqIndex? d a.length=some j/\a[j]? =some v/\j<a.length/\-(a.length:Int)<=d/\d<a.length:=by
 unfold jw at h;cases e:BZ a.length d with
 |none=>rw[e] at h;cases h
 |some j=>
  rw[e] at h;let⟨h1,h2,m,l⟩:=Ad e;refine⟨j,h1,h,h2,m,l⟩
def gF{α:Type}{a:List α}{v:α}(h:a[j]? =some v):jw a (j:Int)=some v:=by
 have hj  :=(zaf.mp h).1;have e:BZ a.length j=some j:=by
  unfold BZ;simp_all
 unfold jw;rw[e];exact h
def nU(b:Expr):Prop:=∀o i,subscripted b false o i=operate [o,i] (getItem o i)
def HL(X:Cx)(r:R2):Prop:=
 ∀(j a)(h)(s)(l:St)(H)(x y)(v u)(Q),Inv X h l H s->RelV x v->RelV y u->r x y H Q->
  subscripted a false v u=operate [v,u] (getItem v u)->yar (model X.prog X.w) X.A (subscriptTail j a v u) (EP X h l Q) X.xe s
def CB(X:Cx)(id:String)(r:V->List V->Hp->VK->Prop):Prop:=
 ∀(a)(s)(h:St)(H)(x)(j)(v)(l)(Q),Inv X a h H s->RelV x v->Vals j l->r x j H Q->
  yar (model X.prog X.w) X.A (call (.builtin id) (v::l)) (EP X a h Q) X.xe s
section
variable {a b:Expr}{ta tb:TE}
def HL.or(h:HL X r)(h':HL X d):HL X (λx y H Q=>r x y H Q∨d x y H Q):=by
 intro j l m s n H x y v u Q I t o q E;obtain q|q:=q
 ·exact h j l m s n H x y v u Q I t o q E
 ·exact h' j l m s n H x y v u Q I t o q E
def CB.or(h:CB X d r)(h':CB X d e):CB X d (λx l H Q=>r x l H Q∨e x l H Q):=by
 intro j s m H x l v n Q I o t q;obtain q|q:=q
 ·exact h j s m H x l v n Q I o t q
 ·exact h' j s m H x l v n Q I o t q
def zR(C:HL X r)(F:PE X a ta)(E:PE X b tb)(t:nU b):PE X (.Subscript a b pos) (Qj r ta tb):=by
 intro j s l H Q I h;exact Subscript_ (Pd F E I h λv u m x y L G o n q=>C a b j m l L x y v u Q G o n q (t _ _))
def QY(K:yaJ):R2:=λx y H Q=>∃p h i v,x=.ref p/\y=.int i/\dF K H p h/\jw h i=some v/\Q v H
def QW(K:yaJ):R2:=λx y H Q=>∃p h i v,x=.ref p/\y=.int i/\eO K H p h/\jw h i=some v/\Q v H
def QX:R2:=λx y H Q=>∃z i c,x=.str z/\y=.int i/\z.length<=yag/\jw z.cps.toList i=some c/\Q (.str ⟨#[c]⟩) H
def Ji:HL X (QY X.K):=by
 intro n o l s P H x y v u Q I U S h G;let⟨p,xs,i,z,rfl,rfl,W,Y,q⟩:=h;cases U;let⟨t,rfl⟩:=S;let⟨E,r,pl,hz⟩:=I.list W;let⟨j,h1,h2,h3,h4,Z⟩:=uh Y;let⟨w,O,C⟩:=r.get h2;have hl:=r.length;have hn:=tQ;have m:EP X l P Q w s:=⟨z,H,I,C,q⟩
 by_cases L:0<=i
 ·have F:i.toNat=j:=by
   rw[seqIndex_of L Z] at h1;simp_all
  exact item_listR pl.isList L (by lia) (by rw[F];simpa using O) m G
 ·have F:(i+E.toArray.size).toNat=j:=by
   rw[seqIndex_neg (by lia) h4] at h1;simp_all
  exact subscriptTail_builtinR pl.isList.typeIs slot_list_getitem.lookup
   (wpAny_getItem_list_neg pl.isList (by lia) (by simp_all) (by lia) (by rw[F];simpa using O) ⟨rfl,m⟩) G
def au:HL X (QW X.K):=by
 intro m n l s E H x y v u Q I G F h O;let⟨p,W,i,z,rfl,rfl,P,S,q⟩:=h;cases G;let⟨t,rfl⟩:=F;let⟨L,r,pl,hz⟩:=I.tuple P;let⟨j,h1,h2,h3,h4,h5⟩:=uh S;let⟨w,U,o⟩:=r.get h2;have Z:=r.length;have Y:=tQ;have C:EP X l E Q w s:=⟨z,H,I,o,q⟩
 exact subscriptTail_builtinR pl.typeIs slot_tuple_getitem.lookup
  (getItem_tuple (j:=j) pl (by lia) (by lia) (by simp_all) (by simpa using U) ⟨rfl,C⟩) O
def OE:HL X QX:=by
 intro l m n s P H x y v u Q I C o h E;let⟨z,i,c,rfl,rfl,hz,G,q⟩:=h;let⟨t,rfl⟩:=C;let⟨S,rfl⟩:=o;let⟨j,h1,h2,W,O,L⟩:=uh G;have F:z.cps.toList.length=z.length:=by rfl
 rw[F] at h1 O L;have U:=tQ;exact tail_any (typeIs_str s z t) slot_str_getitem.lookup (getItem_str (by
  lia) (by rw[h1];simpa using h2) ⟨.str ⟨#[c]⟩,H,I.tok _,⟨_,rfl⟩,q⟩) E
def rIx(K:yaJ):R2:=λx y H Q=>QY K x y H Q∨QW K x y H Q∨QX x y H Q
def OF:HL X (rIx X.K):=Ji.or (au.or OE)
def ye(its:List yai)(n j)(u):Obj.mapSeq (·.setIfInBounds j u) {cls:=.type "list",data:=.seq its.toArray n}={cls:=.type "list",data:=.seq (its.set j u).toArray n}:=by
 simp[Obj.mapSeq]
theorem Inv.lst{j:St}{p:Addr}(I:Inv X pins j H s)(h:H p=some (.lst xs)):
  ∃(its:List yai)(n:Nat),Vals xs its/\s.heap.get? p=some {cls:=.type "list",data:=.seq its.toArray n}/\xs.length<=yag:=by
 let⟨z,its,n,r,e⟩:=I.hok p _ h;refine⟨its,n,r,e,z⟩
def Inv.Ou{its its':List yai}(I:Inv X pins d H s)(h:H g=some (.lst xs))(v:s.heap.get? g=some {cls:=.type "list",data:=.seq its.toArray n})(o:D {cls:=.type "list",data:=.seq its.toArray n}={cls:=.type "list",data:=.seq its'.toArray z})(r:Vals k its')(hz:k.length<=yag)(t):
  Inv X pins d (upd H g (.lst k)) {s with heap:=s.heap.update g D,toks:=t}:=by
 have e:(s.heap.update g D).get? g=some {cls:=.type "list",data:=.seq its'.toArray z}:=by
  rw[zaB D v (by rw[o]<;>rfl),o]
 refine I.write (x:=g) (e:=g) (by rw[h];trivial) (.inl rfl) (λb u y q=>(zat _ _ (Ne.symm y)).trans q) ⟨_,e⟩ ?_;refine⟨hz,its',z,r,e⟩
def Lo:V->V->V->Hp->(Hp->Prop)->Prop:=λo i v H Q=>∃p h k j,o=.ref p/\i=.int k/\H p=some (.lst h)/\BZ h.length k=some j/\Q (upd H p (.lst (h.set j v)))
def set_list:SQ X Lo:=by
 intro l s P H o i v ov iv u Q I Y Z U h;let⟨p,S,k,j,rfl,rfl,E,hj,q⟩:=h;cases Y;let⟨t,rfl⟩:=Z;let⟨m,n,r,x,hz⟩:=I.lst E;let⟨h1,h2,G,F⟩:=Ad hj;have y:=r.length;have hn:=tQ;have O:Inv X l P (upd H p (.lst (S.set j v))) {s with heap:=s.heap.update p (Obj.mapSeq (·.setIfInBounds j u))}:=
  I.Ou E x (ye m n j u) (r.set U j) (by rw[zbY];exact hz) s.toks
 by_cases L:0<=k
 ·have C:k.toNat=j:=by
   rw[seqIndex_of L F] at h1;exact zcU.inj h1
  exact PySem.W.ki_setAt x L (by lia) (by rw[zbj,<-y];exact F) (by rw[C];refine⟨_,O,q⟩)
 ·have C:(k+(m.toArray.size:Int)).toNat=j:=by
   rw[seqIndex_neg (by lia) G] at h1;rw[zbj,<-y];exact zcU.inj h1
  exact PySem.W.ki_setBack x (by lia) (by rw[zbj,<-y];exact G) (by lia) (by rw[C];refine⟨_,O,q⟩)
def sO(j l)(n):(sliceBounds j l none n).1=((HT.cV n 0 j:Nat):Int)/\(sliceBounds j l none n).2.1=((HT.cV n n l:Nat):Int)/\(sliceBounds j l none n).2.2=1:=by
 refine⟨?_,?_,rfl⟩
 ·cases j with
  |none=>rfl
  |some i=>
   simp only[sliceBounds,HT.cV,Option.getD_none];by_cases h:i<0
   ·simp only[h,if_true]<;>lia
   ·simp only[h,if_false]<;>lia
 ·cases l with
  |none=>rfl
  |some i=>
   simp only[sliceBounds,HT.cV,Option.getD_none];by_cases h:i<0
   ·simp only[h,if_true]<;>lia
   ·simp only[h,if_false]<;>lia
def qL(its:List yai)(h j):slicePick its.toArray h j none=((its.drop (HT.cV its.length 0 h)).take (HT.cV its.length its.length j - HT.cV its.length 0 h)).toArray:=by
 let⟨h1,h2,l⟩:=sO h j its.toArray.size;unfold slicePick;rw[h1,h2,l];simp only[sliceRange_one,pick_run]<;>rfl
def Ug(K:yaJ):V->Option Int->Option Int->Hp->VK->Prop:=λx j l H Q=>∃a h,x=.ref a/\dF K H a h/\∀p,H p=none->Q (.ref p) (upd H p (.lst (Ca h j l)))
def Ia:HK X (Ug X.K):=by
 intro n s F H x v L G m t O Q I u E pl pu h;let⟨a,j,rfl,C,q⟩:=h;cases u;let⟨y,r,o,hz⟩:=I.list C;have l:=r.length;refine⟨"list",_,slot_list_getitem.lookup,o.isList.typeIs,?_⟩;refine wpAny_getItem_list_slice o.isList E pl pu .none (by simp) ?_ (by simp_all);rw[qL,<-l];refine⟨.ref s.heap.objs.size,_,I.laid (λb P q=>zas _ q) (zcR _) ?_,rfl,q _ (I.hok.fresh (zcR _))⟩;refine⟨zcH (mR j m t) hz,_,0,(r.drop (HT.cV j.length 0 m)).take (HT.cV j.length j.length t - HT.cV j.length 0 m),zaS _ rfl⟩
def ug:cG X (.type "list") (λO H Q=>∃p t,O=[.ref p]/\(dF X.K H p t∨eO X.K H p t)/\∀l,H l=none->Q (.ref l) (upd H l (.lst t))):=by
 intro y s S H O W Q I r h;let⟨p,t,rfl,C,q⟩:=h;let⟨u,rfl,U⟩:=vals1 r;cases U;have F:∀j,Vals t j->t.length<=yag->∀m x,(∀b P,s.heap.get? b=some P->m.get? b=some P)->
   m.get? s.heap.objs.size=some {cls:=.type "list",dict:=none,data:=.seq j.toArray x,slots:=#[]}->EP X y S Q (.ref s.heap.objs.size) {s with heap:=m}:=λj v hz m x kp e=>
  ⟨.ref s.heap.objs.size,_,I.laid kp (zcR _) (show bK X.prog X.w _ m _ (.lst t) from⟨hz,j,x,v,e⟩),rfl,q _ (I.hok.fresh (zcR _))⟩
 obtain C|C:=C
 ·let⟨j,v,pl,hz⟩:=I.list C;have E:=v.length;let⟨o,G,L,n,hd⟩:=pl.isList;exact call_list_seq p (.inl rfl) G L hd (λm x kp e=>F j v hz m x kp e) (by simp_all)
 ·let⟨j,v,pl,hz⟩:=I.tuple C;have E:=v.length;let⟨o,G,L,n,hd⟩:=pl;exact call_list_seq p (.inr rfl) G L hd (λm x kp e=>F j v hz m x kp e) (by simp_all)
def qT:cG X (.type "tuple") (λC H Q=>∃p n,C=[.ref p]/\((dF X.K H p n/\∀l,H l=none->Q (.ref l) (upd H l (.tup n)))∨(eO X.K H p n/\Q (.ref p) H))):=by
 intro j s y H C O Q I r h;let⟨p,n,rfl,h⟩:=h;let⟨u,rfl,G⟩:=vals1 r;cases G;rcases h with⟨x,q⟩|⟨x,q⟩
 ·let⟨m,v,pl,hz⟩:=I.list x;have E:=v.length;refine call_tuple_list pl.isList (λt kp=>?_) (by simp_all);have F:Inv X j y H {s with heap:=t}:=I.kept kp;have L:Inv X j y (upd H t.objs.size (.tup n)) {s with heap:=t.push {cls:=.type "tuple",data:=.seq m.toArray}}:=
   F.laid (λb o e=>zas _ e) (zcR _) (show bK X.prog X.w _ _ _ (.tup n) from⟨hz,m,v,IsTup.new _ _⟩)
  refine⟨.ref t.objs.size,_,L,rfl,q _ (F.hok.fresh (zcR _))⟩
 ·let⟨m,v,pl,hz⟩:=I.tuple x;exact call_tuple_same pl ⟨.ref p,H,I,rfl,q⟩
def Tn(K:yaJ)(T:String)(x:V)(H:Hp):Prop:=match x with
 |.str _=>T="str"
 |.int _=>T="int"
 |.ref p=>(T="list"/\∃j,dF K H p j)∨(T="tuple"/\∃o,K.lookup p=some o/\o.cls=.type "tuple"/\o.dict=none)∨
   (T="dict"/\((∃h,H p=some (.dK h))∨∃h,H p=some (.dT h)))∨(T="set"/\∃S n,H p=some (.set S n))
 |_=>False
theorem CO(I:Inv X pins d H s)(r:RelV g k)(ty:Tn X.K T g H):
  s.TypeIs k T/\∀a,k=.ref a->∃ob,s.heap.get? a=some ob/\ob.dict=none:=by
 cases g with
 |str z=>
  let⟨t,rfl⟩:=r;cases(show T="str" from ty);exact⟨typeIs_str s z t,λ_ e=>nomatch e⟩
 |int i=>
  let⟨t,rfl⟩:=r;cases(show T="int" from ty);exact⟨typeIs_int s i t,λ_ e=>nomatch e⟩
 |ref p=>
  cases r;rcases ty with⟨rfl,C,u⟩|⟨rfl,o,h,y,hd⟩|⟨rfl,h⟩|⟨rfl,S,n,h⟩
  ·let⟨q,_,pl,_⟩:=I.list u;refine⟨pl.isList.typeIs,λa e=>?_⟩;cases e;let⟨o,n,e,c,hd,_⟩:=pl;refine⟨o,e,hd⟩
  ·refine⟨⟨o,I.mK p o h,y⟩,λa e=>?_⟩;cases e;refine⟨o,I.mK _ o h,hd⟩
  ·have z:∃o,s.heap.get? p=some o/\o.ExactDict:=by
    rcases h with⟨j,h⟩|⟨j,h⟩
    ·let⟨_,_,_,_,o,_,_,e,ex,_⟩:=I.hok p _ h;refine⟨o,e,ex⟩
    ·let⟨_,_,_,_,o,_,_,e,ex,_⟩:=I.hok p _ h;refine⟨o,e,ex⟩
   let⟨o,e,ex⟩:=z;refine⟨⟨o,e,ex.1⟩,λa l=>?_⟩;cases l;refine⟨o,e,ex.2.1⟩
  ·let⟨o,_,_,_,e,ex,_⟩:=I.hok p _ h;refine⟨⟨o,e,ex.1⟩,λa l=>?_⟩;cases l;refine⟨o,e,ex.2.1⟩
 |_=>exact False.elim ty
def Mt(K:yaJ)(T:String)(r:V->List V->Hp->VK->Prop)(to:TE):TE:=λj H Q=>to j H λx h=>Tn K T x h/\r x [] h Q
def TV(K:yaJ)(T:String)(r:V->List V->Hp->VK->Prop)(to:TE)(t:TA):TE:=λh H Q=>to h H λx j=>Tn K T x j/\t h j λl m=>r x l m Q
variable {o e:Expr}{es:List Expr}{to:TE}{t:TA}{T id:String}{r:V->List V->Hp->VK->Prop}
def xW(G:PlainAttrs T)(slot:Slot T name id)(q:typeOf (.builtin id)=pure (.type "method_descriptor"))(O:CB X id r)(L:PE X o to)(m:autoParam (attributeBase o name X.env (eval o X.env)=eval o X.env) r0)(l:autoParam ((apos.endLine==cpos.line)=true) r0):PE X (.Call (.Attribute o name apos) [] [] cpos) (Mt X.K T r to):=by
 intro j s u H Q I h;refine wpAny_Call_method0_late m l (cB (L j s u H _ I h) λv E n=>?_);let⟨x,P,C,y,ty,F⟩:=n;let⟨h1,h2⟩:=CO C y ty;refine⟨T,id,G,slot,q,h1,h2,zau rfl (PySem.evalArgs_none (O j E u P x [] v [] Q C y .nil F))⟩
def cZ(W:PlainAttrs T)(slot:Slot T name id)(C:typeOf (.builtin id)=pure (.type "method_descriptor"))(hm:CB X id r)(Z:PE X o to)(ha:PA X (e::es) t)(q:autoParam (attributeBase o name X.env (eval o X.env)=eval o X.env) r0)(u:autoParam (((yau cpos (yao (e::es) X.env)).all (λx=>!x.1)&&(yaF cpos (yaE [] X.env)).all (λx=>x.1.isSome)&&decide ((e::es).length+([]:List Keyword).length+(if([]:List Keyword).isEmpty then 0 else 1)<30))=true) r0)(n:autoParam ((apos.endLine==cpos.line)=true) r0)(Y:autoParam (yao (e::es) X.env=(false,eval e X.env)::yao es X.env) r0)(l:autoParam ((yau cpos (yao es X.env)).any (·.1)=false) r0):
  PE X (.Call (.Attribute o name apos) (e::es) [] cpos) (TV X.K T r to t):=by
 intro j s y H Q I h;refine wpAny_Call_method_late q u n rfl (cB (Z j s y H _ I h) λv P m=>?_);let⟨x,H1,G,E,ty,U⟩:=m;let⟨h1,h2⟩:=CO G E ty;refine⟨T,id,W,slot,C,h1,h2,?_⟩;have F:=ha cpos j P y H1 _ G U;rw[Y] at F⊢;refine zau (by show(false||(yau cpos (yao es X.env)).any (·.1))=false;rw[l]<;>rfl) (Calls.evalArgs_plain ?_);refine cB F λL O m=>?_;let⟨vs,H2,I2,S,q2⟩:=m;exact hm j O y H2 x vs v L Q I2 E S q2
end
def TJ(X:Cx)(id:String)(r:V->List V->Hp->VK->Prop):Prop:=
 ∀(a)(s)(h:St)(H)(x)(j)(v)(l)(Q),Inv X a h H s->RelV x v->Vals j l->r x j H Q->
  yar (model X.prog X.w) X.A (call (.builtin id) (v::l)) (EP X a h Q) X.xe s
def Vals.one:∀{x:V}{a:List yai},Vals [x] a->∃u,a=[u]/\RelV x u:=by
 intro x a h;cases h with
 |cons r t=>cases t;refine⟨_,rfl,r⟩
theorem Vals.zero:∀{a:List yai},Vals [] a->a=[]
 |_,.nil=>rfl
theorem Vals.dropLast(h:Vals xs us):Vals xs.dropLast us.dropLast:=by
 induction h with
 |nil=>exact .nil
 |cons r t ih=>
  cases t with
  |nil=>exact .nil
  |cons q t'=>exact .cons r ih
theorem Vals.eraseIdx:∀{a:List V}{h:List yai}(i),Vals a h->Vals (a.eraseIdx i) (h.eraseIdx i)
 |_,_,_,.nil=>.nil
 |_,_,0,.cons _ t=>t
 |_,_,i+1,.cons r t=>.cons r (Vals.eraseIdx i t)
theorem Vals.rep(h:Vals xs us):∀k:Nat,Vals (zcj k xs).flatten (zcj k us).flatten
 |0=>.nil
 |k+1=>by
  exact Vals.append h (Vals.rep h k)
def yr{α:Type}(l:List α):l.eraseIdx (l.length - 1)=l.dropLast:=by
 induction l with
 |nil=>rfl
 |cons a r ih=>
  cases r with
  |nil=>rfl
  |cons b r=>
   have e:(a::b::r).length - 1=((b::r).length - 1)+1:=by
    have h1:(a::b::r).length=r.length+2:=rfl;have h2:(b::r).length=r.length+1:=rfl;lia
   rw[e,List.eraseIdx_cons_succ,ih]
   all_goals rfl
theorem rV{α:Type}:∀(l:List α)(i),(l.eraseIdx i).length<=l.length
 |[],_=>zcR _
 |_::_,0=>zcT _
 |_::r,i+1=>Nat.succ_le_succ (rV r i)
theorem foldl_rep(its:List yai):∀(k)(a),
  List.foldl (λj h=>j++h) a.toArray (zcj k its.toArray)=(a++(zcj k its).flatten).toArray
 |0,a=>by simp
 |k+1,a=>by
  have e:a.toArray++its.toArray=(a++its).toArray:=by simp
  have l:(a++its)++(zcj k its).flatten=a++(zcj (k+1) its).flatten:=by
   grind
  rw[<-l,<-foldl_rep its k (a++its),<-e,List.replicate_succ,zbZ]
section
variable {σ:St}{b:Addr}{ys zs:List V}
def Inv.E1{its its':List yai}(I:Inv X pins σ H s)(o:H l=some (.lst xs))(e:s.heap.get? l=some {cls:=.type "list",data:=.seq its.toArray n})(j:d its.toArray=its'.toArray)(a:Vals ys its')(hz:ys.length<=yag):
  Inv X pins σ (upd H l (.lst ys)) {s with heap:=s.heap.update l (Obj.mapSeq d),toks:=t'}:=by
 have q:=PySem.IsL.update e d;rw[j] at q;refine I.write (by rw[o];exact trivial) (.inl rfl) (λt u m h=>(zat s.heap (Obj.mapSeq d) (Ne.symm m)).trans h) ⟨_,q⟩ ?_;refine⟨hz,its',_,a,q⟩
def Inv.Ro(I:Inv X pins σ H s)(a:Vals ys d)(hz:ys.length<=yag):
  Inv X pins σ (upd H s.heap.objs.size (.lst ys)) {s with heap:=s.heap.push {cls:=.type "list",data:=.seq d.toArray},toks:=t'}:=
 I.laid (λ_ _ q=>zas _ q) (zcR _) ⟨hz,d,0,a,zaS _ rfl⟩
theorem Inv.fresh(I:Inv X pins σ H s):H s.heap.objs.size=none:=I.hok.fresh (zcR _)
def Inv.tP(I:Inv X pins σ H s)(a:H l=some (.lst xs)):xs.length<=yag/\∃(its:List yai)(n:Nat),Vals xs its/\xs.length=its.length/\s.heap.get? l=some {cls:=.type "list",data:=.seq its.toArray n}:=by
 let⟨z,its,n,r,e⟩:=I.hok l _ a;refine⟨z,its,n,r,r.length,e⟩
def oZ(h:n<=yag):Builtin.List.listTooLong n=false:=by
 unfold Builtin.List.listTooLong;simp_all
end
def zL:V->List V->Hp->VK->Prop:=λx vs H Q=>∃l a y,x=.ref l/\vs=[y]/\H l=some (.lst a)/\a.length<yag/\Q .bU (upd H l (.lst (a++[y])))
def BP:TJ X "list.append" zL:=by
 intro j s C H x vs v G Q I o t h;obtain⟨l,E,y,rfl,rfl,m,hz,q⟩:=h;cases o;obtain⟨u,rfl,ru⟩:=t.one;obtain⟨z,a,n,r,L,e⟩:=I.tP m;refine call_meets F.slot_list_append ⟨_,e,rfl⟩ F.entry_list_append (F.args_list_append_2 _ _) (PySem.list_append l a.toArray n u (by simp_all)) ⟨e,?_⟩;refine⟨.bU,_,I.E1 m e (by simp) (r.append (.cons ru .nil)) ?_,rfl,q⟩;rw[zaU,zaw];lia
def zK:V->List V->Hp->VK->Prop:=λx vs H Q=>∃l b h a,x=.ref l/\vs=[.ref b]/\H l=some (.lst h)/\H b=some (.lst a)/\h.length+a.length<=yag/\Q .bU (upd H l (.lst (h++a)))
def BO:TJ X "list.extend" zK:=by
 intro o s S H x vs v Z Q I C E h;obtain⟨l,b,Y,U,rfl,rfl,t,O,hz,q⟩:=h;cases C;obtain⟨u,rfl,ru⟩:=E.one;cases ru;obtain⟨z,j,n,r,hl,e⟩:=I.tP t;obtain⟨W,a,n2,G,L,P⟩:=I.tP O;have m:j.toArray.size+a.toArray.size<=yag:=by simp_all
 have y:¬(!j.toArray.isEmpty&&Builtin.List.listTooLong (j.toArray.size+a.toArray.size))=true:=by
  rw[oZ m];simp
 refine call_meets F.slot_list_extend ⟨_,e,rfl⟩ F.entry_list_extend (F.args_list_extend_2 _ _)
  (AutoSeq1.list_extend_list_list_0 l j.toArray n b a.toArray n2 y (by simp_all) (by lia)) ⟨e,P,?_⟩
 refine⟨.bU,_,I.E1 t e (by simp) (r.append G) ?_,rfl,q⟩;simp_all
def QV:V->List V->Hp->VK->Prop:=λx vs H Q=>∃l a y,x=.ref l/\vs=[]/\H l=some (.lst a)/\a[a.length - 1]? =some y/\Q y (upd H l (.lst a.dropLast))
def Oo:TJ X "list.pop" QV:=by
 intro o s P H x vs v U Q I C E h;let⟨l,S,y,rfl,rfl,t,G,q⟩:=h;cases C;have m:=E.zero;subst m;let⟨z,a,n,r,O,e⟩:=I.tP t;let⟨u,L,ru⟩:=r.get G;have j:a.toArray[a.toArray.size - 1]? =some u:=by
  show a.toArray[a.length - 1]? =some u;rw[<-zaA,<-O];exact L
 refine call_meets F.slot_list_pop ⟨_,e,rfl⟩ F.entry_list_pop (F.args_list_pop_1 _) (MeetsSeq.list_pop_last l a.toArray n u j (by rw[zbj];lia)) ⟨e,?_⟩;refine⟨y,_,I.E1 (its':=a.dropLast) t e ?_ r.dropLast ?_,ru,q⟩
 ·show a.toArray.eraseIdxIfInBounds (a.toArray.size - 1)=a.dropLast.toArray;rw[zbj,List.eraseIdxIfInBounds_toArray,yr]
 ·rw[List.length_dropLast];lia
def En:V->List V->Hp->VK->Prop:=λx vs H Q=>∃l a i k y,x=.ref l/\vs=[.int i]/\H l=some (.lst a)/\-(2 ^ 63)<=i/\i<2 ^ 63/\seqIndex? i a.length=some k/\a[k]? =some y/\Q y (upd H l (.lst (a.eraseIdx k)))
def ES:TJ X "list.pop" En:=by
 intro m s S H x vs v U Q I E G h;obtain⟨l,C,i,k,y,rfl,rfl,o,h1,h2,P,L,q⟩:=h;cases E;obtain⟨u,rfl,ru⟩:=G.one;obtain⟨t,rfl⟩:=ru;obtain⟨z,a,n,r,O,e⟩:=I.tP o;obtain⟨w,hw,j⟩:=r.get L;refine call_meets F.slot_list_pop ⟨_,e,rfl⟩ F.entry_list_pop (F.args_list_pop_2 _ _)
  (MeetsSeq.list_pop_at l a.toArray n i t k w (fitsIndex_both h1 h2) (by rw[zbj,<-O];exact P) (by rw[<-zaA];exact hw) (by rw[zbj];lia)) ⟨e,?_⟩
 refine⟨y,_,I.E1 (its':=a.eraseIdx k) o e ?_ (r.eraseIdx k) ?_,j,q⟩
 ·show a.toArray.eraseIdxIfInBounds k=(a.eraseIdx k).toArray;rw[List.eraseIdxIfInBounds_toArray]
 ·have:=rV C k;lia
def Ul:R2:=λx y H Q=>∃l b h a,x=.ref l/\y=.ref b/\H l=some (.lst h)/\H b=some (.lst a)/\h.length+a.length<=yag/\∀p,H p=none->Q (.ref p) (upd H p (.lst (h++a)))
def Oa:iI X (binaryOp .Add) Ul:=by
 intro m s S H x y v u Q I t o h;let⟨l,b,Y,U,rfl,rfl,F,G,hz,q⟩:=h;cases t;cases o;let⟨z,j,n,r,Z,e⟩:=I.tP F;let⟨W,a,n2,C,E,O⟩:=I.tP G;refine PySem.P.add_list e O ?_ (by simp_all);have L:j.toArray++a.toArray=(j++a).toArray:=by simp
 rw[L];refine⟨.ref _,_,I.Ro (r.append C) (by simp_all),rfl,q _ I.fresh⟩
def Uh:R2:=λx y H Q=>∃l k a,x=.ref l/\y=.int k/\H l=some (.lst a)/\-(2 ^ 63)<=k/\k<2 ^ 63/\a.length*k.toNat<=yag/\
 ∀p,H p=none->Q (.ref p) (upd H p (.lst (zcj k.toNat a).flatten))
def len_rep{α:Type}(a:List α)(k):(zcj k a).flatten.length=k*a.length:=by
 simp
def NW:iI X (binaryOp .Mult) Uh:=by
 intro P s σ H x y v u Q I Y W h;let⟨l,k,xs,rfl,rfl,Z,h1,h2,hz,q⟩:=h;cases Y;let⟨t,rfl⟩:=W;let⟨z,j,n,r,hl,e⟩:=I.tP Z;have C:j.toArray.size*k.toNat<=yag:=by simp_all
 have G:¬j.toArray.size*k.toNat> (2 ^ 63 - 1) / 8:=by
  have:yag<=(2 ^ 63 - 1) / 8:=by decide
  lia
 have E:¬(!Builtin.List.listFitsIndex k)=true:=by
  rw[fitsIndex_both h1 h2];lia
 have S:¬Builtin.List.listTooLong (j.toArray.size*k.toNat)=true:=by
  rw[oZ C];simp
 have o:List.foldl (λO L=>O++L) #[] (zcj (if j.toArray.isEmpty=true then 0 else k.toNat) j.toArray)=(zcj k.toNat j).flatten.toArray:=by
  have f0:∀m,List.foldl (λO L=>O++L) #[] (zcj m j.toArray)=(zcj m j).flatten.toArray:=λm=>by
   have:=foldl_rep j m [];simp_all
  rw[f0];cases j with
  |nil=>simp
  |cons a r'=>rfl
 refine wpAny_binaryOp_repeat_ref (by decide) ⟨_,e,rfl⟩ (λU=>typeIs_int U k t) noFill_list_mul F.fills_int_mul F.slot_int_rmul repeat_list F.slot_int_index.lookup
  (call_meets F.slot_int_rmul (typeIs_int s k t) F.entry_int_rmul (F.args_int_rmul_2 _ _) (int___rmul___int_list k t l j.toArray n) ⟨e,rfl,⟨_,e,rfl⟩,call_meets F.slot_list_mul ⟨_,e,rfl⟩ F.entry_list_mul (F.args_list_mul_2 _ _) (AutoListH.list___mul___list_int_3 l j.toArray n k t E G S) ⟨e,?_⟩⟩)
 rw[o];refine⟨.ref _,_,I.Ro (r.rep k.toNat) (by rw[len_rep,Nat.mul_comm];exact hz),rfl,q _ I.fresh⟩
end L2
namespace Att
open PySem PySem.W PySem.Calls PyProof.Rows
def mV:∀(ns)(vs),WellAll d h vs (ns.map WData.int)->IntsAre vs ns:=by
 intro ns
 induction ns with
 |nil=>
  intro vs w;cases w;exact .nil
 |cons n ns ih=>
  intro vs w;cases w with
  |cons a b=>
   cases a;exact .cons _ _ (ih _ b)
theorem BB{l:OpenLaw}(t:l.most=some n)(m:l.row.toRowW.claim.pre args=true)(s:WellAll e h g args):
  ∃a vs ns,g=[Value.ref a]/\args=[WData.list (ns.map WData.int)]/\h.get? a=some {cls:=.type "list",data:=.seq vs.toArray}/\IntsAre vs ns/\ns.length<=n:=by
 have hsh  :=(pre_splitW m).1;have hc  :=(pre_splitW m).2;let⟨d,r,rfl,h1,h2⟩:=hasAllW_cons hsh;obtain rfl:=hasAllW_nil h2;let⟨v,rfl,u⟩:=hasW_list h1;let⟨ns,rfl⟩:=items_int u;have o:ns.length<=n:=by
  have q  :=by
   have q:=(holds_andW hc).1;rw[t] at q;exact q
  have x:=condW_of q (w_not (w_lt w_lit (w_len_list (w_arg rfl))));simp_all
 cases s with
 |cons w1 w2=>
  cases w2;cases w1 with
  |list ho hall=>refine⟨_,_,ns,rfl,rfl,ho,mV ns _ hall,o⟩
def BC(l:OpenLaw)(args):l.row.toRowW.claim.post args (.bool true) args=true:=
 postW_of (r:=l.row.toRowW) (X:=(true==true))
  (show WShape.has [] (.bool true) .bool=true by rfl)
  (show(WTm.eq .res (.lit (.bool true))).value [] {args:=args,res:=some (.bool true),after:=args}=some (.bool (true==true)) from w_eq_bool (w_res rfl) w_lit) rfl
def wA{l:OpenLaw}(X:l.most=some n)(H:d.params.defaults=[])(call:∀(w)(s₀ h)(mg C)(v)(o)(pm y m)(a)(vs)(ns),Ground q loose [] XP w s₀ mg C h.heap->YP w h.heap->h.heap.get? v=some o->o.data=.func (docDef d.name d.params d.body d.scope pm y m)->h.heap.CodeRec y d.name->mg d.name=some (.ref v)->h.heap.get? a=some {cls:=.type "list",data:=.seq vs.toArray}->IntsAre vs ns->ns.length<=n->h.gens=#[]->codeAny (model l.prog w) callerA (.call (.ref v) ⟨[.ref a],[]⟩) (λr x=>r=.ok (.ret (.bool true))/\OldK h.heap x.heap/\x.os=h.os/\AllBare x.gens) h):
  WalkO q loose XP YP l.row.toRowW d [] (λf vs=>PySem.call f vs):=by
 intro w s₀ h mg C G Y v o pm y m dV kV W hd I P F hg Q L as s O S E hlo;obtain rfl:dV=.none:=Dflts.none P H;obtain rfl:kV=.none:=Dflts.noKw P;let⟨a,vs,ns,rfl,rfl,t,j,u⟩:=BB X s E;refine enter_call (yax (call w s₀ h mg C v o pm y m a vs ns G Y W (fd_plain hd) I F t j u hg) λr x U=>?_);let⟨rfl,h2,h3,h4⟩:=U;refine⟨.inl ⟨.bool true,.bool true,[],rfl,λ_=>rfl,.bool true,BC l _,λ_=>⟨List.Pairwise.nil,λ_ Z=>(nomatch Z)⟩⟩,h2,h3,h4⟩
end Att
namespace L2
open PySem PySem.Spec PyProof.Rows
def iJ:∀{vs:List yai}{ns:List Int},IntsAre vs ns->Vals (ns.map V.int) vs:=by
 intro vs ns h
 induction h with
 |nil=>exact .nil
 |cons n t h ih=>exact .cons ⟨t,rfl⟩ ih
def PJ(H:Hp):Prop:=∀b,H b=none∨∃o a,H b=some (.Am o (.lst a))
theorem Fe(KX:K.In g.heap)(L:g.heap.Ns yaq mg)(E:g.heap.Ns builtinsNs W)(Z:∀x:Str,x≠"__name__"->W x=bootBuiltins x)(O:g.heap.NoLimit)(hg:g.gens=#[])(ha:g.heap.get? a=some {cls:=.type "list",data:=.seq vs.toArray})(hi:IntsAre vs ns)(hl:ns.length<=yag)(hr:bB k callerA)(F:∀base:Heap,K.In base->base.Ns yaq mg->eK P w K mg base CX k fa fd [x] sp)(C:∀(s)(u),yaB s fd ⟨[u],[]⟩ [(x,u)])(X:∀H:Hp,PJ H->dF K H a (ns.map V.int)->sp [.ref a] H (λv _=>v=.bl true) λ_ _ _=>False)(hCX:∀H e l,CX [] H g (λ_ _ _=>False) e l->False):
  codeAny (model P w) callerA (.call (.ref fa) ⟨[.ref a],[]⟩) (λr l=>r=.ok (.ret (.bool true))/\OldK g.heap l.heap/\l.os=g.os/\AllBare l.gens) g:=by
 have rv:=iJ hi;have ab:=hi.length;have y:∀H,PJ H->dF K H a (ns.map V.int)->iZ P w H g.heap->(∀b,H b≠none->b=a)->(H a≠none->K.lookup a=none)->
   codeAny (model P w) callerA (.call (.ref fa) ⟨[.ref a],[]⟩) (λr l=>r=.ok (.ret (.bool true))/\OldK g.heap l.heap/\l.os=g.os/\AllBare l.gens) g:=by
  intro H hO hS hok hA hK;have AU:∀{b:Addr}{o:Obj},g.heap.get? b=some o->H b=none->(vN g.heap H).get? b=some o:=λe n=>Fq e n;have U:∀{b:Addr}{o:Obj}{Q:Array yav}{S:Nat},g.heap.get? b=some o->o.data=.dict Q S->H b=none:=λ{b o Q S} e d=>by
   grind
  have t:∀{b:Addr}{m:Str->Option yai},g.heap.Ns b m->(vN g.heap H).Ns b m:=λ{b m} ⟨o,Q,S,e,d,r⟩=>⟨o,Q,S,AU e (U e d),d,r⟩
  have hKb  :=λb o e=>AU (KX b o e) (by
   grind)
  have hM:Mod K mg (vN g.heap H):=⟨hKb,t L,⟨W,t E,Z⟩,by let⟨mc,h1,h2⟩:=O;refine⟨mc,t h1,h2⟩⟩
  have e0:yY P w K mg (vN g.heap H) callerA [] g H:=⟨rfl,hM,λb o e=>IW e,Nat.le_of_eq (B5 _ _),trivial,λb E=>absurd (show b∈([]:List Addr) from E) (by simp),hok,.of_eq hg⟩
  refine yax ((F _ hKb (t L)).run callerA [] g H ⟨[.ref a],[]⟩ [.ref a] [.ref a] _ _ hr e0 (C g (.ref a)) (.cons rfl .nil) (X H hO hS)) λr l h=>?_;cases r with
  |error e=>exact(hCX H e l h).elim
  |ok fl=>
   cases fl with
   |next=>exact False.elim h
   |brk=>exact False.elim h
   |cont=>exact False.elim h
   |ret u=>
    let⟨v,H',os,bare,un,I,r',q⟩:=h;have q'  :=q;subst q';obtain rfl:u=Value.bool true:=r';refine⟨rfl,OldK.of_keep λb o e=>?_,os,bare⟩;cases q:H b with
    |none=>exact un.keep b o e q (by intro z;exact absurd (show b∈([]:List Addr) from z) (by simp)) (by simp)
    |some u=>
     obtain z|⟨ob,xs,z⟩:=hO b
     ·simp_all
     ·have z2:=un.qP b ob _ z;let⟨e1,_⟩:=hok b _ z;let⟨e2,_⟩:=I b _ z2;simp_all
 cases Y:K.lookup a with
 |some o=>
  have e:=KX a o Y;rw[ha] at e;cases e;refine y (λ_=>none) (λ_=>.inl rfl) (.inr ⟨_,vs.toArray,_,Y,rfl,rfl,rfl,by simp_all,by simpa using rv⟩) (λb u z=>by have G  :=z;cases G) (λb z=>absurd rfl z) λz=>absurd rfl z
 |none=>
  refine y (λb=>if b=a then some (.Am {cls:=.type "list",data:=.seq vs.toArray} (.lst (ns.map V.int))) else none) (λb=>?_) (.inl (.inr ⟨{cls:=.type "list",data:=.seq vs.toArray},yIp rfl⟩)) (λb u z=>?_) (λb z=>?_) λ_=>Y
  ·grind
  ·by_cases E:b=a
   ·have G:=(yIp E).symm.trans z;cases G;subst E;refine⟨ha,by simp_all,vs,_,rv,ha⟩
   ·have G:=(yIn E).symm.trans z;cases G
  simp_all
def HP{l:PySem.W.OpenLaw}{K:Params->yaJ}{CX:yak->HC}{sp:yak->Sp}(X:l.most=some n)(L:n<=yag)(P:d.params.defaults=[])(U:bB k callerA)(hY:∀(w)(h),YP w h->(K w.params).In h)(F:∀(w)(mg)(C)(h),(K w.params).In h->h.Ns yaq mg->mg d.name=some (.ref C)->∃fd:yap,(∀(s)(u),yaB s fd ⟨[u],[]⟩ [(x,u)])/\∀base:Heap,(K w.params).In base->base.Ns yaq mg->eK l.prog w (K w.params) mg base (CX w) k C fd [x] (sp w))(I:∀(w)(H)(a)(ns:List Int),ns.length<=n->PJ H->dF (K w.params) H a (ns.map V.int)->sp w [.ref a] H (λv _=>v=.bl true) λ_ _ _=>False)(Q:∀(w)(H)(s)(e)(E),CX w [] H s (λ_ _ _=>False) e E->False):
  PySem.W.WalkO q loose XP YP l.row.toRowW d [] (λf vs=>PySem.call f vs):=by
 refine Att.wA X P λw s₀ t mg mb C o pm cd doc a vs ns G Y ho hd hcd O y m j Z=>?_;have S:=hY w _ Y;let⟨fd,hb,hF⟩:=F w mg C _ S G.T.g O;exact Fe S G.T.g G.T.b G.T.builtins G.T.nolimit Z y m (zcH j L) U hF hb (λH hO hS=>I w H a ns j hO hS) λH e E=>Q w H t e E
noncomputable def inClass(s:Stmt)(j:Nat):Stmt:=match s with
 |.ClassDef _ _ _ body _ _ _ _ _ _ _=>body.getD j (.Pass ⟨0,0,0,0⟩)
 |_=>.Pass ⟨0,0,0,0⟩
noncomputable def cR(s:Stmt):Arguments:=match s with
 |.FunctionDef _ a _ _ _ _ _ _ _ _=>a
 |_=>{posonlyargs:=[],args:=[],vararg:=none,kwonlyargs:=[],kw_defaults:=[],kwarg:=none,defaults:=[]}
noncomputable def bE(s:Stmt):List Stmt:=match s with
 |.FunctionDef _ _ b _ _ _ _ _ _ _=>b
 |_=>[]
noncomputable def aj(s:Stmt):Scope:=match s with
 |.FunctionDef _ _ _ _ _ _ sc _ _ _=>sc
 |_=>{kind:=.function,names:=[],isGenerator:=false,isCoroutine:=false}
abbrev qD:HC:=λ_ _ _ _ _ _=>False
abbrev E0:XK:=λ_ _ _=>False
def zS:Passes qD X E0:=λ_ _ _ _ _ _ _ h=>h.elim
structure Hz(K:yaJ)(x qual:Str)(st:Stmt)(f:Addr)(fd:yap):Prop where
 ex:∃(oc:yai)(od:Option Addr)(kV doc pm:yai)(an:Option Addr)(cdv ct:yai)(osl:Array (Option yai)),
  fd=zcN x qual (cR st) (bE st) (aj st) .none kV doc pm an cdv ct/\K.lookup f=some ⟨oc,od,.func fd,osl⟩/\zco K cdv qual=true
 kp:zcn K (.ref f)=true
def Hz.ok(F:Hz K x qual st f fd)(S:aH N ps (aj st))(len:∀vs H Q E,sp vs H Q E->vs.length=ps.length)(j:∀(a)(A)(outer)(s)(H)(vs)(Q)(E),bB k (A.deeper (envOfC qual (aj st) s.heap.objs.size f a))->sp vs H Q E->∃t,yR (m5 qD P w K mg base N qual (aj st) f a A outer s H E).HH (bE st) t/\t {nx:=λ_ H'=>Q .bU H',rt:=Q} (start N vs) H):eK P w K mg base qD (k+1) f fd ps sp:=by
 let⟨oc,y,kV,v,pm,C,a,ct,n,rfl,o,m⟩:=F.ex;refine RJ o m S len λA outer s H vs Q E u l=>?_;let⟨t,h,q⟩:=j a A outer s H vs Q E u l;refine⟨t,h.HH,q⟩
def Hz.binds(F:Hz K x qual st f fd)(h:∀(kV a pm)(m)(j ct)(l),l.length=ps.length->yaA (zcN x qual (cR st) (bE st) (aj st) .none kV a pm m j ct) ⟨l,[]⟩=pure (ps.zip l)):Binds K fd ps []:=by
 let⟨oc,q,kV,a,pm,m,j,ct,n,rfl,s,o⟩:=F.ex;exact .all (h kV a pm m j ct)
def jo(l:K.lookup f=some ⟨oc,d,.func (zcN x qual (cR st) (bE st) (aj st) .none g o pm e q ct),osl⟩)(c:zco K q qual=true)(k:zcn K (.ref f)=true):Hz K x qual st f (zcN x qual (cR st) (bE st) (aj st) .none g o pm e q ct):=⟨⟨oc,d,g,o,pm,e,q,ct,osl,rfl,l,c⟩,k⟩
def dI(a:bB k A):A.units+1<cLine:=Nat.lt_of_le_of_lt (Nat.add_le_add_left (by decide:1<=64) _) a.units
def Ci:cG X (.builtin "len") (λl H Q=>∃a j,l=[V.ref a]/\H a=some (.dK j)/\Q (.int j.length) H):=by
 intro m s v H l x Q I r h;let⟨a,j,rfl,n,q⟩:=h;let⟨u,rfl,ru⟩:=vals1 r;cases ru;exact RO I (.inl n) λt y o=>⟨.int j.length,H,o,⟨t,rfl⟩,q⟩
def yl{A B:Prop}(h:B):if false=true then A else B:=by
 exact h
def yk{A B:Prop}(h:A):if true=true then A else B:=by
 exact h
def cz{c A B:Prop}[Decidable c](h1:c->A)(h2:¬c->B):if c then A else B:=by
 by_cases h:c
 ·rw[yIp h];exact h1 h
 ·rw[yIn h];exact h2 h
def gM(H H':Hp):Prop:=∀b o,H b=some o->H' b=some o
def gM.refl(H):gM H H:=λ_ _ h=>h
def gM.trans(a:gM H d)(b:gM d e):gM H e:=λc o h=>b c o (a c o h)
def gM.free(e:gM H H')(h:H' l=Option.none):H l=Option.none:=by
 cases q:H l with
 |none=>rfl
 |some o=>
  rw[e l o q] at h;cases h
def gM.seq(e:gM H H')(h:dF K H a xs):dF K H' a xs:=by
 rcases h with(h|⟨o,h⟩)|h
 ·exact .inl (.inl (e _ _ h))
 ·exact .inl (.inr ⟨o,e _ _ h⟩)
 ·exact .inr h
end L2
set_option maxHeartbeats 4000000
namespace L2
open PySem PySem.Spec PyProof.Rows
def iZ.uJ(ok:iZ P w H h)(a:H D=none)(new:bK P w (upd H D o) h D o):iZ P w (upd H D o) h:=λb u e=>by
 by_cases j:b=D
 ·subst j;rw[bW] at e;cases e;exact new
 ·rw[aR j] at e;refine(ok b u e).stay (λ_ _ _ q=>q) (λc q=>?_) (λc l q=>?_)
  ·rw[aR (bF q a)];exact q
  ·rw[aR (bF q a)];exact q
theorem Inv.uJ(I:Inv X pins σ H s)(j:H D=none)(G:X.s₀.heap.objs.size<=D)(F:D≠X.env.locals)(E:∀x c,X.env.cells.lookup x=some c->c≠D)(C:∀p∈X.pn++pins,p.1≠D)(new:bK X.prog X.w (upd H D o) s.heap D o):Inv X pins σ (upd H D o) s:=by
 refine⟨I.ok,I.os,I.bare,⟨I.base.keep,I.base.slot,λb l e n y=>?_,I.base.there,λb t e=>?_,λb l u e=>?_,λb v e=>?_⟩,I.loc,I.cell,?_,λx c e=>?_,λp h=>?_,I.hok.uJ j new,I.len⟩
 ·rw[aR (zcG (zbc (zcP e) G))];exact I.base.free b l e n y
 ·have q:=I.base.tups b t e;rw[aR (bF q j)];exact q
 ·have q:=I.base.qP b l u e;rw[aR (bF q j)];exact q
 ·let⟨m,q⟩:=I.base.sJ b v e;exact⟨m,by rw[aR (bF q j)];exact q⟩
 ·rw[aR (Ne.symm F)];exact I.free
 ·rw[aR (E x c e)];exact I.gG x c e
 ·let⟨e,n,a,b,d⟩:=I.pin p h;refine⟨e,by rw[aR (C p h)];exact n,a,b,d⟩
noncomputable def kc(env:Env):List (Str×NameKind)->List (Str×Addr)->List (Str×Addr)
 |[],acc=>acc
 |(n,k)::r,acc=>kc env r (if k==NameKind.free then(n,(env.cells.lookup n).getD 0)::acc else acc)
theorem jt(env):∀(l)(j),(∀n,(n,NameKind.free)∈l->∃c,env.cells.lookup n=some c)->
  (forIn l j (λ(x:Str×NameKind)(r:List (Str×Addr))=>if(x.2==NameKind.free)=true then(do let a <-cellOf env x.1;pure (ForInStep.yield ((x.1,a)::r))) else pure (ForInStep.yield r)):Sem (List (Str×Addr)))=pure (kc env l j)
 |[],j,_=>rfl
 |(n,k)::r,j,h=>by
  rw[List.forIn_cons];by_cases q:(k==NameKind.free)=true
  ·have e  :=by simpa using q
   subst e;let⟨c,s⟩:=h n zaV;have u:cellOf env n=pure c:=by unfold cellOf;rw[s]
   have t:((NameKind.free==NameKind.free)=true)=True:=by simp
   simp only[t,if_true,u,pure_bind];rw[jt env r _ λm o=>h m (zaC _ o)];show _=pure (kc env r (if(NameKind.free==NameKind.free)=true then(n,(env.cells.lookup n).getD 0)::j else j));simp_all
  ·simp only[yIn q,pure_bind];rw[jt env r _ λm o=>h m (zaC _ o)];show _=pure (kc env r (if(k==NameKind.free)=true then(n,(env.cells.lookup n).getD 0)::j else j));rw[yIn q]
def jc(h:∀n,(n,NameKind.free)∈scope.names->∃c,env.cells.lookup n=some c):closureFor scope env=pure (kc env scope.names []):=by
 unfold closureFor;have e:=jt env scope.names [] h;simp_all
theorem wc(env):∀(l)(a)(x)(c),(kc env l a).lookup x=some c->a.lookup x=some c∨(x,NameKind.free)∈l/\c=(env.cells.lookup x).getD 0
 |[],a,x,c,h=>.inl h
 |(n,k)::r,a,x,c,h=>by
  obtain e|⟨m,j⟩:=wc env r _ x c h
  ·grind
  simp_all
theorem pS(env):∀(l)(a)(x),((x,NameKind.free)∈l∨∃c,a.lookup x=some c)->∃c,(kc env l a).lookup x=some c
 |[],a,x,h=>by
  obtain h|h:=h
  ·simp at h
  ·exact h
 |(n,k)::r,a,x,h=>by
  refine pS env r _ x ?_;obtain h|⟨c,h⟩:=h
  ·obtain e|e:=zcq.mp h
   ·simp_all
   ·exact .inl e
  grind
theorem ig{scope:Scope}{env:Env}{x:Str}{k:NameKind}:∀{names:List (Str×NameKind)},(names.map λ(n,k)=>if(k==NameKind.free&&env.scope.kind== .function&&env.kindOf n==some .cell) then(n,NameKind.cell) else(n,k)).lookup x=some k->
  names.lookup x=some k∨(k=.cell/\names.lookup x=some .free)
 |[],h=>by simp at h
 |(n,j)::r,h=>by
  have a:=@ig scope env x k r
  grind
theorem jK{scope:Scope}{env:Env}{x:Str}:∀{names:List (Str×NameKind)},names.lookup x=some .free->∃k,(k=NameKind.cell∨k=.free)/\
  (names.map λ(n,k)=>if(k==NameKind.free&&env.scope.kind== .function&&env.kindOf n==some .cell) then(n,NameKind.cell) else(n,k)).lookup x=some k
 |[],h=>by simp at h
 |(n,j)::r,h=>by
  have l:=@jK scope env x r;rw[zbD] at h;rw[zcs,zbD];by_cases m:(j==NameKind.free&&env.scope.kind== .function&&env.kindOf n==some .cell)=true
  ·simp only[m,if_true];cases a:x==n with
   |true=>refine⟨.cell,.inl rfl,rfl⟩
   |false=>rw[a] at h;exact l h
  ·simp only[yIn m];cases a:x==n with
   |true=>rw[a] at h;refine⟨.free,.inr rfl,h⟩
   |false=>rw[a] at h;exact l h
noncomputable def uf(caps:List (Option Nat))(a:St):St:=caps.map λo=>o.bind λi=>(a[i]?).getD none
noncomputable def kh(XN:List Str)(env:Env)(scope:Scope)(N:List Str)(caps:List (Option Nat)):Bool:=
 caps.length==N.length&&(caps.zip N).all λp=>match p.1 with
  |none=>scope.names.lookup p.2==some .local
  |some i=>XN[i]? ==some p.2&&scope.names.lookup p.2==some .free&&(env.scope.names.lookup p.2==some .cell||env.scope.names.lookup p.2==some .free)
noncomputable def jv(X:Cx)(scope:Scope)(N:List Str)(s₀:yah)(H₀:Hp)(C:Addr)(fp:List Addr):Cx where
 prog:=X.prog
 w:=X.w
 K:=X.K
 mg:=X.mg
 base:=X.base
 A:=X.A
 N:=N
 s₀:=s₀
 H₀:=H₀
 env:=compEnvC scope (kc X.env scope.names []) C X.env
 outer:=X.stack
 stack:=X.stack
 ex:=fp
 fn:=λ_=>false
 calm:=X.calm
 pn:=[]
 xe:=λ_ _=>False
structure fj(scope:Scope)(N:List Str):Prop where
 kind:scope.kind=.function
 nd:N.Nodup
 EM:∀y∈scope.names,y.2≠ .cell
 names:∀y∈scope.names,scope.names.lookup y.1=some y.2
def Gb(h:kh XN env scope N caps=true):
  caps.length=N.length/\∀(j i:Nat)(x),caps[j]? =some (some i)->N[j]? =some x->XN[i]? =some x/\scope.names.lookup x=some .free/\(env.kindOf x=some .cell∨env.kindOf x=some .free):=by
 unfold kh at h;rw[zbR] at h;let⟨h1,h2⟩:=h;refine⟨by simpa using h1,λj i x m l=>?_⟩;have a:(some i,x)∈caps.zip N:=by
  refine zaF (i:=j) ?_;rw[zah];exact⟨m,l⟩
 have q:=zbE.mp h2 _ a;simp only[zbR,Bool.or_eq_true,beq_iff_eq] at q;refine⟨q.1.1,q.1.2,q.2⟩
def Inv.block{N:List Str}{s1:yah}{h1:Heap}{tk:Nat}{m:Str->Option yai}(S:fj scope N)(F:kh X.N X.env scope N caps=true)(W:∀n,(n,NameKind.free)∈scope.names->∃c,X.env.cells.lookup n=some c)(I:Inv X pins σ H s)(O:∀b∈fp,nu X pins H b)(Y:∀b∈fp,b<s.heap.objs.size)(hC:s.heap.objs.size<=C)(L:∀b o,s.heap.get? b=some o->h1.get? b=some o)(hn:h1.Ns C m):
  Inv (jv X scope N s H C fp) [] (uf caps σ) H {s with heap:=h1,toks:=tk}:=by
 obtain⟨ab,hat⟩:=Gb F;have h:∀x c,(kc X.env scope.names []).lookup x=some c->X.env.cells.lookup x=some c:=λx c e=>by
  obtain z|⟨z1,z2⟩:=wc X.env scope.names [] x c e
  ·simp at z
  grind
 have Uc:∀x,((compEnvC scope (kc X.env scope.names []) C X.env).kindOf x=some .cell∨(compEnvC scope (kc X.env scope.names []) C X.env).kindOf x=some .free)->(x,NameKind.free)∈scope.names:=λx P=>by
  have t:∀k,(compEnvC scope (kc X.env scope.names []) C X.env).kindOf x=some k->scope.names.lookup x=some k∨(k=.cell/\scope.names.lookup x=some .free):=λk e=>ig (scope:=scope) e;obtain e|e:=P
  ·obtain z|⟨_,z⟩:=t _ e
   ·exact absurd rfl (S.EM _ (PySem.mem_of_lookup z))
   ·exact PySem.mem_of_lookup z
  ·obtain z|⟨z,_⟩:=t _ e
   ·exact PySem.mem_of_lookup z
   lia
 refine⟨⟨I.ok.mod,S.kind,I.ok.glob,I.ok.blt,hC,λx y c e1 e2=>I.ok.inj x y c (h x c e1) (h y c e2),λx P=>?_,λx c z _=>absurd (show false=true from z) zbe,I.ok.hd,I.ok.frames,.inl rfl,λb a=>?_,I.bs,zcH I.ok.JR I.sz,λb o e a=>?_,λb a hb2=>?_,I.stack,I.zh⟩,rfl,I.bare,Un.kept L,⟨m,hn,λj x v e1 e2 e3=>?_⟩,λx c e=>?_,I.hok.fresh hC,λx c e=>I.gG x c (h x c e),λp hp=>absurd (show p∈([]:List (Addr×Obj)) from hp) (by simp),I.hok.kept L,?_⟩
 ·exact pS X.env scope.names [] x (.inl (Uc x P))
 ·exact⟨zcG (zbc (Y b a) hC),λx c e=>(O b a).2.2.2.2.1 x c (h x c e)⟩
 ·rcases(O b a).2.2.2.1 with z|z
  ·exact I.ok.EK b o e z
  ·exact absurd (zbc (zcP e) (zcH I.ok.JR z)) (zcv _)
 ·obtain z|z:=zcq.mp (I.n8 b hb2)
  ·exact(O b a).2.1 z
  ·exact(O b a).2.2.1 z
 ·have e2'  :=e2;unfold uf at e2';rw[zbl] at e2';cases hc:caps[j]? with
  |none=>rw[hc] at e2';cases e2'
  |some o=>
   rw[hc] at e2';cases o with
   |none=>cases e2'
   |some i=>
    have e5:σ[i]? =some (some v):=by
     cases q:σ[i]? with
     |none=>simp_all
     |some y=>simp_all
    obtain⟨a1,a2,a3⟩:=hat j i x hc e1;obtain⟨mX,hnX,hl⟩:=I.loc;obtain⟨u,r,l⟩:=hl i x v a1 e5 (a3.elim (λz=>.inr (.inl z)) λz=>.inr (.inr z));refine⟨u,r,.inr ?_⟩;obtain⟨c,Z,cell⟩:∃c,X.env.cells.lookup x=some c/\s.heap.IsCell c (some u):=by
     rcases l with⟨k,_⟩|⟨_,z⟩
     ·rw[k] at a3;obtain z|z:=a3<;>cases z
     ·exact z
    obtain⟨k,U,E⟩:=jK (scope:=scope) a2;obtain⟨c',G⟩:=pS X.env scope.names [] x (.inl (PySem.mem_of_lookup a2));have hcc  :=zcU.inj ((h x c' G).symm.trans Z);subst hcc;refine⟨?_,c',G,?_⟩
    ·obtain z|z:=U
     ·subst z;exact .inl E
     ·subst z;exact .inr E
    ·obtain⟨o,Q,hd⟩:=cell;exact⟨o,L _ _ Q,hd⟩
 ·obtain⟨v,o,Q,hd⟩:=I.cell x c (h x c e);exact⟨v,o,L _ _ Q,hd⟩
 ·show(uf caps σ).length=N.length;unfold uf;simp_all
theorem iw(I:Nat->yah->Prop)(turn:∀n s,I n s->yar (model prog w) A (pyNext it) (λr o=>match r with
   |none=>R (.ok .next) o
   |some v=>yar (model prog w) A (letOwnedTupleGo d it v) (λ_ l=>yar (model prog w) A (assign d env v) (λ_ y=>yar (model prog w) A (forIn ifs true λc r=>if r=true then do let ok <-isTrue c env (eval c env);pure (ForInStep.yield ok) else pure (ForInStep.yield r)) (λok j=>if ok=true then yar (model prog w) A (eval O env) (λx u=>yar (model prog w) A (call (.builtin "list.append") [e,x]) (λ_ t=>∃m,m<n/\I m t) (λ_ _=>False) u) (λ_ _=>False) j else∃m,m<n/\I m j) (λ_ _=>False) y) (λ_ _=>False) l) (λ_ _=>False) o) (λ_ _=>False) s)(n)(h:I n s):
  codeAny (model prog w) A (.compLoop (.ListComp O [⟨d,iter,ifs,0⟩] scope pos) 0 it e env) R s:=by
 refine codeAny_loop rfl I (λn s Q=>?_) n h;refine wpAny_noted ?_;refine wpAny_noRaise ?_;refine yaa (yay (yaa (yac (turn n s Q) (λr o E=>?_) λ_ _ q=>q)));cases r with
 |none=>exact yab E
 |some v=>
  refine yaa (yac E (λ_ l F=>?_) λ_ _ q=>q);refine yaa (yac F (λ_ y L=>yaa (yac L (λok j C=>?_) λ_ _ q=>q)) λ_ _ q=>q);cases ok with
  |false=>exact yab ⟨rfl,C⟩
  |true=>
   exact yaa (yaa (yac C (λx u H=>yaa (yac H (λ_ t G=>yab (yab ⟨rfl,G⟩)) λ_ _ q=>q)) λ_ _ q=>q))
def LZ(X:Cx)(j:List Expr)(t:TT):Prop:=
 ∀(a)(s)(h:St)(H)(Q),Inv X a h H s->t h H Q->
  yar (model X.prog X.w) X.A (forIn j true λc r=>if r=true then do let ok <-isTrue c X.env (eval c X.env);pure (ForInStep.yield ok) else pure (ForInStep.yield r)) (TP X a h Q) X.xe s
def P9:TT:=λ_ H Q=>Q true H
def bX:LZ X [] P9:=λ_ _ _ H _ I h=>wpAny_tests_nil ⟨H,I,h⟩
def cN(h:PT X d e):LZ X [d] e:=λa s j H Q I hw=>wpAny_tests_one (h a s j H Q I hw)
def KU(J:It)(g:TG)(u:TT)(y:TE)(n:St)(H:Hp)(C:List V->Hp->Prop):Prop:=
 ∃W:Nat->Nat->List V->St->Hp->Prop,(∃m,W 0 m [] n H)/\∀i m j o H,W i m j o H->
  (J.stop i H/\C j H)∨(J.go i H/\∃M:List V->St->Hp->Prop,(∀q h l,M q h l->∃s,s<m/\W (i+1) s q h l)/\∀x l,J.HN i H x l->g x o l λa F=>u a F λb t=>if b=true then y a t λv E=>j.length<yag/\M (j++[v]) a E else M j a t)
noncomputable abbrev lobj(its:List yai)(k:Nat):Obj:={cls:=.type "list",data:=.seq its.toArray k}
def vY{elt:Expr}{N:List Str}{g:TG}{tt:TT}{J:It}{it:Addr}{tn:Nat->Heap->Prop}{L:Hp}{j:yah}{Qd:List V->Hp->Prop}{RR:yai->Addr->Result->yah->Prop}(S:fj scope N)(an:kh X.N X.env scope N caps=true)(ae:∀n,(n,NameKind.free)∈scope.names->∃c,X.env.cells.lookup n=some c)(hc:X.calm=true)(hg:∀s₀ H₀ C fp,PG (jv X scope N s₀ H₀ C fp) tg g)(ht:∀s₀ H₀ C fp,LZ (jv X scope N s₀ H₀ C fp) ifs tt)(he:∀s₀ H₀ C fp,PE (jv X scope N s₀ H₀ C fp) elt te)(Y:Inv X pins σ L j)(T:Turn X.prog X.w X.K tg J fp it tn)(st2:tn 0 j.heap)(f2:∀b∈fp,nu X pins L b)(h:KU J g tt te (uf caps σ) L Qd)(hRR:∀(D C) m t H (Q),Inv X pins σ (upd H D (.lst t)) Q->H D=none->Q.heap.Ns C m->nu X pins (upd H D (.lst t)) C->Qd t H->RR (.ref D) C (.ok .next) Q):
  yar (model X.prog X.w) X.A (newList []) (λacc F=>yar (model X.prog X.w) X.A (newFunctionEnv scope X.env.globals (kc X.env scope.names []) [] X.env.qual none .none (some X.env)) (λac ag=>codeAny (model X.prog X.w) X.A (.compStart (.ListComp elt [⟨tg,iter,ifs,0⟩] scope pos) 0 (.ref it) acc {ac with scope:=relabel scope X.env}) (RR acc ac.locals) ag) E F) E j:=by
 have Z:∀b∈fp,b<j.heap.objs.size:=λb l=>by
  let⟨o,e,_⟩:=T.obj 0 j.heap st2 b l;exact zcP e
 refine yae (wpAny_newFunctionEnv S.EM (by simp) (λak hns hsb=>?_) S.kind);generalize hHD:j.heap.push {cls:=.type "list",dict:=none,data:=.seq ([]:List yai).toArray}=HD at hns hsb⊢;have hC:HD.objs.size=j.heap.objs.size+1:=by rw[<-hHD,zcp]
 have hDC:j.heap.objs.size≠HD.objs.size:=by simp_all
 have OL:j.heap.objs.size<=HD.objs.size:=by simp_all
 have old  :=λb o e=>
  hsb.extBut b o (by rw[hC];exact zcG (zbs (zcP e))) (zas _ (hHD▸zas _ e))
 have hacc  :=hsb.extBut _ _ hDC (zas _ (hHD▸zaS _ rfl));let⟨W,⟨m0,w0⟩,turn⟩:=h;have IY0:=Inv.block (s1:=j) (tk:=j.toks+([]:List (Str×yai)).length) S an ae Y f2 Z OL old hns;have freshD  :=Y.hok.fresh (zcR _);have Lq:∀{G:St}{O:Hp}{s':yah}{a:List yai}{k:Nat},Inv (jv X scope N j L HD.objs.size fp) [] G O s'->O j.heap.objs.size=none->s'.heap.get? j.heap.objs.size=some (lobj a k)->
   Inv (jv X scope N j L HD.objs.size fp) [(j.heap.objs.size,lobj a k)] G O s':=λ{G O s' a k} I hn e=>I.jN λp U=>by
  have ep  :=by simpa using U
  subst ep;refine⟨e,hn,hDC,λz=>by
   obtain q|q:=zcq.mp (Y.n8 _ z)
   ·exact absurd (q▸Y.lt) (zcv _)
   ·exact Y.Rh (zcR _) q,λv z=>by cases z⟩
 have fY:∀{O:Hp}{a:List yai}{k:Nat},(∀b∈fp,O b=none)->∀b∈fp,nu (jv X scope N j L HD.objs.size fp) [(j.heap.objs.size,lobj a k)] O b:=λ{O a k} hn b l=>by
  have z:=f2 b l;refine⟨hn b l,zcG (zbc (Z b l) OL),λq=>?_,.inl l,λx c e=>IY0.ok.UH b l |>.2 x c e,λp U=>?_⟩
  ·obtain q|q:=zcq.mp (Y.n8 b q)
   ·exact z.2.1 q
   ·exact z.2.2.1 q
  ·have ep:p=(j.heap.objs.size,lobj a k):=by
    have:p∈[]++[(j.heap.objs.size,lobj a k)]:=U;simp_all
   subst ep;exact zcJ (Z b l)
 have fin:∀{G:St}{H:Hp}{Q:yah}{t:List V}{a:List yai}{k:Nat},Inv (jv X scope N j L HD.objs.size fp) [(j.heap.objs.size,lobj a k)] G H Q->Vals t a->t.length<=yag->Qd t H->
   RR (.ref j.heap.objs.size) HD.objs.size (.ok .next) Q:=λ{G H Q t a k} I r hz q=>by
  have hD:=I.pin (j.heap.objs.size,lobj a k) (by simp);have IX  :=Y.Sw I.os I.base I.hok I.bare λb l=>⟨(f2 b l).2.2.2.1,(f2 b l).2.1,(f2 b l).2.2.2.2.1,(f2 b l).2.2.2.2.2⟩
  have fD  :=Y.Fy (zcR _) hD.2.1;have fC  :=Y.Fy OL I.free;have IT:Inv X pins σ (upd H j.heap.objs.size (.lst t)) Q:=IX.uJ hD.2.1 Y.sz fD.2.1 (λx c e=>fD.2.2.2.2.1 x c e) (λp U=>fD.2.2.2.2.2 p U) ⟨hz,a,k,r,hD.1⟩;let⟨m,hn,_⟩:=I.loc;exact hRR _ _ m t H Q IT hD.2.1 hn ⟨by rw[aR (Ne.symm hDC)];exact fC.1,fC.2⟩ q
 have ab:∀F,F={j with heap:=ak,toks:=j.toks+([]:List (Str×yai)).length}->
   codeAny (model X.prog X.w) X.A (.compLoop (.ListComp elt [⟨tg,iter,ifs,0⟩] scope pos) 0 (.ref it) (.ref j.heap.objs.size) (compEnvC scope (kc X.env scope.names []) HD.objs.size X.env)) (RR (.ref j.heap.objs.size) HD.objs.size) F:=by
  rintro F rfl;refine iw (λn s'=>∃i t a k G O,Inv (jv X scope N j L HD.objs.size fp) [(j.heap.objs.size,lobj a k)] G O s'/\tn i s'.heap/\(∀b∈fp,O b=none)/\Vals t a/\t.length<=yag/\W i n t G O) ?_ m0
   ⟨0,[],[],0,_,_,Lq IY0 freshD hacc,T.keep 0 _ _ st2 λb _ o e=>old b o e,λb l=>(f2 b l).1,.nil,zcS _,w0⟩
  intro n s3 zz;let⟨i,t,a,k,G,H,I3,st3,fr3,r3,z3,w3⟩:=zz;rcases turn i n t G H w3 with⟨stop,qn⟩|⟨go,M,hM,step⟩
  ·refine yac (T.done (jv X scope N j L HD.objs.size fp) rfl rfl rfl hc i _ s3 G H (λ_ _=>False) I3 (fY fr3) st3 stop) (λr Q s=>?_) λ_ _ z=>z;let⟨hr,I4⟩:=s;subst hr;exact fin I4 r3 z3 qn
  ·refine yac (T.item (jv X scope N j L HD.objs.size fp) rfl rfl rfl hc i _ s3 G H (λ_ _=>False) I3 (fY fr3) st3 go) (λr Q s=>?_) λ_ _ z=>z;let⟨u,hr,h4⟩:=s;subst hr;refine yac h4 (λ_ s5 s=>?_) λ_ _ z=>z;let⟨x,H5,I5,r5,y5,st5,fr5⟩:=s;have I5':=I5.pinned (fY fr5) (T.obj _ _ st5);have LD:∀{τ7:St}{H7:Hp}{s7:yah},Inv (jv X scope N j L HD.objs.size fp) ([(j.heap.objs.size,lobj a k)]++jk fp s5.heap) τ7 H7 s7->tn (i+1) s7.heap/\∀b∈fp,H7 b=none:=λ{τ7 H7 s7} I7=>by
    refine⟨T.keep _ _ _ st5 λb l o e=>(I7.pin (b,o) (zav _ (zav _ (gy l e)))).1,λb l=>?_⟩;let⟨o,e,d⟩:=T.obj _ _ st5 b l;exact(I7.pin (b,o) (zav _ (zav _ (gy l e)))).2.1
   refine yac (hg _ _ _ _ _ s5 G H5 x u _ I5' r5 (step x H5 y5)) (λ_ s6 s=>?_) λ_ _ z=>z;let⟨P,H6,I6,q6⟩:=s;refine yac (ht _ _ _ _ _ s6 P H6 _ I6 q6) (λok s7 s=>?_) λ_ _ z=>z;let⟨H7,I7,q7⟩:=s;cases ok with
   |false=>
    let⟨m',hm,w7⟩:=hM _ _ _ q7;let⟨a1,a2⟩:=LD I7;refine⟨m',hm,i+1,t,a,k,P,H7,I7.fV,a1,a2,r3,z3,w7⟩
   |true=>
    refine yac (he _ _ _ _ _ s7 P H7 _ I7 q7) (λv s8 s=>?_) λ_ _ z=>z;let⟨y,H8,I8,r8,q8⟩:=s;let⟨hz,q8⟩:=q8;let⟨m',hm,w8⟩:=hM _ _ _ q8;let⟨a1,a2⟩:=LD I8;have hD:=I8.pin (j.heap.objs.size,lobj a k) (zav _ (zaD _ (by simp)));have ap:=r3.length;refine wpAny_list_append_plain ⟨k,hD.1⟩ (λh' U hs=>?_) (by simp_all);let⟨k',U⟩:=U;have I9:Inv (jv X scope N j L HD.objs.size fp) [] P H8 {s8 with heap:=h'}:=
     (I8.jN (by simp)).turned (λb o l e=>(hs.2 b l).trans e) hD.2.1 hD.2.2.1 (.inr (zcR _))
      (λx c e z=>by
       let⟨v,o,ho,hd⟩:=I8.cell x c e;lia) (by intro p U;exact absurd (show p∈([]:List (Addr×Obj))++[] from U) (by simp))
    have hp':({s8 with heap:=h'}:yah).heap.get? j.heap.objs.size=some (lobj (a++[v]) k'):=by
     simp_all
    have hkt  :=T.keep _ _ _ a1 λb l o e=>(hs.2 b (zcG (Z b l))).trans e;refine⟨m',hm,i+1,t++[y],a++[v],k',P,H8,Lq I9 hD.2.1 hp',hkt,a2,r3.append (.cons r8 .nil),?_,w8⟩;rw[zaU];exact hz
 exact codeAny_compStart_list (ab _ rfl) (T.self X.A 0 _ _ _ (T.keep 0 _ _ st2 λb _ o e=>old b o e) (ab _ rfl))
noncomputable def freeOk(env:Env)(scope:Scope):Bool:=scope.names.all λp=>p.2 != .free||env.scope.names.lookup p.1==some .cell||env.scope.names.lookup p.1==some .free
theorem Inv.freeOk(I:Inv X pins σ d s)(h:freeOk X.env e=true):∀n,(n,NameKind.free)∈e.names->∃c,X.env.cells.lookup n=some c:=λn a=>by
 have q:=zbE.mp h _ a;simp only[Bool.or_eq_true,beq_iff_eq] at q;refine I.ok.has n ?_;rcases q with(q|q)|q
 ·simp_all
 ·exact .inl q
 ·exact .inr q
def C3(caps:List (Option Nat))(l:TI)(g:TG)(m:TT)(n:TE):TE:=λa H Q=>l a H λJ o=>KU J g m n (uf caps a) o λj h=>∀p,h p=none->Q (.ref p) (upd h p (.lst j))
def iQ(S:fj scope N)(l:kh X.N X.env scope N caps=true)(j:L2.freeOk X.env scope=true)(hc:X.calm=true)(Y:PI X tg iter k)(Z:∀s₀ H₀ C fp,PG (jv X scope N s₀ H₀ C fp) tg g)(P:∀s₀ H₀ C fp,LZ (jv X scope N s₀ H₀ C fp) ifs F)(he:∀s₀ H₀ C fp,PE (jv X scope N s₀ H₀ C fp) d te)(U:∀x,foldedSetIterable iter X.env x=pure x:=by intro _;rfl):PE X (.ListComp d [⟨tg,iter,ifs,0⟩] scope pos) (C3 caps k g F te):=by
 intro a s G H Q I h;refine wpAny_comprehension_free rfl U (jc (I.freeOk j)) S.kind (λx O y=>y▸S.names x O) ?_;refine cB (Y a s G H _ I h) λv s1 h1=>cB h1 λL s2 h2=>?_;let⟨it,fp,tn,J,H2,rfl,I2,T,u,f2,y⟩:=h2;refine vY S l (I.freeOk j) hc Z P he I2 T u f2 y ?_;intro D C m xs H3 s4 IT hD W n q;refine⟨m,W,λh' sb=>⟨.ref D,_,?_,rfl,q D hD⟩⟩;exact IT.turned (λb o hb e=>(sb.2 b hb).trans e) n.1 n.2.1 n.2.2.2.1 n.2.2.2.2.1 n.2.2.2.2.2
def jj(hN:X.N.Nodup)(P:X.N[i]? =some x)(y:X.env.scope.names.lookup x=some .local)(S:fj scope N)(u:kh X.N X.env scope N caps=true)(t:L2.freeOk X.env scope=true)(hc:X.calm=true)(hi:PI X tg iter Z)(hg:∀s₀ H₀ C fp,PG (jv X scope N s₀ H₀ C fp) tg g)(ht:∀s₀ H₀ C fp,LZ (jv X scope N s₀ H₀ C fp) ifs tt)(he:∀s₀ H₀ C fp,PE (jv X scope N s₀ H₀ C fp) d te)(G:autoParam (yat (.ListComp d [⟨tg,iter,ifs,0⟩] scope pos) (some (.Name x pos')) k.line X.env=pure true) r0)(hs:∀x,foldedSetIterable iter X.env x=pure x:=by intro _;rfl):PS X (.Assign [.Name x pos'] (.ListComp d [⟨tg,iter,ifs,0⟩] scope pos) k) (C5 (C3 caps Z g tt te) (Ai i)):=by
 intro j s Y H D I h;rw[exec_Assign_Name_used _ _ _ _ G];refine yaa (yay (yaa ?_));refine yaa (yac (wpAny_comprehension_free rfl hs (jc (I.freeOk t)) S.kind (λx y O=>O▸S.names x y) (cB (hi j s Y H _ I h) λv s1 h1=>cB h1 λitv s2 h2=>?_)) (λ_ s' hq=>yab (yab hq)) λ_ _ e=>e);let⟨it,fp,tn,J,H2,rfl,I2,T,E,f2,O⟩:=h2;refine vY S u (I.freeOk t) hc hg ht he I2 T E f2 O ?_;intro W C m xs H3 s4 IT hD hn l q;let⟨F,es,ep,L,Q,rC⟩:=id hn;have IP:Inv X (j++[(C,F)]) Y (upd H3 W (.lst xs)) s4:=IT.jN λp hp=>(zbU.mp hp).elim (λz=>IT.pin p (zav _ z)) λz=>by
  have e  :=by simpa using z
  subst e;refine⟨L,l.1,l.2.1,l.2.2.1,λv z=>by simp_all⟩
 refine wpAny_assign_Name (jB (v:=.ref W) IP hN P (.inl y) rfl (λs5 I5=>?_) (.inr y));have U:=I5.pin (C,F) (zav _ (zav _ (by simp)));refine⟨m,⟨F,es,ep,U.1,Q,rC⟩,λh' sb=>⟨_,_,?_,q W hD⟩⟩;exact I5.fV.turned (λb o hb e=>(sb.2 b hb).trans e) l.1 l.2.1 l.2.2.2.1 l.2.2.2.2.1 l.2.2.2.2.2
mutual
def dH(K:yaJ)(H:Hp):yam->V->Prop
 |.none,v=>v=.bU
 |.bool b,v=>v=.bl b
 |.int i,v=>v=.int i
 |.str x,v=>v=.str x
 |.list ds,v=>∃a h,v=.ref a/\dF K H a h/\kL K H ds h
 |.tuple ds,v=>∃a h,v=.ref a/\eO K H a h/\kL K H ds h
 |.dict _,_=>False
def kL(K:yaJ)(H:Hp):List yam->List V->Prop
 |[],xs=>xs=[]
 |d::ds,xs=>∃x r,xs=x::r/\dH K H d x/\kL K H ds r
end
def eO.same(e:∀b o,H b=some o->H' b=some o)(h:eO K H a xs):eO K H' a xs:=by
 rcases h with(h|⟨o,h⟩)|h
 ·exact .inl (.inl (e _ _ h))
 ·exact .inl (.inr ⟨o,e _ _ h⟩)
 ·exact .inr h
section
variable {σ:St}
mutual
theorem Inv.reads(I:Inv X pins σ H s):∀(d:yam)(v:V)(u:yai),dH X.K H d v->RelV v u->∃as,Reads s.heap u d as
 |.none,v,u,h,r=>by
  simp only[dH] at h;subst h;cases r;exact⟨_,.none⟩
 |.bool b,v,u,h,r=>by
  simp only[dH] at h;subst h;cases r;exact⟨_,.bool b⟩
 |.int i,v,u,h,r=>by
  simp only[dH] at h;subst h;let⟨t,rfl⟩:=r;exact⟨_,.int i t⟩
 |.str x,v,u,h,r=>by
  simp only[dH] at h;subst h;let⟨t,rfl⟩:=r;exact⟨_,.str x t⟩
 |.list ds,v,u,h,r=>by
  simp only[dH] at h;let⟨a,l,rfl,h2,C⟩:=h;cases r;let⟨j,m,⟨o,n,e,y,_,hd⟩,_⟩:=I.list h2;let⟨as,q⟩:=Inv.readsAll I ds l j C m;exact⟨_,.list e y hd (by simpa using q)⟩
 |.tuple ds,v,u,h,r=>by
  simp only[dH] at h;let⟨a,l,rfl,h2,C⟩:=h;cases r;let⟨j,m,⟨o,e,y,n,hd⟩,_⟩:=I.tuple h2;let⟨as,q⟩:=Inv.readsAll I ds l j C m;exact⟨_,.tuple e y hd (by simpa using q)⟩
 |.dict _,_,_,h,_=>by simp only[dH] at h
theorem Inv.readsAll(I:Inv X pins σ H s):∀(ds:List yam)(a:List V)(j:List yai),kL X.K H ds a->Vals a j->∃as,ReadsAll s.heap j ds as
 |[],a,j,h,r=>by
  simp only[kL] at h;subst h;cases r;exact⟨_,.nil⟩
 |d::ds,a,j,h,r=>by
  simp only[kL] at h;let⟨x,l,rfl,h2,n⟩:=h;cases r with
  |cons r1 r2=>
   let⟨as,m⟩:=Inv.reads I d x _ h2 r1;let⟨bs,q2⟩:=Inv.readsAll I ds l _ n r2;exact⟨_,.cons m q2⟩
end
def Uj(K:yaJ):List V->Hp->VK->Prop:=λh H Q=>∃x c t u b,h=[x,c]/\RelV c u/\(∀a,RelV c a->a=u)/\kq K H x t/\PySem.W.kitOne K t u=some b/\Q (.bl b) H
def Ge:cG X (.builtin "isinstance") (Uj X.K):=by
 intro j s σ H y C Q I r h;let⟨x,c,t,u,b,rfl,E,m,ty,e,q⟩:=h;let⟨v,l,rfl,o,a⟩:=vals2 r;cases m l a;exact B0 I o ty e λn=>⟨.bl b,H,I.tok n,rfl,q⟩
def El:RelV (.ty d) (.type d)/\∀a,RelV (.ty d) a->a=.type d:=⟨rfl,λa h=>h⟩
theorem yH:∀{bs:List Bool}{its:List yai},Vals (bs.map V.bl) its->its=bs.map Value.bool
 |[],_,.nil=>rfl
 |b::bs,_,.cons r t=>by rw[zcs,yH t,show _=Value.bool b from r]
def all_range(bs:List Bool):(zcV bs.length).all (λi=>bs.getD i true)=bs.all id:=by
 induction bs with
 |nil=>rfl
 |cons b r ih=>
  rw[zbB,List.range_succ_eq_map,zct,zcB,zct];have e:((λi=>(b::r).getD i true) ∘ Nat.succ)=λi=>r.getD i true:=by funext i;simp
  rw[e,ih];simp
def any_range(bs:List Bool):(zcV bs.length).any (λi=>bs.getD i true)=bs.any id:=by
 induction bs with
 |nil=>rfl
 |cons b r ih=>
  rw[zbB,List.range_succ_eq_map,zcr,zcC,zcr];have e:((λi=>(b::r).getD i true) ∘ Nat.succ)=λi=>r.getD i true:=by funext i;simp
  rw[e,ih];simp
def AL(m:s.heap.IsList l its)(h:∀a:yah,a={s with heap:=s.heap.push {cls:=.type "list_iterator",data:=.fields #[.ref l,.int 0 0]}}->(a.heap.IsListIter s.heap.objs.size l 0/\a.heap.IsList l its)->l≠s.heap.objs.size->Q (.ref s.heap.objs.size) a):
  yar (model X.prog X.w) A (pyIter (.ref l)) Q E s:=by
 have j:l<s.heap.objs.size:=by let⟨_,e,_⟩:=m;exact zcP e
 exact wpAny_pyIter_list m (h _ rfl ⟨⟨_,zaS _ rfl,rfl,rfl⟩,m.push _⟩ (zcG j))
def Gf(L:X.calm=true):cG X (.builtin "all") (λt H Q=>∃(a:Addr)(bs:List Bool),t=[.ref a]/\dF X.K H a (bs.map V.bl)/\Q (.bl (bs.all id)) H):=by
 intro y s σ H t U Q I r h;let⟨a,bs,rfl,O,q⟩:=h;let⟨u,rfl,ru⟩:=vals1 r;cases ru;let⟨F,E,pl,hz⟩:=I.list O;have P:=yH E;subst P;refine call_all_walk (AL pl.isList λx e st m=>?_);subst e;refine⟨_,_,_,_,_,_,λi=>bs.getD i true,rfl,Walks.list (A:=X.A.in1) (I.ok.hd L) _ a m _,st,λi v s S Y j l=>?_,λW C G=>?_⟩
 ·have j:(bs.map Value.bool).toArray[i]? =some v:=j;rw[List.getElem?_toArray,zbl] at j;cases n:bs[i]? with
  |none=>rw[n] at j;cases j
  |some b=>
   rw[n] at j;cases j;refine wpAny_truthy_bool ?_;have:bs.getD i true=b:=by rw[zad,n];rfl
   have l:S (bs.getD i true) s:=l;rw[this] at l;exact l
 ·refine⟨.bl (bs.all id),H,I.kept (t':=C) λb o e=>G b o (by simp;intro z;exact absurd (z▸zcP e) (zcv _)) (zas _ e),?_,q⟩;rw[<-all_range bs];show _=_;simp
def MA:HK X (λx n C H Q=>∃y,x=.str y/\y.length<=yag/\Q (.str (Txt.slice y n C)) H):=by
 intro m s σ H x v G E n C L Q I O P pl pu h;let⟨y,rfl,hz,q⟩:=h;let⟨t,rfl⟩:=O;have a:∀l u,G=partValue l->E=partValue u->n=l.map (·.1)->C=u.map (·.1)->yar (model X.prog X.w) X.A (getItem (.str y t) (.ref L)) (EP X m σ Q) X.xe s:=λl u e1 Z Y W=>by
  let⟨o,S,U,hd⟩:=P;refine wpAny_getItem_str_slice (st:=none) ⟨o,S,U,by rw[hd,e1,Z];rfl⟩ rfl ?_;subst Y W;exact post_val_or_str ⟨zcH (Txt.slice_le y _ _) hz,λt' k=>⟨.str _,H,I.tok _,⟨_,rfl⟩,q⟩⟩
 refine⟨"str",_,PySem.F.slot_str_getitem.lookup,typeIs_str _ _ _,?_⟩;cases pl with
 |none=>
  cases pu with
  |none=>exact a none none rfl rfl rfl rfl
  |int j tj=>exact a none (some (j,tj)) rfl rfl rfl rfl
 |int i ti=>
  cases pu with
  |none=>exact a (some (i,ti)) none rfl rfl rfl rfl
  |int j tj=>exact a (some (i,ti)) (some (j,tj)) rfl rfl rfl rfl
theorem nA:∀{a:List Str}{its:List yai},Vals (a.map V.str) its->StrsAre its a
 |[],_,.nil=>.nil
 |y::a,_,.cons r t=>by
  let⟨h,e⟩:=(show∃t,_=Value.str y t from r)
  subst e;exact .cons y h (nA t)
end
noncomputable def notStar:Expr->Bool
 |.Starred _ _=>false
 |_=>true
def br(es)(env)(h:notStar e=true):yao (e::es) env=(false,eval e env)::yao es env:=by
 cases e<;>first|rfl|cases h
theorem eU:∀(es),es.all notStar=true->(yau d (yao es g)).any (·.1)=false
 |[],_=>rfl
 |e::es,h=>by
  rw[zct,zbR] at h;rw[br es g h.1];show(false||(yau d (yao es g)).any (·.1))=false;rw[eU es h.2];rfl
theorem uL:∀(es),es.all notStar=true->(yau d (yao es g)).all (λx=>!x.1)=true
 |[],_=>rfl
 |e::es,h=>by
  rw[zct,zbR] at h;rw[br es g h.1];show(true&&(yau d (yao es g)).all (λx=>!x.1))=true;rw[uL es h.2];rfl
section
variable {e:Expr}{es:List Expr}{t:TA}{p:Pos}{id T:String}{r:List V->Hp->VK->Prop}
def aA(j:PE X e te)(h:PA X es t)(a:autoParam (notStar e=true) r0):PA X (e::es) (C2 te t):=IM j h (br es X.env a)
def Q4(o:cG X (.builtin id) r)(n:Gl X x)(m:X.mg x=none)(h:bootBuiltins x=some (.builtin id))(q:PA X (e::es) t)(l:x≠"__name__":=by decide+kernel)(a:(x==("__debug__":Str))=false:=by decide+kernel)(j:autoParam ((e::es).all notStar=true) r0):PE X (.Call (.Name x p) (e::es) [] pos) (Qo r t):=by
 have h2:=j;rw[zct,zbR] at h2;exact ED o n m h q l a (br es X.env h2.1) (eU es h2.2)
def Q3(o:cG X (.type T) r)(n:Gl X x)(m:X.mg x=none)(h:bootBuiltins x=some (.type T))(q:PA X (e::es) t)(l:x≠"__name__":=by decide+kernel)(a:(x==("__debug__":Str))=false:=by decide+kernel)(j:autoParam ((e::es).all notStar=true) r0):PE X (.Call (.Name x p) (e::es) [] pos) (Qo r t):=by
 have h2:=j;rw[zct,zbR] at h2;exact BF o n m h q l a (br es X.env h2.1) (eU es h2.2)
end
structure Src(K:yaJ)(mg:Str->Option yai)(x:Str)(ps:List Str)(st:Stmt):Prop where
 ex:∃f fd,Hz K x x st f fd/\mg x=some (.ref f)/\Binds K fd ps []
structure Def(P:yaj)(w:yak)(K:yaJ)(mg:Str->Option yai)(base:Heap)(k:Nat)(x:Str)(ps:List Str)(sp:Sp):Prop where
 ex:∃f fd,eK P w K mg base qD k f fd ps sp/\mg x=some (.ref f)/\zcn K (.ref f)=true/\Binds K fd ps []
def Src.def(F:Src K mg x ps st)(S:aH N ps (aj st))(len:∀vs H Q E,sp vs H Q E->vs.length=ps.length)(a:∀(f)(h)(A)(outer)(s)(H)(vs)(Q)(E),bB k (A.deeper (envOfC x (aj st) s.heap.objs.size f h))->sp vs H Q E->∃t,yR (m5 qD P w K mg base N x (aj st) f h A outer s H E).HH (bE st) t/\t {nx:=λ_ H'=>Q .bU H',rt:=Q} (start N vs) H):Def P w K mg base (k+1) x ps sp:=by
 let⟨f,fd,F,j,l⟩:=F.ex;refine⟨f,fd,F.ok S len (a f),j,F.kp,l⟩
theorem Def.imp(D:Def P w K mg base k x ps sp)(h:∀vs H Q E,d vs H Q E->sp vs H Q E):Def P w K mg base k x ps d:=by
 let⟨f,fd,F,j,l,m⟩:=D.ex;refine⟨f,fd,F.imp h,j,l,m⟩
section
variable {e:Expr}{es:List Expr}{t:TA}{p:Pos}{k:Nat}{sp:Sp}
def eF(D:Def X.prog X.w X.K X.mg X.base k x ps sp)(l:bB k X.A)(o:Gl X x)(h:Passes qD X E0)(s:PA X (e::es) t)(a:(x==("__debug__":Str))=false:=by decide+kernel)(j:autoParam ((e::es).all notStar=true) r0):
  PE X (.Call (.Name x p) (e::es) [] pos) (C4 sp [] E0 t):=by
 let⟨f,fd,F,m,n,q⟩:=D.ex;have h2:=j;rw[zct,zbR] at h2;exact IJ F l o m n q .nil h s a (br es X.env h2.1) (eU es h2.2)
def EA(T)(l:Gl X x)(j:X.mg x=none)(a:bootBuiltins x=some (.type T))(h:x≠"__name__":=by decide+kernel)(hd:(x==("__debug__":Str))=false:=by decide+kernel):PE X (.Name x pos) (tC (.ty T)):=
 IL l j a rfl h hd
end
noncomputable def Pc(scope:Scope)(N:List Str):Bool:=
 (match scope.kind with|.function=>true|_=>false)&&decide N.Nodup&&scope.names.all λy=>y.2 != .cell&&scope.names.lookup y.1==some y.2
def sy(h:Pc scope N=true):fj scope N:=by
 unfold Pc at h;rw[zbR,zbR] at h;let⟨⟨h1,h2⟩,a⟩:=h;have a:=zbE.mp a;refine⟨?_,of_decide_eq_true h2,λy j=>?_,λy j=>?_⟩
 ·lia
 ·have:=a y j;simp_all
 ·have:=a y j;simp_all
section
variable {o e:Expr}{es:List Expr}{to:TE}{t:TA}{T id:String}{r:V->List V->Hp->VK->Prop}
def IK(l:PlainAttrs T)(slot:Slot T name id)(j:typeOf (.builtin id)=pure (.type "method_descriptor"))(n:CB X id r)(m:PE X o to)(h:autoParam (attributeBase o name X.env (eval o X.env)=eval o X.env) r0)(a:autoParam ((apos.endLine==cpos.line)=true) r0)(q:autoParam (X.K=K) r0):PE X (.Call (.Attribute o name apos) [] [] cpos) (Mt K T r to):=by
 subst q;exact xW l slot j n m h a
def NU(n:PlainAttrs T)(slot:Slot T name id)(l:typeOf (.builtin id)=pure (.type "method_descriptor"))(s:CB X id r)(q:PE X o to)(u:PA X (e::es) t)(h:autoParam (attributeBase o name X.env (eval o X.env)=eval o X.env) r0)(m:autoParam ((e::es).all notStar=true) r0)(j:autoParam (decide ((e::es).length+0+0<30)=true) r0)(a:autoParam ((apos.endLine==cpos.line)=true) r0)(v:autoParam (X.K=K) r0):PE X (.Call (.Attribute o name apos) (e::es) [] cpos) (TV K T r to t):=by
 subst v;have h2:=m;rw[zct,zbR] at h2;refine cZ n slot l s q u h ?_ a (br es X.env h2.1) (eU es h2.2);rw[uL _ m];show(true&&true&&decide ((e::es).length+0+0<30))=true;rw[j];rfl
end
end L2
set_option maxHeartbeats 400000
namespace PySem.W
open PySem PySem.Calls PyProof.Rows Builtin Builtin.ObjectAttr
noncomputable abbrev RL(C:Addr)(a:Option Addr)(vs:Array yai):Obj:={cls:=.ref C,dict:=a,data:=.fields vs}
end PySem.W
set_option maxHeartbeats 1000000
set_option maxHeartbeats 4000000
namespace J
open PySem PySem.Spec PyProof.Rows L2
def qU(h:∀a,p [a])(j)(e:j.length=1):p j:=by
 cases j with
 |nil=>cases e
 |cons a r=>
  have e:r=[]:=zab (Nat.succ.inj e);subst e;exact h a
def CJ(h:∀a b,p [a,b])(j)(e:j.length=2):p j:=by
 cases j with
 |nil=>cases e
 |cons a r=>exact qU (p:=λr=>p (a::r)) (h a) r (Nat.succ.inj e)
def CI(h:∀a b c,p [a,b,c])(j)(e:j.length=3):p j:=by
 cases j with
 |nil=>cases e
 |cons a r=>exact CJ (p:=λr=>p (a::r)) (h a) r (Nat.succ.inj e)
def by4(h:∀a b c d,p [a,b,c,d])(j)(e:j.length=4):p j:=by
 cases j with
 |nil=>cases e
 |cons a r=>exact CI (p:=λr=>p (a::r)) (h a) r (Nat.succ.inj e)
def Mw(X:K.In h)(G:h.Ns yaq mg)(a:zcO K yaq x=some (some (.ref f)))(l:K.lookup f=some ⟨oc,q,.func (zcN x x (cR st) (bE st) (aj st) .none d e pm o g ct),osl⟩)(c:zco K g x=true)(k:zcn K (.ref f)=true)(b:∀(d e pm)(o)(g ct)(n),n.length=ps.length->yaA (zcN x x (cR st) (bE st) (aj st) .none d e pm o g ct) ⟨n,[]⟩=pure (ps.zip n)):Src K mg x ps st:=
 ⟨f,_,jo (st:=st) l c k,zcA X G a,(jo (st:=st) l c k).binds b⟩
end J
namespace M
open PySem L2
inductive D where
 |bU|bl (b:Bool)|int (i:Int)|str (x:Str)|tup (ds:List D)|lst (ds:List D)|dct (ks:List Key) (ds:List D)|loc (n:Nat)|ty (n:String)|mh (ns:List Int)|fd|fn (a:Addr)
inductive MO where
 |lst (ds:List D)|dct (ks:List Key) (ds:List D)|feed (n:Nat)|ins (C:Addr) (ks:List Str) (ds:List D)|JC (F:Addr->List Addr->Heap->Prop) (ks:List D)|HJ (F:Addr->List V->Heap->Prop) (ks:List D)
noncomputable def fd3(l s d:Int):List (Key×V):=[(.inr "left",.int l),(.inr "seed",.int s),(.inr "drawn",.int d)]
abbrev aK:=List (Option MO)
noncomputable def MO.d:MO->D
 |.lst ds=>.lst ds
 |.dct ks ds=>.dct ks ds
 |.feed _=>.fd
 |.ins _ _ _=>.fd
 |.JC _ _=>.fd
 |.HJ _ _=>.fd
inductive R where
 |dat (d:D)|new (o:MO)
noncomputable def R.d:R->D
 |.dat d=>d
 |.new o=>o.d
def al(a:H d=none):gM H (upd H d o):=λb h e=>by rw[aR (bF e a)];exact e
structure Wd where
 B:Hp
 r:Nat->Option Addr
structure Wd.le(w w':Wd):Prop where
 b:gM w.B w'.B
 r:∀n a,w.r n=some a->w'.r n=some a
theorem Wd.le.refl{w:Wd}:w.le w:=⟨gM.refl _,λ_ _ h=>h⟩
theorem Wd.le.trans{w l j:Wd}(h:w.le l)(g:l.le j):w.le j:=⟨h.b.trans g.b,λn a e=>g.r n a (h.r n a e)⟩
mutual
def Rep(K:yaJ)(w:Wd):D->V->Prop
 |.bU,v=>v=.bU
 |.bl b,v=>v=.bl b
 |.int i,v=>v=.int i
 |.str x,v=>v=.str x
 |.ty n,v=>v=.ty n
 |.fd,v=>∃a,v=.ref a
 |.fn a,v=>v=.ref a
 |.loc n,v=>∃a,w.r n=some a/\v=.ref a
 |.tup ds,v=>∃a j,v=.ref a/\eO K w.B a j/\aD K w ds j
 |.lst ds,v=>∃a j,v=.ref a/\w.B a=some (.lst j)/\aD K w ds j
 |.mh ns,v=>∃a,v=.ref a/\dF K w.B a (ns.map V.int)
 |.dct ks ds,v=>∃a h,v=.ref a/\w.B a=some (.dK h)/\h.map (·.1)=ks/\aD K w ds (h.map (·.2))
def aD(K:yaJ)(w:Wd):List D->List V->Prop
 |[],xs=>xs=[]
 |d::ds,xs=>∃x r,xs=x::r/\Rep K w d x/\aD K w ds r
end
mutual
theorem Rep.le{K:yaJ}{w m:Wd}(e:w.le m):∀(d:D)(v:V),Rep K w d v->Rep K m d v
 |.bU,_,h=>by simpa[Rep] using h
 |.bl b,_,h=>by simpa[Rep] using h
 |.int i,_,h=>by simpa[Rep] using h
 |.str x,_,h=>by simpa[Rep] using h
 |.ty x,_,h=>by simpa[Rep] using h
 |.fd,_,h=>by simpa[Rep] using h
 |.fn _,_,h=>by simpa[Rep] using h
 |.loc n,v,h=>by
  simp only[Rep] at h⊢;let⟨a,h1,h2⟩:=h;refine⟨a,e.r _ _ h1,h2⟩
 |.lst ds,v,h=>by
  simp only[Rep] at h⊢;let⟨a,j,h1,h2,l⟩:=h;refine⟨a,j,h1,e.b _ _ h2,aD.le e ds j l⟩
 |.mh ns,v,h=>by
  simp only[Rep] at h⊢;let⟨a,h1,h2⟩:=h;refine⟨a,h1,e.b.seq h2⟩
 |.tup ds,v,h=>by
  simp only[Rep] at h⊢;let⟨a,j,h1,h2,l⟩:=h;refine⟨a,j,h1,eO.same e.b h2,aD.le e ds j l⟩
 |.dct ks ds,v,h=>by
  simp only[Rep] at h⊢;let⟨a,j,h1,h2,l,o⟩:=h;refine⟨a,j,h1,e.b _ _ h2,l,aD.le e ds _ o⟩
theorem aD.le{K:yaJ}{w j:Wd}(e:w.le j):∀(ds:List D)(a:List V),aD K w ds a->aD K j ds a
 |[],_,h=>by simpa[aD] using h
 |d::ds,a,h=>by
  simp only[aD] at h⊢;let⟨x,r,h1,h2,l⟩:=h;refine⟨x,r,h1,Rep.le e d x h2,aD.le e ds r l⟩
end
section
variable {w w':Wd}
def aD.nil:aD K w [] []:=by simp[aD]
def aD.cons{d:D}{ds:List D}{vs:List V}(h:Rep K w d v)(t:aD K w ds vs):aD K w (d::ds) (v::vs):=by
 refine⟨v,vs,rfl,h,t⟩
theorem aD.length:∀{ds:List D}{vs:List V},aD K w ds vs->vs.length=ds.length
 |[],_,h=>by simp only[aD] at h;simp_all
 |d::ds,vs,h=>by
  let⟨x,r,rfl,_,h⟩:=h;simp[aD.length h]
theorem aD.get:∀{ds:List D}{vs:List V}{i:Nat}{d:D},aD K w ds vs->ds[i]? =some d->∃v,vs[i]? =some v/\Rep K w d v
 |[],_,_,_,_,e=>by simp at e
 |d::ds,vs,0,d',h,e=>by
  let⟨x,r,rfl,h1,h⟩:=h;simp at e;subst e;refine⟨x,rfl,h1⟩
 |d::ds,vs,i+1,d',h,e=>by
  let⟨x,r,rfl,h1,h⟩:=h;let⟨v,j,a⟩:=aD.get h (by simpa using e);refine⟨v,by simp_all,a⟩
theorem aD.append:∀{ds es:List D}{vs a:List V},aD K w ds vs->aD K w es a->aD K w (ds++es) (vs++a)
 |[],_,_,_,h,g=>by subst h;exact g
 |d::ds,es,vs,a,h,g=>by
  let⟨x,r,rfl,h1,h⟩:=h;exact aD.cons h1 (aD.append h g)
def aD.snoc(h:aD K w ds vs)(g:Rep K w d v):aD K w (ds++[d]) (vs++[v]):=h.append (.cons g .nil)
theorem aD.take:∀(n){ds:List D}{vs:List V},aD K w ds vs->aD K w (ds.take n) (vs.take n)
 |0,_,_,_=>by simp[aD]
 |n+1,[],_,h=>by subst h;simp[aD]
 |n+1,d::ds,vs,h=>by
  let⟨x,r,rfl,h1,h⟩:=h;exact aD.cons h1 (aD.take n h)
theorem aD.drop:∀(n){ds:List D}{vs:List V},aD K w ds vs->aD K w (ds.drop n) (vs.drop n)
 |0,_,_,h=>h
 |n+1,[],_,h=>by subst h;simp[aD]
 |n+1,d::ds,vs,h=>by
  let⟨x,r,rfl,h1,h⟩:=h;exact aD.drop n h
theorem aD.set(g:Rep K w d v):∀(n){ds:List D}{vs:List V},aD K w ds vs->aD K w (ds.set n d) (vs.set n v)
 |_,[],_,h=>by simp only[aD] at h;subst h;simp[aD]
 |0,e::ds,vs,h=>by
  simp only[aD] at h;let⟨x,r,rfl,h1,h⟩:=h;exact aD.cons g h
 |n+1,e::ds,vs,h=>by
  simp only[aD] at h;let⟨x,r,rfl,h1,h⟩:=h;exact aD.cons h1 (aD.set g n h)
end
def lP(K:yaJ)(w:Wd):MO->HO->Prop
 |.lst ds,u=>∃j,u=.lst j/\aD K w ds j
 |.dct ks ds,u=>∃h,u=.dK h/\h.map (·.1)=ks/\aD K w ds (h.map (·.2))
 |.feed n,u=>∃l s:Int,u=.dK (fd3 l s n)/\0<=l/\0<=s/\s<1000003
 |.ins C ks ds,u=>∃dx fs,u=.ins C dx fs/\fs.map (·.1)=ks/\aD K w ds (fs.map (·.2))
 |.JC F ks,u=>∃(a:Addr)(bs:List Addr),u=.ext (F a bs)/\aD K w ks (bs.map V.ref)
 |.HJ F ks,u=>∃(a:Addr)(vs:List V),u=.ext (F a vs)/\aD K w ks vs
theorem lP.le(e:d.le g):∀{o:MO}{u:HO},lP K d o u->lP K g o u:=by
 intro o u h;cases o with
 |lst ds=>let⟨j,h1,h2⟩:=h;refine⟨j,h1,h2.le e⟩
 |dct ks ds=>let⟨j,h1,h2,l⟩:=h;refine⟨j,h1,h2,l.le e⟩
 |feed n=>exact h
 |ins C ks ds=>let⟨dx,fs,h1,h2,l⟩:=h;refine⟨dx,fs,h1,h2,l.le e⟩
 |JC F ks=>let⟨a,bs,h1,h2⟩:=h;refine⟨a,bs,h1,h2.le e⟩
 |HJ F ks=>let⟨a,bs,h1,h2⟩:=h;refine⟨a,bs,h1,h2.le e⟩
structure Ok(K:yaJ)(w:Wd)(H:Hp)(S:aK):Prop where
 base:gM w.B H
 live:∀n o,S[n]? =some (some o)->∃a u,w.r n=some a/\w.B a=none/\H a=some u/\lP K w o u
 inj:∀n m o o',S[n]? =some (some o)->S[m]? =some (some o')->w.r n=w.r m->n=m
 top:∀n,S.length<=n->w.r n=none
def nh(K:yaJ)(w:Wd)(H:Hp)(S:aK):R->V->Prop
 |.dat d,v=>Rep K w d v
 |.new o,v=>∃a u,v=.ref a/\w.B a=none/\H a=some u/\lP K w o u/\∀n h,S[n]? =some (some h)->w.r n≠some a
def fc(K:yaJ)(w:Wd)(δ:List (Option D))(a:St):Prop:=δ.length=a.length/\∀(i:Nat)(d),δ[i]? =some (some d)->∃v,a[i]? =some (some v)/\Rep K w d v
theorem fc.le(h:fc K g δ o)(e:g.le k):fc K k δ o:=⟨h.1,λi d q=>by
 let⟨v,h1,h2⟩:=h.2 i d q;refine⟨v,h1,h2.le e⟩⟩
theorem fc.set(h:fc K k δ o)(g:Rep K k d v)(i):fc K k (δ.set i (some d)) (o.set i (some v)):=by
 refine⟨by simp[h.1],λj e q=>?_⟩;by_cases a:i=j
 ·subst a;rw[zbm] at q⊢;rw[yIp rfl] at q⊢;by_cases l:i<δ.length
  ·rw[yIp l] at q;rw[yIp (by rw[<-h.1];exact l)];have  :=by simpa using q
   subst this;refine⟨v,rfl,g⟩
  ·rw[yIn l] at q;cases q
 ·rw[zaE a] at q⊢;exact h.2 j e q
section
variable {w w':Wd}{S S':aK}
def freeze(k:Ok K w H S)(h:nh K w H S r v):∃w',w.le w'/\Ok K w' H S/\Rep K w' r.d v:=by
 cases r with
 |dat d=>refine⟨w,.refl,k,h⟩
 |new o=>
  let⟨a,u,rfl,y,L,s,I⟩:=h;have le:w.le ⟨upd w.B a u,w.r⟩:=⟨al y,λ_ _ e=>e⟩
  refine⟨⟨upd w.B a u,w.r⟩,le,⟨λb j e=>?_,λn j e=>?_,k.inj,k.top⟩,?_⟩
  ·by_cases l:b=a
   ·subst l;have e:upd w.B b u b=some j:=e;rw[bW] at e;simp_all
   ·have e:upd w.B a u b=some j:=e;rw[aR l] at e;exact k.base b j e
  ·let⟨q,x,h1,h2,G,E⟩:=k.live n j e;have:q≠a:=by intro z;simp_all
   refine⟨q,x,h1,by show upd w.B a u q=none;rw[aR this];exact h2,G,E.le le⟩
  ·cases o with
   |lst ds=>
    let⟨t,rfl,h⟩:=s;refine⟨a,t,rfl,bW,h.le le⟩
   |dct ks ds=>
    let⟨m,rfl,h1,h⟩:=s;refine⟨a,m,rfl,bW,h1,h.le le⟩
   |feed n=>
    exact⟨a,rfl⟩
   |ins C ks ds=>
    exact⟨a,rfl⟩
   |JC F ks=>
    exact⟨a,rfl⟩
   |HJ F ks=>
    exact⟨a,rfl⟩
def store(k:Ok K w H S)(h:nh K w H S (.new o) v):∃w',w.le w'/\Ok K w' H (S++[some o])/\Rep K w' (.loc S.length) v:=by
 let⟨a,u,rfl,I,L,F,t⟩:=h;let r'  :=λn=>if n=S.length then some a else w.r n;have le:w.le ⟨w.B,r'⟩:=⟨gM.refl _,λn b e=>by
  have:n≠S.length:=by
   intro z;subst z;rw[k.top _ (zcR _)] at e;cases e
  lia⟩
 have at_:∀n l,(S++[some o])[n]? =some (some l)->(n=S.length/\l=o)∨(n<S.length/\S[n]? =some (some l)):=λn l e=>by
  by_cases s:n<S.length
  ·rw[zag s] at e;exact .inr ⟨s,e⟩
  ·rw[zac (by lia)] at e;have:n - S.length=0:=by
    cases q:n - S.length with
    |zero=>rfl
    |succ j=>simp_all
   rw[this] at e;have e  :=by simpa using e
   exact .inl ⟨by lia,e.symm⟩
 refine⟨⟨w.B,r'⟩,le,⟨k.base,λn l e=>?_,λn m y x U Q e=>?_,λn t=>?_⟩,?_⟩
 ·rcases at_ n l e with⟨rfl,rfl⟩|⟨s,e⟩
  ·refine⟨a,u,by lia,I,L,F.le le⟩
  ·let⟨W,C,h1,h2,P,O⟩:=k.live n l e;refine⟨W,C,le.r _ _ h1,h2,P,O.le le⟩
 ·rcases at_ n y U with⟨rfl,rfl⟩|⟨s,E⟩
  ·grind
  ·rcases at_ m x Q with⟨rfl,rfl⟩|⟨G,q2⟩
   ·grind
   ·have e:(if n=S.length then some a else w.r n)=(if m=S.length then some a else w.r m):=e;rw[yIn (by lia),yIn (by lia)] at e;exact k.inj n m y x E q2 e
 ·rw[zaU] at t;have:n≠S.length:=by simp at t;lia
  show(if n=S.length then some a else w.r n)=none;rw[yIn this];exact k.top n (by lia)
 ·refine⟨a,by lia,rfl⟩
def Ok.alloc(k:Ok K w H S)(h:H d=none):Ok K w (upd H d o) S:=
 ⟨k.base.trans (al h),λn j e=>by
  let⟨a,u,h1,h2,m,l⟩:=k.live n j e;refine⟨a,u,h1,h2,al h _ _ m,l⟩,k.inj,k.top⟩
theorem Ok.free(k:Ok K w H S)(a:H d=none):w.B d=none:=k.base.free a
def Ok.fresh{m:MO}(k:Ok K w H S)(l:H d=none)(h:lP K w m o):nh K w (upd H d o) S (.new m) (.ref d):=
 ⟨d,o,rfl,k.free l,bW,h,λn j e z=>by
  let⟨a,u,h1,h2,s,q⟩:=k.live n j e;simp_all⟩
def Ok.lA(k:Ok K w H S)(l:H d=none)(h:aD K w ds xs):∃w',w.le w'/\Ok K w' (upd H d (.tup xs)) S/\Rep K w' (.tup ds) (.ref d):=by
 have q:=k.free l;have le:w.le ⟨upd w.B d (.tup xs),w.r⟩:=⟨al q,λ_ _ e=>e⟩
 refine⟨⟨upd w.B d (.tup xs),w.r⟩,le,⟨λb o e=>?_,λn o e=>?_,k.inj,k.top⟩,?_⟩
 ·by_cases j:b=d
  ·subst j;have e:upd w.B b (.tup xs) b=some o:=e;rw[bW] at e⊢;exact e
  ·have e:upd w.B d (.tup xs) b=some o:=e;rw[aR j] at e⊢;exact k.base b o e
 ·let⟨a,u,h1,h2,m,s⟩:=k.live n o e;have hne  :=bF m l;refine⟨a,u,h1,by show upd w.B d _ a=none;rw[aR hne];exact h2,by rw[aR hne];exact m,s.le le⟩
 ·refine⟨d,xs,rfl,eO.of bW,h.le le⟩
def Ok.put(k:Ok K w H S)(e:S[d]? =some (some o))(x:w.r d=some g)(h:lP K w o' r):Ok K w (upd H g r) (S.set d (some o')):=by
 have W:d<S.length:=by
  grind
 have at_:∀m q,(S.set d (some o'))[m]? =some (some q)->(m=d/\q=o')∨(m≠d/\S[m]? =some (some q)):=λm q z=>by
  by_cases j:d=m
  ·simp_all
  ·rw[zaE j] at z;exact .inr ⟨λy=>j y.symm,z⟩
 let⟨Y,U,h1,h2,X,_⟩:=k.live d o e;rw[x] at h1;cases h1;refine⟨λb q z=>?_,λm q z=>?_,λm l q L z G y=>?_,λm j=>k.top m (by simp_all)⟩
 ·rw[aR (by lia)];exact k.base b q z
 ·rcases at_ m q z with⟨rfl,rfl⟩|⟨j,z⟩
  ·refine⟨g,r,x,h2,bW,h⟩
  ·let⟨b,u,C,Q,P,O⟩:=k.live m q z;have:b≠g:=by
    intro y;subst y;exact j (k.inj m d q o z e (C.trans x.symm))
   refine⟨b,u,C,Q,by rw[aR this];exact P,O⟩
 ·have s:∀m q,(S.set d (some o'))[m]? =some (some q)->∃v,S[m]? =some (some v):=λm q z=>by
   rcases at_ m q z with⟨rfl,rfl⟩|⟨j,z⟩
   ·exact⟨o,e⟩
   ·exact⟨q,z⟩
  let⟨v,F⟩:=s m q z;let⟨I,E⟩:=s l L G;exact k.inj m l v I F E y
end
noncomputable def aT(S:aK):D->D
 |.loc n=>match S[n]? with
  |some (some o)=>o.d
  |_=>.loc n
 |d=>d
section
variable {w:Wd}{S:aK}
def bh(k:Ok K w H S)(h:Rep K w d v)(e:aT S d=.lst ds):∃a j,v=.ref a/\H a=some (.lst j)/\aD K w ds j:=by
 cases d with
 |loc n=>
  let⟨a,h1,rfl⟩:=h;simp only[aT] at e;split at e
  next o q=>
   let⟨y,u,l,x,t,s⟩:=k.live n o q;rw[h1] at l;cases l;cases o with
   |lst es=>
    have  :=by simpa[MO.d] using e
    subst this;let⟨j,rfl,g⟩:=s;refine⟨a,j,rfl,t,g⟩
   |dct ks es=>simp[MO.d] at e
   |feed n=>simp[MO.d] at e
   |ins C ks ds=>simp[MO.d] at e
   |JC F ks=>simp[MO.d] at e
   |HJ F ks=>simp[MO.d] at e
  next=>cases e
 |lst es=>
  have  :=by simpa[aT] using e
  subst this;let⟨a,j,h1,h2,m⟩:=h;refine⟨a,j,h1,k.base _ _ h2,m⟩
 |_=>simp[aT] at e
def b7(k:Ok K w H S)(h:Rep K w d v)(e:aT S d=.tup ds):∃a j,v=.ref a/\eO K H a j/\aD K w ds j:=by
 cases d with
 |loc n=>
  simp only[aT] at e;split at e
  next o q=>cases o<;>simp[MO.d] at e
  next=>cases e
 |tup es=>
  have  :=by simpa[aT] using e
  subst this;let⟨a,j,h1,h2,l⟩:=h;refine⟨a,j,h1,eO.same k.base h2,l⟩
 |_=>simp[aT] at e
def dW(k:Ok K w H S)(h:Rep K w d v)(e:aT S d=.dct r ds):∃a j,v=.ref a/\H a=some (.dK j)/\j.map (·.1)=r/\aD K w ds (j.map (·.2)):=by
 cases d with
 |loc n=>
  let⟨a,h1,rfl⟩:=h;simp only[aT] at e;split at e
  next o q=>
   let⟨G,u,m,E,y,x⟩:=k.live n o q;rw[h1] at m;cases m;cases o with
   |lst es=>simp[MO.d] at e
   |feed n=>simp[MO.d] at e
   |ins C r ds=>simp[MO.d] at e
   |JC F r=>simp[MO.d] at e
   |HJ F r=>simp[MO.d] at e
   |dct ks' es=>
    have  :=by simpa[MO.d] using e
    let⟨rfl,rfl⟩:=this;let⟨j,rfl,g⟩:=x;refine⟨a,j,rfl,y,g⟩
  next=>cases e
 |dct ks' es=>
  have  :=by simpa[aT] using e
  let⟨rfl,rfl⟩:=this;let⟨a,s,h1,h2,t⟩:=h;refine⟨a,s,h1,k.base _ _ h2,t⟩
 |_=>simp[aT] at e
end
abbrev bH:=List (Option D)
abbrev AK:=R->aK->Prop
abbrev AE:=bH->aK->AK->Prop
abbrev AT:=bH->aK->(Bool->aK->Prop)->Prop
abbrev AA:=bH->aK->(List D->aK->Prop)->Prop
abbrev AO:=bH->aK->(Option Int->aK->Prop)->Prop
structure kO where
 nx:bH->aK->Prop
 rt:AK
 bk:bH->aK->Prop:=λ_ _=>False
 ct:bH->aK->Prop:=λ_ _=>False
abbrev AS:=kO->bH->aK->Prop
abbrev AG:=D->bH->aK->(bH->aK->Prop)->Prop
abbrev HM:=List D->bH->aK->(bH->aK->Prop)->Prop
abbrev AI:=bH->aK->(List D->(aK->Prop)->aK->Prop)->Prop
abbrev A2:=D->D->aK->AK->Prop
abbrev A1:=D->aK->AK->Prop
abbrev AN:=List D->aK->AK->Prop
section
variable (K:yaJ)(w:Wd)
def fk(l:AK)(Q:VK):Prop:=∀r h v a j,w.le a->Ok K a j h->nh K a j h r v->l r h->Q v j
def Bq(l:Bool->aK->Prop)(Q:Bool->Hp->Prop):Prop:=∀b h a j,w.le a->Ok K a j h->l b h->Q b j
def Th(l:List D->aK->Prop)(Q:List V->Hp->Prop):Prop:=∀ds h vs a j,w.le a->Ok K a j h->aD K a ds vs->l ds h->Q vs j
def Tg(l:Option Int->aK->Prop)(Q:Option Int->Hp->Prop):Prop:=∀i h a j,w.le a->Ok K a j h->l i h->Q i j
def kM(n:bH->aK->Prop)(Q:St->Hp->Prop):Prop:=∀j l h a m,w.le a->Ok K a m l->fc K a j h->n j l->Q h m
structure Bp(Da:kO)(D:Ends):Prop where
 nx:kM K w Da.nx D.nx
 rt:fk K w Da.rt D.rt
 bk:kM K w Da.bk D.bk
 ct:kM K w Da.ct D.ct
structure L5(J:It)(ds:List D)(P:aK->Prop):Prop where
 go:∀i H S w' d,w.le w'->Ok K w' H S->P S->ds[i]? =some d->J.go i H
 HN:∀i H S w' d x H',w.le w'->Ok K w' H S->P S->ds[i]? =some d->J.HN i H x H'->∃w3,w'.le w3/\Ok K w3 H' S/\Rep K w3 d x
 stop:∀i H S w',w.le w'->Ok K w' H S->P S->i=ds.length->J.stop i H
def Ti(l:List D->(aK->Prop)->aK->Prop)(R:It->Hp->Prop):Prop:=∀ds P h J a j,w.le a->Ok K a j h->L5 K a J ds P->l ds P h->R J j
end
section
variable {w w':Wd}
theorem fk.le(h:fk K w d g)(e:w.le w'):fk K w' d g:=λr S v j H l=>h r S v j H (e.trans l)
theorem Bq.le(h:Bq K w Qa d)(e:w.le w'):Bq K w' Qa d:=λr S a H l=>h r S a H (e.trans l)
theorem kM.le(h:kM K w Qa d)(e:w.le w'):kM K w' Qa d:=λr S v a H l=>h r S v a H (e.trans l)
theorem Bp.le(h:Bp K w d g)(e:w.le w'):Bp K w' d g:=⟨h.nx.le e,h.rt.le e,h.bk.le e,h.ct.le e⟩
end
section
variable (K:yaJ)
def aX(a:AE):TE:=λl H Q=>∃w h S j,Ok K w H S/\fc K w h l/\a h S j/\fk K w j Q
def ir(a:AT):TT:=λl H Q=>∃w h S j,Ok K w H S/\fc K w h l/\a h S j/\Bq K w j Q
def qQ(a:AA):TA:=λl H Q=>∃w h S j,Ok K w H S/\fc K w h l/\a h S j/\Th K w j Q
def FZ(a:AO):TO:=λl H Q=>∃w h S j,Ok K w H S/\fc K w h l/\a h S j/\Tg K w j Q
def jr(a:AS):TS:=λD l H=>∃w h S j,Ok K w H S/\fc K w h l/\a j h S/\Bp K w j D
def Cd(a:AG):TG:=λx l H Q=>∃w d h S j,Ok K w H S/\fc K w h l/\Rep K w d x/\a d h S j/\kM K w j Q
def vX(a:HM):J4:=λm l H Q=>∃w ds h S j,Ok K w H S/\fc K w h l/\aD K w ds m/\a ds h S j/\kM K w j Q
def Su(a:AI):TI:=λl H R=>∃w h S j,Ok K w H S/\fc K w h l/\a h S j/\Ti K w j R
def Ce(a:A2):R2:=λx y H Q=>∃w d e S h,Ok K w H S/\Rep K w d x/\Rep K w e y/\a d e S h/\fk K w h Q
def Sv(a:A1):V->Hp->VK->Prop:=λx H Q=>∃w d S h,Ok K w H S/\Rep K w d x/\a d S h/\fk K w h Q
def O9(a:AN):List V->Hp->VK->Prop:=λj H Q=>∃w ds S h,Ok K w H S/\aD K w ds j/\a ds S h/\fk K w h Q
def Pa(a:D->List D->aK->AK->Prop):V->List V->Hp->VK->Prop:=λx j H Q=>∃w d ds S h,Ok K w H S/\Rep K w d x/\aD K w ds j/\a d ds S h/\fk K w h Q
def az(a:AN):Sp:=λvs H Q _=>O9 K a vs H Q
end
structure GE(X:Cx)(e:Expr)(a:AE):Prop where
 p:PE X e (aX X.K a)
structure GT(X:Cx)(e:Expr)(a:AT):Prop where
 p:PT X e (ir X.K a)
structure GW(X:Cx)(e:Expr)(a:AT):Prop where
 p:PW X e (ir X.K a)
structure GA(X:Cx)(e:List Expr)(a:AA):Prop where
 p:PA X e (qQ X.K a)
structure GO(X:Cx)(e:Option Expr)(a:AO):Prop where
 p:PO X e (FZ X.K a)
structure GS(X:Cx)(s:Stmt)(a:AS):Prop where
 p:PS X s (jr X.K a)
structure yW(X:Cx)(s:List Stmt)(a:AS):Prop where
 p:yR X s (jr X.K a)
structure GG(X:Cx)(e:Expr)(a:AG):Prop where
 p:PG X e (Cd X.K a)
structure TN(X:Cx)(e:List Expr)(a:HM):Prop where
 p:PF X e (vX X.K a)
structure GI(X:Cx)(tg e:Expr)(a:AI):Prop where
 p:PI X tg e (Su X.K a)
structure SY(X:Cx)(e:List Expr)(a:AT):Prop where
 p:LZ X e (ir X.K a)
structure uA(X:Cx)(f:yai->yai->Sem yai)(a:A2):Prop where
 p:iI X f (Ce X.K a)
structure Vo(X:Cx)(f:yai->Sem yai)(a:A1):Prop where
 p:P0 X f (Sv X.K a)
structure uz(X:Cx)(f:yai)(a:AN):Prop where
 p:cG X f (O9 X.K a)
structure Vn(X:Cx)(a:A2):Prop where
 p:HL X (Ce X.K a)
def mE(h:PE X e d)(m:∀a H Q,g a H Q->d a H Q):PE X e g:=λj s a H Q I q=>h j s a H Q I (m a H Q q)
def mT(h:PT X e d)(m:∀a H Q,g a H Q->d a H Q):PT X e g:=λj s a H Q I q=>h j s a H Q I (m a H Q q)
def mW(h:PW X e d)(m:∀a H Q,g a H Q->d a H Q):PW X e g:=λl j s a H Q I q=>h l j s a H Q I (m a H Q q)
def mA(h:PA X e d)(m:∀a H Q,g a H Q->d a H Q):PA X e g:=λl j s a H Q I q=>h l j s a H Q I (m a H Q q)
def mO(h:PO X e d)(m:∀a H Q,g a H Q->d a H Q):PO X e g:=λj s a H Q I q=>h j s a H Q I (m a H Q q)
def mS(h:PS X e d)(m:∀D a H,g D a H->d D a H):PS X e g:=λj s a H D I q=>h j s a H D I (m D a H q)
def Ve(h:yR X e d)(m:∀D a H,g D a H->d D a H):yR X e g:=λj s a H D I q=>h j s a H D I (m D a H q)
def mG(h:PG X e d)(m:∀x a H Q,g x a H Q->d x a H Q):PG X e g:=λj s a H x v Q I r q=>h j s a H x v Q I r (m x a H Q q)
def Vf(h:PF X e d)(m:∀x a H Q,g x a H Q->d x a H Q):PF X e g:=λj s a H x v Q I r q=>h j s a H x v Q I r (m x a H Q q)
def mTs(h:LZ X e d)(m:∀a H Q,g a H Q->d a H Q):LZ X e g:=λj s a H Q I q=>h j s a H Q I (m a H Q q)
def m2(h:iI X d e)(m:∀x y H Q,g x y H Q->e x y H Q):iI X d g:=λa s j H x y v g Q I r l q=>h a s j H x y v g Q I r l (m x y H Q q)
def m1(h:P0 X d e)(m:∀x H Q,g x H Q->e x H Q):P0 X d g:=λa s j H x v Q I r q=>h a s j H x v Q I r (m x H Q q)
def mC(h:cG X d e)(m:∀x H Q,g x H Q->e x H Q):cG X d g:=λa s j H x v Q I r q=>h a s j H x v Q I r (m x H Q q)
def fR(i:Nat):AE:=λa S Q=>∃d,a[i]? =some (some d)/\Q (.dat d) S
def aC(d:D):AE:=λ_ S Q=>Q (.dat d) S
def uF(r:A2)(a b:AE):AE:=λh S Q=>a h S λx l=>b h l λy j=>r x.d y.d j Q
def UQ(r:A1)(a:AE):AE:=λh S Q=>a h S λx j=>r x.d j Q
def lO:AA:=λ_ S Q=>Q [] S
def iz(a:AE)(b:AA):AA:=λh S Q=>a h S λx m=>b h m λj l=>Q (x.d::j) l
def Gu(a:AA):AE:=λh S Q=>a h S λds j=>ds.length<=yag/\Q (.dat (.tup ds)) j
def Co(a:AA):AE:=λh S Q=>a h S λds j=>ds.length<=yag/\Q (.new (.lst ds)) j
def bO(a:AE):AE:=λj S Q=>a j S λr h=>match r with
 |.new o=>Q (.dat (.loc h.length)) (h++[some o])
 |.dat d=>Q (.dat d) h
def aCall(sp:AN)(a:AA):AE:=λh S Q=>a h S λds j=>sp ds j Q
def aB(a:AE):AT:=λh S Q=>a h S λr j=>∃b,r.d=.bl b/\Q b j
noncomputable def eN:D->Option Bool
 |.bU=>some false
 |.bl b=>some b
 |.int i=>some (i != 0)
 |.str y=>if y.length<=yag then some ((y.length:Int) != 0) else none
 |.tup ds=>some (!ds.isEmpty)
 |.lst ds=>some (!ds.isEmpty)
 |.dct ks _=>some (!ks.isEmpty)
 |_=>none
def J0(a:AE):AT:=λj S Q=>a j S λr h=>∃b,eN (aT h r.d)=some b/\Q b h
def GD(a b:AE):AE:=λh S Q=>a h S λx j=>∃c,x.d=.bl c/\if c=true then b h j Q else Q (.dat (.bl false)) j
def Ph(a b:AE):AE:=λh S Q=>a h S λx j=>∃c,x.d=.bl c/\if c=true then Q (.dat (.bl true)) j else b h j Q
def SD(a:AE):AE:=λh S Q=>a h S λx j=>∃c,x.d=.bl c/\Q (.dat (.bl (!c))) j
def Pz(a b:AT):AT:=λh S Q=>a h S λc j=>if c=true then b h j Q else Q false j
def US(a b:AT):AT:=λh S Q=>a h S λc j=>if c=true then Q true j else b h j Q
def Pj(a:AT):AT:=λh S Q=>a h S λc j=>Q (!c) j
def UT(t:AT)(a b:AE):AE:=λh S Q=>t h S λc j=>if c=true then a h j Q else b h j Q
def Px(r m:A2)(a b c:AE):AE:=λh S Q=>a h S λx q=>b h q λy o=>r x.d y.d o λz j=>∃k,z.d=.bl k/\if k=true then c h j λl n=>m y.d l.d n Q else Q (.dat (.bl false)) j
def ur:AO:=λ_ S Q=>Q none S
def Gw(a:AE):AO:=λh S Q=>a h S λr j=>∃i,r.d=.int i/\Q (some i) j
def UR(r:D->Option Int->Option Int->aK->AK->Prop)(a:AE)(l u:AO):AE:=λh S Q=>a h S λx o=>l h o λi n=>u h n λj m=>r x.d i j m Q
def wG:AS:=λD a S=>D.nx a S
def uo(a b:AS):AS:=λD h S=>a {D with nx:=b D} h S
def wF(a:AE):AS:=λD h S=>a h S D.rt
def Sz:AS:=λD _ S=>D.rt (.dat .bU) S
def wH(a:AE):AS:=λD h S=>a h S λ_ j=>D.nx h j
def Cp(c:AT)(a b:AS):AS:=λD h S=>c h S λk j=>if k=true then a D h j else b D h j
def bN(i:Nat):AG:=λd a S Q=>Q (a.set i (some d)) S
def LQ:HM:=λds a S Q=>ds=[]/\Q a S
def Gn(a:AG)(b:HM):HM:=λds j S Q=>∃d r,ds=d::r/\a d j S λh l=>b r h l Q
def LP(n:Nat)(a:HM):AG:=λd h S Q=>∃ds,d=.tup ds/\ds.length=n/\a ds h S Q
def ux(a:AE)(g:AG):AS:=λD h S=>a h S λr j=>g r.d h j D.nx
def cW(P:aK->Prop)(g:AG)(b:AS):List D->kO->bH->aK->Prop
 |[],D,δ,S=>P S/\D.nx δ S
 |x::xs,D,δ,S=>P S/\g x δ S λa h=>b {D with nx:=cW P g b xs D,ct:=cW P g b xs D,bk:=D.nx} a h
def dU(i:AI)(g:AG)(b:AS):AS:=λD a S=>i a S λds P h=>cW P g b ds D a h
def Pe(c:AT)(b:AS):AS:=λD a S=>∃W:Nat->bH->aK->Prop,(∃m,W m a S)/\∀m a S,W m a S->
 c a S λk l=>if k=true then∃N:bH->aK->Prop,(∀h n,N h n->∃j,j<m/\W j h n)/\b {D with nx:=N,ct:=N,bk:=D.nx} a l else D.nx a l
def Cn:AT:=λ_ S Q=>Q true S
def eu(P:aK->Prop)(g:AG)(t:AT)(e:AE):List D->List D->bH->aK->(List D->aK->Prop)->Prop
 |[],acc,_,S,Q=>P S/\Q acc S
 |x::xs,acc,δ,S,Q=>P S/\g x δ S λa l=>t a l λb h=>if b=true then e a h λr j=>acc.length<yag/\eu P g t e xs (acc++[r.d]) a j Q else eu P g t e xs acc a h Q
noncomputable def wj(caps:List (Option Nat))(δ:bH):bH:=caps.map λo=>o.bind λi=>(δ[i]?).getD none
def b5(caps:List (Option Nat))(i:AI)(g:AG)(t:AT)(e:AE):AE:=λh S Q=>i h S λds P l=>eu P g t e ds [] (wj caps h) l λa j=>Q (.new (.lst a)) j
noncomputable def j4(a:Int)(n:Nat):List D:=(zcV n).map λk:Nat=>.int (a+(k:Int))
def Jq(a:AA):AI:=λh S Q=>a h S λds l=>∃j:Int,ds=[.int j]/\(-(2 ^ 62)<=j/\j<2 ^ 62)/\Q (j4 0 j.toNat) (λ_=>True) l
def fk.go(h:∀r l v j H',d.le j->Ok K j H' l->Rep K j r.d v->o r l->e v H'):fk K d o e:=λr l v j H' le ok rep q=>by
 let⟨s,n,m,a⟩:=freeze ok rep;exact h r l v s H' (le.trans n) m a q
theorem fk.dat(h:fk K e k o)(le:e.le g)(ok:Ok K g H S)(rep:Rep K g d v)(q:k (.dat d) S):o v H:=h (.dat d) S v g H le ok rep q
def QD:∀a H Q,aX K (fR i) a H Q->Qc i a H Q:=by
 intro a H Q z;let⟨w,l,S,m,ok,env,⟨d,e,q⟩,bk⟩:=z;let⟨v,j,h⟩:=env.2 i d e;refine⟨v,j,bk.dat .refl ok h q⟩
def QS(h:∀w,Rep K w d v):∀a H Q,aX K (aC d) a H Q->tC v a H Q:=by
 intro a H Q z;let⟨w,j,S,l,ok,env,q,bk⟩:=z;exact bk.dat .refl ok (h w) q
def Ip:∀n H Q,aX K (uF r d e) n H Q->Qj (Ce K r) (aX K d) (aX K e) n H Q:=by
 intro n H Q z;let⟨w,t,S,G,ok,env,q,bk⟩:=z;refine⟨w,t,S,_,ok,env,q,.go λy F L v P m s j C=>?_⟩;refine⟨v,t,F,_,s,env.le m,C,.go λx E I u O l o h q2=>?_⟩;refine⟨u,y.d,x.d,E,G,o,j.le l,h,q2,bk.le (m.trans l)⟩
def T3:∀j H Q,aX K (UQ r d) j H Q->TR (Sv K r) (aX K d) j H Q:=by
 intro j H Q z;let⟨w,n,S,v,ok,env,q,bk⟩:=z;refine⟨w,n,S,_,ok,env,q,.go λs u x o y m l h t=>?_⟩;refine⟨o,s.d,u,v,l,h,t,bk.le m⟩
def QK:∀a H Q,qQ K lO a H Q->Mr a H Q:=by
 intro a H Q z;let⟨w,h,S,j,ok,env,q,bk⟩:=z;exact bk [] S [] w H .refl ok .nil q
def MU:∀n H Q,qQ K (iz d e) n H Q->C2 (aX K d) (qQ K e) n H Q:=by
 intro n H Q z;let⟨w,t,S,I,ok,env,q,bk⟩:=z;refine⟨w,t,S,_,ok,env,q,.go λG C F v L m s j x=>?_⟩;refine⟨v,t,C,_,s,env.le m,x,λds y vs u E l o h q2=>?_⟩;exact bk _ y _ u E (m.trans l) o (.cons (j.le l) h) q2
def QE:∀l H Q,aX K (Gu d) l H Q->Qe (qQ K d) l H Q:=by
 intro l H Q z;let⟨w,t,S,F,ok,env,q,bk⟩:=z;refine⟨w,t,S,_,ok,env,q,λds E vs C G s n h ⟨x,u⟩=>⟨by rw[h.length];exact x,λp v=>?_⟩⟩;let⟨y,o,m,j⟩:=n.lA v h;exact bk.dat (s.trans o) m j u
def QL:∀l H Q,aX K (Co d) l H Q->Qm (qQ K d) l H Q:=by
 intro l H Q z;let⟨w,o,S,x,ok,env,q,bk⟩:=z;refine⟨w,o,S,_,ok,env,q,λds v vs s y m j h ⟨u,t⟩=>⟨by rw[h.length];exact u,λp n=>?_⟩⟩;exact bk (.new (.lst ds)) v _ s _ m (j.alloc n) (j.fresh n ⟨vs,rfl,h⟩) t
def s_alloc:∀n H Q,aX K (bO e) n H Q->aX K e n H Q:=by
 intro n H Q z;let⟨w,x,S,F,ok,env,q,bk⟩:=z;refine⟨w,x,S,_,ok,env,q,λr E v C G m l h u=>?_⟩;cases r with
 |dat d=>exact bk.dat m l h u
 |new o=>
  let⟨y,t,s,j⟩:=store l h;exact bk.dat (m.trans t) s j u
def s_call:∀j H Q,aX K (aCall sp d) j H Q->C4 (az K sp) [] e (qQ K d) j H Q:=by
 intro j H Q z;let⟨w,n,S,u,ok,env,q,bk⟩:=z;refine⟨w,n,S,_,ok,env,q,λds t vs o v m l h s=>?_⟩;refine⟨o,ds,t,u,l,by rw[zbW];exact h,s,bk.le m⟩
def QO:∀j H Q,aX K (aCall r d) j H Q->Qo (O9 K r) (qQ K d) j H Q:=by
 intro j H Q z;let⟨w,n,S,u,ok,env,q,bk⟩:=z;refine⟨w,n,S,_,ok,env,q,λds t vs o v m l h s=>?_⟩;refine⟨o,ds,t,u,l,h,s,bk.le m⟩
def oJ(h:Rep K g d v)(e:d=.bl b):v=.bl b:=by subst e;simpa[Rep] using h
def bu(h:Rep K g d v)(e:d=.int k):v=.int k:=by subst e;simpa[Rep] using h
def jI(h:Rep K g d v)(e:d=.str k):v=.str k:=by subst e;simpa[Rep] using h
def ID(h:Rep K g d v)(e:d=.bU):v=.bU:=by subst e;simpa[Rep] using h
def Ei(h:Rep K g d v)(e:d=.ty k):v=.ty k:=by subst e;simpa[Rep] using h
theorem Rep.bl:Rep K d (.bl b) (.bl b):=by simp[Rep]
theorem Rep.int:Rep K d (.int e) (.int e):=by simp[Rep]
theorem Rep.str:Rep K d (.str e) (.str e):=by simp[Rep]
theorem Rep.bU:Rep K d .bU .bU:=by simp[Rep]
theorem Rep.ty:Rep K d (.ty e) (.ty e):=by simp[Rep]
def s_b:∀j H Q,ir K (aB d) j H Q->tB (aX K d) j H Q:=by
 intro j H Q z;let⟨w,n,S,y,ok,env,q,bk⟩:=z;refine⟨w,n,S,_,ok,env,q,.go λx t v o u m l h ⟨b,e,s⟩=>⟨b,oJ h e,bk b t o u m l s⟩⟩
def HV(ok:Ok K g H S)(h:Rep K g d v)(e:eN (aT S d)=some b):GF K v H b:=by
 cases q:aT S d with
 |lst ds=>
  rw[q] at e;let⟨a,j,rfl,h1,h2⟩:=bh ok h q;refine Or.inl ⟨j,dF.of h1,?_⟩;have:b= !ds.isEmpty:=by simpa[eN] using e.symm
  rw[this];have:=h2.length;cases ds<;>cases j<;>simp at this⊢
 |tup ds=>
  rw[q] at e;let⟨a,j,rfl,h1,h2⟩:=b7 ok h q;refine Or.inr (Or.inl ⟨j,h1,?_⟩);have:b= !ds.isEmpty:=by simpa[eN] using e.symm
  rw[this];have:=h2.length;cases ds<;>cases j<;>simp at this⊢
 |dct ks ds=>
  rw[q] at e;let⟨a,l,rfl,h1,h2,m⟩:=dW ok h q;refine Or.inr (Or.inr ⟨l,h1,?_⟩);have:b= !ks.isEmpty:=by simpa[eN] using e.symm
  rw[this,<-h2];cases l<;>simp
 |_=>
  rw[q] at e;cases d<;>simp[aT] at q<;>first
   |(subst q;simp only[Rep] at h;subst h;simp[eN] at e;simp[GF,e];done)
   |(simp[eN] at e;done)
   |skip
  all_goals first
   |(simp only[Rep] at h;subst h;subst q;simp only[eN,zcU.injEq] at e;subst e;rfl)
   |(simp only[Rep] at h;subst h;simp only[eN,zcU.injEq] at e;subst e;rfl)
   |(split at q<;>first|(rename_i o _;cases o<;>simp[MO.d] at q)|(cases q;simp[eN] at e)|cases q)
   |(simp only[Rep] at h;subst h;subst q;simp only[eN] at e;split at e;next hl=>exact⟨hl,by simpa using e.symm⟩;next=>cases e)
   |skip
def QF:∀l H Q,ir K (J0 d) l H Q->(aX K d) l H (λx H'=>∃k,GF K x H' k/\Q k H'):=by
 intro l H Q z;let⟨w,n,S,C,ok,env,q,bk⟩:=z;refine⟨w,n,S,_,ok,env,q,.go λy t v o u m j h ⟨b,e,s⟩=>⟨b,HV j h e,bk b t o u m j s⟩⟩
def MV:∀m H Q,aX K (GD d g) m H Q->KZ (aX K d) (aX K g) m H Q:=by
 intro m H Q z;let⟨w,n,S,u,ok,env,q,bk⟩:=z;refine⟨w,n,S,_,ok,env,q,.go λx t v s y h l j ⟨c,e,o⟩=>⟨c,oJ j e,?_⟩⟩;cases c with
 |true=>exact yk ⟨s,n,t,u,l,env.le h,by simpa using o,bk.le h⟩
 |false=>exact yl (bk.dat h l .bl (by simpa using o))
def QI:∀m H Q,aX K (Ph d g) m H Q->Qi (aX K d) (aX K g) m H Q:=by
 intro m H Q z;let⟨w,n,S,u,ok,env,q,bk⟩:=z;refine⟨w,n,S,_,ok,env,q,.go λx t v s y h l j ⟨c,e,o⟩=>⟨c,oJ j e,?_⟩⟩;cases c with
 |false=>exact yl ⟨s,n,t,u,l,env.le h,by simpa using o,bk.le h⟩
 |true=>exact yk (bk.dat h l .bl (by simpa using o))
def QU:∀l H Q,ir K (Pz d e) l H Q->Qp (ir K d) (ir K e) l H Q:=by
 intro l H Q z;let⟨w,m,S,t,ok,env,q,bk⟩:=z;refine⟨w,m,S,_,ok,env,q,λc s n u h j o=>?_⟩;cases c with
 |true=>exact yk ⟨n,m,s,t,j,env.le h,by simpa using o,bk.le h⟩
 |false=>exact yl (bk _ s n u h j (by simpa using o))
def T5:∀l H Q,ir K (US d e) l H Q->U8 (ir K d) (ir K e) l H Q:=by
 intro l H Q z;let⟨w,m,S,t,ok,env,q,bk⟩:=z;refine⟨w,m,S,_,ok,env,q,λc s n u h j o=>?_⟩;cases c with
 |false=>exact yl ⟨n,m,s,t,j,env.le h,by simpa using o,bk.le h⟩
 |true=>exact yk (bk _ s n u h j (by simpa using o))
def QJ:∀h H Q,ir K (Pj d) h H Q->Qk (ir K d) h H Q:=by
 intro h H Q z;let⟨w,m,S,u,ok,env,q,bk⟩:=z;refine⟨w,m,S,_,ok,env,q,λc s n t l j o=>bk _ s n t l j o⟩
def T6:∀l H Q,aX K (UT d e g) l H Q->U9 (ir K d) (aX K e) (aX K g) l H Q:=by
 intro l H Q z;let⟨w,m,S,u,ok,env,q,bk⟩:=z;refine⟨w,m,S,_,ok,env,q,λc s n v h j o=>?_⟩;cases c with
 |true=>exact yk ⟨n,m,s,u,j,env.le h,by simpa using o,bk.le h⟩
 |false=>exact yl ⟨n,m,s,u,j,env.le h,by simpa using o,bk.le h⟩
def DL:∀a H Q,FZ K ur a H Q->zg a H Q:=by
 intro a H Q z;let⟨w,h,S,j,ok,env,q,bk⟩:=z;exact bk none S w H .refl ok q
def MH:∀j H Q,FZ K (Gw d) j H Q->KQ (aX K d) j H Q:=by
 intro j H Q z;let⟨w,n,S,y,ok,env,q,bk⟩:=z;refine⟨w,n,S,_,ok,env,q,.go λx t v o u m l h ⟨i,e,s⟩=>⟨i,bu h e,bk _ t o u m l s⟩⟩
def LM(K:yaJ)(a:D->Option Int->Option Int->aK->AK->Prop):V->Option Int->Option Int->Hp->VK->Prop:=λx i j H Q=>∃w d S h,Ok K w H S/\Rep K w d x/\a d i j S h/\fk K w h Q
def T4:∀s H Q,aX K (UR r d e g) s H Q->U7 (LM K r) (aX K d) (FZ K e) (FZ K g) s H Q:=by
 intro s H Q z;let⟨w,t,S,U,ok,env,q,bk⟩:=z;refine⟨w,t,S,_,ok,env,q,.go λG P W F Z m y n I=>?_⟩;refine⟨F,t,P,_,y,env.le m,I,λi O E Y h x q2=>?_⟩;refine⟨E,t,O,_,x,env.le (m.trans h),q2,λj L C X o v q3=>?_⟩;refine⟨C,G.d,L,U,v,n.le (h.trans o),q3,bk.le (m.trans (h.trans o))⟩
def MI:∀D a H,jr K wG D a H->KS D a H:=by
 intro D a H z;let⟨w,h,S,j,ok,env,q,bk⟩:=z;exact bk.nx h S a w H .refl ok env q
def QG:∀D j H,jr K (uo d e) D j H->Qg (jr K d) (jr K e) D j H:=by
 intro D j H z;let⟨w,s,S,x,ok,env,q,bk⟩:=z;refine⟨w,s,S,_,ok,env,q,⟨λl v o t y n m h u=>?_,bk.rt,bk.bk,bk.ct⟩⟩;refine⟨t,l,v,x,m,h,u,bk.le n⟩
def QH:∀D h H,jr K (wF d) D h H->Qh (aX K d) D h H:=by
 intro D h H z;let⟨w,j,S,l,ok,env,q,bk⟩:=z;refine⟨w,j,S,_,ok,env,q,bk.rt⟩
def MQ:∀D j H,jr K (wH d) D j H->KW (aX K d) D j H:=by
 intro D j H z;let⟨w,m,S,y,ok,env,q,bk⟩:=z;refine⟨w,m,S,_,ok,env,q,.go λx t v o u h l n s=>bk.nx m t j o u h l (env.le h) s⟩
def QM:∀D l H,jr K (Cp d e g) D l H->Qn (ir K d) (jr K e) (jr K g) D l H:=by
 intro D l H z;let⟨w,m,S,t,ok,env,q,bk⟩:=z;refine⟨w,m,S,_,ok,env,q,λk s n u h j o=>?_⟩;cases k with
 |true=>exact yk ⟨n,m,s,t,j,env.le h,by simpa using o,bk.le h⟩
 |false=>exact yl ⟨n,m,s,t,j,env.le h,by simpa using o,bk.le h⟩
def sS:∀x a H Q,Cd K (bN i) x a H Q->Ai i x a H Q:=by
 intro x a H Q z;let⟨w,d,h,S,j,ok,env,rep,q,bk⟩:=z;exact bk _ S _ w H .refl ok (env.set rep i) q
def MN:∀x a H Q,vX K LQ x a H Q->RD x a H Q:=by
 intro x a H Q z;let⟨w,ds,h,S,j,ok,env,rep,⟨rfl,q⟩,bk⟩:=z;exact⟨by simpa[aD] using rep,bk _ S _ w H .refl ok env q⟩
def Iq:∀x l H Q,vX K (Gn e g) x l H Q->LJ (Cd K e) (vX K g) x l H Q:=by
 intro x l H Q z;let⟨w,ds,s,S,C,ok,env,rep,⟨d,r,rfl,q⟩,bk⟩:=z;let⟨v,vs,rfl,h1,h2⟩:=rep;refine⟨v,vs,rfl,w,d,s,S,_,ok,env,h1,q,λm y o t E h n j u=>?_⟩;refine⟨t,r,m,y,C,n,j,h2.le h,u,bk.le h⟩
def MM:∀x h H Q,Cd K (LP n e) x h H Q->RB K n (vX K e) x h H Q:=by
 intro x h H Q z;let⟨w,d,j,S,o,ok,env,rep,⟨ds,rfl,m,q⟩,bk⟩:=z;let⟨p,l,rfl,h1,h2⟩:=rep;refine⟨p,l,rfl,eO.same ok.base h1,by rw[h2.length];exact m,w,ds,j,S,o,ok,env,h2,q,bk⟩
def DN:∀D l H,jr K (ux d g) D l H->C5 (aX K d) (Cd K g) D l H:=by
 intro D l H z;let⟨w,n,S,y,ok,env,q,bk⟩:=z;refine⟨w,n,S,_,ok,env,q,.go λs u v o x j m h t=>?_⟩;refine⟨o,s.d,n,u,_,m,env.le j,h,t,bk.nx.le j⟩
def QC:∀a H Q,ir K Cn a H Q->P9 a H Q:=by
 intro a H Q z;let⟨w,h,S,j,ok,env,q,bk⟩:=z;exact bk true S w H .refl ok q
def FE(h:fc K g δ k)(caps):fc K g (wj caps δ) (uf caps k):=by
 refine⟨by simp[wj,uf],λi d e=>?_⟩;simp only[wj,zbl] at e;cases q:caps[i]? with
 |none=>rw[q] at e;cases e
 |some o=>
  rw[q] at e;cases o with
  |none=>simp at e
  |some j=>
   cases z:δ[j]? with
   |none=>simp[z] at e
   |some d'=>
    simp[z] at e;subst e;let⟨v,h1,h2⟩:=h.2 j d z;refine⟨v,by simp[uf,q,h1],h2⟩
def DM:∀σ H Q,aX K (b5 caps d g r e) σ H Q->C3 caps (Su K d) (Cd K g) (ir K r) (aX K e) σ H Q:=by
 intro σ H Q z;let⟨w,δ,S,Qa,ok,env,q,bk⟩:=z;refine⟨w,δ,S,_,ok,env,q,λds P S1 J w1 H1 le1 ok1 it q1=>?_⟩;refine⟨λd m xs τ H=>m=ds.length - d/\d<=ds.length/\∃G F v j,w1.le G/\Ok K G H v/\fc K G F τ/\aD K G j xs/\eu P g r e (ds.drop d) j F v (λW v=>Qa (.new (.lst W)) v),⟨ds.length,by simp,zcS _,w1,wj caps δ,S1,[],.refl,ok1,FE (env.le le1) caps,.nil,by simpa using q1⟩,?_⟩;intro d m xs τ2 H2 z;let⟨rfl,hi,G,F,v,j,l,o,E,a,L⟩:=z;by_cases U:d<ds.length
 ·rw[zai U] at L;let⟨hP,L⟩:=L;have hd  :=zal U;refine .inr ⟨it.go d H2 v G _ l o hP hd,λys τ' H'=>∃X n S3 j,w1.le X/\Ok K X H' S3/\fc K X n τ'/\aD K X j ys/\eu P g r e (ds.drop (d+1)) j n S3 (λW v=>Qa (.new (.lst W)) v),λys σ' H' h=>⟨_,by lia,rfl,U,h⟩,λx H' y=>?_⟩;let⟨w2',C,o,rx⟩:=it.HN d H2 v G _ x H' l o hP hd y
  replace E:=E.le C
  replace l:=l.trans C
  replace a:=a.le C
  refine⟨w2',ds[d],F,v,_,o,E,rx,L,λn S3 σ3 X H3 I ok3 u q3=>?_⟩;refine⟨X,n,S3,_,ok3,u,q3,λk S4 w4 H4 s Z q4=>?_⟩;cases k with
  |false=>
   exact yl ⟨w4,n,S4,j,l.trans (I.trans s),Z,u.le s,a.le (I.trans s),by simpa using q4⟩
  |true=>
   refine yk ⟨w4,n,S4,_,Z,u.le s,q4,.go λr5 S5 v5 w5 H5 O ok5 Y z1'=>?_⟩;let⟨hz,q5⟩:=z1';refine⟨by rw[a.length];exact hz,w5,n,S5,j++[r5.d],l.trans (I.trans (s.trans O)),ok5,u.le (s.trans O),(a.le (I.trans (s.trans O))).snoc Y,q5⟩
 ·have e:d=ds.length:=by lia
  subst e;rw[List.drop_length] at L;refine .inl ⟨it.stop _ H2 v G l o L.1 rfl,λp hp=>?_⟩;exact bk (.new (.lst j)) v _ G _ (le1.trans l) (o.alloc hp) (o.fresh hp ⟨xs,rfl,a⟩) L.2
def Jk(h1:g.B k=some (.lst xs))(h:aD K g ds xs):L5 K g (TL K k) ds (λ_=>True) where
 go:=λi H S a d le ok l e=>by
  let⟨v,j,_⟩:=h.get e;refine⟨xs,v,dF.of ((le.b.trans ok.base) _ _ h1),j⟩
 HN:=λi H S a d x q le ok l e y=>by
  let⟨v,j,o⟩:=h.get e;let⟨n,m⟩:=y;have:=m xs (dF.of ((le.b.trans ok.base) _ _ h1));rw[j] at this;cases this;subst n;refine⟨a,.refl,ok,o.le le⟩
 stop:=λi H S a le ok l e=>⟨xs,dF.of ((le.b.trans ok.base) _ _ h1),by rw[h.length];lia⟩
def Jm(q:g.r n=some k):L5 K g (TL K k) ds (λS=>S[n]? =some (some (.lst ds))) where
 go:=λi H S o d le ok m e=>by
  let⟨b,u,a,t,l,h,rfl,j⟩:=ok.live n _ m;rw[le.r n k q] at a;cases a;let⟨v,s,_⟩:=j.get e;refine⟨h,v,dF.of l,s⟩
 HN:=λi H S o d x G le ok m e y=>by
  let⟨b,u,a,t,l,h,rfl,j⟩:=ok.live n _ m;rw[le.r n k q] at a;cases a;let⟨v,s,F⟩:=j.get e;let⟨E,C⟩:=y;have:=C h (dF.of l);rw[s] at this;cases this;subst E;refine⟨o,.refl,ok,F⟩
 stop:=λi H S o le ok m e=>by
  let⟨b,u,a,t,l,h,rfl,j⟩:=ok.live n _ m;rw[le.r n k q] at a;cases a;refine⟨h,dF.of l,by rw[j.length];lia⟩
def Jj(h1:eO K g.B k xs)(h2:aD K g ds xs):L5 K g (Vp K k) ds (λ_=>True) where
 go:=λi H S a d le ok j e=>by
  let⟨v,h,_⟩:=h2.get e;refine⟨xs,v,eO.same (le.b.trans ok.base) h1,h⟩
 HN:=λi H S a d x o le ok j e y=>by
  let⟨v,h,n⟩:=h2.get e;let⟨m,l⟩:=y;have:=l xs (eO.same (le.b.trans ok.base) h1);rw[h] at this;cases this;subst m;refine⟨a,.refl,ok,n.le le⟩
 stop:=λi H S a le ok j e=>⟨xs,eO.same (le.b.trans ok.base) h1,by rw[h2.length];lia⟩
def Ef(e:(j4 g n)[i]? =some d):i<n/\d=.int (g+(i:Int)):=by
 unfold j4 at e;by_cases h:i<n
 ·simp_all
 simp_all
end M
variable {as:List M.AE}{ta tb:M.AE}{sp:M.AN}{o:M.MO}{S:M.aK}{δ:M.bH}
namespace M
open PySem PySem.Spec PyProof.Rows L2
section
variable {e a b c:Expr}{es:List Expr}
def pv(i)(hN:autoParam (X.N[i]? =some x) r0)(j:Tw X.env.scope x:=by first|exact Or.inl rfl|exact Or.inr (Or.inl rfl)|exact Or.inr (Or.inr rfl))(hd:autoParam ((x==("__debug__":Str))=false) r1)(h:autoParam ((x==("__classdict__":Str))=false) r1):GE X (.Name x pos) (fR i):=⟨mE (L2.NT hN j hd h) QD⟩
theorem ao:GE X (.Constant (.int d) g pos) (aC (.int d)):=⟨mE L2.ao (QS λ_=>.int)⟩
theorem c9:GE X (.Constant (.bool d) g pos) (aC (.bl d)):=⟨mE L2.c9 (QS λ_=>.bl)⟩
theorem av:GE X (.Constant (.str d) g pos) (aC (.str d)):=⟨mE L2.av (QS λ_=>.str)⟩
theorem EA(T)(m:Gl X x)(l:X.mg x=none)(h:bootBuiltins x=some (.type T))(j:x≠"__name__":=by decide+kernel)(hd:(x==("__debug__":Str))=false:=by decide+kernel):GE X (.Name x pos) (aC (.ty T)):=
 ⟨mE (L2.EA T m l h j hd) (QS λ_=>.ty)⟩
theorem jP(l:Gl X x)(j:X.mg x=some u)(r:RelV v u)(h:∀w,Rep X.K w d v)(hd:autoParam ((x==("__debug__":Str))=false) r1):GE X (.Name x pos) (aC d):=
 ⟨mE (L2.jP l j r hd) (QS h)⟩
theorem aN(h:uA X (binaryOp op) r)(l:GE X a ta)(j:GE X b tb):GE X (.BinOp a op b pos) (uF r ta tb):=⟨mE (L2.aN h.p l.p j.p) Ip⟩
theorem zQ(h:Vo X (unaryOp op) r)(j:GE X a ta):GE X (.UnaryOp op a pos) (UQ r ta):=⟨mE (L2.zQ h.p j.p) T3⟩
theorem bq(h:uA X (yan op) r)(m:GE X a ta)(l:GE X b tb)(j:behindInMarks op b=false):GE X (.Compare a [op] [b] pos) (uF r ta tb):=⟨mE (L2.bq h.p m.p l.p j) Ip⟩
theorem zR(j:Vn X r)(m:GE X a ta)(l:GE X b tb)(h:nU b):GE X (.Subscript a b pos) (uF r ta tb):=⟨mE (L2.zR j.p m.p l.p h) Ip⟩
theorem ai:GA X [] lO:=⟨mA L2.ai QK⟩
theorem aA(l:GE X e ta)(j:GA X es d)(h:autoParam (notStar e=true) r0):GA X (e::es) (iz ta d):=⟨mA (L2.aA l.p j.p h) MU⟩
theorem aF(h:GA X es d):GE X (.Tuple es k pos) (Gu d):=⟨mE (L2.aF h.p) QE⟩
theorem aL(h:GA X es d):GE X (.List es pos) (Co d):=⟨mE (L2.aL h.p) QL⟩
def nT(h:GE X e d):GE X e (bO d):=⟨mE h.p s_alloc⟩
theorem gu(h:GE X a d):GE X (.BoolOp op [a] pos) d:=⟨L2.gu h.p⟩
theorem fQ(j:GE X a ta)(h:GE X (.BoolOp .And (b::d) pos) tb):GE X (.BoolOp .And (a::b::d) pos) (GD ta tb):=⟨mE (L2.fQ j.p h.p) MV⟩
theorem EB(j:GE X a ta)(h:GE X (.BoolOp .Or (b::d) pos) tb):GE X (.BoolOp .Or (a::b::d) pos) (Ph ta tb):=⟨mE (L2.EB j.p h.p) QI⟩
theorem jO(h:GT X c d)(l:GE X a ta)(j:GE X b tb):GE X (.IfExp c a b pos) (UT d ta tb):=⟨mE (L2.jO h.p l.p j.p) T6⟩
theorem cP:GO X none ur:=⟨mO L2.cP DL⟩
theorem cO(h:GE X e d):GO X (some e) (Gw d):=⟨mO (L2.cO h.p) MH⟩
structure Vm(X:Cx)(r:D->Option Int->Option Int->aK->AK->Prop):Prop where
 p:HK X (LM X.K r)
theorem cj(o:Vm X r)(s:GE X e k)(q:GO X d tl)(n:GO X g z):GE X (.Subscript e (.Slice d g none p2) pos) (UR r k tl z):=
 ⟨mE (L2.cj o.p s.p q.p n.p) T4⟩
theorem Q4(q:uz X (.builtin d) r)(o:Gl X x)(n:X.mg x=none)(j:bootBuiltins x=some (.builtin d))(s:GA X (e::es) g)(m:x≠"__name__":=by decide+kernel)(h:(x==("__debug__":Str))=false:=by decide+kernel)(l:autoParam ((e::es).all notStar=true) r0):GE X (.Call (.Name x k) (e::es) [] pos) (aCall r g):=⟨mE (L2.Q4 q.p o n j s.p m h l) QO⟩
theorem Q3(q:uz X (.type T) r)(o:Gl X x)(n:X.mg x=none)(j:bootBuiltins x=some (.type T))(s:GA X (e::es) d)(m:x≠"__name__":=by decide+kernel)(h:(x==("__debug__":Str))=false:=by decide+kernel)(l:autoParam ((e::es).all notStar=true) r0):GE X (.Call (.Name x g) (e::es) [] pos) (aCall r d):=⟨mE (L2.Q3 q.p o n j s.p m h l) QO⟩
theorem eF(D:Def X.prog X.w X.K X.mg X.base k x ps (az X.K sp))(l:bB k X.A)(m:Gl X x)(n:GA X (e::es) d)(h:(x==("__debug__":Str))=false:=by decide+kernel)(j:autoParam ((e::es).all notStar=true) r0):
  GE X (.Call (.Name x g) (e::es) [] pos) (aCall sp d):=⟨mE (L2.eF D l m zS n.p h j) s_call⟩
def cX(h:GE X e d)(l:∀j,isTrue e X.env j=(do let v <-j;standAt e.pos;holding [v] (truthy v)):=by intro _;rfl):GT X e (J0 d):=⟨mT (L2.Eu h.p l) QF⟩
theorem aq(m:uA X (yan op) r)(s:GE X a ta)(o:GE X b tb)(n:behindInMarks op b=false):GT X (.Compare a [op] [b] pos) (aB (uF r ta tb)):=
 ⟨mT (L2.aq m.p s.p o.p n) λj H Q h=>by
  let⟨w,l,S,t,ok,env,q,bk⟩:=s_b j H Q h;exact Ip j H _ ⟨w,l,S,t,ok,env,q,bk⟩⟩
def pw_pt(h:GW X e d):GT X e d:=⟨h.p.pt⟩
theorem pw_and1(h:GT X a d):GW X (.BoolOp .And [a] pos) d:=⟨L2.pw_and1 h.p⟩
theorem pw_or1(h:GT X a d):GW X (.BoolOp .Or [a] pos) d:=⟨L2.pw_or1 h.p⟩
theorem pw_and(j:GT X a g)(h:GW X (.BoolOp .And (b::d) pos) k):GW X (.BoolOp .And (a::b::d) pos) (Pz g k):=⟨mW (L2.pw_and j.p h.p) QU⟩
theorem pw_or(j:GT X a g)(h:GW X (.BoolOp .Or (b::d) pos) k):GW X (.BoolOp .Or (a::b::d) pos) (US g k):=⟨mW (L2.pw_or j.p h.p) T5⟩
theorem k8(h:GT X a d):GT X (.UnaryOp .Not a pos) (Pj d):=⟨mT (L2.k8 h.p) QJ⟩
theorem bX:SY X [] Cn:=⟨mTs L2.bX QC⟩
theorem cN(h:GT X c d):SY X [c] d:=⟨L2.cN h.p⟩
theorem iQ(S:fj scope N)(h:kh X.N X.env scope N caps=true)(l:L2.freeOk X.env scope=true)(y:X.calm=true)(t:GI X tg iter k)(u:∀s₀ H₀ C fp,GG (jv X scope N s₀ H₀ C fp) tg g)(q:∀s₀ H₀ C fp,SY (jv X scope N s₀ H₀ C fp) ifs r)(v:∀s₀ H₀ C fp,GE (jv X scope N s₀ H₀ C fp) d z)(s:∀x,foldedSetIterable iter X.env x=pure x:=by intro _;rfl):GE X (.ListComp d [⟨tg,iter,ifs,0⟩] scope pos) (b5 caps k g r z):=
 ⟨mE (L2.iQ S h l y t.p (λs₀ H₀ C fp=>(u s₀ H₀ C fp).p) (λs₀ H₀ C fp=>(q s₀ H₀ C fp).p) (λs₀ H₀ C fp=>(v s₀ H₀ C fp).p) s) DM⟩
theorem aJ:yW X [] wG:=⟨Ve L2.aJ MI⟩
theorem ah(h:GS X st d):yW X [st] d:=⟨L2.ah h.p⟩
theorem aa(h:GS X st k)(g:yW X d q):yW X (st::d) (uo k q):=⟨Ve (L2.aa h.p g.p) QG⟩
theorem bD(h:GE X e d)(j:autoParam (yat e none pos.line X.env=pure false) r0):GS X (.Expr e pos) (wH d):=⟨mS (L2.bD h.p j) MQ⟩
theorem aE(h:GE X e d):GS X (.Return (some e) pos) (wF d):=⟨mS (L2.aE h.p) QH⟩
theorem aP(j:GT X c g)(m:yW X d k)(l:yW X q r):GS X (.If c d q pos) (Cp g k r):=⟨mS (L2.aP j.p m.p l.p) QM⟩
theorem dX(hN:X.N.Nodup)(j:X.N[i]? =some x)(h:Loc X.env.scope x)(l:X.fn x=true∨X.env.scope.names.lookup x=some .local:=by first|exact .inl rfl|exact .inr rfl|assumption):GG X (.Name x pos) (bN i):=⟨mG (L2.dX hN j h l) sS⟩
theorem cQ:TN X [] LQ:=⟨Vf L2.cQ MN⟩
theorem aQ(h1:GG X e d)(h2:TN X es g)(h:autoParam ((assignEach (e::es) X.env).map (·.2)=assign e X.env::(assignEach es X.env).map (·.2)) r0):TN X (e::es) (Gn d g):=⟨Vf (L2.aQ h1.p h2.p h) Iq⟩
theorem dO(m:X.calm=true)(h:TN X es d)(l:autoParam ((assignEach es X.env).length=n) r0)(j:autoParam ((assignEach es X.env).findIdx? (·.1)=none) r0):GG X (.Tuple es k pos) (LP n d):=⟨mG (L2.dO m h.p l j) MM⟩
theorem oQ(l:GE X e d)(j:GG X tg g)(h:autoParam (swapsWithSole [tg] e pos.line X.env=pure false) r0)(hw:autoParam (swappedStores [tg] e X.env=pure none) r0)(h1:autoParam ((assignEach [tg] X.env).map (·.2)=[assign tg X.env]) r0):GS X (.Assign [tg] e pos) (ux d g):=⟨mS (L2.oQ l.p j.p h hw h1) DN⟩
theorem xU(hN:X.N.Nodup)(y:X.N[i]? =some x)(s:Loc X.env.scope x)(E:GE X e d)(u:autoParam (yat e (some (.Name x pos')) pos.line X.env=pure false) r0)(C:X.fn x=true∨X.env.scope.names.lookup x=some .local:=by first|exact .inl rfl|exact .inr rfl|assumption):
  GS X (.Assign [.Name x pos'] e pos) (ux d (bN i)):=⟨mS (L2.xU hN y s E.p u C) λD l H h=>by
  let⟨w,m,S,G,ok,env,q,bk⟩:=DN D l H h;refine⟨w,m,S,G,ok,env,q,λr F v n I le j rep o=>sS _ _ _ _ (bk r F v n I le j rep o)⟩⟩
theorem jj(hN:X.N.Nodup)(s:X.N[i]? =some x)(O:X.env.scope.names.lookup x=some .local)(S:fj scope N)(m:kh X.N X.env scope N caps=true)(t:L2.freeOk X.env scope=true)(Z:X.calm=true)(U:GI X tg iter z)(W:∀s₀ H₀ C fp,GG (jv X scope N s₀ H₀ C fp) tg g)(P:∀s₀ H₀ C fp,SY (jv X scope N s₀ H₀ C fp) ifs J)(Y:∀s₀ H₀ C fp,GE (jv X scope N s₀ H₀ C fp) d T)(o:autoParam (yat (.ListComp d [⟨tg,iter,ifs,0⟩] scope pos) (some (.Name x pos')) k.line X.env=pure true) r0)(Q:∀x,foldedSetIterable iter X.env x=pure x:=by intro _;rfl):GS X (.Assign [.Name x pos'] (.ListComp d [⟨tg,iter,ifs,0⟩] scope pos) k) (ux (b5 caps z g J T) (bN i)):=
 ⟨mS (L2.jj hN s O S m t Z U.p (λs₀ H₀ C fp=>(W s₀ H₀ C fp).p) (λs₀ H₀ C fp=>(P s₀ H₀ C fp).p) (λs₀ H₀ C fp=>(Y s₀ H₀ C fp).p) o Q) λD F H h=>by
  let⟨w,G,S,Qa,ok,env,q,bk⟩:=DN D F H h;exact DM _ _ _ ⟨w,G,S,Qa,ok,env,q,λr S' v I H' le n rep L=>sS _ _ _ _ (bk r S' v I H' le n rep L)⟩⟩
end
section
def Lr(h:iI X d r)(h':iI X d e):iI X d (λx y H Q=>r x y H Q∨e x y H Q):=by
 intro a s j H x y v u Q I m l q;obtain q|q:=q
 ·exact h a s j H x y v u Q I m l q
 ·exact h' a s j H x y v u Q I m l q
def Uq(h:cG X d r)(h':cG X d e):cG X d (λx H Q=>r x H Q∨e x H Q):=by
 intro a s j H x v Q I l q;obtain q|q:=q
 ·exact h a s j H x v Q I l q
 ·exact h' a s j H x v Q I l q
variable {w:Wd}{u:V}{d e:D}
def cL(h:Rep K w d v)(z:aT S d=.int g):v=.int g:=by
 cases d<;>simp only[aT] at z
 case loc n=>split at z<;>first|(rename_i o _;cases o<;>simp[MO.d] at z)|cases z
 all_goals simp_all
 simpa[Rep] using h
def b9(h:Rep K w d v)(z:aT S d=.str g):v=.str g:=by
 cases d<;>simp only[aT] at z
 case loc n=>split at z<;>first|(rename_i o _;cases o<;>simp[MO.d] at z)|cases z
 all_goals simp_all
 simpa[Rep] using h
def gn(h:Rep K w d v)(z:aT S d=.bl g):v=.bl g:=by
 cases d<;>simp only[aT] at z
 case loc n=>split at z<;>first|(rename_i o _;cases o<;>simp[MO.d] at z)|cases z
 all_goals simp_all
 simpa[Rep] using h
def Ig(h:Rep K w d v)(z:aT S d=.bU):v=.bU:=by
 cases d<;>simp only[aT] at z
 case loc n=>split at z<;>first|(rename_i o _;cases o<;>simp[MO.d] at z)|cases z
 all_goals first|cases z|skip
 simpa[Rep] using h
def jD(k:Ok K w H S)(h:Rep K w d v)(z:aT S d=.mh ns):∃a,v=.ref a/\dF K H a (ns.map V.int):=by
 cases d<;>simp only[aT] at z
 case loc n=>split at z<;>first|(rename_i o _;cases o<;>simp[MO.d] at z)|cases z
 all_goals first|cases z|skip
 let⟨a,h1,h2⟩:=h;refine⟨a,h1,k.base.seq h2⟩
def aI(C:Int->Int->Prop)(g:Int->Int->D):A2:=λx y S Q=>∃i j,x=.int i/\y=.int j/\C i j/\Q (.dat (g i j)) S
def PY(h:∀w i j,Rep K w (g i j) (g' i j)):∀x y H Q,Ce K (aI k g) x y H Q->rI k g' x y H Q:=by
 intro x y H Q z;let⟨w,d,e,S,s,ok,l,a,⟨i,j,o,n,m,q⟩,bk⟩:=z;refine⟨i,j,bu l o,bu a n,m,bk.dat .refl ok (h w i j) q⟩
def xS:∀x y H Q,rI (λ_ _=>True) g x y H Q->Lp g x y H Q:=by
 intro x y H Q z;let⟨i,j,h1,h2,_,q⟩:=z;refine⟨i,j,h1,h2,q⟩
def vn:uA X (binaryOp .Sub) (aI (λ_ _=>True) λi j=>.int (i - j)):=⟨m2 L2.NV λx y H Q h=>xS x y H Q (PY (g':=λi j=>.int (i - j)) (λ_ _ _=>.int) x y H Q h)⟩
def tM:uA X (binaryOp .FloorDiv) (aI KI λi j=>.int (i / j)):=⟨m2 L2.IS (PY λ_ _ _=>.int)⟩
def gf:uA X (binaryOp .Mod) (aI (λ_ j=>0<j) λi j=>.int (i % j)):=⟨m2 L2.N6 (PY λ_ _ _=>.int)⟩
def Lu:uA X (binaryOp .Pow) (aI KH λi j=>.int (i ^ j.toNat)):=⟨m2 L2.NX (PY λ_ _ _=>.int)⟩
def IZ:uA X (yan .Gt) (aI (λ_ _=>True) λi j=>.bl (decide (j<i))):=⟨m2 L2.Q8 λx y H Q h=>xS x y H Q (PY (g':=λi j=>.bl (decide (j<i))) (λ_ _ _=>.bl) x y H Q h)⟩
def Ja:uA X (yan .GtE) (aI (λ_ _=>True) λi j=>.bl (decide (j<=i))):=⟨m2 L2.Q9 λx y H Q h=>xS x y H Q (PY (g':=λi j=>.bl (decide (j<=i))) (λ_ _ _=>.bl) x y H Q h)⟩
def Vj:A2:=λx y S Q=>match x,y with
 |.int i,.int j=>Q (.dat (.bl (decide (i<j)))) S
 |.str i,.str j=>Q (.dat (.bl (decide (i.cps.toList<j.cps.toList)))) S
 |_,_=>False
def aLe:A2:=λx y S Q=>match x,y with
 |.int i,.int j=>Q (.dat (.bl (decide (i<=j)))) S
 |.str i,.str j=>Q (.dat (.bl (!decide (j.cps.toList<i.cps.toList)))) S
 |_,_=>False
def x6:uA X (yan .Lt) Vj:=⟨m2 (Lr L2.Q7 L2.BJ) λx y H Q h=>by
 obtain⟨w,d,e,S,l,ok,j,a,q,bk⟩:=h;cases d<;>cases e<;>first|exact q.elim|skip
 ·exact .inl ⟨_,_,bu j rfl,bu a rfl,bk.dat .refl ok .bl q⟩
 ·exact .inr ⟨_,_,jI j rfl,jI a rfl,bk.dat .refl ok .bl q⟩⟩
def qd:A2:=λx y S Q=>match aT S x,aT S y with
 |.int i,.int j=>Q (.dat (.int (i+j))) S
 |.str i,.str j=>i.length+j.length<=yag/\Q (.dat (.str (i++j))) S
 |.lst xs,.lst ys=>xs.length+ys.length<=yag/\Q (.new (.lst (xs++ys))) S
 |.tup xs,.tup ys=>xs≠[]/\xs.length+ys.length<=yag/\Q (.dat (.tup (xs++ys))) S
 |_,_=>False
def ck:uA X (binaryOp .Add) qd:=⟨m2 (Lr L2.Ob (Lr L2.xX (Lr L2.Oa L2.IU))) λx y H Q h=>by
 let⟨w,d,e,S,Y,ok,v,C,q,bk⟩:=h;unfold qd at q;cases j:aT S d<;>cases s:aT S e<;>rw[j,s] at q<;>first|exact q.elim|skip
 ·exact .inl ⟨_,_,cL v j,cL C s,bk.dat .refl ok .int q⟩
 ·exact .inr (.inl ⟨_,_,b9 v j,b9 C s,q.1,bk.dat .refl ok .str q.2⟩)
 ·let⟨a,G,rfl,h1,m⟩:=b7 ok v j;let⟨b,F,rfl,h2,l⟩:=b7 ok C s;let⟨O,U,q⟩:=q;refine .inr (.inr (.inr ⟨a,b,G,F,rfl,rfl,h1,h2,?_,by rw[m.length,l.length];exact U,λP=>?_,λP p E=>?_⟩))
  ·intro z;subst z;have:=m.length;simp at this;exact O (zab this.symm)
  ·subst P;have:_=[]:=zab l.length.symm;rw[this,zbW] at q;cases d<;>simp only[aT] at j
   case tup=>cases j;exact bk.dat .refl ok v q
   case loc n=>split at j<;>first|(rename_i o _;cases o<;>simp[MO.d] at j)|cases j
   all_goals cases j
  ·let⟨W,L,I,t⟩:=ok.lA E (m.append l);exact bk.dat L I t q
 ·let⟨a,G,rfl,h1,m⟩:=bh ok v j;let⟨b,F,rfl,h2,l⟩:=bh ok C s;refine .inr (.inr (.inl ⟨a,b,G,F,rfl,rfl,h1,h2,by rw[m.length,l.length];exact q.1,λp E=>?_⟩));exact bk (.new (.lst _)) S _ w _ .refl (ok.alloc E) (ok.fresh E ⟨_,rfl,m.append l⟩) q.2⟩
end
end M
namespace M
open PySem PySem.Spec PyProof.Rows PySem.SeqAt L2
mutual
noncomputable def cg:D->Bool
 |.bU|.bl _|.int _|.str _=>true
 |.tup ds|.lst ds=>bM ds
 |_=>false
noncomputable def bM:List D->Bool
 |[]=>true
 |d::ds=>cg d&&bM ds
end
mutual
noncomputable def py:D->yam
 |.bU=>.none
 |.bl b=>.bool b
 |.int i=>.int i
 |.str x=>.str x
 |.tup ds=>.tuple (eE ds)
 |.lst ds=>.list (eE ds)
 |_=>.none
noncomputable def eE:List D->List yam
 |[]=>[]
 |d::ds=>py d::eE ds
end
section
variable {w:Wd}
mutual
theorem FH(e:gM w.B H):∀(d:D)(v:V),cg d=true->Rep K w d v->dH K H (py d) v
 |.bU,v,_,h=>by simpa[Rep,py,dH] using h
 |.bl _,v,_,h=>by simpa[Rep,py,dH] using h
 |.int _,v,_,h=>by simpa[Rep,py,dH] using h
 |.str _,v,_,h=>by simpa[Rep,py,dH] using h
 |.tup ds,v,hp,h=>by
  simp only[Rep,py,dH] at h⊢;let⟨a,j,h1,h2,l⟩:=h;refine⟨a,j,h1,eO.same e h2,nP e ds j (by simpa[cg] using hp) l⟩
 |.lst ds,v,hp,h=>by
  simp only[Rep,py,dH] at h⊢;let⟨a,j,h1,h2,l⟩:=h;refine⟨a,j,h1,dF.of (e _ _ h2),nP e ds j (by simpa[cg] using hp) l⟩
 |.dct _ _,_,hp,_=>by simp[cg] at hp
 |.loc _,_,hp,_=>by simp[cg] at hp
 |.ty _,_,hp,_=>by simp[cg] at hp
 |.mh _,_,hp,_=>by simp[cg] at hp
 |.fd,_,hp,_=>by simp[cg] at hp
 |.fn _,_,hp,_=>by simp[cg] at hp
theorem nP(e:gM w.B H):∀(ds:List D)(vs:List V),bM ds=true->aD K w ds vs->kL K H (eE ds) vs
 |[],vs,_,h=>by simpa[aD,eE,kL] using h
 |d::ds,vs,hp,h=>by
  simp only[bM,zbR] at hp;simp only[aD,eE,kL] at h⊢;let⟨x,r,h1,h2,a⟩:=h;refine⟨x,r,h1,FH e d x hp.1 h2,nP e ds r hp.2 a⟩
end
def zw(k:Ok K w H S)(h:Rep K w d v)(j:cg (aT S d)=true):dH K H (py (aT S d)) v:=by
 cases d with
 |loc n=>
  cases z:aT S (.loc n) with
  |lst ds=>
   rw[z] at j;let⟨a,l,rfl,h1,h2⟩:=bh k h z;simp only[py,dH];refine⟨a,l,rfl,dF.of h1,nP k.base ds l (by simpa[cg] using j) h2⟩
  |_=>
   rw[z] at j;simp only[aT] at z;split at z<;>first|(rename_i o _;cases o<;>simp[MO.d] at z)|(cases z;simp[cg] at j)|cases z
   all_goals simp[cg] at j
 |_=>exact FH k.base _ v (by simpa[aT] using j) h
end
noncomputable def fit(d:D):Bool:=cg d&&shaped (py d)
def Pu:A2:=λx y S Q=>match aT S x,aT S y with
 |.str a,.str b=>Q (.dat (.bl (decide (a=b)))) S
 |.int a,.int b=>Q (.dat (.bl (decide (a=b)))) S
 |.bl a,.bl b=>Q (.dat (.bl (decide (a=b)))) S
 |x',y'=>fit x'=true/\fit y'=true/\Q (.dat (.bl (PyData.eqv (py x') (py y')))) S
def Pk:A2:=λx y S Q=>match aT S x,aT S y with
 |.str a,.str b=>Q (.dat (.bl (!decide (a=b)))) S
 |.int a,.int b=>Q (.dat (.bl (!decide (a=b)))) S
 |.bl a,.bl b=>Q (.dat (.bl (!decide (a=b)))) S
 |x',y'=>fit x'=true/\fit y'=true/\Q (.dat (.bl (!PyData.eqv (py x') (py y')))) S
def Uk(K:yaJ):R2:=λx y H Q=>∃a b,dH K H a x/\dH K H b y/\shaped a=true/\shaped b=true/\Q (.bl (PyData.eqv a b)) H
def Ui(K:yaJ):R2:=λx y H Q=>∃a b,dH K H a x/\dH K H b y/\shaped a=true/\shaped b=true/\Q (.bl (!PyData.eqv a b)) H
def N9(t:bB k X.A):iI X (yan .Eq) (Uk X.K):=by
 intro j s F H x y v u Q I m l h;let⟨a,b,h1,h2,E,C,q⟩:=h;let⟨G,o⟩:=I.reads a x v h1 m;let⟨bs,n⟩:=I.reads b y u h2 l;exact eq_dataH o n E C t.units ⟨.bl _,H,I,rfl,q⟩
def NY(t:bB k X.A):iI X (yan .NotEq) (Ui X.K):=by
 intro j s F H x y v u Q I m l h;let⟨a,b,h1,h2,E,C,q⟩:=h;let⟨G,o⟩:=I.reads a x v h1 m;let⟨bs,n⟩:=I.reads b y u h2 l;exact ne_dataH o n E C t.units ⟨.bl _,H,I,rfl,q⟩
def fK(k:Ok K e H S)(h:Rep K e d v)(a:fit (aT S d)=true):dH K H (py (aT S d)) v/\shaped (py (aT S d))=true:=by
 unfold fit at a;rw[zbR] at a;exact⟨zw k h a.1,a.2⟩
def bQ(o:bB k X.A):uA X (yan .Eq) Pu:=⟨m2 (Lr L2.Ra (N9 o)) λx y H Q h=>by
 let⟨w,d,e,S,C,ok,l,j,q,bk⟩:=h;unfold Pu at q;split at q
 next a b z1 z2=>
  refine .inl ⟨by rw[b9 l z1,b9 j z2];rfl,?_⟩;rw[b9 l z1,b9 j z2];exact bk.dat .refl ok (by rw[show decide (V.str a=V.str b)=decide (a=b) by simp];exact .bl) q
 next a b z1 z2=>
  refine .inl ⟨by rw[cL l z1,cL j z2];rfl,?_⟩;rw[cL l z1,cL j z2];exact bk.dat .refl ok (by rw[show decide (V.int a=V.int b)=decide (a=b) by simp];exact .bl) q
 next a b z1 z2=>
  refine .inl ⟨by rw[gn l z1,gn j z2];rfl,?_⟩;rw[gn l z1,gn j z2];exact bk.dat .refl ok (by rw[show decide (V.bl a=V.bl b)=decide (a=b) by simp];exact .bl) q
 next=>
  let⟨v,u,q⟩:=q;let⟨t,n⟩:=fK ok l v;let⟨s,m⟩:=fK ok j u;exact .inr ⟨_,_,t,s,n,m,bk.dat .refl ok .bl q⟩⟩
def tL(o:bB k X.A):uA X (yan .NotEq) Pk:=⟨m2 (Lr L2.Q6 (NY o)) λx y H Q h=>by
 let⟨w,d,e,S,C,ok,l,j,q,bk⟩:=h;unfold Pk at q;split at q
 next a b z1 z2=>
  refine .inl ⟨by rw[b9 l z1,b9 j z2];rfl,?_⟩;rw[b9 l z1,b9 j z2];exact bk.dat .refl ok (by rw[show decide (V.str a=V.str b)=decide (a=b) by simp];exact .bl) q
 next a b z1 z2=>
  refine .inl ⟨by rw[cL l z1,cL j z2];rfl,?_⟩;rw[cL l z1,cL j z2];exact bk.dat .refl ok (by rw[show decide (V.int a=V.int b)=decide (a=b) by simp];exact .bl) q
 next a b z1 z2=>
  refine .inl ⟨by rw[gn l z1,gn j z2];rfl,?_⟩;rw[gn l z1,gn j z2];exact bk.dat .refl ok (by rw[show decide (V.bl a=V.bl b)=decide (a=b) by simp];exact .bl) q
 next=>
  let⟨v,u,q⟩:=q;let⟨t,n⟩:=fK ok l v;let⟨s,m⟩:=fK ok j u;exact .inr ⟨_,_,t,s,n,m,bk.dat .refl ok .bl q⟩⟩
noncomputable def inD(d:D)(ds:List D):Bool:=ds.any λy=>PyData.eqv (py y) (py d)
def mU(a:Bool):A2:=λx y S Q=>match aT S y with
 |.tup ds=>fit (aT S x)=true/\fit (.tup ds)=true/\Q (.dat (.bl (a != inD (aT S x) ds))) S
 |.lst ds=>fit (aT S x)=true/\fit (.lst ds)=true/\Q (.dat (.bl (a != inD (aT S x) ds))) S
 |_=>False
def NK(K:yaJ)(a:Bool):R2:=λx y H Q=>∃d ds,dH K H d x/\(dH K H (.tuple ds) y∨dH K H (.list ds) y)/\shaped d=true/\PyData.canLayAll0 ds=true/\Q (.bl (a != ds.any λy=>PyData.eqv y d)) H
def N8(C:bB k X.A):iI X (yan .In) (NK X.K false):=by
 intro n s E H x y v u Q I t l h;let⟨d,ds,h1,h2,a,o,q⟩:=h;let⟨G,m⟩:=I.reads d x v h1 t;have F:=C.un;obtain h2|h2:=h2
 ·let⟨bs,j⟩:=I.reads _ y u h2 l;exact PySem.SeqAt.in_tuple_reads j m o (canLay_of_shaped a) (room_in_shaped a (by lia)) ⟨.bl _,H,I,by simp[L2.RelV],q⟩
 ·let⟨bs,j⟩:=I.reads _ y u h2 l;exact PySem.SeqAt.in_list_reads j m o (canLay_of_shaped a) (room_in_shaped a (by lia)) ⟨.bl _,H,I,by simp[L2.RelV],q⟩
def BI(C:bB k X.A):iI X (yan .NotIn) (NK X.K true):=by
 intro n s E H x y v u Q I t l h;let⟨d,ds,h1,h2,a,o,q⟩:=h;let⟨G,m⟩:=I.reads d x v h1 t;have F:=C.un;obtain h2|h2:=h2
 ·let⟨bs,j⟩:=I.reads _ y u h2 l;exact PySem.SeqAt.notIn_tuple_reads j m o (canLay_of_shaped a) (room_in_shaped a (by lia)) ⟨.bl _,H,I,by simp[L2.RelV],q⟩
 ·let⟨bs,j⟩:=I.reads _ y u h2 l;exact PySem.SeqAt.notIn_list_reads j m o (canLay_of_shaped a) (room_in_shaped a (by lia)) ⟨.bl _,H,I,by simp[L2.RelV],q⟩
def IF(ds):eE ds=ds.map py:=by
 induction ds with
 |nil=>rfl
 |cons d ds ih=>simp[eE,ih]
def AW(ds)(p):(eE ds).any p=ds.any λy=>p (py y):=by
 rw[IF,zcC];rfl
def Jv(h:fit (.tup ds)=true):PyData.canLayAll0 (eE ds)=true:=by
 unfold fit at h;rw[zbR] at h;have:=canLay_of_shaped h.2;simpa[py,PyData.canLay0] using this
def FA(h:fit (.lst ds)=true):PyData.canLayAll0 (eE ds)=true:=by
 unfold fit at h;rw[zbR] at h;have:=canLay_of_shaped h.2;simpa[py,PyData.canLay0] using this
def Sy:∀x y H Q,Ce K (mU neg) x y H Q->NK K neg x y H Q:=by
 intro x y H Q k;let⟨w,d,e,S,t,ok,o,n,q,bk⟩:=k;unfold mU at q;split at q
 next ds z=>
  let⟨m,l,q⟩:=q;let⟨j,h⟩:=fK ok o m;let⟨a,s⟩:=fK ok n (by simp_all);rw[z] at a;refine⟨_,eE ds,j,.inl (by simpa only[py] using a),h,Jv l,?_⟩;rw[AW];exact bk.dat .refl ok .bl q
 next ds z=>
  let⟨m,l,q⟩:=q;let⟨j,h⟩:=fK ok o m;let⟨a,s⟩:=fK ok n (by simp_all);rw[z] at a;refine⟨_,eE ds,j,.inr (by simpa only[py] using a),h,FA l,?_⟩;rw[AW];exact bk.dat .refl ok .bl q
 next=>exact q.elim
def gZ(a:bB k X.A):uA X (yan .In) (mU false):=⟨m2 (N8 a) Sy⟩
def fF(a:bB k X.A):uA X (yan .NotIn) (mU true):=⟨m2 (BI a) Sy⟩
section
variable {w:Wd}{d:D}
def ve(h:aD K w ds xs)(q:jw ds g=some e):∃u,jw xs g=some u/\Rep K w e u:=by
 unfold jw at q⊢;rw[h.length];cases z:BZ ds.length g with
 |none=>rw[z] at q;cases q
 |some j=>
  rw[z] at q;exact h.get q
def qF:A2:=λx y S Q=>match aT S x,y with
 |.lst ds,.int i=>∃e,jw ds i=some e/\Q (.dat e) S
 |.tup ds,.int i=>∃e,jw ds i=some e/\Q (.dat e) S
 |.str z,.int i=>z.length<=yag/\∃c,jw z.cps.toList i=some c/\Q (.dat (.str ⟨#[c]⟩)) S
 |.mh ns,.int i=>∃n,jw ns i=some n/\Q (.dat (.int n)) S
 |_,_=>False
def JV{α m:Type}{f:α->m}{l:List α}{a:α}(h:jw l e=some a):jw (l.map f) e=some (f a):=by
 unfold jw at h⊢;cases z:BZ l.length e with
 |none=>simp_all
 |some j=>
  simp_all
def Rf:Vn X qF:=⟨λj l m s O H x y v u Q I U P h W=>by
 refine L2.OF j l m s O H x y v u Q I U P ?_ W;let⟨w,d,e,S,Qa,ok,t,o,q,bk⟩:=h;unfold qF at q;split at q
 next ds i z=>
  let⟨a,C,rfl,h1,h2⟩:=bh ok t z;let⟨e',F,q⟩:=q;let⟨E,L,G⟩:=ve h2 F;exact .inl ⟨a,C,i,E,rfl,bu o rfl,dF.of h1,L,bk.dat .refl ok G q⟩
 next ds i z=>
  let⟨a,C,rfl,h1,h2⟩:=b7 ok t z;let⟨e',F,q⟩:=q;let⟨E,L,G⟩:=ve h2 F;exact .inr (.inl ⟨a,C,i,E,rfl,bu o rfl,h1,L,bk.dat .refl ok G q⟩)
 next y i z=>
  let⟨Z,c,hc,q⟩:=q;exact .inr (.inr ⟨y,i,c,b9 t z,bu o rfl,Z,hc,bk.dat .refl ok .str q⟩)
 next ns i z=>
  let⟨a,rfl,h1⟩:=jD ok t z;let⟨n,Y,q⟩:=q;exact .inl ⟨a,_,i,.int n,rfl,bu o rfl,h1,JV Y,bk.dat .refl ok .int q⟩
 next=>exact q.elim⟩
noncomputable def cutD{α:Type}(a:List α)(h j:Option Int):List α:=(a.drop (HT.cV a.length 0 h)).take (HT.cV a.length a.length j - HT.cV a.length 0 h)
def oH(h:aD K w ds xs)(a j):aD K w (cutD ds a j) (Ca xs a j):=by
 unfold cutD Ca;rw[h.length];exact(h.drop _).take _
end
def iW(l:IsTup s.heap d items)(x:s.heap.IsSliceOf e g k .none)(pl:IsPart g r)(pu:IsPart k z)(hw:HT.cV items.size 0 r=0/\HT.cV items.size items.size z=items.size)(h:Q (.ref d) s):yar (model prog w) A (getItem (.ref d) (.ref e)) Q E s:=by
 let⟨os,n,o,y⟩:=id x;have q:s.TypeIs (.ref e) "slice":=⟨os,n,o⟩
 unfold getItem
 try with_reducible refine yad ?_
 refine yaa (wpAny_sequenceKey l.typeIs (by decide) ?_);refine yaa (wpAny_callSpecial?_slot l.typeIs PyProof.Rows.slot_tuple_getitem (wpAny_call_entry PyProof.Rows.slot_tuple_getitem l.typeIs PyProof.Rows.entry_tuple_getitem ?_ (PyProof.Rows.args_tuple_getitem _ _)));show yar _ _ (Builtin.Tuple.tupleItemsOf (.ref d) >>= _) _ _ s;refine yaa (PyProof.Rows.tupleItemsOf_ l ?_);refine yaa (wpAny_typeOf q ?_);refine yaa (HT.fW x pl pu ?_);have j:(((HT.cV items.size 0 r:Nat):Int)==0&&(1:Int)==1&&(HT.cV items.size items.size z - HT.cV items.size 0 r)==items.size)=true:=by
  simp_all
 show yar _ _ (if(((HT.cV items.size 0 r:Nat):Int)==0&&(1:Int)==1&&(HT.cV items.size items.size z - HT.cV items.size 0 r)==items.size)=true then _ else _) _ _ s;rw[yIp j];refine yaa ?_;refine yaa (wpAny_typeOf l.typeIs (yab ?_));exact yaa (wpAny_rule (yab ⟨_,rfl,yab h⟩))
section
variable {w:Wd}{d:D}
def p9:D->Option Int->Option Int->aK->AK->Prop:=λx a h S Q=>match aT S x with
 |.lst ds=>Q (.new (.lst (cutD ds a h))) S
 |.tup ds=>Q (.dat (.tup (cutD ds a h))) S
 |.str z=>z.length<=yag/\Q (.dat (.str (Txt.slice z a h))) S
 |.mh ns=>Q (.new (.lst ((cutD ns a h).map D.int))) S
 |_=>False
def Ud(K:yaJ):V->Option Int->Option Int->Hp->VK->Prop:=λx j l H Q=>∃a h,x=.ref a/\eO K H a h/\(HT.cV h.length 0 j=0/\HT.cV h.length h.length l=h.length)/\Q (.ref a) H
def Dv:HK X (Ud X.K):=by
 intro m s C H x v F E L O G Q I t y pl pu h;let⟨a,o,rfl,u,hw,q⟩:=h;cases t;let⟨l,r,n,hz⟩:=I.tuple u;have j:l.toArray.size=o.length:=by exact r.length.symm
 refine⟨"tuple",_,PyProof.Rows.slot_tuple_getitem.lookup,n.typeIs,?_⟩;exact iW n y pl pu (by rw[j];exact hw) ⟨.ref a,H,I,rfl,q⟩
def B9{α:Type}{a:List α}(h:HT.cV a.length 0 e=0/\HT.cV a.length a.length g=a.length):cutD a e g=a:=by
 unfold cutD;simp_all
def JO{α l:Type}(f:α->l)(a)(h j):cutD (a.map f) h j=(cutD a h j).map f:=by
 unfold cutD;simp
theorem dM{w:Wd}:∀(ns:List Int),aD K w (ns.map D.int) (ns.map V.int)
 |[]=>.nil
 |n::ns=>.cons .int (dM ns)
def gY:Vm X p9:=⟨by
 intro u s L H x v P O C E U Q I W Y pl pu h;refine(L2.Ia.or (L2.My.or (Dv.or L2.MA))) u s L H x v P O C E U Q I W Y pl pu ?_;let⟨w,d,S,Qa,ok,t,q,bk⟩:=h;unfold p9 at q;split at q
 next ds z=>
  let⟨a,j,rfl,h1,h2⟩:=bh ok t z;exact .inl ⟨a,j,rfl,dF.of h1,λp l=>bk (.new (.lst _)) S _ w _ .refl (ok.alloc l) (ok.fresh l ⟨_,rfl,oH h2 C E⟩) q⟩
 next ds z=>
  let⟨a,j,rfl,h1,h2⟩:=b7 ok t z;by_cases hw:HT.cV j.length 0 C=0/\HT.cV j.length j.length E=j.length
  ·refine .inr (.inr (.inl ⟨a,j,rfl,h1,hw,?_⟩));rw[h2.length] at hw;rw[B9 hw] at q;cases d<;>simp only[aT] at z
   case tup=>cases z;exact bk.dat .refl ok t q
   case loc n=>split at z<;>first|(rename_i o _;cases o<;>simp[MO.d] at z)|cases z
   all_goals cases z
  ·refine .inr (.inl ⟨a,j,rfl,h1,hw,λp l=>?_⟩);let⟨Z,G,F,m⟩:=ok.lA l (oH h2 C E);exact bk.dat G F m q
 next y z=>exact .inr (.inr (.inr ⟨y,b9 t z,q.1,bk.dat .refl ok .str q.2⟩))
 next ns z=>
  let⟨a,rfl,h1⟩:=jD ok t z;refine .inl ⟨a,_,rfl,h1,λp l=>bk (.new (.lst _)) S _ w _ .refl (ok.alloc l) (ok.fresh l ⟨_,rfl,?_⟩) q⟩;have:=oH (dM (K:=X.K) (w:=w) ns) C E;rw[JO] at this;exact this
 simp_all⟩
def uu:A2:=λx y S Q=>match aT S x,y with
 |.int i,.int j=>HE i j/\Q (.dat (.int (i*j))) S
 |.lst ds,.int k=>(-(2 ^ 63)<=k/\k<2 ^ 63)/\ds.length*k.toNat<=yag/\Q (.new (.lst (zcj k.toNat ds).flatten)) S
 |_,_=>False
theorem vd(h:aD K w ds e):∀k:Nat,aD K w (zcj k ds).flatten (zcj k e).flatten
 |0=>.nil
 |k+1=>by
  exact h.append (vd h k)
def rR:uA X (binaryOp .Mult) uu:=⟨m2 (Lr L2.NZ L2.NW) λx y H Q h=>by
 let⟨w,d,e,S,v,ok,m,l,q,bk⟩:=h;unfold uu at q;split at q
 next i j z=>exact .inl ⟨i,j,cL m z,bu l rfl,q.1,bk.dat .refl ok .int q.2⟩
 next ds k z=>
  let⟨a,o,rfl,h1,h2⟩:=bh ok m z;let⟨⟨u,t⟩,s,q⟩:=q;refine .inr ⟨a,k,o,rfl,bu l rfl,h1,u,t,by rw[h2.length];exact s,λp n=>?_⟩;exact bk (.new (.lst _)) S _ w _ .refl (ok.alloc n) (ok.fresh n ⟨_,rfl,vd h2 k.toNat⟩) q
 simp_all⟩
end
mutual
noncomputable def gH(n:Nat):D->Bool
 |.loc m=>decide (m<n)
 |.tup ds|.lst ds|.dct _ ds=>iX n ds
 |_=>true
noncomputable def iX(n:Nat):List D->Bool
 |[]=>true
 |d::ds=>gH n d&&iX n ds
end
noncomputable def gh(n:Nat):MO->Bool
 |.lst ds=>iX n ds
 |.dct _ ds=>iX n ds
 |.feed _=>true
 |.ins _ _ ds=>iX n ds
 |.JC _ ks=>iX n ks
 |.HJ _ ks=>iX n ks
mutual
theorem AR(n:Nat):∀d:D,cg d=true->gH n d=true
 |.bU,_=>by simp[gH]
 |.bl _,_=>by simp[gH]
 |.int _,_=>by simp[gH]
 |.str _,_=>by simp[gH]
 |.tup ds,h=>by simp only[gH];exact cy n ds (by simpa[cg] using h)
 |.lst ds,h=>by simp only[gH];exact cy n ds (by simpa[cg] using h)
 |.dct _ _,h=>by simp[cg] at h
 |.loc _,h=>by simp[cg] at h
 |.ty _,h=>by simp[cg] at h
 |.mh _,h=>by simp[cg] at h
 |.fd,h=>by simp[cg] at h
 |.fn _,h=>by simp[cg] at h
theorem cy(n:Nat):∀ds:List D,bM ds=true->iX n ds=true
 |[],_=>by simp[iX]
 |d::ds,h=>by
  simp only[bM,zbR] at h;simp only[iX,zbR];exact⟨AR n d h.1,cy n ds h.2⟩
end
noncomputable def jH(n:Nat)(w:Wd):Wd:=⟨w.B,λk=>if k<n then w.r k else none⟩
section
variable {w w1:Wd}{H1:Hp}{S0 S1:aK}
mutual
theorem rD(n:Nat):∀(d:D)(v:V),gH n d=true->Rep K w d v->Rep K (jH n w) d v
 |.bU,_,_,h=>by simpa[Rep] using h
 |.bl _,_,_,h=>by simpa[Rep] using h
 |.int _,_,_,h=>by simpa[Rep] using h
 |.str _,_,_,h=>by simpa[Rep] using h
 |.ty _,_,_,h=>by simpa[Rep] using h
 |.fd,_,_,h=>by simpa[Rep] using h
 |.fn _,_,_,h=>by simpa[Rep] using h
 |.mh _,_,_,h=>by simpa[Rep,jH] using h
 |.loc m,v,hb,h=>by
  simp only[gH,decide_eq_true_eq] at hb;simp only[Rep] at h⊢;let⟨a,h1,h2⟩:=h;refine⟨a,by show(if m<n then w.r m else none)=_;rw[yIp hb];exact h1,h2⟩
 |.tup ds,v,hb,h=>by
  simp only[Rep] at h⊢;let⟨a,j,h1,h2,l⟩:=h;refine⟨a,j,h1,h2,cE n ds j (by simpa[gH] using hb) l⟩
 |.lst ds,v,hb,h=>by
  simp only[Rep] at h⊢;let⟨a,j,h1,h2,l⟩:=h;refine⟨a,j,h1,h2,cE n ds j (by simpa[gH] using hb) l⟩
 |.dct ks ds,v,hb,h=>by
  simp only[Rep] at h⊢;let⟨a,j,h1,h2,l,o⟩:=h;refine⟨a,j,h1,h2,l,cE n ds _ (by simpa[gH] using hb) o⟩
theorem cE(n:Nat):∀(ds:List D)(vs:List V),iX n ds=true->aD K w ds vs->aD K (jH n w) ds vs
 |[],_,_,h=>by simpa[aD] using h
 |d::ds,vs,hb,h=>by
  simp only[iX,zbR] at hb;simp only[aD] at h⊢;let⟨x,r,h1,h2,a⟩:=h;refine⟨x,r,h1,rD n d x hb.1 h2,cE n ds r hb.2 a⟩
end
mutual
theorem IE(n:Nat)(l:∀k,n<=k->w.r k=none):∀(d:D)(v:V),Rep K w d v->gH n d=true
 |.bU,_,_=>by simp[gH]
 |.bl _,_,_=>by simp[gH]
 |.int _,_,_=>by simp[gH]
 |.str _,_,_=>by simp[gH]
 |.ty _,_,_=>by simp[gH]
 |.fd,_,_=>by simp[gH]
 |.fn _,_,_=>by simp[gH]
 |.mh _,_,_=>by simp[gH]
 |.loc m,v,h=>by
  simp only[Rep] at h;let⟨a,h1,h2⟩:=h;simp only[gH,decide_eq_true_eq];obtain q|q:=zcL m n
  ·exact q
  ·rw[l m q] at h1;cases h1
 |.tup ds,v,h=>by
  simp only[Rep] at h;let⟨a,j,h1,h2,o⟩:=h;simp only[gH];exact dB n l ds j o
 |.lst ds,v,h=>by
  simp only[Rep] at h;let⟨a,j,h1,h2,o⟩:=h;simp only[gH];exact dB n l ds j o
 |.dct ks ds,v,h=>by
  simp only[Rep] at h;let⟨a,j,h1,h2,o,s⟩:=h;simp only[gH];exact dB n l ds _ s
theorem dB(n:Nat)(a:∀k,n<=k->w.r k=none):∀(ds:List D)(vs:List V),aD K w ds vs->iX n ds=true
 |[],_,_=>by simp[iX]
 |d::ds,vs,h=>by
  simp only[aD] at h;let⟨x,r,h1,h2,j⟩:=h;simp only[iX,zbR];exact⟨IE n a d x h2,dB n a ds r j⟩
end
def jh(n):∀{o:MO}{u:HO},gh n o=true->lP K w o u->lP K (jH n w) o u:=by
 intro o u j h;cases o with
 |lst ds=>let⟨l,h1,h2⟩:=h;refine⟨l,h1,cE n ds l j h2⟩
 |dct ks ds=>let⟨l,h1,h2,m⟩:=h;refine⟨l,h1,h2,cE n ds _ j m⟩
 |feed _=>exact h
 |ins C ks ds=>let⟨dx,fs,h1,h2,m⟩:=h;refine⟨dx,fs,h1,h2,cE n ds _ j m⟩
 |JC F ks=>let⟨a,bs,h1,h2⟩:=h;refine⟨a,bs,h1,cE n ks _ j h2⟩
 |HJ F ks=>let⟨a,bs,h1,h2⟩:=h;refine⟨a,bs,h1,cE n ks _ j h2⟩
def Ej(n)(j:∀k,n<=k->w.r k=none):∀{o:MO}{u:HO},lP K w o u->gh n o=true:=by
 intro o u h;cases o with
 |lst ds=>let⟨m,h1,h2⟩:=h;exact dB n j ds m h2
 |dct ks ds=>let⟨m,h1,h2,l⟩:=h;exact dB n j ds _ l
 |feed _=>rfl
 |ins C ks ds=>let⟨dx,fs,h1,h2,l⟩:=h;exact dB n j ds _ l
 |JC F ks=>let⟨a,bs,h1,h2⟩:=h;exact dB n j ks _ h2
 |HJ F ks=>let⟨a,bs,h1,h2⟩:=h;exact dB n j ks _ h2
noncomputable def out(n:Nat)(S1:aK):R->Option R
 |.dat (.loc m)=>if m<n then some (.dat (.loc m)) else match S1[m]? with
  |some (some o)=>if gh n o=true then some (.new o) else none
  |_=>none
 |.dat d=>if gH n d=true then some (.dat d) else none
 |.new o=>if gh n o=true then some (.new o) else none
def chg(S0 S1:aK):Prop:=∀k o,k<S0.length->S1[k]? =some (some o)->S0[k]? =some (some o)∨gh S0.length o=true
def ret(S0 S1:aK)(r:R)(Q:AK):Prop:=∃a,out S0.length S1 r=some a/\chg S0 S1/\Q a (S1.take S0.length)
def sX(ok:Ok K w H S0)(le:w.le w1)(l:Ok K w1 H1 S1)(rep:nh K w1 H1 S1 r v)(h:ret S0 S1 r O)(bk:fk K w O g):g v H1:=by
 let⟨G,j,P,q⟩:=h;generalize S:S0.length=n at*;have lt:∀k a,w.r k=some a->k<n:=λk a e=>by
  obtain z|z:=zcL k n
  ·exact z
  ·rw[ok.top k (by lia)] at e;cases e
 have at_:∀k o,(S1.take n)[k]? =some (some o)->k<n/\S1[k]? =some (some o):=λk o e=>by
  rw[zaW] at e;simp_all
 have L:w.le (jH n w1):=⟨le.b,λk a e=>by show(if k<n then w1.r k else none)=_;rw[yIp (lt k a e)];exact le.r k a e⟩
 have bl:∀k o,k<n->S1[k]? =some (some o)->gh n o=true:=λk o s e=>by
  obtain z|z:=P k o (by lia) e
  ·let⟨a,u,_,_,_,y⟩:=ok.live k o z;exact Ej n (λk s=>ok.top k (by lia)) y
  simp_all
 have I:Ok K (jH n w1) H1 (S1.take n):=⟨l.base,λk o e=>by
   let⟨s,e⟩:=at_ k o e;let⟨a,u,h1,h2,E,y⟩:=l.live k o e;refine⟨a,u,by show(if k<n then w1.r k else none)=_;rw[yIp s];exact h1,h2,E,jh n (bl k o s e) y⟩,
  λk m o t e C z=>by
   let⟨s,e⟩:=at_ k o e;let⟨x,C⟩:=at_ m t C;have z:(if k<n then w1.r k else none)=(if m<n then w1.r m else none):=z;rw[yIp s,yIp x] at z;exact l.inj k m o t e C z,
  λk s=>by
   show(if k<n then w1.r k else none)=none;by_cases z:k<n
   ·rw[yIp z];rw[zbA] at s;exact l.top k (by lia)
   ·rw[yIn z]⟩
 refine bk G (S1.take n) v (jH n w1) H1 L I ?_ q;have fresh:∀m o a,n<=m->S1[m]? =some (some o)->w1.r m=some a->∀k t,(S1.take n)[k]? =some (some t)->(jH n w1).r k≠some a:=λm o a x e F k t C z=>by
  let⟨s,C⟩:=at_ k t C;have z:(if k<n then w1.r k else none)=some a:=z;rw[yIp s] at z;have:=l.inj k m t o C e (z.trans F.symm);lia
 cases r with
 |new o=>
  simp only[out] at j;split at j
  next hb=>
   cases j;let⟨a,u,rfl,h1,h2,E,y⟩:=rep;refine⟨a,u,rfl,h1,h2,jh n hb E,λk t e z=>?_⟩;let⟨s,e⟩:=at_ k t e;have z:(if k<n then w1.r k else none)=some a:=z;rw[yIp s] at z;exact y k t e z
  next=>cases j
 |dat d=>
  have gen:(if gH n d=true then some (R.dat d) else none)=some G->nh K (jH n w1) H1 (S1.take n) G v:=λj=>by
   split at j
   next hb=>cases j;exact rD n d v hb rep
   next=>cases j
  cases d with
  |loc m=>
   simp only[out] at j;split at j
   next x=>exact gen (by simp[gH,x,j])
   next x=>
    have x:n<=m:=by lia
    split at j
    next o e=>
     split at j
     next hb=>
      cases j;let⟨a,F,rfl⟩:=rep;let⟨U,u,h1,h2,E,y⟩:=l.live m o e;rw[F] at h1;cases h1;refine⟨a,u,rfl,h2,E,jh n hb y,fresh m o a x e F⟩
     next=>cases j
    next=>cases j
  |_=>exact gen (by simpa only[out] using j)
end
noncomputable def aM(N:List Str)(ds:List D):bH:=ds.map some++zcj (N.length - ds.length) none
def lF(h:aD K g ds vs):fc K g (aM N ds) (L2.start N vs):=by
 have a:=h.length;refine⟨by simp[aM,L2.start,a],λi d e=>?_⟩;unfold aM at e;by_cases j:i<ds.length
 ·rw[zag (by simp_all),zbl] at e;cases z:ds[i]? with
  |none=>rw[z] at e;cases e
  |some d'=>
   rw[z] at e;have e  :=by simpa using e
   subst e;let⟨v,h1,h2⟩:=h.get z;refine⟨v,?_,h2⟩;unfold L2.start;rw[zag (by simp_all),zbl,h1];rfl
 ·rw[zac (by simp_all),List.getElem?_replicate] at e;split at e<;>cases e
def cA(F:Src K mg x ps st)(S:aH N ps (aj st))(len:∀ds S Q,sp ds S Q->ds.length=ps.length)(m:∀(f)(j)(A)(outer)(s)(H)(E),bB k (A.deeper (envOfC x (aj st) s.heap.objs.size f j))->∃a,yW (m5 qD P w K mg base N x (aj st) f j A outer s H E).HH (bE st) a/\∀ds S Q,sp ds S Q->a {nx:=λ_ o=>ret S o (.dat .bU) Q,rt:=λr o=>ret S o r Q} (aM N ds) S):Def P w K mg base (k+1) x ps (az K sp):=
 F.def S (λvs H Q E h=>by
  let⟨w,ds,S,u,ok,rep,q,bk⟩:=h;rw[rep.length];exact len ds S u q) λf j A outer s H vs Q E C h=>by
  let⟨a,G,hd⟩:=m f j A outer s H E C;let⟨w,ds,S,u,ok,rep,q,bk⟩:=h;refine⟨_,G.p,w,aM N ds,S,_,ok,lF rep,hd ds S u q,⟨λO o L y I le l env t=>?_,λr o v y I le l n t=>?_,λ_ _ _ _ _ _ _ _ z=>z.elim,λ_ _ _ _ _ _ _ _ z=>z.elim⟩⟩
  ·exact sX (r:=.dat .bU) ok le l (show Rep K y .bU .bU from .bU) t bk
  ·exact sX ok le l n t bk
section
variable {w:Wd}{d:D}
def f9(h:aD K w [d] vs):∃v,vs=[v]/\Rep K w d v:=by
 let⟨x,r,rfl,h1,rfl⟩:=h;refine⟨x,rfl,h1⟩
def Eh(h:aD K w [d,e] vs):∃v u,vs=[v,u]/\Rep K w d v/\Rep K w e u:=by
 obtain⟨x,r,rfl,h1,y,a,rfl,h2,rfl⟩:=h;exact⟨x,y,rfl,h1,h2⟩
noncomputable def gz:D->Option Nat
 |.lst ds=>some ds.length
 |.tup ds=>some ds.length
 |.mh ns=>some ns.length
 |.dct ks _=>some ks.length
 |.str z=>if z.length<=yag then some z.length else none
 |_=>none
def SH:AN:=λds S Q=>∃d n,ds=[d]/\gz (aT S d)=some n/\Q (.dat (.int n)) S
theorem fG:uz X (.builtin "len") SH:=⟨mC (Uq L2.Gd L2.Ci) λl H Q h=>by
 let⟨w,ds,S,o,ok,rep,⟨d,n,rfl,e,q⟩,bk⟩:=h;let⟨v,rfl,j⟩:=f9 rep;cases z:aT S d with
 |lst ds=>
  rw[z] at e;have e  :=by simpa[gz] using e
  let⟨a,l,rfl,h1,h2⟩:=bh ok j z;exact .inl ⟨_,n,rfl,.inl ⟨l,dF.of h1,by rw[h2.length,e]⟩,bk.dat .refl ok .int q⟩
 |tup ds=>
  rw[z] at e;have e  :=by simpa[gz] using e
  let⟨a,l,rfl,h1,h2⟩:=b7 ok j z;exact .inl ⟨_,n,rfl,.inr ⟨l,h1,by rw[h2.length,e]⟩,bk.dat .refl ok .int q⟩
 |mh ns=>
  have e  :=by simpa[gz] using e
  let⟨a,rfl,h1⟩:=jD ok j z;exact .inl ⟨_,n,rfl,.inl ⟨_,h1,by simp_all⟩,bk.dat .refl ok .int q⟩
 |str y=>
  rw[z] at e;simp only[gz] at e;split at e
  next hl=>
   cases e;exact .inl ⟨_,_,rfl,(by rw[b9 j z];exact⟨hl,rfl⟩),bk.dat .refl ok .int q⟩
  simp_all
 |dct ks ds=>
  rw[z] at e;have e  :=by simpa[gz] using e
  let⟨a,m,rfl,h1,h2,_⟩:=dW ok j z;refine .inr ⟨a,m,rfl,h1,?_⟩;rw[<-zbV,h2,e];exact bk.dat .refl ok .int q
 |_=>rw[z] at e;simp[gz] at e⟩
noncomputable def PV:D->Option String
 |.bU=>some "NoneType"
 |.bl _=>some "bool"
 |.int _=>some "int"
 |.str _=>some "str"
 |.tup _=>some "tuple"
 |.lst _=>some "list"
 |_=>none
noncomputable def Rr(d:D)(T:String):Option Bool:=(PV d).bind λt=>if T=="str"||T=="int"||T=="bool"||T=="tuple"||T=="list" then some (t==T||(t=="bool"&&T=="int")) else none
def SI:AN:=λds S Q=>∃d T b,ds=[d,.ty T]/\Rr (aT S d) T=some b/\Q (.dat (.bl b)) S
def Mj(ok:Ok K w H S)(h:Rep K w d v)(e:PV (aT S d)=some g):kq K H v (.type g)∨g="tuple"/\∃a l,v=.ref a/\eO K H a l:=by
 cases z:aT S d with
 |lst ds=>
  rw[z] at e;cases e;let⟨a,j,rfl,h1,h2⟩:=bh ok h z;exact .inl (.lst h1)
 |tup ds=>
  rw[z] at e;cases e;let⟨a,j,rfl,h1,h2⟩:=b7 ok h z;exact .inr ⟨rfl,a,j,rfl,h1⟩
 |bU=>rw[z] at e;cases e;rw[Ig h z];exact .inl .bU
 |bl b=>rw[z] at e;cases e;rw[gn h z];exact .inl (.bl b)
 |int b=>rw[z] at e;cases e;rw[cL h z];exact .inl (.int b)
 |str b=>rw[z] at e;cases e;rw[b9 h z];exact .inl (.str b)
 |_=>rw[z] at e;simp[PV] at e
def Oz(a:g="NoneType"∨g="bool"∨g="int"∨g="str"∨g="tuple"∨g="list")(e:(if T=="str"||T=="int"||T=="bool"||T=="tuple"||T=="list" then some (g==T||(g=="bool"&&T=="int")) else none)=some b):PySem.W.kitOne K (.type g) (.type T)=some b:=by
 split at e
 next hT=>
  simp only[Bool.or_eq_true,beq_iff_eq] at hT;cases e;rcases hT with(((rfl|rfl)|rfl)|rfl)|rfl<;>obtain rfl|rfl|rfl|rfl|rfl|rfl:=a<;>rfl
 simp_all
def Ml(e:PV d=some g):g="NoneType"∨g="bool"∨g="int"∨g="str"∨g="tuple"∨g="list":=by
 cases d<;>simp[PV] at e<;>subst e<;>simp
def Cj:cG X (.builtin "isinstance") (λm H Q=>∃(a:Addr)(l:List V)(T:String)(b:Bool),m=[.ref a,.ty T]/\eO X.K H a l/\PySem.W.kitOne X.K (.type "tuple") (.type T)=some b/\Q (.bl b) H):=by
 intro n s E H m F Q I r h;let⟨a,l,T,b,rfl,y,C,q⟩:=h;let⟨v,t,rfl,x,j⟩:=vals2 r;cases El.2 t j;cases(show v=Value.ref a from x);let⟨_,_,⟨o,h1,h2,_⟩,_⟩:=I.tuple y;exact zch PySem.W.kitx_tuple I.mK ⟨o,h1,h2⟩ C (λz=>nomatch z) λu=>⟨.bl b,H,I.tok u,rfl,q⟩
theorem Rg:uz X (.builtin "isinstance") SI:=⟨mC (Uq L2.Ge Cj) λo H Q h=>by
 let⟨w,ds,S,s,ok,rep,⟨d,T,b,rfl,e,q⟩,bk⟩:=h;let⟨v,u,rfl,m,j⟩:=Eh rep;unfold Rr at e;cases z:PV (aT S d) with
 |none=>rw[z] at e;cases e
 |some t=>
  rw[z] at e;have kt:=Oz (K:=X.K) (Ml z) e;obtain ty|⟨rfl,a,l,rfl,n⟩:=Mj ok m z
  ·exact .inl ⟨v,.ty T,_,_,b,(by rw[Ei j rfl]),El.1,El.2,ty,kt,bk.dat .refl ok .bl q⟩
  ·exact .inr ⟨a,l,T,b,(by rw[Ei j rfl]),n,kt,bk.dat .refl ok .bl q⟩⟩
def A0:AN:=λds S Q=>∃d,ds=[d]/\match aT S d with
 |.lst es=>Q (.new (.lst es)) S
 |.tup es=>Q (.new (.lst es)) S
 |.mh ns=>Q (.new (.lst (ns.map D.int))) S
 |_=>False
def jS:uz X (.type "list") A0:=⟨mC L2.ug λl H Q h=>by
 let⟨w,ds,S,n,ok,rep,⟨d,rfl,q⟩,bk⟩:=h;let⟨v,rfl,m⟩:=f9 rep;split at q
 next es z=>
  let⟨a,l,rfl,h1,h2⟩:=bh ok m z;refine⟨a,l,rfl,.inl (dF.of h1),λp j=>bk (.new (.lst _)) S _ w _ .refl (ok.alloc j) (ok.fresh j ⟨_,rfl,h2⟩) q⟩
 next es z=>
  let⟨a,l,rfl,h1,h2⟩:=b7 ok m z;refine⟨a,l,rfl,.inr h1,λp j=>bk (.new (.lst _)) S _ w _ .refl (ok.alloc j) (ok.fresh j ⟨_,rfl,h2⟩) q⟩
 next ns z=>
  let⟨a,rfl,h1⟩:=jD ok m z;refine⟨a,_,rfl,.inl h1,λp j=>bk (.new (.lst _)) S _ w _ .refl (ok.alloc j) (ok.fresh j ⟨_,rfl,dM ns⟩) q⟩
 next=>exact q.elim⟩
def wD:AN:=λds S Q=>∃d,ds=[d]/\match aT S d with
 |.lst es=>Q (.dat (.tup es)) S
 |.tup es=>Q (.dat (.tup es)) S
 |_=>False
def dc:uz X (.type "tuple") wD:=⟨mC L2.qT λl H Q h=>by
 let⟨w,ds,S,y,ok,rep,⟨d,rfl,q⟩,bk⟩:=h;let⟨v,rfl,m⟩:=f9 rep;split at q
 next es z=>
  let⟨a,l,rfl,h1,h2⟩:=bh ok m z;refine⟨a,l,rfl,.inl ⟨dF.of h1,λp u=>?_⟩⟩;let⟨x,t,s,j⟩:=ok.lA u h2;exact bk.dat t s j q
 next es z=>
  let⟨a,l,rfl,h1,h2⟩:=b7 ok m z;refine⟨a,l,rfl,.inr ⟨h1,?_⟩⟩;cases d<;>simp only[aT] at z
  case tup=>cases z;exact bk.dat .refl ok m q
  case loc n=>split at z<;>first|(rename_i o _;cases o<;>simp[MO.d] at z)|cases z
  all_goals cases z
 next=>exact q.elim⟩
def SG:AN:=λds S Q=>∃i j,ds=[.int i,.int j]/\Q (.dat (.int (if j> i then j else i))) S
def SE:AN:=λds S Q=>∃i j,ds=[.int i,.int j]/\Q (.dat (.int (if j<i then j else i))) S
def Oe(m:X.calm=true):uz X (.builtin "max") SG:=⟨mC (L2.Cg m) λn H Q h=>by
 let⟨w,ds,S,o,ok,rep,⟨i,j,rfl,q⟩,bk⟩:=h;let⟨v,u,rfl,l,a⟩:=Eh rep;refine⟨i,j,by rw[bu l rfl,bu a rfl],bk.dat .refl ok .int q⟩⟩
def Od(m:X.calm=true):uz X (.builtin "min") SE:=⟨mC (L2.Cf m) λn H Q h=>by
 let⟨w,ds,S,o,ok,rep,⟨i,j,rfl,q⟩,bk⟩:=h;let⟨v,u,rfl,l,a⟩:=Eh rep;refine⟨i,j,by rw[bu l rfl,bu a rfl],bk.dat .refl ok .int q⟩⟩
theorem pW:∀{ns:List Bool}{a:List V},aD K w (ns.map D.bl) a->a=ns.map V.bl
 |[],_,h=>by simpa[aD] using h
 |n::ns,a,h=>by
  simp only[zcs,aD,Rep] at h;let⟨x,r,rfl,rfl,h⟩:=h;rw[pW h];rfl
def UW:AN:=λds S Q=>∃(d:D)(bs:List Bool),ds=[d]/\aT S d=.lst (bs.map D.bl)/\Q (.dat (.bl (bs.all id))) S
def zY(m:X.calm=true):uz X (.builtin "all") UW:=⟨mC (L2.Gf m) λj H Q h=>by
 let⟨w,ds,S,n,ok,rep,⟨d,bs,rfl,z,q⟩,bk⟩:=h;let⟨v,rfl,l⟩:=f9 rep;let⟨a,j,rfl,h1,h2⟩:=bh ok l z;rw[pW h2] at h1;refine⟨a,bs,rfl,dF.of h1,bk.dat .refl ok .bl q⟩⟩
def SJ:AN:=λds S Q=>(∃i,ds=[.int i]/\Q (.dat (.int i)) S)∨∃b:Bool,ds=[.bl b]/\Q (.dat (.int (if b then 1 else 0))) S
def Of:uz X (.type "int") SJ:=⟨mC L2.Ck λj H Q h=>by
 let⟨w,ds,S,l,ok,rep,q,bk⟩:=h;rcases q with⟨i,rfl,q⟩|⟨b,rfl,q⟩
 ·let⟨v,rfl,a⟩:=f9 rep;exact .inl ⟨i,by rw[bu a rfl],bk.dat .refl ok .int q⟩
 ·let⟨v,rfl,a⟩:=f9 rep;exact .inr ⟨b,by rw[oJ a rfl],bk.dat .refl ok .int q⟩⟩
end
abbrev AM:=D->List D->aK->AK->Prop
structure P1(X:Cx)(id:String)(r:AM):Prop where
 p:CB X id (Pa X.K r)
def vJ(T:String):D->Prop
 |.lst _=>T="list"
 |.str _=>T="str"
 |.mh _=>T="list"
 |.dct _ _=>T="dict"
 |_=>False
def kQ(T:String)(r:AM)(a:AE)(b:AA):AE:=λh S Q=>a h S λx j=>vJ T (aT j x.d)/\b h j λds l=>r x.d ds l Q
def Py(T:String)(r:AM)(a:AE):AE:=λj S Q=>a j S λx h=>vJ T (aT h x.d)/\r x.d [] h Q
section
variable {w:Wd}{d:D}
def KN(ok:Ok K w H S)(h:Rep K w d v)(t:vJ T (aT S d)):Tn K T v H:=by
 cases z:aT S d with
 |lst ds=>
  rw[z] at t;cases t;let⟨a,l,rfl,h1,h2⟩:=bh ok h z;exact .inl ⟨rfl,l,dF.of h1⟩
 |str y=>rw[z] at t;cases t;rw[b9 h z];exact rfl
 |mh ns=>
  rw[z] at t;cases t;let⟨a,rfl,h1⟩:=jD ok h z;exact .inl ⟨rfl,_,h1⟩
 |dct ks ds=>
  rw[z] at t;cases t;let⟨a,j,rfl,h1,_⟩:=dW ok h z;exact .inr (.inr (.inl ⟨rfl,.inl ⟨j,h1⟩⟩))
 |_=>rw[z] at t;exact t.elim
def T7:∀o H Q,aX K (kQ T r e g) o H Q->TV K T (Pa K r) (aX K e) (qQ K g) o H Q:=by
 intro o H Q z;let⟨w,t,S,F,ok,env,q,bk⟩:=z;refine⟨w,t,S,_,ok,env,q,.go λx E G v L n l h ⟨ty,y⟩=>⟨KN l h ty,?_⟩⟩;refine⟨v,t,E,_,l,env.le n,y,λds C vs u I m s j q2=>?_⟩;refine⟨u,x.d,ds,C,F,s,h.le m,j,q2,bk.le (n.trans m)⟩
def QT:∀l H Q,aX K (Py T r e) l H Q->Mt K T (Pa K r) (aX K e) l H Q:=by
 intro l H Q z;let⟨w,n,S,v,ok,env,q,bk⟩:=z;refine⟨w,n,S,_,ok,env,q,.go λs u x o y m j h ⟨ty,t⟩=>⟨KN j h ty,?_⟩⟩;refine⟨o,s.d,[],u,v,j,h,.nil,t,bk.le m⟩
def cZ(m:PlainAttrs T)(slot:Slot T name F)(l:typeOf (.builtin F)=pure (.type "method_descriptor"))(s:P1 X F r)(q:GE X g to)(u:GA X (e::k) z)(h:autoParam (attributeBase g name X.env (eval g X.env)=eval g X.env) r0)(n:autoParam ((e::k).all notStar=true) r0)(j:autoParam (decide ((e::k).length+0+0<30)=true) r0)(a:autoParam ((apos.endLine==cpos.line)=true) r0):GE X (.Call (.Attribute g name apos) (e::k) [] cpos) (kQ T r to z):=⟨mE (L2.NU m slot l s.p q.p u.p h n j a) T7⟩
def xW(l:PlainAttrs T)(slot:Slot T name g)(j:typeOf (.builtin g)=pure (.type "method_descriptor"))(n:P1 X g r)(m:GE X e to)(h:autoParam (attributeBase e name X.env (eval e X.env)=eval e X.env) r0)(a:autoParam ((apos.endLine==cpos.line)=true) r0):GE X (.Call (.Attribute e name apos) [] [] cpos) (Py T r to):=⟨mE (L2.IK l slot j n.p m.p h a) QT⟩
def mM{id:String}{t u:V->List V->Hp->VK->Prop}(h:CB X id t)(m:∀x a H Q,u x a H Q->t x a H Q):CB X id u:=λj s l H x a v n Q I o y q=>h j s l H x a v n Q I o y (m x a H Q q)
def pB(ok:Ok K w H S)(h:Rep K w (.loc n) v)(e:S[n]? =some (some (.lst ds))):∃a j,v=.ref a/\w.r n=some a/\H a=some (.lst j)/\aD K w ds j:=by
 let⟨a,h1,rfl⟩:=h;let⟨s,u,l,q,o,j,rfl,m⟩:=ok.live n _ e;rw[h1] at l;cases l;refine⟨a,j,rfl,h1,o,m⟩
def gb(h:aD K w ds xs):lP K w (.lst ds) (.lst xs):=⟨xs,rfl,h⟩
def A8:AM:=λx ds S Q=>∃n a e,x=.loc n/\ds=[e]/\S[n]? =some (some (.lst a))/\a.length<yag/\Q (.dat .bU) (S.set n (some (.lst (a++[e]))))
def cu:P1 X "list.append" A8:=⟨mM (X:=X) (t:=zL) L2.BP λx F H Q h=>by
 let⟨w,d,ds,S,I,ok,u,s,⟨n,G,e,rfl,rfl,l,y,q⟩,bk⟩:=h;let⟨a,m,rfl,C,E,j⟩:=pB ok u l;let⟨v,rfl,o⟩:=f9 s;refine⟨a,m,v,rfl,rfl,E,by rw[j.length];exact y,bk.dat .refl (ok.put l C (gb (j.snoc o))) .bU q⟩⟩
def Eo(K:yaJ):V->List V->Hp->VK->Prop:=λx vs H Q=>∃l b h a,x=.ref l/\vs=[.ref b]/\H l=some (.lst h)/\eO K H b a/\h.length+a.length<=yag/\Q .bU (upd H l (.lst (h++a)))
def Jw(u:¬(!g.isEmpty&&Builtin.List.listTooLong (g.size+r.size))=true)(h1:g.size<=yag)(h2:g.size+r.size<=yag+1):
  Meets (Builtin.«list.extend» ⟨[.ref l,.ref e],[]⟩) (λ_ R s=>s.heap.get? l=some {cls:=.type "list",dict:=none,data:=.seq g n,slots:=#[]}/\s.heap.get? e=some {cls:=.type "tuple",dict:=z,data:=.seq r k,slots:=sl}/\R (.ok (.ret Value.none)) {s with heap:=s.heap.update l (Obj.mapSeq λx=>x++r),toks:=s.toks}):=
 .of_wp λprog w A R s h=>by
  let⟨m,o,q⟩:=h
  wp_walk using(wpAny_updateSeq m rfl),AutoSeq1.wpAny_loadPart' m,AutoSeq1.wpAny_loadPart' o
  refine⟨_,rfl,q⟩
def yd:CB X "list.extend" (Eo X.K):=by
 intro y s W H x vs v us Q I G L h;obtain⟨l,b,xs,Y,rfl,rfl,C,P,hz,q⟩:=h;cases G;obtain⟨u,rfl,ru⟩:=L.one;cases ru;obtain⟨z,j,n,r,hl,e⟩:=I.tP C;obtain⟨a,t,⟨⟨c2,dd,da,sl⟩,S,o,n2,U⟩,Z⟩:=I.tuple P;subst o U;have O:=t.length;have m:j.toArray.size+a.toArray.size<=yag:=by simp_all
 have E:¬(!j.toArray.isEmpty&&Builtin.List.listTooLong (j.toArray.size+a.toArray.size))=true:=by
  rw[oZ m];simp
 refine call_meets F.slot_list_extend ⟨_,e,rfl⟩ F.entry_list_extend (F.args_list_extend_2 _ _)
  (Jw E (by simp_all) (by lia)) ⟨e,S,?_⟩
 refine⟨.bU,_,I.E1 C e (by simp) (r.append t) ?_,rfl,q⟩;simp_all
def J2:AM:=λx ds S Q=>∃n a e fs,x=.loc n/\ds=[e]/\S[n]? =some (some (.lst a))/\(aT S e=.lst fs∨aT S e=.tup fs)/\a.length+fs.length<=yag/\Q (.dat .bU) (S.set n (some (.lst (a++fs))))
def jV:P1 X "list.extend" J2:=⟨mM (CB.or (X:=X) (r:=zK) L2.BO yd) λx L H Q h=>by
 let⟨w,d,ds,S,P,ok,I,G,⟨n,O,e,fs,rfl,rfl,s,j,C,q⟩,bk⟩:=h;let⟨a,u,rfl,E,F,m⟩:=pB ok I s;let⟨v,rfl,y⟩:=f9 G;obtain j|j:=j
 ·let⟨b,o,rfl,t,l⟩:=bh ok y j;exact .inl ⟨a,b,u,o,rfl,rfl,F,t,by rw[m.length,l.length];exact C,bk.dat .refl (ok.put s E (gb (m.append l))) .bU q⟩
 ·let⟨b,o,rfl,t,l⟩:=b7 ok y j;exact .inr ⟨a,b,u,o,rfl,rfl,F,t,by rw[m.length,l.length];exact C,bk.dat .refl (ok.put s E (gb (m.append l))) .bU q⟩⟩
theorem aD.dropLast(h:aD K w ds xs):aD K w ds.dropLast xs.dropLast:=by
 rw[List.dropLast_eq_take,List.dropLast_eq_take,h.length];exact h.take _
def SA:AM:=λx ds S Q=>∃n a e,x=.loc n/\ds=[]/\S[n]? =some (some (.lst a))/\a[a.length - 1]? =some e/\Q (.dat e) (S.set n (some (.lst a.dropLast)))
def Rm:P1 X "list.pop" SA:=⟨mM (X:=X) (t:=QV) L2.Oo λx o H Q h=>by
 let⟨w,d,ds,S,G,ok,u,s,⟨n,F,e,rfl,rfl,l,y,q⟩,bk⟩:=h;let⟨a,m,rfl,C,E,j⟩:=pB ok u l;have z:o=[]:=by simpa[aD] using s
 subst z;let⟨v,h1,h2⟩:=j.get y;refine⟨a,m,v,rfl,rfl,E,by rw[j.length];exact h1,bk.dat .refl (ok.put l C (gb j.dropLast)) h2 q⟩⟩
def J3(i:Nat)(a:AE)(r:A2):AS:=λD h S=>∃x,h[i]? =some (some x)/\a h S λy l=>r x y.d l λz j=>D.nx (h.set i (some z.d)) j
def Po:A2:=λx y S Q=>∃i j,x=.int i/\y=.int j/\Q (.dat (.int (i+j))) S
def rK(hN:X.N.Nodup)(y:X.N[i]? =some x)(u:Loc X.env.scope x)(E:GE X e g)(C:X.fn x=true∨X.env.scope.names.lookup x=some .local:=by first|exact .inl rfl|exact .inr rfl|assumption):
  GS X (.AugAssign (.Name x pos') .Add e pos) (J3 i g Po):=⟨mS (L2.NQ hN y u E.p L2.OI C) λD L H h=>by
 let⟨w,o,S,Q,ok,env,⟨d,hd,q⟩,bk⟩:=h;let⟨v,h1,h2⟩:=env.2 i d hd;refine⟨v,h1,w,o,S,_,ok,env,q,.go λP G O s I l n j m=>?_⟩;let⟨a,b,rfl,F,m⟩:=m;refine⟨a,b,bu h2 rfl,bu j F,bk.nx _ G _ s I l n ((env.le l).set .int i) m⟩⟩
end
end M
namespace M
open PySem L2
theorem bf(I:List M.D->bH->aK->Prop)(n:∀δ S,I [] δ S->d S/\k.nx δ S)(o:∀x j δ S N,I (x::j) δ S->(∀a l,I j a l->N a l)->d S/\g x δ S λm s=>e {k with nx:=N,ct:=N,bk:=k.nx} m s):∀ds δ S,I ds δ S->cW d g e ds k δ S
 |[],δ,S,h=>n δ S h
 |x::j,δ,S,h=>o x j δ S _ h λa l q=>bf I n o j a l q
theorem t9(I:List M.D->List M.D->bH->aK->Prop)(q:∀a δ S,I [] a δ S->d S/\z a S)(s:∀x n a δ S (N:List M.D->bH->aK->Prop),I (x::n) a δ S->(∀j l o,I n j l o->N j l o)->d S/\g x δ S λm C=>k m C λb u=>if b=true then e m u λr y=>a.length<yag/\N (a++[r.d]) m y else N a m u):
  ∀ds a δ S,I ds a δ S->eu d g k e ds a δ S z
 |[],a,δ,S,h=>q a δ S h
 |x::n,a,δ,S,h=>s x n a δ S (λj l o=>eu d g k e n j l o z) h λj l o v=>t9 I q s n j l o v
theorem comp_map{P:aK->Prop}{e:AE}{Q:List M.D->aK->Prop}{δ:bH}{S:aK}(f)(n:P S):∀(m a)(j),j.set 0 none=δ.set 0 none->(∀x∈m,∀Q:AK,Q (.dat (f x)) S->e (δ.set 0 (some x)) S Q)->a.length+m.length<=yag->Q (a++m.map f) S->
  eu P (bN 0) Cn e m a j S Q
 |[],a,j,_,_,_,q=>⟨n,by simpa using q⟩
 |x::m,a,j,hd,h,hl,q=>by
  refine⟨n,?_⟩;have e1  :=by
   have:=congrArg (λl=>l.set 0 (some x)) hd;simpa[zcD] using this
  simp only[bN];rw[e1];refine h x (by simp) _ ⟨by simp at hl;lia,?_⟩;refine comp_map f n m _ _ (by simp) (λy o=>h y (by simp[o])) (by simp at hl⊢;lia) ?_;simpa[R.d] using q
def sP(h:cg d=true):aT S d=d:=by
 cases d<;>first|rfl|simp[cg] at h
def DB:aT S (.int d)=.int d:=rfl
def Dy:aT S (.str d)=.str d:=rfl
def Ii:aT S (.bl d)=.bl d:=rfl
def DA:aT S .bU=.bU:=rfl
def gQ:aT S (.tup d)=.tup d:=rfl
def bS:aT S (.lst d)=.lst d:=rfl
def Dz:aT S (.mh d)=.mh d:=rfl
def cT{d:D}:(R.dat d).d=d:=rfl
def sY:(R.new o).d=o.d:=rfl
def zZ:(MO.lst ds).d=.lst ds:=rfl
def Jh:aLe (.int d) (.int e) S g=g (.dat (.bl (decide (d<=e)))) S:=rfl
def Jf:Vj (.int d) (.int e) S g=g (.dat (.bl (decide (d<e)))) S:=rfl
def Pp:aI d g (.int e) (.int k) S q=(d e k/\q (.dat (g e k)) S):=by
 refine propext ⟨λl=>?_,λh=>⟨e,k,rfl,rfl,h⟩⟩;let⟨a,b,n,m,h⟩:=l;simp_all
def e8:qd (.int d) (.int e) S g=g (.dat (.int (d+e))) S:=rfl
def Gq:qd (.lst d) (.lst e) S g=(d.length+e.length<=yag/\g (.new (.lst (d++e))) S):=rfl
def Ar:Pu (.int d) (.int e) S g=g (.dat (.bl (decide (d=e)))) S:=rfl
def Jz:Pu (.str d) (.str e) S g=g (.dat (.bl (decide (d=e)))) S:=rfl
def Mn:eN (.bl b)=some b:=rfl
def HW:eN (.lst ds)=some (!ds.isEmpty):=rfl
def HU:eN (.tup ds)=some (!ds.isEmpty):=rfl
def fE(h:cg d=true):out n S (.dat d)=some (.dat d):=by
 have b:=AR n d h;cases d<;>first|(simp[cg] at h;done)|(simp only[out];rw[yIp b])
def pU:chg S S:=λ_ _ _ e=>.inl e
def bz(h:cg d=true)(q:e (.dat d) S):ret S S (.dat d) e:=⟨_,fE h,pU,by rw[zbF];exact q⟩
def ND:ret S S (.dat (.bl b)) d=d (.dat (.bl b)) S:=by
 refine propext ⟨λ⟨r,h1,_,h2⟩=>?_,bz rfl⟩;simp[out,gH] at h1;subst h1;rw[zbF] at h2;exact h2
def IB:ret S S (.dat (.int d)) e=e (.dat (.int d)) S:=by
 refine propext ⟨λ⟨r,h1,_,h2⟩=>?_,bz rfl⟩;simp[out,gH] at h1;subst h1;rw[zbF] at h2;exact h2
def cM(h:bM ds=true)(q:d (.new (.lst ds)) S):ret S S (.new (.lst ds)) d:=
 ⟨_,by simp only[out];rw[yIp (show gh _ (.lst ds)=true from cy _ ds h)],pU,by rw[zbF];exact q⟩
def zG(l:S.length<=n)(h:bM ds=true)(e:g[n]? =some (some (.lst ds)))(j:g.take S.length=S)(q:d (.new (.lst ds)) S):ret S g (.dat (.loc n)) d:=by
 refine⟨.new (.lst ds),?_,λk o m e=>.inl ?_,by rw[j];exact q⟩
 ·simp only[out];rw[yIn (by lia),e];show(if gh S.length (.lst ds)=true then some (R.new (.lst ds)) else none)=_;rw[yIp (show gh _ (.lst ds)=true from cy _ ds h)]
 grind
noncomputable def kP(x:Str):Bool:=x.cps.toList.all (λc=>decide (c<128))&&decide (x.length<=100)
noncomputable def uD:Nat->D->Bool
 |_,.bU=>true
 |_,.bl _=>true
 |_,.int _=>true
 |_,.str x=>kP x
 |n+1,.tup ds=>decide (ds.length<=100)&&ds.all (uD n)
 |n+1,.lst ds=>decide (ds.length<=100)&&ds.all (uD n)
 |_,_=>false
def EH(h:kP x=true):PyData.strOk x=true:=by
 unfold kP at h;rw[zbR] at h;unfold PyData.strOk;rw[<-Array.all_toList];refine zbE.mpr λc a=>?_;have:=of_decide_eq_true (zbE.mp h.1 c a);exact yDt (by lia)
def CT:∀(n)(d),uD n d=true->cg d=true/\(py d).canLay0=true/\(py d).depth<=n:=by
 intro n
 induction n with
 |zero=>
  intro d h;cases d<;>first|(simp[uD] at h;done)|skip
  ·simp[cg,py,PyData.canLay0,PyData.depth]
  ·simp[cg,py,PyData.canLay0,PyData.depth]
  ·simp[cg,py,PyData.canLay0,PyData.depth]
  ·simp[cg,py,PyData.canLay0,PyData.depth,EH h]
 |succ n ih=>
  have all:∀ds,(ds.all (uD n))=true->bM ds=true/\PyData.canLayAll0 (eE ds)=true/\PyData.depthAll (eE ds)<=n:=by
   intro ds
   induction ds with
   |nil=>simp[bM,eE,PyData.canLayAll0,PyData.depthAll]
   |cons d ds ih2=>
    intro h;rw[zct,zbR] at h;let⟨j,a,l⟩:=ih d h.1;let⟨o,m,q⟩:=ih2 h.2;refine⟨by simp[bM,j,o],by simp[eE,PyData.canLayAll0,a,m],?_⟩;simp only[eE,PyData.depthAll];lia
  intro d h;cases d<;>first|(simp[uD] at h;done)|skip
  ·simp[cg,py,PyData.canLay0,PyData.depth]
  ·simp[cg,py,PyData.canLay0,PyData.depth]
  ·simp[cg,py,PyData.canLay0,PyData.depth]
  ·simp[cg,py,PyData.canLay0,PyData.depth,EH h]
  ·simp only[uD,zbR] at h;let⟨j,a,l⟩:=all _ h.2;refine⟨by simpa[cg] using j,by simpa[py,PyData.canLay0] using a,by simp only[py,PyData.depth];lia⟩
  ·simp only[uD,zbR] at h;let⟨j,a,l⟩:=all _ h.2;refine⟨by simpa[cg] using j,by simpa[py,PyData.canLay0] using a,by simp only[py,PyData.depth];lia⟩
def CS(h:uD n d=true):cg d=true:=(CT n d h).1
def kW(h:uD n d=true)(j:n<=64):fit d=true:=by
 let⟨a,b,c⟩:=CT n d h;unfold fit PySem.SeqAt.shaped;rw[a,b,yDt (by lia)];rfl
noncomputable def OH(x:D)(s:Str):Bool:=match x with
 |.str a=>decide (a=s)
 |_=>false
noncomputable def r9(x:D)(ss:List Str):Bool:=ss.any λs=>OH x s
def Jy(h:cg d=true):PyData.eqv (.str g) (py d)=OH d g:=by
 cases d<;>first|(simp[cg] at h;done)|simp only[py,PyData.eqv,OH]
 rename_i a;by_cases e:g=a
 ·subst e;simp
 ·rw[yDf (λz=>e z.symm)];exact beq_eq_false_iff_ne.mpr e
theorem pK(h:cg d=true):∀ss:List Str,inD d (ss.map D.str)=r9 d ss
 |[]=>rfl
 |s::ss=>by
  have:=pK h ss;unfold inD r9 at this⊢;rw[zcs,zcr,zcr,this];rw[show PyData.eqv (py (.str s)) (py d)=OH d s from Jy h]
def cF(h:uD n d=true)(l:n<=64)(j:ss.all kP=true)(q:e (.dat (.bl (neg != r9 d ss))) S)(m:autoParam (ss.length<=100) r1):mU neg d (.tup (ss.map D.str)) S e:=by
 have a:=CS h;unfold mU;rw[sP a];refine⟨kW h l,kW (n:=1) ?_ (by decide),?_⟩
 ·simp only[uD,zcB,zbV,yDt m];exact j
 ·rw[pK a];exact q
def rY(h:uD n d=true)(l:n<=64)(j:ss.all kP=true)(q:e (.dat (.bl (neg != r9 d ss))) S)(m:autoParam (ss.length<=100) r1):mU neg d (.lst (ss.map D.str)) S e:=by
 have a:=CS h;unfold mU;rw[sP a];refine⟨kW h l,kW (n:=1) ?_ (by decide),?_⟩
 ·simp only[uD,zcB,zbV,yDt m];exact j
 ·rw[pK a];exact q
end M
namespace M
open PySem PySem.Spec PyProof.Rows PySem.SeqAt L2
def Q0(K:yaJ):R2:=λx y H Q=>∃a b,x=.ref a/\y=.ref b/\eO K H a []/\(∃h,eO K H b h)/\Q (.ref b) H
def IV:iI X (binaryOp .Add) (Q0 X.K):=by
 intro L s σ H x y v u Q I Z Y h;let⟨a,b,rfl,rfl,ha,⟨ys,hb⟩,q⟩:=h;cases Z;cases Y;let⟨C,r1,p1,_⟩:=I.tuple ha;let⟨j,r2,p2,_⟩:=I.tuple hb;have e:C=[]:=by cases r1;rfl
 subst e;let⟨⟨cls,dd,S,W⟩,O,P,n,hd⟩:=id p1;let⟨⟨U,E,G,t⟩,l,o,n2,m⟩:=id p2;simp only at P hd o m;subst P hd o m;exact concat_meets ⟨_,O,rfl⟩ ⟨_,l,rfl⟩ noFill_tuple_add seq_tuple_add PySem.F.slot_tuple_add PySem.F.entry_tuple_add (PySem.F.args_tuple_add_2 _ _)
  (tuple_addW0 a b #[] j.toArray n n2 dd E W t rfl) ⟨O,l,.ref b,H,I,rfl,q⟩
def wI:A2:=λx y S Q=>match aT S x,aT S y with
 |.tup [],.tup ys=>Q (.dat (.tup ys)) S
 |_,_=>qd x y S Q
def Dw(z:aT S d=.tup ds):d=.tup ds:=by
 cases d<;>simp only[aT] at z
 case loc n=>split at z<;>first|(rename_i o _;cases o<;>simp[MO.d] at z)|cases z
 all_goals first|cases z|skip
 rfl
def cJ:uA X (binaryOp .Add) wI:=⟨m2 (Lr ck.p IV) λx y H Q h=>by
 let⟨w,d,e,S,t,ok,l,j,q,bk⟩:=h;unfold wI at q;split at q
 next ys z1 z2=>
  let⟨a,m,rfl,h1,o⟩:=b7 ok l z1;let⟨b,n,rfl,h2,u⟩:=b7 ok j z2;have:m=[]:=by simpa[aD] using o
  subst this;have s:=Dw z2;subst s;exact .inr ⟨a,b,rfl,rfl,h1,⟨n,h2⟩,bk.dat .refl ok j q⟩
 next=>exact .inl ⟨w,d,e,S,t,ok,l,j,q,bk⟩⟩
end M
namespace M
open PySem PySem.Spec PyProof.Rows L2
theorem kR:∀{vs:List yai}{ss:List Str},StrsAre vs ss->Vals (ss.map V.str) vs
 |_,_,.nil=>.nil
 |_,_,.cons y t h=>.cons ⟨t,rfl⟩ (kR h)
def NF(K:yaJ):List V->Hp->VK->Prop:=λl H Q=>∃(a:Addr)(j:List Str),l=[.ref a]/\dF K H a (j.map V.str)/\j.length<64/\∀(p)(h),H p=none->h.Perm j->sortedS h=true->Q (.ref p) (upd H p (.lst (h.map V.str)))
def yy:cG X (.builtin "sorted") (NF X.K):=by
 intro v s S H U W Q I r h;let⟨a,C,rfl,G,Z,q⟩:=h;let⟨u,rfl,ru⟩:=vals1 r;cases ru;let⟨l,t,⟨o,n,e,F,hd,m⟩,_⟩:=I.list G;have x:l.length=C.length:=by have:=t.length;simp_all
 refine sorted_strs ⟨o,e,F,n,m⟩ (nA t) (by lia) λout j P y O=>?_;let⟨L,E⟩:=sortedAll_at s.heap l out;have hz:(j.map V.str).length<=yag:=by rw[zbV,y.length_eq,yaf];lia
 refine⟨.ref (s.heap.objs.size+1),_,I.laid (o:=.lst (j.map V.str)) (λb Y q=>sortedAll_old q) (zcT _) ⟨hz,out.toList,L,kR P,E⟩,rfl,q _ j (I.hok.fresh (zcT _)) y O⟩
def NG(K:yaJ):List V->Hp->VK->Prop:=λj H Q=>∃(a:Addr)(ns:List Int),j=[.ref a]/\dF K H a (ns.map V.int)/\ns.length<64/\∀(p)(h:List Int),H p=none->h.Perm ns->h.Pairwise (· <=·)->Q (.ref p) (upd H p (.lst (h.map V.int)))
def yz:cG X (.builtin "sorted") (NG X.K):=by
 intro v s P H S U Q I r h;let⟨a,ns,rfl,F,Y,q⟩:=h;let⟨u,rfl,ru⟩:=vals1 r;cases ru;let⟨l,t,⟨o,n,e,E,hd,m⟩,_⟩:=I.list F;have x:l.length=ns.length:=by have:=t.length;simp_all
 refine sorted_ints ⟨o,e,E,n,m⟩ (intsAre_of t) (by lia) λout j O y L=>?_;let⟨G,C⟩:=sortedAll_at s.heap l out;have hz:(j.map V.int).length<=yag:=by rw[zbV,y.length_eq,yaf];lia
 refine⟨.ref (s.heap.objs.size+1),_,I.laid (o:=.lst (j.map V.int)) (λb W q=>sortedAll_old q) (zcT _) ⟨hz,out.toList,G,iJ O,C⟩,rfl,q _ j (I.hok.fresh (zcT _)) y L⟩
def J1:AN:=λds S Q=>∃d,ds=[d]/\
 ((∃j:List Str,aT S d=.lst (j.map D.str)/\j.length<64/\∀a:List Str,a.Perm j->sortedS a=true->Q (.new (.lst (a.map D.str))) S)∨(∃ns:List Int,aT S d=.lst (ns.map D.int)/\ns.length<64/\∀h:List Int,h.Perm ns->h.Pairwise (· <=·)->Q (.new (.lst (h.map D.int))) S))
theorem jg:∀{ss:List Str}{a:List V},aD d e (ss.map D.str) a->a=ss.map V.str
 |[],a,h=>by simpa[aD] using h
 |s::ss,a,h=>by
  let⟨x,r,rfl,h1,h2⟩:=h;rw[jI h1 rfl,jg h2];rfl
theorem dJ:∀{ns:List Int}{a:List V},aD d e (ns.map D.int) a->a=ns.map V.int
 |[],a,h=>by simpa[aD] using h
 |s::ss,a,h=>by
  let⟨x,r,rfl,h1,h2⟩:=h;rw[bu h1 rfl,dJ h2];rfl
theorem gp:∀ss:List Str,aD d e (ss.map D.str) (ss.map V.str)
 |[]=>by simp[aD]
 |s::ss=>by
  refine⟨_,_,rfl,by simp[Rep],gp ss⟩
def vo:uz X (.builtin "sorted") J1:=⟨mC (Uq yy yz) λt H Q h=>by
 let⟨w,ds,S,y,ok,rep,⟨d,rfl,q⟩,bk⟩:=h;let⟨v,rfl,u⟩:=f9 rep;rcases q with⟨x,z,n,q⟩|⟨ns,z,n,q⟩
 ·let⟨a,t,rfl,h1,h2⟩:=bh ok u z;have:=jg h2;subst this;exact .inl ⟨a,x,rfl,dF.of h1,n,λp j m s o=>bk (.new (.lst _)) S _ w _ .refl (ok.alloc m) (ok.fresh m ⟨_,rfl,gp j⟩) (q j s o)⟩
 ·let⟨a,t,rfl,h1,h2⟩:=bh ok u z;have:=dJ h2;subst this;exact .inr ⟨a,ns,rfl,dF.of h1,n,λp l m s o=>bk (.new (.lst _)) S _ w _ .refl (ok.alloc m) (ok.fresh m ⟨_,rfl,dM l⟩) (q l s o)⟩⟩
end M
namespace L2
open PySem PySem.Spec PyProof.Rows
theorem uI:∀{a:List V}{h:List yai},Vals a h->Vals a.reverse h.reverse
 |_,_,.nil=>.nil
 |_,_,.cons r t=>by simpa using(uI t).append (.cons r .nil)
end L2
namespace M
open PySem PySem.Spec PyProof.Rows L2
theorem vc:∀{ds:List D}{a:List V},aD K e ds a->aD K e ds.reverse a.reverse
 |[],_,h=>by simp only[aD] at h;subst h;simp[aD]
 |d::ds,a,h=>by
  simp only[aD] at h;let⟨x,r,rfl,h1,h2⟩:=h;rw[List.reverse_cons,List.reverse_cons];exact(vc h2).snoc h1
section
variable {e o:Expr}{es:List Expr}{p tpos:Pos}
noncomputable def putD(f:Str)(d:D):List Str->List D->List Str×List D
 |k::ks,e::ds=>if k=f then(k::ks,d::ds) else(k::(putD f d ks ds).1,e::(putD f d ks ds).2)
 |_,_=>([f],[d])
theorem zM(g:Rep z F d L):∀(fs)(ds),aD z F ds (fs.map (·.2))->(gK J L fs).map (·.1)=(putD J d (fs.map (·.1)) ds).1/\aD z F (putD J d (fs.map (·.1)) ds).2 ((gK J L fs).map (·.2))
 |[],ds,h=>by
  cases ds with
  |nil=>exact⟨rfl,.cons g .nil⟩
  |cons _ _=>exact⟨rfl,.cons g .nil⟩
 |(k,x)::fs,ds,h=>by
  cases ds with
  |nil=>simp[aD] at h
  |cons e ds=>
   obtain⟨y,r,h1,h2,j⟩:=h;have n:=(zcW.inj h1).1;have m:=(zcW.inj h1).2;subst n;subst m;obtain⟨q,l⟩:=zM g fs ds j;simp only[gK,zcs,putD];by_cases a:k=J
   ·rw[yIp a,yIp a];exact⟨rfl,.cons g j⟩
   ·rw[yIn a,yIn a];exact⟨by simp_all,.cons h2 l⟩
theorem vF{K:yaJ}{w:Wd}{f:Str}{d:D}:∀(fs:List (Str×V))(ds),aD K w ds (fs.map (·.2))->((fs.map (·.1)).zip ds).lookup f=some d->∃v,fs.lookup f=some v/\Rep K w d v
 |[],ds,h,q=>by simp at q
 |(k,x)::fs,ds,h,q=>by
  cases ds with
  |nil=>simp at q
  |cons e ds=>
   let⟨y,r,h1,h2,j⟩:=h;have m:=(zcW.inj h1).1;have l:=(zcW.inj h1).2;subst m;subst l;rw[zcs,zaX,zbD] at q;rw[zbD];split at q
   ·rename_i a;have  :=by simpa using q
    subst this;refine⟨x,by rw[a],h2⟩
   ·rename_i a;let⟨v,e,r⟩:=vF fs ds j q;refine⟨v,by rw[a];exact e,r⟩
theorem rT:∀(fs:List (Str×V)),d ∉ fs.map (·.1)->fs.lookup d=none
 |[],_=>rfl
 |(k,x)::fs,h=>by
  grind
def tV(ok:Ok K d H S)(h:Rep K d (.loc n) v)(e:S[n]? =some (some (.ins C g ds))):
  ∃a dx fs,v=.ref a/\d.r n=some a/\H a=some (.ins C dx fs)/\fs.map (·.1)=g/\aD K d ds (fs.map (·.2)):=by
 let⟨a,h1,rfl⟩:=h;let⟨x,u,l,t,s,dx,fs,rfl,q,m⟩:=ok.live n _ e;rw[h1] at l;cases l;refine⟨a,dx,fs,rfl,h1,s,q,m⟩
def SK(C:Addr)(a:AE)(f:Str):AE:=λl S Q=>a l S λr j=>∃n h ds d,r=.dat (.loc n)/\j[n]? =some (some (.ins C h ds))/\(h.zip ds).lookup f=some d/\Q (.dat d) j
theorem fP(G:GE X e ta)(c:y9 X.K C)(nf:eG X.K C g)(I:autoParam (attributeBase e g X.env (eval e X.env)=eval e X.env) r0):GE X (.Attribute e g pos) (SK C ta g):=
 ⟨mE (L2.fP G.p I) λU H Q h=>by
  let⟨w,u,S,Qa,ok,env,q,bk⟩:=h;refine⟨w,u,S,_,ok,env,q,λr Z v W H1 t m j s=>?_⟩;let⟨n,Y,ds,d,P,O,E,y⟩:=s;subst P;let⟨a,dx,fs,rfl,_,L,F,hd⟩:=tV m j O;subst F;let⟨v,l,x⟩:=vF fs ds hd E;refine⟨a,C,dx,fs,v,rfl,L,c,nf,l,bk.dat t m x y⟩⟩
def uY(C:Addr)(a v:AE)(f:Str):AS:=λD j S=>v j S λy m=>a j m λr l=>∃n h ds,r=.dat (.loc n)/\l[n]? =some (some (.ins C h ds))/\h.length<1000/\D.nx j (l.set n (some (.ins C (putD f y.d h ds).1 (putD f y.d h ds).2)))
theorem k9(x:GE X o ta)(U:GE X value F)(c:y9 X.K C)(nf:eG X.K C d)(W:autoParam (yat value (some (.Attribute o d pos2)) pos.line X.env=pure false) r0):
  GS X (.Assign [.Attribute o d pos2] value pos) (uY C ta F d):=
 ⟨mS (L2.k9 x.p U.p W) λDx σ H h=>by
  obtain⟨w,E,S,Da,ok,env,q,bk⟩:=h;refine⟨w,E,S,_,ok,env,q,.go λy S1 v1 L H1 l v s O=>?_⟩;refine⟨L,E,S1,_,v,env.le l,O,λr S2 v2 I H2 j t m u=>?_⟩;obtain⟨n,ks,ds,er,G,hl,q2⟩:=u;subst er;obtain⟨a,dx,fs,rfl,Y,x,Z,hd⟩:=tV t m G;subst Z;obtain⟨Q,P⟩:=zM (s.le j) fs ds hd;refine⟨a,C,dx,fs,rfl,x,c,nf,by simp_all,?_⟩;exact bk.nx _ _ _ I _ (l.trans j) (t.put G Y (o':=.ins C (putD d y.d (fs.map (·.1)) ds).1 (putD d y.d (fs.map (·.1)) ds).2) ⟨dx,_,rfl,Q,P⟩) (env.le (l.trans j)) q2⟩
end
structure wJ(K:yaJ)(C:Addr)(m qual:Str)(ps:List Str)(st:Stmt):Prop where
 ex:∃f fd,Hz K m qual st f fd/\Meth K C m f/\Binds K fd ps []
structure kK(P:yaj)(w:yak)(K:yaJ)(mg:Str->Option yai)(base:Heap)(k:Nat)(C:Addr)(m:Str)(ps:List Str)(sp:AN):Prop where
 ex:∃f fd,eK P w K mg base qD k f fd ps (az K sp)/\Meth K C m f/\Binds K fd ps []
def okB(F:Hz K x qual st f fd)(S:aH N ps (aj st))(len:∀ds S Q,sp ds S Q->ds.length=ps.length)(m:∀(f)(j)(A)(outer)(s)(H)(E),bB k (A.deeper (PyProof.Rows.envOfC qual (aj st) s.heap.objs.size f j))->∃a,yW (m5 qD P w K mg base N qual (aj st) f j A outer s H E).HH (bE st) a/\∀ds S Q,sp ds S Q->a {nx:=λ_ o=>M.ret S o (.dat .bU) Q,rt:=λr o=>M.ret S o r Q} (aM N ds) S):eK P w K mg base qD (k+1) f fd ps (az K sp):=
 F.ok S (λvs H Q E h=>by
  let⟨w,ds,S,u,ok,rep,q,bk⟩:=h;rw[rep.length];exact len ds S u q) λj A outer s H vs Q E C h=>by
  let⟨a,G,hd⟩:=m f j A outer s H E C;let⟨w,ds,S,u,ok,rep,q,bk⟩:=h;refine⟨_,G.p,w,aM N ds,S,_,ok,lF rep,hd ds S u q,⟨λO o L y I le l env t=>?_,λr o v y I le l n t=>?_,λ_ _ _ _ _ _ _ _ z=>z.elim,λ_ _ _ _ _ _ _ _ z=>z.elim⟩⟩
  ·exact sX (r:=.dat .bU) ok le l (show Rep K y .bU .bU from .bU) t bk
  ·exact sX ok le l n t bk
def UL(F:wJ K C d qual ps st)(S:aH N ps (aj st))(len:∀ds S Q,sp ds S Q->ds.length=ps.length)(h:∀(f)(j)(A)(outer)(s)(H)(E),bB k (A.deeper (PyProof.Rows.envOfC qual (aj st) s.heap.objs.size f j))->∃a,yW (m5 qD P w K mg base N qual (aj st) f j A outer s H E).HH (bE st) a/\∀ds S Q,sp ds S Q->a {nx:=λ_ l=>M.ret S l (.dat .bU) Q,rt:=λr l=>M.ret S l r Q} (aM N ds) S):kK P w K mg base (k+1) C d ps sp:=by
 let⟨f,fd,F,n,o⟩:=F.ex;refine⟨f,fd,okB F S len h,n,o⟩
section
variable {e o:Expr}{es:List Expr}{p:Pos}{k:Nat}{m:Str}
def AZ(C:Addr)(m:Str)(sp:AN)(a:AE)(t:AA):AE:=λh S Q=>a h S λr l=>∃n j ds,r=.dat (.loc n)/\l[n]? =some (some (.ins C j ds))/\m ∉ j/\t h l λes q=>sp (.loc n::es) q Q
def MJ:∀x H Q,aX K (AZ C m sp g J) x H Q->CW C m (az K sp) [] d (aX K g) (qQ K J) x H Q:=by
 intro x H Q z;let⟨w,G,S,Qa,ok,env,q,bk⟩:=z;refine⟨w,G,S,_,ok,env,q,λr S1 v L H1 u l j y=>?_⟩;let⟨n,ks,ds,Z,Y,U,O⟩:=y;subst Z;let⟨g,dx,fs,rfl,P,X,W,hd⟩:=tV l j Y;subst W;refine⟨g,dx,fs,rfl,X,rT fs U,L,G,S1,_,l,env.le u,O,λes S2 vs I H2 s F h q2=>?_⟩;refine⟨I,.loc n::es,S2,Qa,F,?_,q2,bk.le (u.trans s)⟩;rw[zbW];exact .cons (by refine⟨g,s.r _ _ P,rfl⟩) h
theorem iP(q:GE X o ta)(c:y9 X.K C)(D:kK X.prog X.w X.K X.mg X.base k C m ps sp)(l:bB k X.A)(u:GA X (e::es) d)(a:autoParam (yao (e::es) X.env=(false,eval e X.env)::yao es X.env) r0)(h:autoParam ((yau pos (yao es X.env)).any (·.1)=false) r0)(j:autoParam (eval (.Call (.Attribute o m apos) (e::es) [] pos) X.env=(do
   let ov <-eval o X.env
   standAt apos.atName
   let(f,first) <-holding [ov] (yaD ov m pl)
   yaz pos f first (yau pos (yao (e::es) X.env)) (yaF pos (yaE [] X.env)))) r0):
  GE X (.Call (.Attribute o m apos) (e::es) [] pos) (AZ C m sp ta d):=by
 let⟨f,fd,F,n,s⟩:=D.ex;exact⟨mE (L2.iP q.p c n F l s .nil zS u.p a h j) MJ⟩
theorem oV(O:GE X o ta)(c:y9 X.K C)(D:kK X.prog X.w X.K X.mg X.base k C m ps sp)(x:bB k X.A)(I:autoParam (eval (.Call (.Attribute o m apos) [] [] pos) X.env=(do
   let ov <-eval o X.env
   standAt apos.atName
   let(f,first) <-holding [ov] (yaD ov m pl)
   yaz pos f first (yau pos (yao [] X.env)) (yaF pos (yaE [] X.env)))) r0):
  GE X (.Call (.Attribute o m apos) [] [] pos) (AZ C m sp ta lO):=by
 let⟨f,fd,F,u,P⟩:=D.ex;exact⟨mE (L2.oV O.p c u F x P .nil zS I) λσ H Q h=>by
  let⟨w,y,S,Qa,ok,env,q,bk⟩:=h;refine⟨w,y,S,_,ok,env,q,λr Z v E H1 t l j s=>?_⟩;let⟨n,ks,ds,Y,W,u,G⟩:=s;subst Y;let⟨a,dx,fs,rfl,x,U,L,hd⟩:=tV l j W;subst L;refine⟨a,dx,fs,rfl,U,rT fs u,E,[.loc n],Z,Qa,l,?_,G,bk.le t⟩;exact .cons j .nil⟩
def LV(C:Addr)(sp:AN)(t:AA):AE:=λh S Q=>t h S λes a=>sp (.loc a.length::es) (a++[some (.ins C [] [])]) λr j=>r=.dat .bU/\Q (.dat (.loc a.length)) j
theorem tw(MK:Mk X.K C f)(F:eK X.prog X.w X.K X.mg X.base qD k f fd ps (az X.K sp))(hb:Binds X.K fd ps [])(hr:bB (k+1) X.A)(hg:Gl X x)(hm:X.mg x=some (.ref C))(ha:GA X (e::es) d)(U:(x==("__debug__":Str))=false:=by decide+kernel)(hs:autoParam ((e::es).all notStar=true) r0):GE X (.Call (.Name x p) (e::es) [] pos) (LV C sp d):=by
 have h2:=hs;rw[zct,zbR] at h2;refine⟨mE (L2.tw MK F hr hg hm hb .nil zS ha.p U (br es X.env h2.1) (eU es h2.2)) λσ H Q h=>?_⟩;let⟨w,W,S,Qa,ok,env,q,bk⟩:=h;refine⟨w,W,S,_,ok,env,q,λds S1 vs w1 H1 P O n Z a dx na nd ne=>?_⟩;have E:(upd H1 dx (HO.own a)) a=none:=by rw[aR (Ne.symm ne)];exact na
 have s:=(O.alloc (o:=.own a) nd)
 let⟨Y,y,L,j⟩:=store (s.alloc E) (s.fresh E (m:=.ins C [] []) ⟨dx,[],rfl,rfl,.nil⟩);refine⟨Y,_,_,_,L,by rw[zbW];exact .cons j (n.le y),Z,λr S2 v w3 H3 u I l G=>?_⟩;let⟨er,q4⟩:=G;subst er;have ev:=ID l rfl;exact⟨ev,bk.dat (P.trans (y.trans u)) I (j.le u) q4⟩
end
end M
namespace Srt
open PySem PySem.W PyProof.Rows
structure Ord(α:Type) where
 lt:α->α->Bool
 UA:∀a,lt a a=false
 tr:∀a b c,lt a b=true->lt b c=true->lt a c=true
 nt:∀a b c,lt a c=true->lt a b=true∨lt b c=true
noncomputable def run{h:Type}(f:Nat->Nat->Bool):KasT h->h
 |.ret a=>a
 |.ask i j k=>run f (k (f i j))
theorem run_bind{h l:Type}{g:h->KasT l}:∀t:KasT h,run d (t.bind g)=run d (g (run d t))
 |.ret a=>rfl
 |.ask i j k=>run_bind (k (d i j))
section
variable {α:Type}(O:Ord α)
def le(a b:α):Prop:=O.lt b a=false
variable {O}
def le_rfl(a):le O a a:=O.UA a
def z8(h:O.lt d g=true):le O d g:=by
 unfold le;cases e:O.lt g d with
 |false=>rfl
 |true=>have:=O.tr _ _ _ h e;rw[O.UA] at this;lia
def ja(h:le O d k)(g:le O k q):le O d q:=by
 unfold le at*;cases e:O.lt q d with
 |false=>rfl
 |true=>
  obtain z|z:=O.nt _ k _ e
  ·simp_all
  simp_all
def pC(h:¬O.lt d e=true):le O e d:=by unfold le;simpa using h
end
section
variable {α:Type}{O:Ord α}{k:Nat->α}{p:Array Nat}
noncomputable def val(k:Nat->α)(p:Array Nat)(i:Nat):α:=k (p.getD i 0)
variable (O k)
def Up(p:Array Nat)(m:Nat):Prop:=∀i j,i<=j->j<m->le O (val k p i) (val k p j)
def Down(p:Array Nat)(m:Nat):Prop:=∀i j,i<=j->j<m->le O (val k p j) (val k p i)
noncomputable abbrev ask(i j:Nat):Bool:=O.lt (k i) (k j)
variable {O k}
def HS(h:Up O k p n)(h1:1<=n)(g:le O (val k p (n - 1)) (val k p n)):Up O k p (n+1):=λi j a m=>by
 by_cases e:j<n
 ·exact h i j a e
 ·have:j=n:=by lia
  subst this;by_cases l:i=j
  ·subst l;exact le_rfl _
  ·exact ja (h i (j - 1) (by lia) (by lia)) g
def iT(h:Down O k p n)(h1:1<=n)(g:le O (val k p n) (val k p (n - 1))):Down O k p (n+1):=λi j a m=>by
 by_cases e:j<n
 ·exact h i j a e
 ·have:j=n:=by lia
  subst this;by_cases l:i=j
  ·subst l;exact le_rfl _
  ·exact ja g (h i (j - 1) (by lia) (by lia))
theorem yL:∀(f n),1<=n->Up O k p n->n<=run (ask O k) (kas_asc p f n)/\run (ask O k) (kas_asc p f n)<=n+f/\Up O k p (run (ask O k) (kas_asc p f n))
 |0,n,_,h=>⟨zcR _,zcR _,h⟩
 |f+1,n,h1,h=>by
  show n<=run _ (if O.lt (val k p n) (val k p (n - 1))=true then _ else _)/\_;by_cases e:O.lt (val k p n) (val k p (n - 1))=true
  ·have:run (ask O k) (kas_asc p (f+1) n)=n:=by
    show run _ (if O.lt (val k p n) (val k p (n - 1))=true then _ else _)=_;rw[yIp e];rfl
   rw[yIp e,this];refine⟨zcR _,by lia,h⟩
  ·have j:run (ask O k) (kas_asc p (f+1) n)=run (ask O k) (kas_asc p f (n+1)):=by
    show run _ (if O.lt (val k p n) (val k p (n - 1))=true then _ else _)=_;rw[yIn e]
   rw[yIn e,j];let⟨a,b,c⟩:=yL f (n+1) (by lia) (HS h h1 (pC e));refine⟨by lia,by lia,c⟩
def nK:p.getD d 0=(p[d]?).getD 0:=by
 simp
def val_rev(a:j<=p.size)(x):val k (kas_rev p i j) x=if i<=x/\x<j then val k p (i+j - 1 - x) else val k p x:=by
 unfold val kas_rev;rw[nK,getElem?_mirror_all a];split<;>rw[nK]
def oF:(kas_rev p i j).size=p.size:=mirror_size _ _ _ _
def dz:(kas_rev p i j).Perm p:=mirror_perm _ _ _ _
def Flat(O:Ord α)(k:Nat->α)(p:Array Nat)(n q:Nat):Prop:=q+1<=n/\∀i j,n - (q+1)<=i->i<n->n - (q+1)<=j->j<n->le O (val k p i) (val k p j)
def vR(m:n<=p.size)(h:Down O k p n)(f:Flat O k p n q):Down O k (kas_rev p (n - (q+1)) n) n:=λi j l o=>by
 let⟨t,s⟩:=f;rw[val_rev m,val_rev m];by_cases a:n - (q+1)<=j
 ·rw[yIp ⟨a,o⟩];by_cases b:n - (q+1)<=i
  ·rw[yIp ⟨b,by lia⟩];exact s _ _ (by lia) (by lia) (by lia) (by lia)
  ·rw[yIn (by lia)];exact h _ _ (by lia) (by lia)
 ·rw[yIn (by lia),yIn (by lia)];exact h _ _ l o
def Fz(h:1<=n):Flat O k p n 0:=⟨by lia,λi j a b c d=>by
 have:i=j:=by lia
 subst this;exact le_rfl _⟩
theorem nO:∀(f n q)(p),n+f<=p.size->Down O k p n->Flat O k p n q->
  ∃m l o,run (ask O k) (kas_desc f p n q)=(m,l,o)/\m.Perm p/\n<=l/\l<=n+f/\Down O k m l/\Flat O k m l o
 |0,n,q,p,hz,h,fl=>⟨p,n,q,rfl,Array.Perm.refl _,zcR _,zcR _,h,fl⟩
 |f+1,n,q,p,hz,h,fl=>by
  have h1:1<=n:=by have:=fl.1;lia
  have F:run (ask O k) (kas_desc (f+1) p n q)=run (ask O k) (if O.lt (val k p n) (val k p (n - 1))=true then(if q> 0 then kas_desc f (kas_rev p (n - (q+1)) n) (n+1) 0 else kas_desc f p (n+1) 0) else .ask (p.getD (n - 1) 0) (p.getD n 0) λd=>if d=true then .ret (p,n,q) else kas_desc f p (n+1) (q+1)):=rfl;rw[F];by_cases e:O.lt (val k p n) (val k p (n - 1))=true
  ·rw[yIp e];by_cases x:q> 0
   ·rw[yIp x];have hd:=vR (by lia) h fl;have E:val k (kas_rev p (n - (q+1)) n) n=val k p n:=by rw[val_rev (by lia),yIn (by lia)]
    have C:le O (val k (kas_rev p (n - (q+1)) n) n) (val k (kas_rev p (n - (q+1)) n) (n - 1)):=by
     rw[E,val_rev (by lia),yIp (by lia)];exact ja (z8 e) (h _ _ (by lia) (by lia))
    let⟨m,l,o,a,b,c,d,t,s⟩:=nO f (n+1) 0 (kas_rev p (n - (q+1)) n) (by rw[oF];lia) (iT hd h1 C) (Fz (by lia));refine⟨m,l,o,a,b.trans dz,by lia,by lia,t,s⟩
   ·rw[yIn x];let⟨m,l,o,a,b,c,d,t,s⟩:=nO f (n+1) 0 p (by lia) (iT h h1 (z8 e)) (Fz (by lia));refine⟨m,l,o,a,b,by lia,by lia,t,s⟩
  ·rw[yIn e];show∃m l o,run _ (if O.lt (val k p (n - 1)) (val k p n)=true then _ else _)=_/\_;by_cases g:O.lt (val k p (n - 1)) (val k p n)=true
   ·rw[yIp g];refine⟨p,n,q,rfl,Array.Perm.refl _,zcR _,by lia,h,fl⟩
   ·rw[yIn g];have l1:=pC e;have l2:=pC g;have v:Flat O k p (n+1) (q+1):=⟨by have:=fl.1;lia,λi j a b c d=>by
     by_cases y:i=n
     ·by_cases u:j=n
      ·rw[y,u];exact le_rfl _
      ·rw[y];exact ja l2 (fl.2 _ _ (by lia) (by lia) (by lia) (by lia))
     ·by_cases u:j=n
      ·rw[u];exact ja (fl.2 _ _ (by lia) (by lia) (by lia) (by lia)) l1
      ·exact fl.2 _ _ (by lia) (by lia) (by lia) (by lia)⟩
    let⟨m,l,o,a,b,c,d,t,s⟩:=nO f (n+1) (q+1) p (by lia) (iT h h1 l2) v;refine⟨m,l,o,a,b,by lia,by lia,t,s⟩
def zf(h1:1<=n)(s:n<=m)(hz:m<=p.size)(h:Down O k p n):∃c l,run (ask O k) (kas_tail3 n m p)=(c,l)/\l.Perm p/\n<=c/\c<=m/\Up O k l c:=by
 unfold kas_tail3;rw[run_bind];have o:Up O k (kas_rev p 0 n) n:=λi j q t=>by
  rw[val_rev (by lia),val_rev (by lia),yIp (by lia),yIp (by lia)];exact h _ _ (by lia) (by lia)
 let⟨a,b,c⟩:=yL (m - n) n h1 o;refine⟨_,_,rfl,dz,a,by lia,c⟩
def mQ(h1:1<=n)(E:n+1<=m)(hz:m<=p.size)(h:Down O k p n)(g:le O (val k p n) (val k p (n - 1))):∃c j,run (ask O k) (kas_descPart n m p)=(c,j)/\j.Perm p/\1<=c/\c<=m/\Up O k j c:=by
 unfold kas_descPart;rw[run_bind];let⟨j,C,x,a,b,c,d,e,f⟩:=nO (m - (n+1)) (n+1) 0 p (by lia) (iT h h1 g) (Fz (by lia));have hs  :=b.size_eq;rw[a];by_cases v:x> 0
 ·rw[yIp v];let⟨s,l,u,t,y,q,o⟩:=zf (m:=m) (by lia) (by lia) (by rw[oF];lia) (vR (by lia) e f);refine⟨s,l,u,t.trans (dz.trans b),by lia,q,o⟩
 ·rw[yIn v];let⟨s,l,u,t,y,q,o⟩:=zf (m:=m) (by lia) (by lia) (by lia) e;refine⟨s,l,u,t.trans b,by lia,q,o⟩
def FW(L:1<=m)(hz:m<=p.size):∃c q,run (ask O k) (kas_count m p)=(c,q)/\q.Perm p/\1<=c/\c<=m/\Up O k q c:=by
 unfold kas_count;rw[run_bind];have H:Up O k p 1:=λi j l s=>by
  have:i=j:=by omega
  subst this;exact le_rfl _
 let⟨a,b,c⟩:=yL (m - 1) 1 (zcR _) H;have stop:run (ask O k) (kas_asc p (m - 1) 1)<m->O.lt (val k p (run (ask O k) (kas_asc p (m - 1) 1))) (val k p (run (ask O k) (kas_asc p (m - 1) 1) - 1))=true:=by
  have:∀f n,run (ask O k) (kas_asc p f n)<n+f->O.lt (val k p (run (ask O k) (kas_asc p f n))) (val k p (run (ask O k) (kas_asc p f n) - 1))=true:=by
   intro f
   induction f with
   |zero=>intro n h;exact absurd h (zcv _)
   |succ f ih=>
    intro n h;by_cases e:O.lt (val k p n) (val k p (n - 1))=true
    ·have o:run (ask O k) (kas_asc p (f+1) n)=n:=by
      show run _ (if O.lt (val k p n) (val k p (n - 1))=true then _ else _)=_;rw[yIp e];rfl
     simp_all
    ·have o:run (ask O k) (kas_asc p (f+1) n)=run (ask O k) (kas_asc p f (n+1)):=by
      show run _ (if O.lt (val k p n) (val k p (n - 1))=true then _ else _)=_;simp_all
     rw[o] at h⊢;exact ih (n+1) (by omega)
  simp_all
 generalize run (ask O k) (kas_asc p (m - 1) 1)=n at a b c stop;by_cases x:(n==m)=true
 ·rw[yIp x];refine⟨n,p,rfl,Array.Perm.refl _,a,by omega,c⟩
 ·rw[yIn x];have I:n≠m:=λz=>x (by simp_all);have st:=z8 (stop (by omega));by_cases o:n> 1
  ·rw[yIp o];show∃c q,run _ (if O.lt (val k p 0) (val k p (n - 1))=true then _ else _)=_/\_;by_cases v:O.lt (val k p 0) (val k p (n - 1))=true
   ·rw[yIp v];refine⟨n,p,rfl,Array.Perm.refl _,a,by omega,c⟩
   ·rw[yIn v];have all  :=λi j P s=>ja (c i (n - 1) (by omega) (by omega)) (ja (pC v) (c 0 j (by omega) s));have hd:Down O k (kas_rev p 0 n) n:=λi j l s=>by
     rw[val_rev (by omega),val_rev (by omega),yIp (by omega),yIp (by omega)];exact all _ _ (by omega) (by omega)
    let⟨E,t,G,F,C,y,u⟩:=mQ (m:=m) a (by omega) (by rw[oF];omega) hd (by
     rw[val_rev (by omega),val_rev (by omega),yIn (by omega),yIp (by omega)];exact ja st (all _ _ (by omega) (by omega)))
    refine⟨E,t,G,F.trans dz,C,y,u⟩
  ·rw[yIn o];let⟨E,t,G,F,C,y,u⟩:=mQ (by omega) (by omega) hz (λi j l s=>by
    have:i=j:=by omega
    subst this;exact le_rfl _) st
   refine⟨E,t,G,F,C,y,u⟩
theorem oU{j:Nat}:∀(f l r),r<=l+f->l<=r->r<=j->(∀i,i<l->le O (val k p i) (val k p j))->(∀i,r<=i->i<j->le O (val k p j) (val k p i))->Up O k p j->
  ∃x,run (ask O k) (kas_place p j f l r)=x/\x<=j/\(∀i,i<x->le O (val k p i) (val k p j))/\∀i,x<=i->i<j->le O (val k p j) (val k p i)
 |0,l,r,h,hlr,hr,a,b,u=>by
  have:l=r:=by lia
  subst this;refine⟨l,rfl,hr,a,b⟩
 |f+1,l,r,h,hlr,hr,a,b,u=>by
  show∃x,run _ (if l≥r then _ else _)=x/\_;by_cases e:l≥r
  ·rw[yIp e];have:l=r:=by lia
   subst this;refine⟨l,rfl,hr,a,b⟩
  ·rw[yIn e];show∃x,run _ (if O.lt (val k p j) (val k p ((l+r) / 2))=true then _ else _)=x/\_;by_cases g:O.lt (val k p j) (val k p ((l+r) / 2))=true
   ·rw[yIp g];exact oU f l ((l+r) / 2) (by lia) (by lia) (by lia) a (λi h1 h2=>ja (z8 g) (u _ _ h1 h2)) u
   ·rw[yIn g];exact oU f ((l+r) / 2+1) r (by lia) (by lia) hr (λi h1=>ja (u _ _ (show i<=(l+r) / 2 by lia) (by lia)) (pC g)) b u
def zc(a:j<p.size)(hd:d<=j)(x):val k (bubble p j d) x=if x=j - d then val k p j else if j - d<x/\x<=j then val k p (x - 1) else val k p x:=by
 have h1:∀y,val k p y=k ((p[y]?).getD 0):=λy=>by unfold val;simp
 rw[h1 j,h1 (x - 1),h1 x];unfold val;rw[nK,getElem?_bubble a d hd];split
 ·rfl
 ·split<;>rfl
theorem Gj:∀(f j)(p),1<=j->j+f=p.size->Up O k p j->∃l,run (ask O k) (kas_bin f p j)=l/\l.Perm p/\Up O k l p.size
 |0,j,p,h1,h,u=>⟨p,rfl,Array.Perm.refl _,by rw[<-h];exact u⟩
 |f+1,j,p,h1,h,u=>by
  show∃l,run _ ((kas_place p j j 0 j).bind _)=l/\_;rw[run_bind];let⟨x,ex,y,a,b⟩:=oU j 0 j (by lia) (by lia) (zcR _) (λi z=>by lia) (λi h1 h2=>by lia) u;rw[ex];have n:Up O k (bubble p j (j - x)) (j+1):=λi v o q=>by
   rw[zc (by lia) (by lia),zc (by lia) (by lia)]
   repeat' split
   all_goals first|exact le_rfl _|(exact u _ _ (by lia) (by lia))|(exact a _ (by lia))|(exact b _ (by lia) (by lia))|(exfalso;lia)
  let⟨l,t,s,m⟩:=Gj f (j+1) (bubble p j (j - x)) (by lia) (by rw[bubble_size];lia) n;refine⟨l,t,s.trans (bubble_perm _ _ _),by rw[bubble_size] at m;exact m⟩
def H9(o:1<=n):∃p:Array Nat,run (ask O k) (kas_sort n)=p/\p.Perm (List.toArray (zcV n))/\Up O k p n:=by
 unfold kas_sort;rw[run_bind];have hz:(List.toArray (zcV n)).size=n:=by simp
 obtain⟨c,h,a,b,v,x,u⟩:=FW (p:=List.toArray (zcV n)) o (by lia);rw[a];have m:h.size=n:=by rw[b.size_eq,hz]
 by_cases e:c<n
 ·rw[yIp e];have q:max c 1=c:=by lia
  rw[q];obtain⟨l,t,s,j⟩:=Gj (n - c) c h v (by lia) u;exact⟨l,t,s.trans b,by rw[m] at j;exact j⟩
 ·rw[yIn e];have:c=n:=by lia
  subst this;exact⟨h,rfl,b,u⟩
end
end Srt
namespace M5
open PySem PySem.Spec PyProof.Rows
def mJ(t)(es)(h)(x):(layNew t es h x).2.1.led=t.led/\((layNew t es h x).2.1.plain=true->t.plain=true):=by
 unfold layNew;split
 ·unfold SetTable.orStandIn;dsimp only;split
  ·exact⟨rfl,λz=>z⟩
  ·exact⟨rfl,λz=>by cases z⟩
 ·exact⟨rfl,λz=>by cases z⟩
def mj(h:t.relaid e n=some (d,g)):d.led=t.led/\d.plain=t.plain:=by
 unfold SetTable.relaid SetTable.laid at h;cases j:SetTable.layClean (SetTable.sizeAbove n - 1) e with
 |none=>rw[j] at h;cases h
 |some ow=>
  rw[j] at h;injection h with h;injection h with h1 h2;subst h1;simp
def i8(t)(es)(n):(relayAll t es n).2.1.led=t.led/\((relayAll t es n).2.1.plain=true->t.plain=true):=by
 unfold relayAll;split
 ·rename_i j a h;dsimp only;split
  ·exact⟨(mj h).1,λz=>by rw[<-(mj h).2];exact z⟩
  ·exact⟨rfl,λz=>by cases z⟩
 ·exact⟨rfl,λz=>by cases z⟩
def UY(prog:yaj)(w:yak)(o:Obj)(S:List Str):Prop:=
 ∃a h t,o.ExactSet/\o.data=.set a h t/\ElemsOf (PySem.strKind prog w) a.toList/\(a.toList.map λe=>strOf e.2).Perm S/\t.fits a.size=true/\t.led=(!w.params.followText "set-order")/\(a.size≠0->t.plain=false)
def xg(prog:yaj)(w:yak)(h:Heap)(a:Addr)(S:List Str):Prop:=∃o,h.get? a=some o/\UY prog w o S
noncomputable def nc(S:List Str)(x:Str):List Str:=if x∈S then S else S++[x]
def Uz(x)(t):(PySem.strKind prog w).is x (.str x t)=true:=by
 show Value.isStrOf x (.str x t)=true;simp[Value.isStrOf]
def C8(h:(PySem.strKind prog w).is x d=true):strOf d=x:=by
 let⟨t,rfl⟩:=Value.isStrOf_shape h;rfl
def dh(j)(t')(l:h.get? a=some d)(hd:d.data=.set es ep t):
  (h.update a (Obj.putSet j t')).get? a=some {d with data:=.set j (ep+1) t'}:=by
 have e:=zaB (Obj.putSet j t') l;rw[putSet_of j t' hd] at e;exact e rfl
theorem add_str(hS:xg prog w s.heap a d)(hn:d.length+1<4096)(h:∀b h',Heap.SameBut a s.heap h'->xg prog w h' a (nc d x)->g b {s with heap:=h'}):
  yar (model prog w) A (setAddHashed a (.str x tk) ((PySem.strKind prog w).hash x)) g E s:=by
 let⟨o,Y,C,ep,t,H,hd,v,X,hf,u,hpl⟩:=hS;have ae:C.size=d.length:=by rw[<-X.length_eq,zbV,zaR]
 have hb  :=by show C.size<4096;lia
 refine yad (yaa (wpAny_setState_of Y hd hf ?_));dsimp only;rw[byScan_of rfl hb v];refine yaa (yaa (wpAny_rule (yaa (wpAny_setScan_of (Uz x tk) Y hd hf v ?_))));cases hr:List.findIdx? (λe=>(PySem.strKind prog w).is x e.2) C.toList with
 |some j=>
  let⟨hj,hpj,_⟩:=zaa.mp hr;have U  :=X.mem_iff.mp (zcE.mpr ⟨_,zbG hj,C8 hpj⟩);refine yab (yab ?_);have q:=h false s.heap (Heap.SameBut.refl a s.heap) (by
   unfold nc;rw[yIp U];refine⟨o,Y,C,ep,t,H,hd,v,X,hf,u,hpl⟩)
  exact q
 |none=>
  have U:x ∉ d:=λU=>by
   let⟨e,he,z⟩:=zcE.mp (X.mem_iff.mpr U);let⟨⟨k,hk,_⟩,_⟩:=v e he;rw[C8 hk] at z
   grind
  have y:=layNew_perm t C ((PySem.strKind prog w).hash x) (.str x tk);have G:=layNew_fits t C ((PySem.strKind prog w).hash x) (.str x tk);have hlk:=mJ t C ((PySem.strKind prog w).hash x) (.str x tk);generalize layNew t C ((PySem.strKind prog w).hash x) (.str x tk)=L at y G hlk⊢;let⟨l,t1,wd,gv⟩:=L;rw[zbw] at y;have hel1  :=(v.push (Uz x tk) rfl).perm y;have W:(l.toList.map λe=>strOf e.2).Perm (d++[x]):=by
   refine(y.map _).trans ?_;rw[zca];exact X.append_right [x]
  have ac:l.size=d.length+1:=by rw[<-zaR,<-zbV,W.length_eq,zaU];rfl
  have gw:∀b {n:yah}{Q':Unit->yah->Prop},Q' () n->yar (model prog w) A (match b with|true=>rule "set.scan.the-table-gave-way"|false=>pure ()) Q' E n:=by
   intro b n Q' q;cases b
   ·exact yab q
   ·exact wpAny_rule q
  refine yaa (gw _ ?_);have Z:∀m,m.fits l.size=true->m.led=t.led->m.plain=false->yar (model prog w) A (do
    storeSet a l m
    if(!wd&&m.tooFull)=true then do
      (match(relayAll m l (SetTable.grown l.size)).2.2 with|true=>rule "set.scan.the-table-gave-way"|false=>pure ())
      storeSet a (relayAll m l (SetTable.grown l.size)).1 (relayAll m l (SetTable.grown l.size)).2.1
      pure (some true)
     else pure (some true)) (λr s'=>r=some true/\g true s') E s:=by
   intro m f2 l2 p2;refine yaa (wpAny_storeSet_of Y hd ?_ (by rw[yaf];lia));have F:=dh l m Y hd;have O:=Heap.SameBut.update s.heap a (Obj.putSet l m);split
   ·have P:=relayAll_perm m l (SetTable.grown l.size);have rf:=relayAll_fits m l (SetTable.grown l.size);have rk:=i8 m l (SetTable.grown l.size);generalize relayAll m l (SetTable.grown l.size)=Rl at P rf rk⊢;let⟨I,t3,g2⟩:=Rl;dsimp only at P rf rk⊢;have ab:I.size=l.size:=by rw[<-zaR,P.length_eq,zaR]
    refine yaa (gw _ ?_);refine yaa (wpAny_storeSet_of F rfl ?_ (by rw[yaf];lia));refine yab ⟨rfl,h true _ (O.trans (Heap.SameBut.update _ a _)) ⟨_,dh I t3 F rfl,I,_,t3,H,rfl,hel1.perm P,?_,rf,rk.1.trans (l2.trans u),λ_=>?_⟩⟩
    ·unfold nc;rw[yIn U];exact(P.map _).trans W
    lia
   ·refine yab ⟨rfl,h true _ O ⟨_,F,l,_,m,H,rfl,hel1,?_,f2,l2.trans u,λ_=>p2⟩⟩;unfold nc;simp_all
  cases hpt:t1.plain with
  |true=>
   refine yaa ?_;refine yab ?_;refine yac (Z _ ?_ ?_ ?_) ?_ (λ_ _ z=>z)
   ·exact SetTable.fits_plain_off G
   ·lia
   ·rfl
   ·rintro r s' ⟨rfl,q⟩;exact yab q
  |false=>
   refine yac (Z _ ?_ ?_ ?_) ?_ (λ_ _ z=>z)
   ·exact G
   ·simp_all
   ·simp_all
   ·rintro r s' ⟨rfl,q⟩;exact yab q
noncomputable def all1(val:Nat->Str):Nat->List Str
 |0=>[]
 |i+1=>nc (all1 val i) (val i)
def Gr(S)(x):(nc S x).length<=S.length+1:=by
 unfold nc;split
 ·lia
 simp
theorem pZ(val):∀i,(all1 val i).length<=i
 |0=>zcR _
 |i+1=>zcH (Gr ..) (Nat.succ_le_succ (pZ val i))
def xg.keep(x:xg prog w h a d)(e:∀o,h.get? a=some o->h'.get? a=some o):xg prog w h' a d:=
 by let⟨o,j,r⟩:=x;refine⟨o,e o j,r⟩
section
variable {R:Result->yah->Prop}{wr:List Addr}{P:Nat->yai->Prop}{St:Nat->yah->Prop}
theorem E5(W:WalksS prog w A.in1 I fp wr G n P St)(a)(U:a ∉ fp)(val)(m:∀i v,P i v->∃t,v=.str (val i) t)(hn:n<4000):
  ∀(k i)(s),n - i=k->i<=n->St i s->xg prog w s.heap a (all1 val i)->
   (∀h,Moved (a::wr) G s h->xg prog w h.heap a (all1 val n)->R (.ok (.ret .none)) h)->
   codeAny (model prog w) A (.builtin "set.update.loop" ⟨[.ref a,.ref I],[]⟩) R s:=by
 have haw  :=λz=>U (W.sub _ z);have l:∀b∈wr,b∈a::wr:=λb z=>zaC _ z;intro k
 induction k with
 |zero=>
  intro i s X Y j Q S;obtain rfl:i=n:=by lia
  refine codeAny_builtin PyProof.Rows.F.entry_set_update_loop ?_;refine yaa (W.done s _ _ j λh y=>?_);exact yab (S h (y.mono l) (Q.keep λo e=>y.heap a o haw e))
 |succ k ih=>
  intro i s X Y j Q S;have C:i<n:=by lia
  refine codeAny_builtin PyProof.Rows.F.entry_set_update_loop ?_;refine yaa (W.item i s _ _ C j λv h Z q y=>?_);let⟨t,rfl⟩:=m i v Z;have hS'  :=Q.keep λo e=>y.heap a o haw e;refine yaa (yad ?_);refine yad (yaa ((PySem.strKind prog w).pyHash (Uz _ _) ?_));have:=pZ val i;refine add_str hS' (by lia) λb h' u O=>?_;refine yab ⟨plainId_quiet PyProof.Rows.F.plain_set_update_loop _,ih (i+1) _ (by lia) C (W.frame _ h _ _ q (zcT _) λb L o e=>?_) O λH x E=>?_⟩
  ·rw[u.2 b λz=>U (z▸L)];exact e
  ·refine S H (Moved.trans W.gtrans ((y.mono l).then_heap (zcT _) λb o L e=>?_) x) E;rw[u.2 b λz=>L (z▸zaV)];exact e
end
namespace F
def sub_tuple_set:isSubtype (.type "tuple") (.type "set")=pure false:=by rfl
def sub_tuple_frozenset:isSubtype (.type "tuple") (.type "frozenset")=pure false:=by rfl
end F
noncomputable def aW(led:Bool):Obj:={cls:=.type "set",dict:=none,data:=.set #[] 0 (.fresh 0 0 led)}
def Ib(a)(h:Q₁ (.ref s.heap.objs.size) {s with heap:=s.heap.push (aW (!w.params.followText "set-order"))}):
  codeAny (model prog w) A (.call (.builtin "set.__new__") ⟨[.type "set",a],[]⟩) (wants Q₁ E) s:=by
 refine codeAny_of_tree ?_;refine yaa (wpAny_of_eq (PySem.F.newCall_set_1 a) (yab ⟨plainId_quiet PySem.F.plain_set_new _,codeAny_builtin PySem.F.entry_set_new ?_⟩));have j:=sub_set_self
 wp_walk
 refine wpAny_askSetting (yab ?_);refine yaa (wpAny_alloc (yab ?_));exact yab h
def Cq(e:h.get? a=some (aW (!w.params.followText "set-order"))):xg prog w h a []:=
 ⟨_,e,#[],0,_,⟨rfl,rfl,rfl⟩,rfl,λe j=>by simp at j,.nil,rfl,rfl,λz=>absurd rfl z⟩
end M5
namespace M7
open PySem PySem.Spec PyProof.Rows M5
theorem lK{Z:Heap->Prop}(hT:s.TypeIs (.ref l) T)(h1:isSubtype (.type T) (.type "set")=pure false)(h2:isSubtype (.type T) (.type "frozenset")=pure false)(h3:(Value.type T==Value.type "dict")=false)(it:∀{A':yal}{t:yah}{Q':yai->yah->Prop}{E':yai->yah->Prop},(∀b o,s.heap.get? b=some o->t.heap.get? b=some o)->Q' (.ref t.heap.objs.size) {t with heap:=t.heap.push ob}->yar (model prog w) A' (pyIter (.ref l)) Q' E' t)(H:ob.isFreed=false)(lp:∀(I)(y){R:Result->yah->Prop},(∀b o,s.heap.get? b=some o->y.get? b=some o)->y.get? s.heap.objs.size=some (aW (!w.params.followText "set-order"))->y.get? I=some ob->l≠I->s.heap.objs.size ∉ [I,l]->(∀(h')(tk),Z h'->(∀b o,b ∉ [s.heap.objs.size,I]->y.get? b=some o->h'.get? b=some o)->R (.ok (.ret .none)) {s with heap:=h',toks:=tk})->codeAny (model prog w) A.in1.in1 (.builtin "set.update.loop" ⟨[.ref s.heap.objs.size,.ref I],[]⟩) R {s with heap:=y})(h:∀(h')(tk),Z h'->(∀b o,b<s.heap.objs.size->s.heap.get? b=some o->h'.get? b=some o)->Q (.ref s.heap.objs.size) {s with heap:=h',toks:=tk}):
  yar (model prog w) A (call (.type "set") [.ref l]) Q E s:=by
 have P:=PySem.F.called_set.made;have Y:=PySem.F.called_set.sub;have hct:=PySem.F.typeCall_set_1 (.ref l);refine yaI (codeAny_of_tree ?_);show yar _ _ (callAny (.type "set") _) _ _ _;refine yab ⟨Code.quiet_builtin _ (by decide+kernel),codeAny_builtin PySem.F.entry_type_call ?_⟩;rw[Around.under_plain (weight_type_call_type "set" [.ref l] []) rfl]
 repeat (any_goals (first|assumption|wp_step))
 generalize n:(!w.params.followText "set-order")=led;refine yax (Ib (.ref l) (E:=E) (Q₁:=λu m=>u=.ref s.heap.objs.size/\m={s with heap:=s.heap.push (aW led)}) ⟨rfl,by rw[n]⟩) λr m G=>?_;cases r with
 |error e=>exact G
 |ok fl=>
  cases fl with
  |ret u=>
   obtain⟨rfl,rfl⟩:=G;have gS:(s.heap.push (aW led)).get? s.heap.objs.size=some (aW led):=zaS _ rfl;have tS:Shared.TypeIs {s with heap:=s.heap.push (aW led)} (.ref s.heap.objs.size) "set":=⟨_,gS,rfl⟩
   have hli:=PySem.F.called_set.init.lookup;have hbi:=PySem.F.called_set.init.bind (.ref s.heap.objs.size)
   repeat (any_goals (first|assumption|wp_step))
   refine yax (codeAny_call_builtin (R:=wants (λr j=>r=.none/\∃h' tk,j={s with heap:=h',toks:=tk}/\Z h'/\(∀b o,b<s.heap.objs.size->s.heap.get? b=some o->h'.get? b=some o)) E) PySem.F.called_set.init.plain PySem.F.entry_set_init (check_set_init_1 tS ?_)) λv j a=>?_
   ·have S:l<s.heap.objs.size:=by obtain⟨o,L,_⟩:=hT;exact zcP L
    have kp:∀b o,s.heap.get? b=some o->(s.heap.push (aW led)).get? b=some o:=λb o e=>zas _ e;have tl1:Shared.TypeIs {s with heap:=s.heap.push (aW led)} (.ref l) T:=by obtain⟨o,L,z⟩:=hT;exact⟨o,kp _ _ L,z⟩
    unfold Builtin.«set.__init__» noKeywords Builtin.Frozenset.updateFrom;generalize X:pyIter=PI
    wp_walk
    subst X;refine it kp ?_;have sz:(s.heap.push (aW led)).objs.size=s.heap.objs.size+1:=zcp ..;have x:∀b o,s.heap.get? b=some o->((s.heap.push (aW led)).push ob).get? b=some o:=λb o e=>zas _ (kp b o e);have O:l≠(s.heap.push (aW led)).objs.size:=by rw[sz];exact zcG (zbs S)
    have W:s.heap.objs.size ∉ [(s.heap.push (aW led)).objs.size,l]:=by
     grind
    refine yaa (wpAny_runValue ?_);refine lp _ _ x (by rw[n];exact zas _ gS) (zaS _ H) O W λh' C q hm=>?_
    ·refine yab (yab ⟨rfl,h',C,rfl,q,λb o hb e=>hm b o ?_ (x b o e)⟩)
     grind
   ·cases v with
    |error e=>exact a
    |ok fl₂=>
     cases fl₂ with
     |ret r=>
      obtain⟨rfl,h',tk,rfl,q,U⟩:=a
      repeat (any_goals (first|assumption|wp_step))
      exact h _ _ q U
     |_=>exact a.elim
  |_=>exact G.elim
end M7
namespace M5
open PySem PySem.Spec PyProof.Rows
def wk{St:Addr->Nat->Heap->Prop}(O:A.handled=none)(U:s.TypeIs (.ref l) T)(h1:isSubtype (.type T) (.type "set")=pure false)(h2:isSubtype (.type T) (.type "frozenset")=pure false)(Y:(Value.type T==Value.type "dict")=false)(it:∀{A':yal}{a:yah}{H:yai->yah->Prop}{E':yai->yah->Prop},(∀b o,s.heap.get? b=some o->a.heap.get? b=some o)->H (.ref a.heap.objs.size) {a with heap:=a.heap.push ob}->yar (model prog w) A' (pyIter (.ref l)) H E' a)(y:ob.isFreed=false)(W:∀{A':yal}(I),A'.handled=none->l≠I->Walks prog w A' I [I,l] [I] n d (St I))(u:∀I h',(∀b o,s.heap.get? b=some o->h'.get? b=some o)->h'.get? I=some ob->St I 0 h')(j:∀i v,d i v->∃t,v=.str (val i) t)(L:n<4000)(h:∀(h')(tk),xg prog w h' s.heap.objs.size (all1 val n)->(∀b o,b<s.heap.objs.size->s.heap.get? b=some o->h'.get? b=some o)->Q (.ref s.heap.objs.size) {s with heap:=h',toks:=tk}):
  yar (model prog w) A (call (.type "set") [.ref l]) Q E s:=by
 refine M7.lK U h1 h2 Y it y (λI Z R kp gS gI C F X=>?_) h;refine E5 (W (A':=A.in1.in1.in1) I O C).toS s.heap.objs.size F val j L (n - 0) 0 _ rfl (zcS _) (u I Z kp gI) (Cq gS) λa m G=>?_;let⟨h',g',d',q,x⟩:=a;obtain rfl:g'=s.gens:=m.gens;obtain rfl:d'=s.drawn:=m.drawn;obtain rfl:x=s.os:=m.os;exact X h' q G λb o S e=>m.heap b o S e
theorem set_tuple(y:A.handled=none)(j:s.heap.IsTuple l its)(m:StrsAre its.toList ss)(u:ss.length<4000)(h:∀(h')(tk),xg prog w h' s.heap.objs.size (all1 (λi=>ss.getD i ⟨#[]⟩) ss.length)->(∀b o,b<s.heap.objs.size->s.heap.get? b=some o->h'.get? b=some o)->Q (.ref s.heap.objs.size) {s with heap:=h',toks:=tk}):
  yar (model prog w) A (call (.type "set") [.ref l]) Q E s:=by
 have el:its.size=ss.length:=by rw[<-zaR,m.length]
 rw[<-el] at h;refine wk y j.typeIs F.sub_tuple_set F.sub_tuple_frozenset (by decide) (λkp q=>wpAny_pyIter_tuple (j.at (kp l)) q) rfl (λI h1 h2=>Walks.tuple h1 I l h2 its)
  (λI h' kp e=>⟨⟨_,e,rfl,rfl⟩,j.at (kp l)⟩) ?_ (by lia) h
 intro i v a;rw[<-zaA] at a;clear h;revert i;generalize its.toList=vs at m;clear el u
 induction m with
 |nil=>intro i a;simp at a
 |cons x t r ih=>
  intro i a;cases i with
  |zero=>simp at a;exact⟨t,by rw[<-a];rfl⟩
  |succ i=>
   let⟨n,e⟩:=ih i a;exact⟨n,e⟩
theorem set_list(y:A.handled=none)(j:s.heap.IsList l its)(m:StrsAre its.toList ss)(u:ss.length<4000)(h:∀(h')(tk),xg prog w h' s.heap.objs.size (all1 (λi=>ss.getD i ⟨#[]⟩) ss.length)->(∀b o,b<s.heap.objs.size->s.heap.get? b=some o->h'.get? b=some o)->Q (.ref s.heap.objs.size) {s with heap:=h',toks:=tk}):
  yar (model prog w) A (call (.type "set") [.ref l]) Q E s:=by
 have el:its.size=ss.length:=by rw[<-zaR,m.length]
 rw[<-el] at h;refine wk y j.typeIs PySem.F.sub_list_set PySem.F.sub_list_frozenset (by decide) (λkp q=>wpAny_pyIter_list (j.at (kp l)) q) rfl (λI h1 h2=>Walks.list h1 I l h2 its)
  (λI h' kp e=>⟨⟨_,e,rfl,rfl⟩,j.at (kp l)⟩) ?_ (by lia) h
 intro i v a;rw[<-zaA] at a;clear h;revert i;generalize its.toList=vs at m;clear el u
 induction m with
 |nil=>intro i a;simp at a
 |cons x t r ih=>
  intro i a;cases i with
  |zero=>simp at a;exact⟨t,by rw[<-a];rfl⟩
  |succ i=>
   let⟨n,e⟩:=ih i a;exact⟨n,e⟩
def ET:e∈nc d x↔e∈d∨e=x:=by
 unfold nc;split
 ·simp_all
 ·simp
def x8(h:d.Nodup):(nc d x).Nodup:=by
 unfold nc
 grind
theorem o8(val):∀n,(all1 val n).Nodup
 |0=>List.nodup_nil
 |n+1=>x8 (o8 val n)
theorem vB(val)(y):∀n,y∈all1 val n↔∃i,i<n/\val i=y
 |0=>by simp[all1]
 |n+1=>by
  show y∈nc _ _↔_;rw[ET,vB val y n]
  grind
def BU(ss:List Str)(y):y∈all1 (λi=>ss.getD i ⟨#[]⟩) ss.length↔y∈ss:=by
 rw[vB];constructor
 ·grind
 ·intro h;let⟨i,h1,e⟩:=zaL h;refine⟨i,h1,by simp_all⟩
namespace F
def slot_next:Slot "set_iterator" "__next__" "set_iterator.__next__":=
 .of (owner:="set_iterator") (n:="__next__") (by rfl) (by rfl) (by rfl) (by rfl)
  (by first|exact .inl (by rfl)|exact .inr (by decide+kernel)) (by rfl)
def entry_next:entryFor table "set_iterator.__next__"=some Builtin.«set_iterator.__next__»:=entryFor_of_tree (by rfl)
def args_next(a):argsOk "set_iterator.__next__" ⟨[a],[]⟩:=by
 rfl
def q9:Slot "set_iterator" "__iter__" "set_iterator.__iter__":=
 .of (owner:="set_iterator") (n:="__iter__") (by rfl) (by rfl) (by rfl) (by rfl)
  (by first|exact .inl (by rfl)|exact .inr (by decide+kernel)) (by rfl)
def Cm(a):argsOk "set_iterator.__iter__" ⟨[a],[]⟩:=by
 rfl
def yt:entryFor table "set_iterator.__iter__"=some Builtin.«dict_keyiterator.__iter__»:=
 entryFor_alias (id':="dict_keyiterator.__iter__") (by kernel_rfl) (by rfl) (by decide+kernel) (by kernel_rfl)
def n9:Slot "set" "__iter__" "set.__iter__":=
 .of (owner:="set") (n:="__iter__") (by rfl) (by rfl) (by rfl) (by rfl)
  (by first|exact .inl (by rfl)|exact .inr (by decide+kernel)) (by rfl)
def yM(a):argsOk "set.__iter__" ⟨[a],[]⟩:=by
 rfl
def vQ:entryFor table "set.__iter__"=some Builtin.«frozenset.__iter__»:=
 entryFor_alias (id':="frozenset.__iter__") (by kernel_rfl) (by rfl) (by decide+kernel) (by kernel_rfl)
end F
noncomputable def PX(first:yai)(i:Nat)(a:Addr)(n ep:Nat):Obj:={cls:=.type "set_iterator",data:=.fields #[first,rawInt i,.ref a,rawInt n,rawInt ep]}
def iY(h:Heap)(I:Addr)(first:yai)(i:Nat)(a:Addr)(n ep:Nat):Prop:=∃o,h.get? I=some o/\o.cls=.type "set_iterator"/\o.data=.fields #[first,rawInt i,.ref a,rawInt n,rawInt ep]
def xh(h:Heap)(a:Addr)(es:Array (Int×yai))(ep:Nat)(t:SetTable):Prop:=∃o,h.get? a=some o/\o.cls=.type "set"/\o.data=.set es ep t
def iY.at(x:iY h I d i a n ep)(e:∀o,h.get? I=some o->h'.get? I=some o):iY h' I d i a n ep:=by let⟨o,j,r⟩:=x;refine⟨o,e _ j,r⟩
def xh.at(x:xh h a es ep t)(e:∀o,h.get? a=some o->h'.get? a=some o):xh h' a es ep t:=by let⟨o,j,r⟩:=x;refine⟨o,e _ j,r⟩
def iY.typeIs(x:iY s.heap I d i a n ep):s.TypeIs (.ref I) "set_iterator":=by let⟨o,h,j,_⟩:=x;refine⟨o,h,j⟩
def xh.typeIs(x:xh s.heap a es ep t):s.TypeIs (.ref a) "set":=by let⟨o,h,j,_⟩:=x;refine⟨o,h,j⟩
def yN(a:n≠0)(h:∀i d,i<n->e i {s with drawn:=d}):yar (model prog w) A (choose src n) e E s:=by
 intro l p j;exact⟨a,h _ _ (Nat.mod_lt _ (Nat.pos_of_ne_zero a))⟩
theorem jq{α:Type}:∀{l:List α}{i:Nat}(h),(l[i]::l.eraseIdx i).Perm l
 |x::r,0,h=>.refl _
 |x::r,i+1,h=>by
  exact(List.Perm.swap ..).trans ((jq (Nat.lt_of_succ_lt_succ h)).cons x)
theorem wB{α:Type}:∀(n)(a){s:yah}{Q:List α->yah->Prop},a.length=n->(∀j d,j.Perm a->Q j {s with drawn:=d})->yar (model prog w) A (drawOrder n a) Q E s
 |0,a,s,Q,hl,h=>by
  obtain rfl:a=[]:=zab hl;exact yab (h [] s.drawn .nil)
 |n+1,[],s,Q,hl,h=>by cases hl
 |n+1,x::r,s,Q,hl,h=>by
  refine yaa (yN (by simp) λi d l=>?_);rw[zal l];refine yaa (wB n _ ?_ λj o m=>?_)
  ·rw[List.length_eraseIdx,yIp l,hl];rfl
  ·refine yab (h _ o ((m.cons _).trans ?_));exact jq l
theorem zP{α:Type}(next):∀(n k)(left:List α)(out),left.length=n->(pickOrder.go next n k left out).toList.Perm (out.toList++left)
 |0,k,left,out,h=>by
  obtain rfl:left=[]:=zab h;unfold pickOrder.go;simp
 |n+1,k,left,out,h=>by
  unfold pickOrder.go;have a:next k % left.length<left.length:=Nat.mod_lt _ (by lia)
  rw[zal a];refine(zP next n (k+1) _ _ ?_).trans ?_
  ·rw[List.length_eraseIdx,yIp a,h];rfl
  ·rw[zbw,zbn];exact(jq a).append_left _
def rM{α:Type}(next)(a:Array α):(pickOrder next a).toList.Perm a.toList:=by
 unfold pickOrder;have:=zP next a.size 0 a.toList #[] zaR
 simp_all
end M5
namespace M5
open PySem PySem.Spec PyProof.Rows
def next_item{sl nx:Nat}(h:iY s.heap I (rawInt sl) i a n ep)(L:xh s.heap a es ep t)(C:t.fits es.size=true)(S:es.size=n)(y:∀{A':yal}{v:Option (yai×Nat)->yah->Prop}{P:yai->yah->Prop},v (some (d,nx)) s->yar (model prog w) A' (setNext a sl i ep) v P s)(O:∀h',iY h' I (rawInt nx) (i+1) a n ep->Heap.SameBut I s.heap h'->e (some d) {s with heap:=h'}):yar (model prog w) A (pyNext (.ref I)) e E s:=by
 let⟨o,q,H,hd⟩:=id h;let⟨os,m,G,u⟩:=id L;refine yaa (wpAny_attempt (wpAny_callSpecial?_slot h.typeIs F.slot_next (wpAny_call_entry F.slot_next h.typeIs F.entry_next ?_ (F.args_next _))));refine yaa (wpAny_of_eq rfl ?_);refine yaa (wpAny_fieldsOf q hd ?_);refine yaa (wpAny_setEntries_of m u C ?_);rw[yIn (by simp_all)];refine yaa (y ?_);refine yaa (wpAny_setField q hd (by simp) ?_);have l:=zaB (Obj.mapFields (·.setIfInBounds 0 (rawInt nx))) q (Obj.isFreed_of_fields (Obj.data_mapFields hd _));have j:=Obj.data_mapFields hd (·.setIfInBounds 0 (rawInt nx));refine yaa (wpAny_setField l j (by simp) ?_);refine yab ⟨d,rfl,yab (O _ ?_ ((Heap.SameBut.update ..).trans (Heap.SameBut.update ..)))⟩;refine⟨_,zaB _ l (Obj.isFreed_of_fields (Obj.data_mapFields j _)),(Obj.cls_mapFields ..).trans ((Obj.cls_mapFields ..).trans H),by
  rw[Obj.data_mapFields j];rfl⟩
def next_end{sl:Nat}(q:A.handled=none)(h:iY s.heap I (rawInt sl) i a n ep)(G:xh s.heap a es ep t)(x:t.fits es.size=true)(P:es.size=n)(v:∀{A':yal}{u:Option (yai×Nat)->yah->Prop}{L:yai->yah->Prop},u none s->yar (model prog w) A' (setNext a sl i ep) u L s)(H:∀h',Heap.ExtBut I s.heap h'->d none {s with heap:=h'}):yar (model prog w) A (pyNext (.ref I)) d E s:=by
 let⟨o,m,S,hd⟩:=id h;let⟨os,j,y,l⟩:=id G;refine yaa (wpAny_attempt (wpAny_callSpecial?_slot h.typeIs F.slot_next (wpAny_call_entry F.slot_next h.typeIs F.entry_next ?_ (F.args_next _))));refine yaa (wpAny_of_eq rfl ?_);refine yaa (wpAny_fieldsOf m hd ?_);refine yaa (wpAny_setEntries_of j l x ?_);rw[yIn (by simp_all)];refine yaa (v ?_);refine yaa (wpAny_setField m hd (by simp) ?_);refine yaa ?_;refine yaa (yae ?_ (by size_fits));refine yaa (wpAny_of_eq (by rfl) ?_);refine yae ?_ (by size_fits);simp only[raiseNew];refine yaa (wpAny_handled ?_)
 first|rw[show A.in1.handled=none from q]|rw[q]
 refine yaa (yab (wpAny_throw ?_));refine yaa (wpAny_isInstance ⟨_,zaS _ rfl,rfl⟩ isSubtype_stop ?_);refine yab (H _ (Heap.ExtBut.push (Heap.ExtBut.push ?_ _) _));exact λb O C e=>(zat _ _ (Ne.symm C)).trans e
def x9{pl:Nat}(h:iY s.heap I (.ref T) i a n ep)(S:xh s.heap a es ep t)(v:t.fits es.size=true)(X:es.size=n)(P:s.heap.IsTuple T d)(C:d[i]? =some (.int pl tk))(G:es[pl]? =some (e,g))(U:∀h',iY h' I (.ref T) (i+1) a n ep->Heap.SameBut I s.heap h'->k (some g) {s with heap:=h'}):yar (model prog w) A (pyNext (.ref I)) k E s:=by
 obtain⟨o,q,O,hd⟩:=id h;obtain⟨os,j,L,l⟩:=id S;obtain⟨W,m,H,nt,u⟩:=id P;refine yaa (wpAny_attempt (wpAny_callSpecial?_slot h.typeIs F.slot_next (wpAny_call_entry F.slot_next h.typeIs F.entry_next ?_ (F.args_next _))));refine yaa (wpAny_of_eq rfl ?_);refine yaa (wpAny_fieldsOf q hd ?_);refine yaa (wpAny_setEntries_of j l v ?_);rw[yIn (by simp_all)];refine yaa (wpAny_seqItems m u ?_);dsimp only;rw[zbu,C];refine yaa ?_;refine yaa (wpAny_setState_of j l v ?_);dsimp only;rw[yIn (by simp),zbu,G];refine yab ?_;refine yaa (wpAny_setField q hd (by simp) ?_);refine yab ⟨g,rfl,yab (U _ ?_ (Heap.SameBut.update ..))⟩;exact⟨_,zaB _ q (Obj.isFreed_of_fields (Obj.data_mapFields hd _)),(Obj.cls_mapFields ..).trans O,by
  rw[Obj.data_mapFields hd];rfl⟩
def BL(x:A.handled=none)(h:iY s.heap I (.ref T) i a n ep)(P:xh s.heap a es ep t)(G:t.fits es.size=true)(X:es.size=n)(O:s.heap.IsTuple T d)(C:d[i]? =none)(S:∀h',Heap.ExtBut I s.heap h'->g none {s with heap:=h'}):yar (model prog w) A (pyNext (.ref I)) g E s:=by
 let⟨o,q,Y,hd⟩:=id h;let⟨os,l,L,v⟩:=id P;let⟨U,j,H,nt,u⟩:=id O;refine yaa (wpAny_attempt (wpAny_callSpecial?_slot h.typeIs F.slot_next (wpAny_call_entry F.slot_next h.typeIs F.entry_next ?_ (F.args_next _))));refine yaa (wpAny_of_eq rfl ?_);refine yaa (wpAny_fieldsOf q hd ?_);refine yaa (wpAny_setEntries_of l v G ?_);rw[yIn (by simp_all)];refine yaa (wpAny_seqItems j u ?_);dsimp only;rw[zbu,C];refine yaa (wpAny_setField q hd (by simp) ?_);have m:=zaB (Obj.mapFields (·.setIfInBounds 0 (rawInt 0))) q (Obj.isFreed_of_fields (Obj.data_mapFields hd _));refine yaa (wpAny_setField m (Obj.data_mapFields hd _) (by simp) ?_);refine yaa ?_;refine yaa (yae ?_ (by size_fits));refine yaa (wpAny_of_eq (by rfl) ?_);refine yae ?_ (by size_fits);simp only[raiseNew];refine yaa (wpAny_handled ?_)
 first|rw[show A.in1.handled=none from x]|rw[x]
 refine yaa (yab (wpAny_throw ?_));refine yaa (wpAny_isInstance ⟨_,zaS _ rfl,rfl⟩ isSubtype_stop ?_);refine yab (S _ (Heap.ExtBut.push (Heap.ExtBut.push ?_ _) _));exact λb W y e=>(zat _ _ (Ne.symm y)).trans ((zat _ _ (Ne.symm y)).trans e)
def Ae(j:iY s.heap I d i a n ep)(h:Q (.ref I) s):yar (model prog w) A (pyIter (.ref I)) Q E s:=by
 refine wpAny_pyIter_slot j.typeIs F.q9 (wpAny_call_entry F.q9 j.typeIs F.yt ?_ (F.Cm _));exact yab ⟨_,rfl,"set_iterator",_,j.typeIs,F.slot_next.lookup,h⟩
def CL{j:List yai}{sl:Nat->Nat}(X:A.handled=none)(C:a≠I)(S:t.fits es.size=true)(O:j.length=es.size)(U:∀i x,j[i]? =some x->∀{A':yal}{l:yah}{u:Option (yai×Nat)->yah->Prop}{L:yai->yah->Prop},xh l.heap a es ep t->u (some (x,sl (i+1))) l->yar (model prog w) A' (setNext a (sl i) i ep) u L l)(Y:∀{A':yal}{l:yah}{u:Option (yai×Nat)->yah->Prop}{L:yai->yah->Prop},xh l.heap a es ep t->u none l->yar (model prog w) A' (setNext a (sl j.length) j.length ep) u L l):
  Walks prog w A I [I,a] [I] j.length (λi v=>j[i]? =some v) (λi h=>iY h I (rawInt (sl i)) i a es.size ep/\xh h a es ep t) where
 sub:=λb y=>by simp_all
 frame:=λ_ _ _ x P=>⟨x.1.at λo e=>P I (by simp) o e,x.2.at λo e=>P a (by simp) o e⟩
 item:=λi s Q E W x q=>by
  have hx  :=zal W;refine next_item x.1 x.2 S rfl (U i _ hx x.2) λG n m=>?_;exact q _ G s.toks hx ⟨n,x.2.at λo e=>(m.2 a C).trans e⟩ λb o y H=>m.extBut b o (λz=>y (by simp[z])) H
 done:=λs Q E x q=>next_end X x.1 x.2 S rfl (Y x.2) λG F=>q G s.toks λb o y H=>F b o (λz=>y (by simp[z])) H
 self:=λ_ _ _ _ x q=>Ae x.1 q
def Mh{ps:List Nat}{j:List yai}(U:A.handled=none)(C:a≠I)(W:T≠I)(O:t.fits es.size=true)(S:j.length=ps.length)(P:∀i (h)(h2:i<j.length),∃k,es[ps[i]]? =some (k,j[i])):
  Walks prog w A I [I,a,T] [I] j.length (λi v=>j[i]? =some v) (λi h=>iY h I (.ref T) i a es.size ep/\xh h a es ep t/\h.IsTuple T (ps.map λ(i:Nat)=>rawInt i).toArray) where
 sub:=λb y=>by grind
 frame:=λ_ _ _ x m=>⟨x.1.at λo e=>m I (by simp) o e,x.2.1.at λo e=>m a (by simp) o e,x.2.2.at λo e=>m T (by simp) o e⟩
 item:=λi s Q E L x u=>by
  have hx  :=zal L;have q:i<ps.length:=by lia
  let⟨k,m⟩:=P i q L;refine x9 (tk:=0) x.1 x.2.1 O rfl x.2.2 (by simp[q,rawInt]) m λG n l=>?_;exact u _ G s.toks hx ⟨n,x.2.1.at λo e=>(l.2 a C).trans e,x.2.2.at λo e=>(l.2 T W).trans e⟩ λb o y H=>l.extBut b o (λz=>y (by simp[z])) H
 done:=λs Q E x u=>BL U x.1 x.2.1 O rfl x.2.2 (by simp[S]) λG F=>u G s.toks λb o y H=>F b o (λz=>y (by simp[z])) H
 self:=λ_ _ _ _ x u=>Ae x.1 u
def fL(h:d (w.params.followText "set-order") s):yar (model prog w) A setsByText d E s:=by
 exact yaa (wpAny_askSetting (yab h))
def Lz(m:w.params.followText "set-order"=true)(n:xh s.heap a es ep t)(l:t.fits es.size=true)(h:d (((pickOrder (w.params.setOrder a ep) es)[i]?).map λe=>(e.2,0)) s):yar (model prog w) A (setNext a 0 i ep) d E s:=by
 let⟨o,j,q,hd⟩:=n;refine yaa (wpAny_setState_of j hd l ?_);refine yaa (fL ?_);rw[yIp m];rw[yIn (by simp)];refine yaa ?_;refine yaa (wpAny_setState_of j hd l ?_);refine yaa (fL ?_);rw[yIp m];refine yaa (wpAny_askSetting (yab ?_));exact yab h
def LX(vs:List yai)(S:List Str):Prop:=(∀v∈vs,∃x t,v=.str x t)/\(vs.map strOf).Perm S
def CU(a:ElemsOf (PySem.strKind prog w) es.toList)(m:(es.toList.map λe=>strOf e.2).Perm g)(h:d.Perm (es.toList.map (·.2))):LX d g:=by
 refine⟨λv j=>?_,(h.map _).trans (by rw[zcF];exact m)⟩;let⟨e,o,rfl⟩:=zcE.mp (h.mem_iff.mp j);let⟨⟨k,n,_⟩,_⟩:=a e o;let⟨t,z⟩:=Value.isStrOf_shape n;refine⟨k,t,z⟩
def pull{α:Type}(es:Array α)(ps:List Nat)(h:ps.Perm (zcV es.size)):∃l:List α,l.length=ps.length/\l.Perm es.toList/\∀i (h)(h2:i<l.length),es[ps[i]]? =some l[i]:=by
 have all:∀p∈ps,p<es.size:=λp j=>zci.mp (h.mem_iff.mp j);have key:∀a:List Nat,(∀p∈a,p<es.size)->∃l:List α,l.length=a.length/\l=a.filterMap (λi=>es[i]?)/\∀i h (h2:i<l.length),es[a[i]]? =some l[i]:=by
  intro a
  induction a with
  |nil=>exact λ_=>⟨[],rfl,rfl,λi h=>by simp at h⟩
  |cons q r ih=>
   intro s;let⟨l,n,o,m⟩:=ih λp j=>s p (zaC _ j);have t:=s q zaV;refine⟨es[q]::l,by simp[n],by simp_all,λi h h2=>?_⟩;cases i with
   |zero=>simp
   |succ i=>exact m i (by simp_all) (by simpa using h2)
 let⟨l,n,o,m⟩:=key ps all;refine⟨l,n,?_,m⟩;rw[o,<-filterMap_getElem?_range es];exact h.filterMap _
end M5
namespace M7
open PySem PySem.Spec PyProof.Rows M5
def qe(a:Array Nat):Prop:=∀i j,i<j->(h:j<a.size)->(l:i<a.size)->a[i]<a[j]
theorem pX{m:Array Nat}(n:qe m)(j):∀(f l a),a - l<=f->l<=a->a<=m.size->(∀i (h),i<l->m[i]<j)->(∀i (h),a<=i->j<=m[i])->
  SetTable.below.go m j f l a<=m.size/\(∀i (h),i<SetTable.below.go m j f l a->m[i]<j)/\∀i (h),SetTable.below.go m j f l a<=i->j<=m[i]
 |0,l,a,h1,h2,h3,h4,h5=>by
  have:a=l:=by lia
  subst this;refine⟨h3,h4,h5⟩
 |f+1,l,a,h1,h2,h3,h4,h5=>by
  rw[SetTable.below.go.eq_2];by_cases t:l<a
  ·rw[yIp t];dsimp only;have s:(l+a) / 2<m.size:=by lia
   have u:m.getD ((l+a) / 2) j=m[(l+a) / 2]:=by simp_all
   rw[u];by_cases q:m[(l+a) / 2]<j
   ·rw[yIp q];refine pX n j f _ a (by lia) (by lia) h3 (λi h o=>?_) h5;obtain z|z:=zcL i ((l+a) / 2)
    ·have:=n i _ z s h;lia
    ·obtain rfl:i=(l+a) / 2:=by lia
     exact q
   ·rw[yIn q];refine pX n j f l _ (by lia) (by lia) (by lia) h4 (λi h o=>?_);obtain z|z:=zcL ((l+a) / 2) i
    ·have:=n _ i z h s;lia
    ·obtain rfl:i=(l+a) / 2:=by lia
     lia
  ·rw[yIn t];have:a=l:=by lia
   subst this;refine⟨h3,h4,h5⟩
def ki(l:qe d)(j):SetTable.below d j<=d.size/\(∀i (h),i<SetTable.below d j->d[i]<j)/\∀i (h),SetTable.below d j<=i->j<=d[i]:=
 pX l j d.size 0 d.size (by lia) (zcS _) (zcR _) (λi h z=>absurd z (zcd _)) (λi h z=>by lia)
def yK(h:qe d)(l):SetTable.below d (d[i]+1)=i+1:=by
 let⟨h1,h2,m⟩:=ki h (d[i]+1);have n:i<SetTable.below d (d[i]+1):=by
  obtain z|z:=zcL i (SetTable.below d (d[i]+1))
  ·exact z
  ·have:=m i l z;lia
 obtain z|z:=zcL (i+1) (SetTable.below d (d[i]+1))
 ·have j:i+1<d.size:=by lia
  have:=h2 (i+1) j z;have:=h i (i+1) (by lia) j l;lia
 ·lia
def yJ(h:qe d):SetTable.below d 0=0:=by
 let⟨h1,h2,j⟩:=ki h 0;obtain z|z:=Nat.eq_zero_or_pos (SetTable.below d 0)
 ·exact z
 ·have:=h2 0 (by lia) z;lia
def Ly(v:w.params.followText "set-order"=false)(n:xh s.heap a es ep t)(m:t.fits es.size=true)(h1:(!t.plain&&decide (es.size> 1))=false)(q:t.led=true)(h:e (match es[SetTable.below t.place d]?,t.place[SetTable.below t.place d]? with|some (_,x),some j=>some (x,j+1)|_,_=>none) s):yar (model prog w) A (setNext a d i ep) e E s:=by
 let⟨o,l,u,hd⟩:=n;refine yaa (wpAny_setState_of l hd m ?_);refine yaa (fL ?_);rw[yIn (by simp_all)];rw[yIn (by
  show¬((!t.plain&&decide (es.size> 1))=true);rw[h1];decide)]
 refine yaa ?_;show yar _ _ (if(!t.led&& !es.isEmpty)=true then unsupported "set:maker-not-led" else pure ()) _ _ _;rw[yIn (by simp_all)];refine yab (yab ?_);exact h
def wL(w:yak)(h:Heap)(a:Addr)(es:Array (Int×yai))(ep:Nat)(t:SetTable):Prop:=
 ∃o,h.get? a=some o/\o.ExactSet/\o.data=.set es ep t/\t.fits es.size=true/\t.led=(!w.params.followText "set-order")/\(t.plain=true->qe t.place)
def wL.keep(x:wL d h a es ep t)(e:∀o,h.get? a=some o->h'.get? a=some o):wL d h' a es ep t:=
 by let⟨o,j,r⟩:=x;refine⟨o,e o j,r⟩
theorem Fi(hS:wL w s.heap a es ep t)(hn:es.size<4000)(h:∀(I:Addr)(H:List yai)(fp)(St)(h') d,(∀b o,s.heap.get? b=some o->h'.get? b=some o)->s.heap.objs.size<=I->(∀b∈fp,b=a∨s.heap.objs.size<=b)->(∀{A':yal},A'.handled=none->Walks prog w A' I fp [I] H.length (λi v=>H[i]? =some v) St)->St 0 h'->H.Perm (es.toList.map (·.2))->Q (.ref I) {s with heap:=h',drawn:=d}):
  yar (model prog w) A (pyIter (.ref a)) Q E s:=by
 let⟨o,C,G,hd,n,y,hpl⟩:=hS;have sa:xh s.heap a es ep t:=⟨o,C,G.1,hd⟩
 have la  :=zcP C;refine wpAny_pyIter_slot sa.typeIs M5.F.n9 (wpAny_call_entry M5.F.n9 sa.typeIs M5.F.vQ ?_ (M5.F.yM _));refine yaa (wpAny_of_eq rfl ?_);refine yaa (yaa (wpAny_setEntries_of C hd n (yab ?_)));refine yaa ?_;refine yaa (wpAny_setState_of C hd n ?_);refine yaa (fL ?_);refine yab ?_;cases Y:w.params.followText "set-order" with
 |true=>
  refine yaa (yab ?_);refine yaa (wpAny_setEpoch_of C hd n ?_);refine yaa (yae ?_);have P:=zas (PX (rawInt 0) 0 a es.size ep) C;have S:iY (s.heap.push (PX (rawInt 0) 0 a es.size ep)) s.heap.objs.size (rawInt 0) 0 a es.size ep:=⟨_,zaS _ rfl,rfl,rfl⟩
  refine yab ⟨_,rfl,"set_iterator",_,⟨_,zaS _ rfl,rfl⟩,M5.F.slot_next.lookup,?_⟩;have U:=rM (w.params.setOrder a ep) es;refine h s.heap.objs.size ((pickOrder (w.params.setOrder a ep) es).toList.map (·.2)) [s.heap.objs.size,a] _ _ s.drawn (λb o e=>zas _ e) (zcR _) (λb z=>?_)
   (λ{A'} X=>CL (sl:=λ_=>0) X (zcG la) n (by rw[zbV,U.length_eq,zaR]) ?_ ?_) ⟨S,_,P,G.1,hd⟩ (U.map _)
  ·grind
  ·intro i x u A' s' Q' E' m q;refine Lz Y m n ?_;rw[zbl,zaA] at u;cases hy:(pickOrder (w.params.setOrder a ep) es)[i]? with
   |none=>rw[hy] at u;cases u
   |some e=>rw[hy] at u;injection u with u;subst u;exact q
  ·intro A' s' Q' E' m q;refine Lz Y m n ?_;rw[zaq (by simp)];exact q
 |false=>
  rw[Y] at y;have O  :=by
   simp only[SetTable.fits,zbR,beq_iff_eq] at n;exact n.1
  by_cases hz:(!t.plain&&decide (es.size> 1))=false
  ·have hR  :=by
    cases W:t.plain with
    |true=>exact hpl W
    |false=>
     rw[W] at hz;have hz:=of_decide_eq_false hz;intro i j hij hj _;lia
   rw[yIn (by
    show¬((!false&&(!t.plain&&decide (es.size> 1)))=true);rw[hz];decide)]
   refine yaa (yab ?_);refine yaa (wpAny_setEpoch_of C hd n ?_);refine yaa (yae ?_);have P:=zas (PX (rawInt 0) 0 a es.size ep) C;have S:iY (s.heap.push (PX (rawInt 0) 0 a es.size ep)) s.heap.objs.size (rawInt 0) 0 a es.size ep:=⟨_,zaS _ rfl,rfl,rfl⟩
   refine yab ⟨_,rfl,"set_iterator",_,⟨_,zaS _ rfl,rfl⟩,M5.F.slot_next.lookup,?_⟩;have LO:∀i,i<=es.size->SetTable.below t.place (if i=0 then 0 else t.place.getD (i - 1) 0+1)=i:=λi hi=>by
    by_cases h0:i=0
    ·subst h0;exact yJ hR
    ·rw[yIn h0];have h1:i - 1<t.place.size:=by lia
     have Z:t.place.getD (i - 1) 0=t.place[i - 1]:=by simp[h1]
     rw[Z,yK hR h1];lia
   refine h s.heap.objs.size (es.toList.map (·.2)) [s.heap.objs.size,a] _ _ s.drawn (λb o e=>zas _ e) (zcR _) (λb z=>?_)
    (λ{A'} X=>CL (sl:=λi=>if i=0 then 0 else t.place.getD (i - 1) 0+1) X (zcG la) n (by simp) ?_ ?_) ⟨S,_,P,G.1,hd⟩ (.refl _)
   ·grind
   ·intro i x u A' s' Q' E' m q;have hi:i<es.size:=by
     have:=(zaf.mp u).1;simp_all
    refine Ly Y m n hz y ?_;rw[zbl,zaA,zaj hi] at u;injection u with u;subst u;rw[LO i (by lia),zaj hi,zaj (by lia:i<t.place.size)];have Z:(if i+1=0 then 0 else t.place.getD (i+1 - 1) 0+1)=t.place[i]'(by lia)+1:=by
     simp_all
    rw[Z] at q;exact q
   ·intro A' s' Q' E' m q;refine Ly Y m n hz y ?_;rw[zbV,zaR];have en:es[SetTable.below t.place (if es.size=0 then 0 else t.place.getD (es.size - 1) 0+1)]? =none:=by
     rw[LO es.size (zcR _)];simp
    rw[en];exact q
  ·have hz:(!t.plain&&decide (es.size> 1))=true:=by lia
   rw[yIp (by
    show(!false&&(!t.plain&&decide (es.size> 1)))=true;rw[hz];rfl)]
   refine yaa (wB _ _ (by simp) λps d O=>?_);let⟨l,Z,e2,e3⟩:=pull es ps O;refine yaa ?_;refine yae ?_ (by
    have:ps.length=es.size:=by rw[O.length_eq,zbo]
    show(ps.map λ(i:Nat)=>rawInt i).toArray.size<=yag;rw[zbj,zbV,yaf];lia)
   refine yaa (wpAny_setEpoch_of (zas _ C) hd n ?_);refine yaa (yae ?_);generalize L:({cls:=.type "tuple",data:=.seq (ps.map λ(i:Nat)=>rawInt i).toArray}:Obj)=to;have hT1:(s.heap.push to).get? s.heap.objs.size=some to:=zaS _ (by rw[<-L];rfl);have z1:(s.heap.push to).objs.size=s.heap.objs.size+1:=zcp ..;have gI:((s.heap.push to).push (PX (.ref s.heap.objs.size) 0 a es.size ep)).get? (s.heap.push to).objs.size=some (PX (.ref s.heap.objs.size) 0 a es.size ep):=zaS _ rfl;refine yab ⟨_,rfl,"set_iterator",_,⟨_,gI,rfl⟩,M5.F.slot_next.lookup,?_⟩;refine h (s.heap.push to).objs.size (l.map (·.2)) [(s.heap.push to).objs.size,a,s.heap.objs.size] _ _ d (λb o e=>zas _ (zas _ e)) (by simp) (λb z=>?_)
    (λ{A'} X=>Mh (ps:=ps) X (by rw[z1];exact zcG (zbs la)) (by simp) n (by simp_all) (λi h1 h2=>?_)) ⟨⟨_,gI,rfl,rfl⟩,⟨_,zas _ (zas _ C),G.1,hd⟩,⟨_,zas _ hT1,by rw[<-L],0,by rw[<-L]⟩⟩ (e2.map _)
   ·grind
   ·have h3:i<l.length:=by simp_all
    refine⟨l[i].1,?_⟩;rw[e3 i h1 h3,List.getElem_map]
def B4(j:s.TypeIs (.ref a) "set")(h:d false s):yar (model prog w) A (Builtin.List.listLengthHint (.ref a)) d E s:=by
 refine yaa (wpAny_specialOf j PySem.F.slot_set_len.lookup ?_);refine yaa (wpAny_isInstance j sub_set_self ?_);refine yaa (wpAny_typeOf j ?_);exact yab h
def yq(hh:A.handled=none)(Z:wL w s.heap a es ep t)(hn:es.size<4000)(Q:s.heap.get? L=some {cls:=.type "list",data:=.seq #[]})(x:L≠a)(hR:∀j (h:List yai) q,(∀b o,b≠L->s.heap.get? b=some o->j.heap.get? b=some o)->j.gens=s.gens->j.os=s.os->j.heap.get? L=some {cls:=.type "list",dict:=none,data:=.seq h.toArray q,slots:=#[]}->h.Perm (es.toList.map (·.2))->R (.ok (.ret (.ref L))) j):
  yar (model prog w) A.in1 (Builtin.List.listExtendWith (.ref L) (.ref a) (.ref L))
   (λS j=>match S with|.done f=>R (.ok f) j|.again q=>q.quiet=true/\codeAny (model prog w) A q R j) (λe j=>R (.error e) j) s:=by
 have X:s.TypeIs (.ref a) "set":=by let⟨o,G,P,_⟩:=Z;refine⟨o,G,P.1⟩
 refine yaa (wpAny_typeOf X ?_);have h1:Builtin.List.listSameRef (.ref L) (.ref a)=false:=by simp[Builtin.List.listSameRef,x]
 simp only[h1];refine yaa (Fi Z hn λI h fp St y d kp hI O W E U=>?_);have ll  :=zcP Q;have hLf  :=λz=>(O L z).elim x λz=>absurd ll (Nat.not_lt.mpr z);have C:Shared.TypeIs {s with heap:=y,drawn:=d} (.ref a) "set":=by let⟨o,G,hc⟩:=X;refine⟨o,kp _ _ G,hc⟩
 refine yaa (yad (B4 C ?_));refine yaa (wpAny_rule ?_);refine yaa ?_;refine yaa (wpAny_updateSeq (kp _ _ Q) rfl ?_);have g2:=zaB (Obj.mapSeq (·.push Value.none)) (kp _ _ Q) rfl;refine wpAny_updateSeq g2 rfl ?_;have g3:=zaB (Obj.mapSeq (·.pop)) g2 rfl;have u:∀b o,b≠L->y.get? b=some o->((y.update L (Obj.mapSeq (·.push Value.none))).update L (Obj.mapSeq (·.pop))).get? b=some o:=
  λb o n e=>(zat _ _ (Ne.symm n)).trans ((zat _ _ (Ne.symm n)).trans e)
 have Y:h.length=es.size:=by rw[U.length_eq,zbV,zaR]
 have WS:=(W (A':=A.in1) hh).toS;refine yab ⟨plainId_quiet PySem.F.plain_extend_loop _,codeAny_extend_loopS WS (by rw[yaf];lia) _ hLf _ h.length 0 _ _ _ rfl (zcS _) (WS.frame 0 {s with heap:=y,drawn:=d} _ s.toks E (zcR _) λb n o e=>u b o (λz=>hLf (z▸n)) e) g3 (ItemsOf.nil _) λj m q H v l=>?_⟩;have ea:m=h.toArray:=by
  refine Array.ext (by rw[l.1,zbj]) λi h1 h2=>?_;have z  :=l.2 i m[i] (zaj h1);have h2  :=by simpa using h2
  simp_all
 rw[ea] at v;refine hR j h q (λb o n e=>?_) H.gens H.os v U;refine H.heap b o ?_ (u b o n (kp b o e));simp only[zcq,zbH,or_false];rintro(z|z)
 ·exact n z
 ·have:=zcP e;rw[z] at this;exact absurd this (Nat.not_lt.mpr hI)
def qS(x:A.handled=none)(m:wL w s.heap a es ep t)(v:es.size<4000)(y:∀j (h:List yai) l,(∀b o,s.heap.get? b=some o->j.heap.get? b=some o)->j.gens=s.gens->j.os=s.os->j.heap.get? s.heap.objs.size=some {cls:=.type "list",dict:=none,data:=.seq h.toArray l,slots:=#[]}->h.Perm (es.toList.map (·.2))->R (.ok (.ret (.ref s.heap.objs.size))) j):
  codeAny (model prog w) A (.builtin "proto.collect" ⟨[.ref a],[]⟩) R s:=by
 have q:a<s.heap.objs.size:=by let⟨o,u,_⟩:=m;exact zcP u
 refine codeAny_builtin entry_proto_collect' ?_;refine yaa (wpAny_newList (yab ⟨Code.quiet_builtin _ (by decide+kernel),codeAny_builtin entry_list_iadd' ?_⟩));refine yq ?_ (m.keep λo e=>zas _ e) v (zaS _ rfl) (zcJ q) λj h l kp E C g n=>?_
 ·exact x
 ·exact y j h l (λb o e=>kp b o (zcG (zcP e)) (zas _ e)) E C g n
def iu(q:A.handled=none)(u:wL w s.heap a es ep t)(n:es.size<4000)(h:∀l (j),(∀b o,s.heap.get? b=some o->l.heap.get? b=some o)->l.gens=s.gens->l.os=s.os->s.heap.objs.size<=l.heap.objs.size->j.Perm (es.toList.map (·.2))->d j l):yar (model prog w) A (collect (.ref a)) d E s:=by
 refine yaa (wpAny_runValue (qS q u n λl j y kp x v g m=>?_));refine yaa (wpAny_load g ?_);exact yab (h l j kp x v (zcI (zcP g)) m)
end M7
namespace M5
open PySem PySem.Spec PyProof.Rows
def xg.raw(E:xg prog w s.heap a d):∃es ep t,M7.wL w s.heap a es ep t/\ElemsOf (PySem.strKind prog w) es.toList/\(es.toList.map λe=>strOf e.2).Perm d:=by
 let⟨o,x,es,ep,t,m,hd,n,v,l,h,q⟩:=E;refine⟨es,ep,t,⟨o,x,m,hd,l,h,λu=>?_⟩,n,v⟩;intro i j C y _;rw[(by simp only[SetTable.fits,zbR,beq_iff_eq] at l;exact l.1:t.place.size=es.size)] at y;simp_all
def vZ(x:A.handled=none)(y:xg prog w s.heap a d)(v:d.length<4000)(h:∀l (j),(∀b o,s.heap.get? b=some o->l.heap.get? b=some o)->l.gens=s.gens->l.os=s.os->s.heap.objs.size<=l.heap.objs.size->LX j d->e j l):yar (model prog w) A (collect (.ref a)) e E s:=by
 let⟨I,L,t,u,m,n⟩:=y.raw;exact M7.iu x u (by rw[<-zaR,<-zbV,n.length_eq];exact v) λl j H G F C q=>h l j H G F C (CU m n q)
def xB(C:A.handled=none)(G:xg prog w s.heap a d)(X:d.length<64)(h:∀(p:Addr) l (out)(ss) c,(∀b o,s.heap.get? b=some o->l.heap.get? b=some o)->l.gens=s.gens->l.os=s.os->s.heap.objs.size<=p->l.heap.get? p=some (seqObj "list" out.toArray c)->StrsAre out ss->ss.Perm d->sortedS ss=true->Q (.ref p) l):
  yar (model prog w) A (call (.builtin "sorted") [.ref a]) Q E s:=by
 refine zak kind_sorted plain_sorted entry_sorted (args_sorted1 _) ?_;refine yaa (yab ?_);refine yaa (vZ ?_ G (by lia) λt j kp I H le m=>?_)
 ·exact C
 refine yaa (wpAny_newList ?_ (by have:=m.2.length_eq;rw[zbV] at this;first|(rw[yaf];lia)|(rw[zbj,yaf];lia)));have Y:j.length=d.length:=by rw[<-m.2.length_eq,zbV]
 have hSA  :=strsAre_map j m.1;have u:(t.heap.push (seqObj "list" j.toArray 0)).get? t.heap.objs.size=some (seqObj "list" j.toArray 0):=zaS _ rfl;refine yaa (yad (wpAny_call_entry slot_list_sort ⟨_,u,rfl⟩ entry_list_sort (list_sort_treeK strKind_oneLt u hSA.keysOf (λx v rest e=>keyKind_strs (by rw[<-e];exact hSA)) (by lia) λn W U=>⟨_,rfl,?_⟩) (args_list_sort _)));obtain⟨q,P,O,L⟩:=sorted_out_str hSA W U;obtain⟨c,F⟩:=sortedHeap_at u;refine yab ⟨_,rfl,h t.heap.objs.size _ ((arrOf n).map (·.2)).toList q c (λb o e=>?_) I H le ?_ P (O.trans m.2) L⟩
 ·have y:=zcP (kp b o e);rw[sortedHeap_old (zcG y) (by rw[size_push'];exact zbs y)];exact zas _ (kp b o e)
 ·exact F
end M5
namespace L2
open PySem PySem.Spec PyProof.Rows
def Inv.mZ(I:Inv X pins σ H s)(d):Inv X pins σ H {s with drawn:=d}:=
 ⟨I.ok,I.os,I.bare,I.base,I.loc,I.cell,I.free,I.gG,I.pin,I.hok,I.len⟩
def KO(K:yaJ)(m:TE):TE:=λj H Q=>m j H λx a=>∃p h,x=.ref p/\dF K a p h/\∀l,a l=none->Q (.ref l) (upd a l (.lst h.reverse))
section
variable {e:Expr}{ta:TE}{p:Pos}
def nG(he:PE X e ta):PE X (.Subscript e (.Slice none none (some (.UnaryOp .USub (.Constant (.int 1) j d) pu)) p2) pos) (KO X.K ta):=by
 intro l s C H Q I h;refine Subscript_ (cB (he l s C H _ I h) λv Y n=>?_);let⟨x,S,I1,r1,a,U,ex,hq,q⟩:=n;subst ex;obtain rfl:v=Value.ref a:=r1;refine wpAny_Slice ?_;rw[evalPart_none];refine yab (yab ?_);rw[evalPart_some];have u:PE X (.UnaryOp .USub (.Constant (.int 1) j d) pu) (TR (rU λi=>.int (-i)) (tC (.int 1))):=zQ CN ao;refine cB (u l Y C S (λy L=>y=.int (-1)/\L=S) I1 ⟨1,rfl,rfl,rfl⟩) λvk m n=>?_;let⟨y,L,I2,Z,ey,eH⟩:=n;subst ey;subst eH;let⟨t,rfl⟩:=Z;have G:Inv X l C L {m with heap:=m.heap.push {cls:=.type "slice",data:=.fields #[.none,.none,.int (-1) t]}}:=I2.kept (t':=m.toks) λb ob q=>zas _ q;let⟨F,r,O,hz⟩:=G.list hq;have P:=r.length;show yar (model X.prog X.w) X.A (subscriptTail e (.Slice none none (some (.UnaryOp .USub (.Constant (.int 1) j d) pu)) p2) (.ref a) (.ref m.heap.objs.size)) (EP X l C Q) X.xe {m with heap:=m.heap.push {cls:=.type "slice",data:=.fields #[.none,.none,.int (-1) t]}};refine tail_any (ops:=[.ref a,.ref m.heap.objs.size]) O.isList.typeIs slot_list_getitem.lookup ?_ (by with_unfolding_all rfl);refine wpAny_getItem_list_slice O.isList (Heap.IsSliceOf.new ..) .none .none (.int (-1) t) (by decide) ?_ (by rw[zbj];lia);rw[PySem.W.krv_pick];refine⟨.ref _,_,G.laid (t':=m.toks) (o:=.lst U.reverse) (λb ob q=>zas _ q) (zcR _) ⟨by rw[zaM];exact hz,F.reverse,0,uI r,zaS _ rfl⟩,rfl,q _ (G.hok.fresh (zcR _))⟩
end
end L2
namespace M
open PySem PySem.Spec PyProof.Rows L2
def bZ(a:AE):AE:=λm S Q=>a m S λr l=>∃j:List Str,(aT l r.d=.tup (j.map D.str)∨aT l r.d=.lst (j.map D.str))/\j.length<64/\
 ∀h:List Str,h.Nodup->(∀y,y∈h↔y∈j)->sortedS h=true->Q (.new (.lst (h.map D.str))) l
def AY(a:AE):AE:=λj S Q=>a j S λr h=>∃ds,aT h r.d=.lst ds/\Q (.new (.lst ds.reverse)) h
def MG:∀l H Q,aX K (AY d) l H Q->KO K (aX K d) l H Q:=by
 intro l H Q k;let⟨w,o,S,C,ok,env,q,bk⟩:=k;refine⟨w,o,S,_,ok,env,q,.go λy v x t E m h j ⟨ds,z,u⟩=>?_⟩;let⟨d,s,rfl,h1,h2⟩:=bh h j z;refine⟨d,s,rfl,dF.of h1,λp n=>bk (.new (.lst ds.reverse)) v _ t _ m (h.alloc n) (h.fresh n ⟨_,rfl,vc h2⟩) u⟩
noncomputable def dR(a:List Key)(ds:List D)(k:Key):Option D:=((a.zip ds).find? λp=>decide (p.1=k)).map (·.2)
noncomputable def j9(a:List Key)(ds:List D)(k:Key)(d:D):MO:=if(a.any λj=>decide (j=k))=true then .dct a ((a.zip ds).map λp=>if p.1=k then d else p.2) else .dct (a++[k]) (ds++[d])
theorem iS{w:Wd}{k:Key}{d:D}:∀{a:List (Key×V)}{ds:List D},aD K w ds (a.map (·.2))->dR (a.map (·.1)) ds k=some d->∃v,fN a k=some v/\Rep K w d v
 |[],ds,h,e=>by simp[dR] at e
 |(j,u)::r,ds,h,e=>by
  cases ds with
  |nil=>simp[dR] at e
  |cons x ds=>
   let⟨n,o,m,h1,h2⟩:=h;injection m with e1 e2;subst e1;subst e2;unfold dR at e;unfold fN;by_cases l:j=k
   ·rw[zcs,zaX,List.find?_cons_of_pos (by simpa using l)] at e;rw[List.find?_cons_of_pos (by simpa using l)];cases e;refine⟨u,rfl,h1⟩
   ·rw[zcs,zaX,List.find?_cons_of_neg (by simpa using l)] at e;rw[List.find?_cons_of_neg (by simpa using l)];exact iS h2 e
theorem vf(g:Rep K e d F):∀{a:List (Key×V)}{ds:List D},aD K e ds (a.map (·.2))->
  aD K e (((a.map (·.1)).zip ds).map λp=>if p.1=k then d else p.2) ((a.map λm=>if m.1=k then(m.1,F) else m).map (·.2))
 |[],ds,h=>by
  cases ds with
  |nil=>exact .nil
  |cons x ds=>let⟨_,_,z,_⟩:=h;cases z
 |(j,u)::r,ds,h=>by
  cases ds with
  |nil=>cases h
  |cons x ds=>
   let⟨o,q,n,h1,h2⟩:=h;injection n with e1 e2;subst e1;subst e2;simp only[zcs,zaX];refine .cons ?_ (vf g h2);by_cases l:j=k
   ·rw[yIp l,yIp l];exact g
   ·rw[yIn l,yIn l];exact h1
def jM(g:Rep K q d v)(h:aD K q ds (r.map (·.2))):lP K q (j9 (r.map (·.1)) ds k d) (.dK (putK r k v)):=by
 unfold j9 putK;have e:((r.map (·.1)).any λj=>decide (j=k))=(r.any λl=>decide (l.1=k)):=by
  rw[zcC];rfl
 rw[e];by_cases m:(r.any λl=>decide (l.1=k))=true
 ·rw[yIp m,yIp m];refine⟨_,rfl,?_,vf g h⟩;rw[zcF];refine zaN λl _=>?_;lia
 ·rw[yIn m,yIn m];refine⟨_,rfl,by simp,?_⟩;rw[zca];exact h.snoc g
def pP(ok:Ok K d H S)(h:Rep K d (.loc g) v)(e:S[g]? =some (some (.dct k ds))):
  ∃a j,v=.ref a/\d.r g=some a/\H a=some (.dK j)/\j.map (·.1)=k/\aD K d ds (j.map (·.2)):=by
 let⟨a,h1,rfl⟩:=h;let⟨t,u,m,s,q,j,rfl,o,n⟩:=ok.live g _ e;rw[h1] at m;cases m;refine⟨a,j,rfl,h1,q,o,n⟩
def GC(a b:AE):AE:=λh S Q=>a h S λn o=>b h o λm l=>∃j ds k d,aT l n.d=.dct j ds/\m.d=.str k/\dR j ds (.inr k)=some d/\Q (.dat d) l
def MT{a b:AE}:∀o H Q,aX K (GC a b) o H Q->C1 (aX K a) (aX K b) o H Q:=by
 intro o H Q z;let⟨w,u,S,Qa,ok,env,q,bk⟩:=z;refine⟨w,u,S,_,ok,env,q,.go λZ P X E H1 n t j F=>?_⟩;refine⟨E,u,P,_,t,env.le n,F,.go λY S2 W U H2 m l h s=>?_⟩;let⟨ks,ds,k,d,C,y,x,q2⟩:=s;let⟨a,G,rfl,h1,rfl,I⟩:=dW l (j.le m) C;let⟨v,O,L⟩:=iS I x;rw[jI h y];refine⟨a,v,rfl,?_,bk.dat (n.trans m) l L q2⟩;rw[<-O];exact l9.k (k:=.inr k) h1
def GB(a b c:AE):AS:=λD h S=>c h S λm t=>a h t λq s=>b h s λo l=>∃n j ds k,q.d=.loc n/\o.d=.str k/\l[n]? =some (some (.dct j ds))/\ds.length<1000/\D.nx h (l.set n (some (j9 j ds (.inr k) m.d)))
def MR{a b c:AE}:∀D v H,jr K (GB a b c) D v H->DY (aX K a) (aX K b) (aX K c) D v H:=by
 intro D v H z;let⟨w,x,S,Da,ok,env,q,bk⟩:=z;refine⟨w,x,S,_,ok,env,q,.go λr3 S1 v3 W H1 l F o X=>?_⟩;refine⟨W,x,S1,_,F,env.le l,X,.go λr1 Z v1 U H2 j E m q2=>?_⟩;refine⟨U,x,Z,_,E,(env.le l).le j,q2,.go λr2 S3 v2 Q H3 h t s y=>?_⟩;let⟨n,ks,ds,k,P,O,I,hl,q3⟩:=y;rw[P] at m;let⟨a,G,rfl,Y,h1,rfl,L⟩:=pP t (m.le h) I;rw[jI s O];have u:G.length=ds.length:=by have:=L.length;rw[zbV] at this;exact this
 refine⟨a,_,rfl,CF.k (k:=.inr k) h1 (by rw[u,yaf];lia),?_⟩;have C:=t.put I Y (jM (k:=.inr k) (o.le (j.trans h)) L);exact bk.nx x _ v Q _ ((l.trans j).trans h) C (((env.le l).le j).le h) q3
def ko(a b c:AE):AS:=λD h S=>c h S λo u=>a h u λs t=>b h t λq m=>∃n l k j,s.d=.loc n/\q.d=.int k/\m[n]? =some (some (.lst l))/\BZ l.length k=some j/\D.nx h (m.set n (some (.lst (l.set j o.d))))
def ML:∀D v H,jr K (ko d e g) D v H->C5 (aX K g) (RC (aX K d) (aX K e) Lo) D v H:=by
 intro D v H z;let⟨w,x,S,Da,ok,env,q,bk⟩:=z;refine⟨w,x,S,_,ok,env,q,.go λr3 S1 v3 W H1 m F s X=>?_⟩;refine⟨W,x,S1,_,F,env.le m,X,.go λr1 S2 v1 U H2 l E o q2=>?_⟩;refine⟨U,x,S2,_,E,(env.le m).le l,q2,.go λr2 S3 v2 Q H3 h u t y=>?_⟩;let⟨n,es,k,j,O,L,G,Y,q3⟩:=y;rw[O] at o;let⟨d,P,rfl,Z,hH,I⟩:=pB u (o.le h) G;rw[bu t L];refine⟨d,P,k,j,rfl,rfl,hH,by rw[I.length];exact Y,?_⟩;have C:=u.put G Z (gb (I.set (s.le (l.trans h)) j));exact bk.nx x _ v Q _ ((m.trans l).trans h) C (((env.le m).le l).le h) q3
section
variable {e o i:Expr}{p pc pu:Pos}
theorem nG(a:GE X e ta):GE X (.Subscript e (.Slice none none (some (.UnaryOp .USub (.Constant (.int 1) j pc) pu)) p2) pos) (AY ta):=⟨mE (L2.nG a.p) MG⟩
theorem dY(a:X.A.units+1<cLine)(j:GE X o ta)(l:GE X i tb)(h:KG i):GE X (.Subscript o i pos) (GC ta tb):=⟨mE (L2.dY a j.p l.p h) MT⟩
theorem iO(j:X.A.units+1<cLine)(m:GE X o ta)(n:GE X i tb)(h:GE X value d)(l:yat value (some (.Subscript o i pos')) pos.line X.env=pure false):GS X (.Assign [.Subscript o i pos'] value pos) (GB ta tb d):=
 ⟨mS (L2.iO j m.p n.p h.p l) MR⟩
def gq(l:GE X o ta)(m:GE X i tb)(h:GE X value d)(n:∀v,assign (.Subscript o i pos') X.env v=(do
   let ov <-holding [v] (eval o X.env);let iv <-holding [v,ov] (eval i X.env)
   standAt pos'
   holding [v,ov,iv] (setItem ov iv v)
   release [v,ov,iv] []):=by intro _;rfl)(j:autoParam (swapsWithSole [.Subscript o i pos'] value pos.line X.env=pure false) r0)(hw:autoParam (swappedStores [.Subscript o i pos'] value X.env=pure none) r0)(h1:autoParam ((assignEach [.Subscript o i pos'] X.env).map (·.2)=[assign (.Subscript o i pos') X.env]) r0):GS X (.Assign [.Subscript o i pos'] value pos) (ko ta tb d):=
 ⟨mS (L2.oQ h.p (L2.NS l.p m.p set_list n) j hw h1) ML⟩
def Rc:Vo X (unaryOp .USub) (λx S Q=>∃i,x=.int i/\Q (.dat (.int (-i))) S):=⟨m1 CN λx H Q h=>by
 let⟨w,d,S,j,ok,a,⟨i,rfl,q⟩,bk⟩:=h;refine⟨i,bu a rfl,bk.dat .refl ok .int q⟩⟩
end
noncomputable def zd(K:yaJ):List Str->List AE->List (TE×TE)
 |k::ks,a::as=>(tC (.str k),aX K a)::zd K ks as
 |_,_=>[]
def uq:List AE->bH->aK->(List D->aK->Prop)->Prop
 |[],_,S,Q=>Q [] S
 |a::as,δ,S,Q=>a δ S λr j=>uq as δ j λds h=>Q (r.d::ds) h
theorem zC:∀(h)(as){w:Wd}{δ:bH}{S:aK}{j:L2.St}{H:Hp}{s:List D->aK->Prop}{Q:List (V×V)->Hp->Prop},h.length=as.length->Ok K w H S->fc K w δ j->uq as δ S s->
  (∀ds y (vs) t H',w.le t->Ok K t H' y->aD K t ds vs->vs.length=h.length->s ds y->Q ((h.zip vs).map λp=>(V.str p.1,p.2)) H')->sL (zd K h as) j H Q
 |[],[],w,δ,S,j,H,s,Q,_,ok,env,q,bk=>bk [] S [] w H .refl ok .nil rfl q
 |[],_::_,_,_,_,_,_,_,_,hl,_,_,_,_=>by cases hl
 |_::_,[],_,_,_,_,_,_,_,hl,_,_,_,_=>by cases hl
 |k::h,a::as,w,δ,S,j,H,s,Q,hl,ok,env,q,bk=>by
  show aX K a j H _;refine⟨w,δ,S,_,ok,env,q,.go λr L v I O o x m E=>?_⟩;refine zC h as (by simpa using hl) x (env.le o) E λds F vs C G n u l l2 q2=>?_;exact bk (r.d::ds) F (v::vs) C G (o.trans n) u (.cons (m.le n) l) (by simp[l2]) q2
theorem rS:∀(more a),((a++more).map (·.1)).Nodup->ic a more=a++more
 |[],a,_=>by simp[ic]
 |p::r,a,h=>by
  show ic (putK a p.1 p.2) r=_;have e:putK a p.1 p.2=a++[p]:=by
   unfold putK;rw[yIn];intro z;let⟨q,j,e⟩:=zbI.mp z;have e:q.1=p.1:=by simpa using e
   rw[zca,zbp] at h;exact h.2.2 q.1 (zcE.mpr ⟨q,j,rfl⟩) p.1 (by simp) e
  rw[e,rS r (a++[p]) (by simpa using h)];simp
def Gy(j:List Str)(as:List AE):AE:=λh S Q=>uq as h (S++[some (.dct [] [])]) λds a=>a[S.length]? =some (some (.dct [] []))/\Q (.dat (.loc S.length)) (a.set S.length (some (.dct (j.map Sum.inr) ds)))
def MS(W:d.Nodup)(X:d.length=as.length)(I:d.length<=15):∀y H Q,aX K (Gy d as) y H Q->KY (zd K d as) y H Q:=by
 intro y H Q k p O;let⟨w,δ,S,Qa,ok,env,q,bk⟩:=k;have E:=ok.alloc (o:=.dK []) O;let⟨w2,u,C,l⟩:=store E (ok.fresh (o:=.dK []) (m:=.dct [] []) O ⟨[],rfl,rfl,.nil⟩);refine zC d as X C (env.le u) q λds S' vs w3 H3 n t s F ⟨P,q3⟩=>?_;let⟨a,v,ea,Z,h1,h2,h3⟩:=pP t (l.le n) P;cases ea;have Y:v=[]:=by
  cases v with
  |nil=>rfl
  |cons x r=>simp at h2
 subst Y;have U:((d.map Sum.inr).zip vs:List (Key×V)).map (·.1)=d.map Sum.inr:=by
  rw[List.map_fst_zip];rw[zbV,F];exact zcR _
 have L:((d.map Sum.inr).zip vs:List (Key×V)).map (·.2)=vs:=by
  rw[List.map_snd_zip];rw[zbV,F];exact zcR _
 refine⟨h1,(d.map Sum.inr).zip vs,?_,?_,?_⟩
 ·rw[List.zip_map_left,zcF];rfl
 ·rw[List.length_zip,zbV,F,Nat.min_self];exact I
 ·have G:(([]++((d.map Sum.inr).zip vs:List (Key×V)):List (Key×V)).map (λp=>p.1)).Nodup:=by
   rw[zcb,U];exact List.Pairwise.map _ (λa b (h:a≠b) z=>h (by injection z)) W
  rw[rS _ [] G,zcb];refine bk.dat (u.trans n) (t.put P Z (o':=.dct (d.map Sum.inr) ds) ⟨_,rfl,U,by rw[L];exact s⟩) (l.le n) q3
def RH(k:Ok K d H S)(e:S[m]? =some (some (.lst ds))):∃s,d.le s/\Ok K s H (S.set m none)/\∀v,Rep K d (.loc m) v->Rep K s (.lst ds) v:=by
 let⟨a,u,h1,h2,X,h,rfl,P⟩:=k.live m _ e;have le:d.le ⟨upd d.B a (.lst h),d.r⟩:=⟨al h2,λ_ _ e=>e⟩
 have at_:∀n o,(S.set m none)[n]? =some (some o)->n≠m/\S[n]? =some (some o):=λn o z=>by
  by_cases O:m=n
  ·subst O;rw[zbm] at z;simp at z
  grind
 refine⟨⟨upd d.B a (.lst h),d.r⟩,le,⟨λb o z=>?_,λn o z=>?_,λn j o x G F z=>?_,λn C=>k.top n (by simp_all)⟩,λv L=>?_⟩
 ·by_cases E:b=a
  ·subst E;have z:upd d.B b (.lst h) b=some o:=z;rw[bW] at z;simp_all
  ·have z:upd d.B a (.lst h) b=some o:=z;rw[aR E] at z;exact k.base b o z
 ·let⟨C,z⟩:=at_ n o z;let⟨q,I,l,W,U,Q⟩:=k.live n o z;have t:q≠a:=λy=>C (k.inj n m _ _ z e (by simp_all));refine⟨q,I,l,by show upd d.B a _ q=none;rw[aR t];exact W,U,Q.le le⟩
 ·exact k.inj n j o x (at_ n o G).2 (at_ j x F).2 z
 ·let⟨q,l,rfl⟩:=L;rw[h1] at l;cases l;refine⟨a,h,rfl,bW,P.le le⟩
noncomputable def sb(m:Nat)(e:D):D->D
 |.loc n=>if n=m then e else .loc n
 |d=>d
theorem xF(le:e.le g)(f:∀v,Rep K e (.loc k) v->Rep K g (.lst ds) v):∀{es:List D}{a:List V},aD K e es a->aD K g (es.map (sb k (.lst ds))) a
 |[],a,h=>by subst h;exact .nil
 |d::es,a,h=>by
  let⟨x,r,rfl,h1,h2⟩:=h;refine .cons ?_ (xF le f h2);cases d with
  |loc n=>
   show Rep K g (if n=k then _ else _) x;by_cases l:n=k
   ·rw[yIp l];subst l;exact f x h1
   ·rw[yIn l];exact h1.le le
  |_=>exact h1.le le
def Pq(a:AE):AE:=λl S Q=>a l S λr j=>∃m ds h,r=.dat (.tup h)/\j[m]? =some (some (.lst ds))/\Q (.dat (.tup (h.map (sb m (.lst ds))))) (j.set m none)
def QN:∀l H Q,aX K (Pq d) l H Q->aX K d l H Q:=by
 intro l H Q z;let⟨w,x,S,W,ok,env,q,bk⟩:=z;refine⟨w,x,S,_,ok,env,q,λr U v O X u s j n=>?_⟩;let⟨m,ds,P,I,F,C⟩:=n;subst I;let⟨t,y,rfl,G,E⟩:=j;let⟨L,h,o,f⟩:=RH s F;refine bk.dat (u.trans h) o ?_ C;refine⟨t,y,rfl,eO.same h.b G,xF h f E⟩
section
variable {e:Expr}
def fre(h:GE X e d):GE X e (Pq d):=⟨mE h.p QN⟩
structure TM(X:Cx)(pos:Pos)(keys:List (Option Expr))(values:List Expr)(ks:List Str)(as:List AE):Prop where
 p:SR X pos keys values (zd X.K ks as)
theorem sZ:TM X pos [] [] [] []:=⟨L2.sZ⟩
theorem gU(m:GE X g r)(n:TM X pos keys values q as):
  TM X pos (some (.Constant (.str k) j d)::keys) (g::values) (k::q) (r::as):=⟨L2.gU L2.av m.p n.p⟩
theorem tE{a:List Str}(h:TM X pos keys values a as)(j:autoParam (keys.all (·.isSome)=true) r0)(q:autoParam (keys.length=values.length) r0)(s:keys≠[]:=by exact List.cons_ne_nil _ _)(n:autoParam (keys.length<=15) r1)(o:a.Nodup:=by decide+kernel)(m:autoParam (a.length=as.length) r0)(l:autoParam (a.length<=15) r1):GE X (.Dict keys values pos) (Gy a as):=⟨mE (L2.tE h.p j q s n) (MS o m l)⟩
end
end M
namespace M6
open PySem PySem.Spec PyProof.Rows
mutual
noncomputable def cU:yam->Bool
 |.int _=>true
 |.str x=>(PyData.str x).canLay0
 |.tuple xs=>fu xs
 |_=>false
noncomputable def fu:List yam->Bool
 |[]=>true
 |x::xs=>cU x&&fu xs
end
mutual
noncomputable def bJ(w:yak):yam->Int
 |.int i=>hashInt i
 |.str x=>hashStr w x
 |.tuple xs=>reduceHash (Builtin.Tuple.tupleHashOf (jn w xs))
 |_=>0
noncomputable def jn(w:yak):List yam->List Int
 |[]=>[]
 |x::xs=>bJ w x::jn w xs
end
mutual
noncomputable def UK:yam->Nat
 |.int _=>1
 |.str _=>1
 |.tuple xs=>t6 xs+1
 |_=>0
noncomputable def t6:List yam->Nat
 |[]=>0
 |x::xs=>UK x+t6 xs
end
theorem jb(w):∀a b,jn w (a++b)=jn w a++jn w b
 |[],b=>rfl
 |x::a,b=>by simp only[zbJ,jn,jb w a b]
theorem mL:∀a b,t6 (a++b)=t6 a+t6 b
 |[],b=>by simp[t6]
 |x::a,b=>by simp only[zbJ,t6,mL a b];lia
theorem gX:∀{j:List yam},fu j=true->∀x∈j,cU x=true
 |[],_,x,a=>by simp at a
 |y::j,h,x,a=>by
  simp only[fu,zbR] at h;obtain rfl|a:=zcq.mp a
  ·exact h.1
  ·exact gX h.2 x a
theorem dQ:∀{a:List yam}{x:yam},x∈a->x.depth<=PyData.depthAll a
 |y::a,x,h=>by
  simp only[PyData.depthAll];obtain rfl|h:=zcq.mp h
  ·lia
  ·have:=dQ h;lia
def dg(a):(PyData.tuple a).depth=PyData.depthAll a+1:=by
 rfl
def eT(h:s.heap.get? a=some d)(j:d.cls=Value.type "tuple"):s.TypeIs (.ref a) "tuple":=⟨d,h,j⟩
theorem vh:∀(n)(d){v:yai}{as:List Addr}{A:yal}{E:yai->yah->Prop}{s:yah}{Q:Int->yah->Prop},d.depth<=n->cU d=true->Reads s.heap v d as->A.units+n<cLine->
  Q (bJ w d) {s with toks:=s.toks+UK d}->yar (model prog w) A (pyHash v) Q E s:=by
 intro n
 induction n with
 |zero=>
  intro d v as A E s Q hd l C L h;cases C with
  |int i t=>exact wpAny_pyHash_int h
  |str x t=>exact wpAny_pyHash_str h
  |tuple ho hc hd' hall=>rw[dg] at hd;lia
  |none=>simp[cU] at l
  |bool b=>simp[cU] at l
  |list _ _ _ _=>simp[cU] at l
  |dict _ _ _ _ _=>simp[cU] at l
 |succ n ih=>
  intro d v as A E s Q hd l C L h;cases C with
  |int i t=>exact wpAny_pyHash_int h
  |str x t=>exact wpAny_pyHash_str h
  |none=>simp[cU] at l
  |bool b=>simp[cU] at l
  |list _ _ _ _=>simp[cU] at l
  |dict _ _ _ _ _=>simp[cU] at l
  |@tuple a o vs m xs as ho hc hdat hall=>
   have O:=eT ho hc;rw[dg] at hd;refine W.pyHash_slot O F.slot_tuple_hash F.entry_tuple_hash (F.args_tuple_hash_1 (.ref a)) (by decide) (.inr (by lia)) ?_;show yar (model prog w) A.in1 (do
    let __do_lift <-Builtin.Tuple.tupleItemsOf (.ref a);let __s <-forIn __do_lift (#[]:Array Int) λx __s=>do
       let __do_lift <-pyHash x
       pure (ForInStep.yield (__s.push __do_lift))
    retInt (Builtin.Tuple.tupleHashOf __s.toList)) _ E s
   refine yaa (wpAny_tupleItemsOf ho hdat (yaa ?_));rw[<-zbg];refine wpAny_forIn_list _ (λrest b y=>∃j left u,xs=j++left/\ReadsAll s.heap rest left u/\b.toList=jn w j/\y={s with toks:=s.toks+t6 j}) _ ?_ ?_ vs.toList #[] ⟨[],xs,_,rfl,hall,rfl,rfl⟩
   ·intro x rest b y k;let⟨j,left,u,rfl,G,H,rfl⟩:=k;cases G with
    |@cons _ _ d' ds as1 bs hx hrest=>
     have I:d'∈j++d'::ds:=by simp
     refine yaa (ih d' (by have:=dQ I;lia) (gX l d' I) hx (by show A.units+1+n<cLine;lia) ?_);refine yab ⟨j++[d'],ds,bs,by simp,hrest,?_,?_⟩
     ·rw[zbw,H,jb];rfl
     ·rw[mL];simp only[t6,Nat.add_zero,Nat.add_assoc]
   ·intro b y k;let⟨j,left,u,rfl,G,H,rfl⟩:=k;cases G;rw[zbW] at h;rw[H];refine yac (wpAny_ret_mkInt (Q:=λv y=>∃n t,v=Value.int n t/\Q (reduceHash n) y) ⟨_,_,rfl,?_⟩) (λP y=>?_) (λ_ _ z=>z)
    ·exact h
    ·rintro⟨v,rfl,n,t,rfl,q⟩;refine⟨n,t,rfl,q⟩
theorem AX{h:Heap}:∀{ds:List yam}{vs:List yai}{as:List Addr},ReadsAll h vs ds as->∀y∈vs,∃d∈ds,∃j,Reads h y d j
 |[],_,_,hr,y,a=>by cases hr;simp at a
 |d::ds,_,_,hr,y,a=>by
  cases hr with
  |cons hx hrest=>
   obtain rfl|a:=zcq.mp a
   ·refine⟨_,zaV,_,hx⟩
   ·let⟨l,m,r⟩:=AX hrest y a;refine⟨l,zaC _ m,r⟩
theorem deep{G:Nat->yai->Prop}(h1:∀n i t,G n (.int i t))(h2:∀n x t,G n (.str x t))(C:∀n a o vs m,h.get? a=some o->o.cls=.type "tuple"->o.data=.seq vs m->(∀y∈vs.toList,G n y)->G (n+1) (.ref a)):
  ∀(n)(d){v:yai}{as:List Addr},d.depth<=n->cU d=true->Reads h v d as->G n v:=by
 intro n
 induction n using Nat.strongRecOn with
 |_ n ih=>
 intro d v as hd q j;cases j with
 |int i t=>exact h1 ..
 |str x t=>exact h2 ..
 |tuple ho hc hdat hall=>
  rw[dg] at hd;obtain⟨m,rfl⟩:∃m,n=m+1:=⟨n - 1,by lia⟩
  refine C m _ _ _ _ ho hc hdat λy u=>?_;let⟨s,l,E,j⟩:=AX hall y u;exact ih m (by lia) s (by have:=dQ l;lia) (gX q s l) j
 |_=>simp[cU] at q
def ji:∀(n)(d){v:yai}{as:List Addr}{A:yal}{E:yai->yah->Prop}{s:yah}{Q:Bool->yah->Prop},d.depth<=n->cU d=true->Reads s.heap v d as->Q true s->yar (model prog w) A (eqIsQuiet n v) Q E s:=by
 intro n d v as A E s Q hd S P h;refine deep (G:=λn v=>∀{Q:Bool->yah->Prop},Q true s->yar (model prog w) A (eqIsQuiet n v) Q E s) (λn i t Q h=>by rw[eqIsQuiet_byValue _ rfl];exact yab h) (λn i t Q h=>by rw[eqIsQuiet_byValue _ rfl];exact yab h) (λn a o vs m H U l q Q h=>?_) n d hd S P h;have I:=eT H U;rw[eqIsQuiet.eq_def];refine yaa (wpAny_specialOf I F.slot_tuple_eq.lookup ?_);refine yaa (wpAny_isInstance I isSubtype_tuple_tuple ?_);refine yaa (wpAny_seqItems H l (yaa ?_));rw[<-zbg];refine wpAny_forIn_list _ (λrest r u=>r.1=none/\u=s/\∀y∈rest,y∈vs.toList) _ ?_ ?_ vs.toList (none,()) ⟨rfl,rfl,λ_ C=>C⟩
 ·rintro y rest ⟨O,L⟩ u ⟨z,rfl,j⟩;exact yaa (q y (j y (by simp)) (yab ⟨rfl,rfl,λx C=>j x (zaC _ C)⟩))
 ·rintro⟨O,L⟩ u ⟨z,rfl,_⟩;subst z;exact yab h
noncomputable instance:DecidableEq yam:=λ_ _=>Classical.propDecidable _
mutual
theorem nN:∀x y:yam,cU x=true->cU y=true->PyData.eqv x y=decide (x=y)
 |.int i,.int j,_,_=>by
  simp only[PyData.eqv];by_cases h:i=j
  ·subst h;simp
  ·have:¬PyData.int i=.int j:=λe=>h (by injection e);rw[yDf this];simpa using h
 |.str i,.str j,_,_=>by
  simp only[PyData.eqv];by_cases h:i=j
  ·subst h;simp
  ·have:¬PyData.str i=.str j:=λe=>h (by injection e);rw[yDf this];simpa using h
 |.tuple xs,.tuple ys,hx,hy=>by
  simp only[PyData.eqv];rw[vP xs ys hx hy];by_cases h:xs=ys
  ·subst h;simp
  ·have:¬PyData.tuple xs=.tuple ys:=λe=>h (by injection e);rw[yDf this,yDf h]
 |.int i,.str j,_,_=>by rw[yDf (λe=>nomatch e)];rfl
 |.int i,.tuple j,_,_=>by rw[yDf (λe=>nomatch e)];rfl
 |.str i,.int j,_,_=>by rw[yDf (λe=>nomatch e)];rfl
 |.str i,.tuple j,_,_=>by rw[yDf (λe=>nomatch e)];rfl
 |.tuple i,.int j,_,_=>by rw[yDf (λe=>nomatch e)];rfl
 |.tuple i,.str j,_,_=>by rw[yDf (λe=>nomatch e)];rfl
 |.none,_,h,_=>by simp[cU] at h
 |.bool _,_,h,_=>by simp[cU] at h
 |.list _,_,h,_=>by simp[cU] at h
 |.dict _,_,h,_=>by simp[cU] at h
 |_,.none,_,h=>by simp[cU] at h
 |_,.bool _,_,h=>by simp[cU] at h
 |_,.list _,_,h=>by simp[cU] at h
 |_,.dict _,_,h=>by simp[cU] at h
theorem vP:∀x y:List yam,fu x=true->fu y=true->PyData.eqvAll x y=decide (x=y)
 |[],[],_,_=>by simp[PyData.eqvAll]
 |[],y::ys,_,_=>by simp[PyData.eqvAll]
 |x::xs,[],_,_=>by simp[PyData.eqvAll]
 |x::xs,y::ys,hx,hy=>by
  simp only[fu,zbR] at hx hy;simp only[PyData.eqvAll];rw[nN x y hx.1 hy.1,vP xs ys hx.2 hy.2];by_cases h:x=y<;>by_cases g:xs=ys<;>simp[h,g]
end
mutual
theorem gB:∀x:yam,cU x=true->x.canLay0=true
 |.int i,_=>rfl
 |.str i,h=>h
 |.tuple xs,h=>by simp only[PyData.canLay0];exact z9 xs h
 |.none,h=>by simp[cU] at h
 |.bool _,h=>by simp[cU] at h
 |.list _,h=>by simp[cU] at h
 |.dict _,h=>by simp[cU] at h
theorem z9:∀x:List yam,fu x=true->PyData.canLayAll0 x=true
 |[],_=>rfl
 |x::xs,h=>by
  simp only[fu,zbR] at h;simp only[PyData.canLayAll0,gB x h.1,z9 xs h.2,zcw]
end
def isKey(h:Heap)(d:yam)(a:Addr):Prop:=cU d=true/\d.depth<=6/\∃j,Reads h (.ref a) d j
mutual
theorem rG{h h':Heap}{b:Addr}{ob:Obj}{es:Array yav}{ep:Nat}(n:h.get? b=some ob)(hd:ob.data=Data.dict es ep)(l:Heap.SameBut b h h'):∀(d:yam){v:yai}{as:List Addr},cU d=true->Reads h v d as->Reads h' v d as
 |.int i,v,as,hk,hr=>by cases hr;exact .int ..
 |.str i,v,as,hk,hr=>by cases hr;exact .str ..
 |.tuple xs,v,as,hk,hr=>by
  cases hr with
  |@tuple a o vs m _ _ ho hc hdat hall=>
   have j:a≠b:=λe=>by
    subst e;rw[n] at ho;cases ho;rw[hd] at hdat;cases hdat
   exact .tuple (by rw[l.2 a j];exact ho) hc hdat (oM n hd l xs hk hall)
 |.none,_,_,h,_=>by simp[cU] at h
 |.bool _,_,_,h,_=>by simp[cU] at h
 |.list _,_,_,h,_=>by simp[cU] at h
 |.dict _,_,_,h,_=>by simp[cU] at h
theorem oM{h h':Heap}{b:Addr}{ob:Obj}{es:Array yav}{ep:Nat}(j:h.get? b=some ob)(hd:ob.data=Data.dict es ep)(a:Heap.SameBut b h h'):∀(ds:List yam){vs:List yai}{as:List Addr},fu ds=true->ReadsAll h vs ds as->ReadsAll h' vs ds as
 |[],vs,as,hk,hr=>by cases hr;exact .nil
 |d::ds,vs,as,hk,hr=>by
  simp only[fu,zbR] at hk;cases hr with
  |cons hx hr=>exact .cons (rG j hd a d hk.1 hx) (oM j hd a ds hk.2 hr)
end
noncomputable def pQ(prog)(w):HeapKind prog w yam where
 is:=isKey
 hash:=bJ w
 draws:=UK
 room:=λA=>A.units+10<cLine
 inj:=λ⟨_,_,l,q⟩ ⟨_,_,bs,o⟩=>(Reads.unique q _ _ o).1
 keeps:=λ⟨h1,h2,l,j⟩ u hd n=>⟨h1,h2,l,rG u hd n _ h1 j⟩
 pyHash:=λt ⟨h1,h2,l,j⟩ h=>vh 6 _ h2 h1 j (by lia) h
 eqBool:=λ{A E s x y a b Q} t ⟨h1,h2,l,j⟩ ⟨m,C,bs,v⟩ h=>SeqAt.eqBoolOverData prog w A E s _ _ _ _ _ _ Q j v (gB _ h1) (gB _ m) (by lia) (by
  rw[nN _ _ h1 m];exact h)
 quiet:=λ⟨h1,h2,l,j⟩ h=>ji 8 _ (by lia) h1 j h
def kB(h:Heap)(d:Addr)(es:Array yav)(ep:Nat):Prop:=∃o,h.get? d=some o/\o.ExactDict/\o.data=Data.dict es ep
def kB.at(x:kB h d g ep)(e:∀o,h.get? d=some o->h'.get? d=some o):kB h' d g ep:=by let⟨o,a,r⟩:=x;refine⟨o,e o a,r⟩
def kB.typeIs(x:kB s.heap d e ep):s.TypeIs (.ref d) "dict":=by let⟨o,a,h,_⟩:=x;refine⟨o,a,h.1⟩
def nextK(l:s.heap.IsKeyIter it d i g.size ep)(C:kB s.heap d g ep)(u:g[i]? =some e)(y:∀h',h'.IsKeyIter it d (i+1) g.size ep->Heap.SameBut it s.heap h'->k (some e.key) {s with heap:=h'}):yar (model prog w) A (pyNext (.ref it)) k E s:=by
 let⟨o,t,x,hd⟩:=id l;let⟨G,h,v,m⟩:=id C;have q:=Heap.IsKeyIter.typeIs l;refine yaa (wpAny_attempt (wpAny_callSpecial?_slot q F.slot_dict_keyiterator_next (wpAny_call_entry F.slot_dict_keyiterator_next q F.entry_dict_keyiterator_next ?_ (F.args_dict_keyiterator_next_1 _))));refine yaa (yab ?_);refine yaa ?_;refine yaa ?_;refine yaa (wpAny_typeNameOfWhole_keyiter q (yab ?_));have a:Builtin.Dict_items.ownsTuple "dict_keyiterator"=false:=by rfl
 refine yaa (wpAny_fieldsOf t hd ?_);refine yaa (yab ?_);refine yaa (wpAny_dictEntries h m ?_);rw[yIn (by simp)];refine yaa (yab ?_);refine yaa (wpAny_dictEpoch h m ?_);rw[yIn (by simp)];refine yab ?_;dsimp only;rw[show((i:Int)).toNat=i from zbu i,u];refine yaa (?_);refine yaa (wpAny_typeNameOfWhole_keyiter q (yab ?_));simp only[a];refine yaa (wpAny_isOneOf_keyiter q ?_);refine yaa (wpAny_setField t hd (by simp) ?_);refine yaa (yad ?_);have j:=zaB (Obj.mapFields (·.setIfInBounds (0+1) (rawInt ((i+1:Nat):Int)))) t (Obj.isFreed_of_fields (Obj.data_mapFields hd _));have n:=(Obj.cls_mapFields o (·.setIfInBounds (0+1) (rawInt ((i+1:Nat):Int)))).trans x;refine yaa (wpAny_isOneOf_keyiter ⟨_,j,n⟩ ?_);refine yab (yab ⟨e.key,rfl,yab (y _ ?_ (Heap.SameBut.update ..))⟩);refine⟨_,j,n,by rw[Obj.data_mapFields hd];rfl⟩
def UI(q:A.handled=none)(j:s.heap.IsKeyIter it d g.size g.size ep)(x:kB s.heap d g ep)(v:∀h',Heap.ExtBut it s.heap h'->k none {s with heap:=h'}):yar (model prog w) A (pyNext (.ref it)) k E s:=by
 let⟨o,n,G,hd⟩:=id j;let⟨y,h,t,l⟩:=id x;have m:=Heap.IsKeyIter.typeIs j;refine yaa (wpAny_attempt (wpAny_callSpecial?_slot m F.slot_dict_keyiterator_next (wpAny_call_entry F.slot_dict_keyiterator_next m F.entry_dict_keyiterator_next ?_ (F.args_dict_keyiterator_next_1 _))));refine yaa (yab ?_);refine yaa ?_;refine yaa ?_;refine yaa (wpAny_typeNameOfWhole_keyiter m (yab ?_));have a:Builtin.Dict_items.ownsTuple "dict_keyiterator"=false:=by rfl
 refine yaa (wpAny_fieldsOf n hd ?_);refine yaa (yab ?_);refine yaa (wpAny_dictEntries h l ?_);rw[yIn (by simp)];refine yaa (yab ?_);refine yaa (wpAny_dictEpoch h l ?_);rw[yIn (by simp)];refine yab ?_;dsimp only;rw[show((g.size:Int)).toNat=g.size from zbu _,zaq (zcR _)];refine yaa ?_;refine yaa (wpAny_typeNameOfWhole_keyiter m (yab ?_));simp only[a];refine yaa (wpAny_setField n hd (by simp) ?_);refine yaa ?_;refine yaa (yae ?_ (by size_fits));refine yaa (wpAny_of_eq (by rfl) ?_);refine yae ?_ (by size_fits);simp only[raiseNew];refine yaa (wpAny_handled ?_)
 first|rw[show A.in1.handled=none from q]|rw[q]
 refine yaa (yab (wpAny_throw ?_));refine yaa (wpAny_isInstance ⟨_,zaS _ rfl,rfl⟩ isSubtype_stop ?_);refine yab (v _ (Heap.ExtBut.push (Heap.ExtBut.push ?_ _) _));exact λb C u e=>(zat _ _ (Ne.symm u)).trans e
def Rq(hd:(d==yas)=false)(l:kB s.heap d e ep)(n:Q (.ref s.heap.objs.size) {s with heap:=s.heap.push {cls:=.type "dict_keyiterator",data:=.fields #[.ref d,.int 0 0,.int e.size 0,.int ep 0]}}):yar (model prog w) A (pyIter (.ref d)) Q E s:=by
 let⟨o,a,m,h⟩:=id l;have j:=l.typeIs;refine wpAny_pyIter_slot j F.slot_dict_iter (wpAny_call_entry F.slot_dict_iter j F.entry_dict_iter ?_ (F.args_dict_iter_1 _));refine yaa (yaa (wpAny_notOrdered_dict j (yab ?_)));refine yaa (yab ?_);unfold Builtin.Dict.showsAll;rw[yIn (by simp_all)];refine yaa (yab ?_);refine yaa (wpAny_dictEntries a h ?_);refine yaa (wpAny_dictEpoch a h ?_);refine yaa (yae ?_ (by size_fits));exact yab ⟨_,rfl,"dict_keyiterator",_,⟨_,zaS _ rfl,rfl⟩,F.slot_dict_keyiterator_next.lookup,n⟩
def Mg(x:A.handled=none)(I d)(q:d≠I)(es)(ep):
  Walks prog w A I [I,d] [I] es.size (λi v=>∃e,es[i]? =some e/\v=e.key) (λi h=>h.IsKeyIter I d i es.size ep/\kB h d es ep) where
 sub:=λb m=>by simp_all
 frame:=λi h n st t=>⟨Heap.IsKeyIter.at st.1 λo e=>t I (by simp) o e,st.2.at λo e=>t d (by simp) o e⟩
 item:=λi s Q E u st l=>by
  have hx  :=zaj u;refine nextK st.1 st.2 hx λn j a=>l es[i].key n s.toks ⟨es[i],hx,rfl⟩ ⟨j,st.2.at λo e=>by rw[a.2 d q];exact e⟩ λb o m e=>?_;rw[a.2 b (λz=>m (by simp[z]))];exact e
 done:=λs Q E st l=>UI x st.1 st.2 λn y=>l n s.toks λb o m e=>y b o (λz=>m (by simp[z])) e
 self:=λi s Q E st l=>wpAny_pyIter_keyiter st.1 l
def Qq(n:(d==yas)=false):W.KdlSrc prog w "dict" d d g.size (λi v=>∃e,g[i]? =some e/\v=e.key) (λh=>kB h d g ep) where
 type:=λs a=>a.typeIs
 there:=λh a=>by let⟨o,j,_⟩:=a;exact⟨zcP j,zcP j⟩
 keep:=λh u a q=>a.at λo e=>q d (.inl rfl) o e
 notList:=by decide
 notTuple:=by decide
 hint:=λA E s Q a l=>W.kdl_hint_dict a.typeIs l
 iter:=λA s t a=>by
  have m:d<s.heap.objs.size:=by let⟨o,j,_⟩:=a;exact zcP j
  refine⟨_,_,λE Q l=>Rq n a l,Mg t s.heap.objs.size d (zcG m) g ep,⟨_,zaS _ rfl,rfl,rfl⟩,a.at λo e=>zas _ e⟩
def Ga(l:(d==yas)=false)(n:A.handled=none)(q:kB s.heap d g ep)(m:g.size<=yag)(h:∀(h')(tk),(∀b o,s.heap.get? b=some o->h'.get? b=some o)->R (g.toList.map (·.key)) {s with heap:=h',toks:=tk}):yar (model prog w) A (collect (.ref d)) R E s:=by
 refine W.kdu_collect (Qq l) n q m λh' tk j kp a=>?_;have:j.toList=g.toList.map (·.key):=by
  refine zbq λi=>?_;cases z:j[i]? with
  |some v=>
   let⟨e,t,rfl⟩:=a.2 i v z;simp_all
  |none=>
   have:g.size<=i:=by rw[<-a.1];simp_all
   simp_all
 rw[this];exact h h' tk kp
mutual
noncomputable def ie:yam->yam->Bool
 |.int i,.int j=>decide (i<j)
 |.str i,.str j=>decide (i.cps.toList<j.cps.toList)
 |.tuple xs,.tuple ys=>dD xs ys
 |_,_=>false
noncomputable def dD:List yam->List yam->Bool
 |[],[]=>false
 |[],_::_=>true
 |_::_,[]=>false
 |x::xs,y::ys=>if x=y then dD xs ys else ie x y
end
mutual
noncomputable def cI:yam->yam->Bool
 |.int _,.int _=>true
 |.str _,.str _=>true
 |.tuple xs,.tuple ys=>e7 xs ys
 |_,_=>false
noncomputable def e7:List yam->List yam->Bool
 |x::xs,y::ys=>cI x y&&e7 xs ys
 |_,_=>true
end
theorem gc:∀{ds:List yam}{vs:List yai}{as:List Addr},ReadsAll d vs ds as->vs.length=ds.length
 |[],_,_,d=>by cases d;rfl
 |_::_,_,_,d=>by cases d with|cons _ r=>simp[gc r]
theorem Jg:∀(n)(x y){u v:yai}{as bs:List Addr}{A:yal}{E:yai->yah->Prop}{s:yah}{Q:yai->yah->Prop},x.depth<=n->y.depth<=n->cU x=true->cU y=true->cI x y=true->Reads s.heap u x as->Reads s.heap v y bs->A.units+n<cLine->
  Q (.bool (ie x y)) s->yar (model prog w) A (yan .Lt u v) Q E s:=by
 intro n
 induction n with
 |zero=>
  intro x y u v as bs A E s Q hx hy C ky I S U hu h;cases S with
  |int i t=>
   cases U with
   |int j t'=>exact wpAny_lt_int h
   |_=>simp[cI] at I
  |str i t=>
   cases U with
   |str j t'=>exact lt_str h
   |_=>simp[cI] at I
  |tuple ho I hd' hall=>rw[dg] at hx;lia
  |none=>simp[cU] at C
  |bool b=>simp[cU] at C
  |list _ _ _ _=>simp[cU] at C
  |dict _ _ _ _ _=>simp[cU] at C
 |succ n ih=>
  intro x y u v as bs A E s Q hx hy C ky I S U hu h;cases S with
  |int i t=>
   cases U with
   |int j t'=>exact wpAny_lt_int h
   |_=>simp[cI] at I
  |str i t=>
   cases U with
   |str j t'=>exact lt_str h
   |_=>simp[cI] at I
  |none=>simp[cU] at C
  |bool b=>simp[cU] at C
  |list _ _ _ _=>simp[cU] at C
  |dict _ _ _ _ _=>simp[cU] at C
  |@tuple a o us m xs as ho hcl hdat hall=>
   cases U with
   |@tuple b o2 vs m2 ys bs ho2 hcl2 hdat2 hall2=>
    have hT:=eT ho hcl;have W:=eT ho2 hcl2;rw[dg] at hx hy;show yar (model prog w) A (richCompare .Lt (.ref a) (.ref b)) Q E s;refine wpAny_richCompare_same_room hT W F.slot_tuple_lt ?_ (by lia);refine wpAny_call_entry F.slot_tuple_lt hT F.entry_tuple_lt ?_ (F.args_tuple_lt_2 _ _);refine yaa (yab ?_);refine yaa (wpAny_isInstance W isSubtype_tuple_tuple ?_);refine yaa (wpAny_tupleItemsOf ho hdat (yaa (wpAny_tupleItemsOf ho2 hdat2 (yaa ?_))));refine wpAny_forIn_list _ (λrest r X=>r.1=none/\X=s/\∃L H Y lv P O,rest=Y.zip lv/\ReadsAll s.heap Y L P/\ReadsAll s.heap lv H O/\dD xs ys=dD L H/\(∀z∈L,z∈xs)/\(∀z∈H,z∈ys)/\e7 L H=true/\us.size+H.length=vs.size+L.length) _ ?_ ?_ (us.toList.zip vs.toList) (none,())
     ⟨rfl,rfl,xs,ys,us.toList,vs.toList,_,_,rfl,hall,hall2,rfl,λ_ z=>z,λ_ z=>z,I,by
      have h1:=gc hall;have h2:=gc hall2;rw[zaR] at h1 h2;lia⟩
    ·rintro⟨p,q⟩ rest ⟨r1,r2⟩ X ⟨S,rfl,L,H,Y,lv,P,O,hz,h1,h2,Z,m1,m2,G,l⟩;cases h1 with
     |nil=>simp at hz
     |@cons _ _ d1 ds1 a1 b1 g1 t1=>
      cases h2 with
      |nil=>simp at hz
      |@cons _ _ d2 ds2 a2 b2 g2 t2=>
       injection hz with e1 e2;injection e1 with e3 e4;subst e3;subst e4;subst e2;have n1:=m1 d1 (by simp);have n2:=m2 d2 (by simp);have k1:=gX C d1 n1;have k2:=gX ky d2 n2;have dd1:=dQ n1;have dd2:=dQ n2;simp only[e7,zbR] at G;refine yaa (SeqAt.eqBoolOverData prog w _ _ _ _ _ _ _ _ _ _ g1 g2 (gB _ k1) (gB _ k2) (by show A.units+1+_<cLine;lia) ?_);rw[nN _ _ k1 k2];by_cases he:d1=d2
       ·rw[yDt he];refine yab ⟨rfl,rfl,ds1,ds2,_,_,_,_,rfl,t1,t2,?_,λz hz=>m1 z (zaC _ hz),λz hz=>m2 z (zaC _ hz),G.2,by simp only[zbB] at l;lia⟩;rw[Z];simp only[dD];simp_all
       ·rw[yDf he];have hl2:dD xs ys=ie d1 d2:=by
         rw[Z];simp only[dD];simp_all
        refine yaa (wpAny_rule ?_);refine yaa (ih d1 d2 (by lia) (by lia) k1 k2 G.1 g1 g2 (by show A.units+1+n<cLine;lia) ?_);refine yaa (yab (yab ?_));refine yab ⟨_,rfl,(λz=>by cases z),?_⟩;rw[<-hl2];exact h
    ·rintro⟨r1,r2⟩ X ⟨S,rfl,L,H,Y,lv,P,O,hz,h1,h2,Z,m1,m2,G,l⟩;subst S;refine yab ⟨_,rfl,(λz=>by cases z),?_⟩;have UE:decide (us.size<vs.size)=dD xs ys:=by
      rw[Z];cases h1 with
      |nil=>
       cases H with
       |nil=>simp only[dD] at l⊢;simp_all
       |cons _ _=>simp only[zbB,List.length_nil] at l⊢;exact yDt (by lia)
      |cons g1 t1=>
       cases h2 with
       |nil=>simp only[dD] at l⊢;simp_all
       |cons g2 t2=>simp at hz
     show Q (.bool (decide (us.size<vs.size))) X;rw[UE];exact h
   |_=>simp[cI] at I
def Fs(b:Bool)(z:yam):Prop:=(b=false/\∃i,z=.int i)∨(b=true/\∃i,z=.str i)
def EG(n)(m:d.depth<=n)(l:e.depth<=n)(j:cU d=true)(a:cU e=true)(t:cI d e=true)(q:Reads s.heap u d k)(C:Reads s.heap g e bs)(o:A.units+n<cLine)(h:r (ie d e) s):yar (model prog w) A (PyProof.Rows.oneLt' false u g) r E s:=W.kat_one u g (Jg n d e m l j a t q C o h)
theorem vG{A:yal}{Q:Bool->yah->Prop}{s:yah}{m1 m2:Nat}:∀(j a){l lv:List yai}{as bs:List Addr}(i),(∀z∈j,z.depth<=6)->(∀z∈a,z.depth<=6)->fu j=true->fu a=true->e7 j a=true->ReadsAll s.heap l j as->ReadsAll s.heap lv a bs->A.units+6<cLine->
  (i=0->∃b,Fs b (j.headD .none)/\Fs b (a.headD .none))->m1+a.length=m2+j.length->Q (dD j a) s->W.KatLex prog w A true (decide (m1<m2)) Q (l.zip lv) i s
 |[],a,l,lv,as,bs,i,d1,d2,k1,k2,hc,h1,h2,hu,h0,hm,h=>by
  cases h1;cases a with
  |nil=>rw[yDf (by lia)];exact h
  |cons _ _=>simp only[List.length_nil,zbB] at hm h;rw[yDt (by lia)];exact h
 |x::j,[],l,lv,as,bs,i,d1,d2,k1,k2,hc,h1,h2,hu,h0,hm,h=>by
  cases h2;rw[List.zip_nil_right];simp only[List.length_nil] at hm h;rw[yDf (by lia)];exact h
 |x::j,y::a,l,lv,as,bs,i,d1,d2,k1,k2,hc,h1,h2,hu,h0,hm,h=>by
  simp only[fu,zbR] at k1 k2;simp only[e7,zbR] at hc;have dx:=d1 x (by simp);have dy:=d2 y (by simp);cases h1 with
  |@cons u us _ _ a1 b1 g1 t1=>
   cases h2 with
   |@cons v vs _ _ a2 b2 g2 t2=>
    refine SeqAt.eqBoolOverData prog w _ _ _ _ _ _ _ _ _ _ g1 g2 (gB _ k1.1) (gB _ k2.1) (by lia) ?_;rw[nN _ _ k1.1 k2.1];simp only[dD] at h;by_cases m:x=y
    ·rw[yDt m];rw[yIp m] at h;exact vG j a (i+1) (λz hz=>d1 z (zaC _ hz)) (λz hz=>d2 z (zaC _ hz)) k1.2 k2.2 hc.2 t1 t2 hu (λz=>by lia) (by simp only[zbB] at hm;lia) h
    ·rw[yDf m];rw[yIn m] at h;by_cases n:i=0
     ·let⟨b,E,C⟩:=h0 n;subst n;rcases E with⟨rfl,p,t⟩|⟨rfl,p,t⟩<;>rcases C with⟨z,q,o⟩|⟨z,q,o⟩<;>cases z
      ·cases(show x=_ from t);cases(show y=_ from o);cases g1;cases g2;exact W.kat_lt_int h
      ·cases(show x=_ from t);cases(show y=_ from o);cases g1;cases g2;exact PyProof.Rows.oneLt_str h
     ·have:(true&&i==0)=false:=by simp[n]
      rw[this];exact EG 6 dx dy k1.1 k2.1 hc.1 g1 g2 hu h
def fy{h:Type}(P:h->Prop)(n:Nat):W.KasT h->Prop
 |.ret a=>P a
 |.ask i j k=>i<n/\j<n/\∀b,fy P n (k b)
theorem fy.bind{l m:Type}{P:l->Prop}{R:m->Prop}{f:l->W.KasT m}:∀{t:W.KasT l},fy P n t->(∀a,P a->fy R n (f a))->fy R n (t.bind f)
 |.ret a,h,g=>g a h
 |.ask i j k,⟨h1,h2,h3⟩,g=>⟨h1,h2,λb=>fy.bind (h3 b) g⟩
def d7{p:Array Nat}(h:0<n)(a:p.Perm (zcV n).toArray)(x):p.getD x 0<n:=by
 rw[Srt.nK];cases z:p[x]? with
 |none=>exact h
 |some y=>
  have hm  :=Array.mem_of_getElem? z;have:=(a.mem_iff).mp hm;simp_all
theorem um(h:0<n)(a:d.Perm (zcV n).toArray):∀(f x),fy (λ_=>True) n (W.kas_asc d f x)
 |0,x=>trivial
 |f+1,x=>⟨d7 h a _,d7 h a _,λb=>by
  cases b
  ·exact um h a f (x+1)
  ·exact trivial⟩
theorem j7(a:0<n):∀(f){p:Array Nat}(x q),p.Perm (zcV n).toArray->fy (λr:Array Nat×Nat×Nat=>r.1.Perm (zcV n).toArray) n (W.kas_desc f p x q)
 |0,p,x,q,hp=>hp
 |f+1,p,x,q,hp=>⟨d7 a hp _,d7 a hp _,λb=>by
  cases b
  ·refine⟨d7 a hp _,d7 a hp _,λc=>?_⟩;cases c
   ·exact j7 a f (x+1) (q+1) hp
   ·exact hp
  ·by_cases h:q> 0
   ·rw[yIp h];exact j7 a f (x+1) 0 (Srt.dz.trans hp)
   ·rw[yIn h];exact j7 a f (x+1) 0 hp⟩
def uK(j:0<n)(h:d.Perm (zcV n).toArray)(x m):fy (λr:Nat×Array Nat=>r.2.Perm (zcV n).toArray) n (W.kas_tail3 x m d):=
 fy.bind (um j (Srt.dz.trans h) _ _) λa _=>Srt.dz.trans h
def j8(a:0<n)(l:d.Perm (zcV n).toArray)(x m):fy (λr:Nat×Array Nat=>r.2.Perm (zcV n).toArray) n (W.kas_descPart x m d):=
 fy.bind (j7 a _ _ _ l) λr j=>by
  by_cases h:r.2.2> 0
  ·rw[yIp h];exact uK a (Srt.dz.trans j) _ _
  ·rw[yIn h];exact uK a j _ _
def Cb(j:0<n)(a:d.Perm (zcV n).toArray)(m):fy (λr:Nat×Array Nat=>r.2.Perm (zcV n).toArray) n (W.kas_count m d):=
 fy.bind (um j a _ _) λx _=>by
  by_cases h:(x==m)=true
  ·rw[yIp h];exact a
  ·rw[yIn h];by_cases h2:x> 1
   ·rw[yIp h2];refine⟨d7 j a _,d7 j a _,λb=>?_⟩;cases b
    ·exact j8 j (Srt.dz.trans a) _ _
    ·exact a
   ·rw[yIn h2];exact j8 j a _ _
theorem lg(j:0<n)(a:d.Perm (zcV n).toArray)(k):∀(f l r),fy (λ_=>True) n (W.kas_place d k f l r)
 |0,l,r=>trivial
 |f+1,l,r=>by
  rw[W.kas_place.eq_2];by_cases h:l≥r
  ·rw[yIp h];exact trivial
  ·rw[yIn h];refine⟨d7 j a _,d7 j a _,λb=>?_⟩;cases b
   ·exact lg j a k f _ _
   ·exact lg j a k f _ _
theorem AQ(a:0<n):∀(f){p:Array Nat}(j),p.Perm (zcV n).toArray->fy (λr:Array Nat=>r.Perm (zcV n).toArray) n (W.kas_bin f p j)
 |0,p,j,hp=>hp
 |f+1,p,j,hp=>by
  exact fy.bind (lg a hp _ _ _ _) λl _=>AQ a f (j+1) ((bubble_perm _ _ _).trans hp)
def uR(j:0<n):fy (λr:Array Nat=>r.Perm (zcV n).toArray) n (W.kas_sort n):=
 fy.bind (Cb j (Array.Perm.refl _) _) λr a=>by
  by_cases h:r.1<n
  ·rw[yIp h];exact AQ j _ _ a
  ·rw[yIn h];exact a
theorem wp_run{m:Type}{n:Nat}{P:m->Prop}{f:Nat->Nat->Bool}{l:Nat->Nat->(Bool->yah->Prop)->yah->Prop}{Q:m->yah->Prop}{s:yah}(o:∀i j C,i<n->j<n->C (f i j) s->l i j C s):∀{t:W.KasT m},fy P n t->Q (Srt.run f t) s->W.KasT.kasWp l t Q s
 |.ret a,h,q=>q
 |.ask i j k,⟨h1,h2,h3⟩,q=>o i j _ h1 h2 (wp_run o (h3 _) q)
theorem zD{l:Type}{P:l->Prop}:∀{t:W.KasT l},fy P d t->P (Srt.run e t)
 |.ret a,h=>h
 |.ask i j k,⟨_,_,h3⟩=>show P (Srt.run e (k (e i j))) from zD (h3 (e i j))
theorem run_eq{l:Type}{n:Nat}{P:l->Prop}{f g:Nat->Nat->Bool}:∀{t:W.KasT l},fy P n t->(∀i j,i<n->j<n->f i j=g i j)->Srt.run f t=Srt.run g t
 |.ret a,h,_=>rfl
 |.ask i j k,⟨h1,h2,h3⟩,e=>by
  show Srt.run f (k (f i j))=Srt.run g (k (g i j));rw[e i j h1 h2];exact run_eq (h3 _) e
def rH:((zcV vs.length).map λi=>vs.getD i Value.none)=vs:=by
 refine zbK (by simp) λi h1 h2=>?_;simp_all
noncomputable def dZ(h:Heap)(a:Addr)(vs:List yai):Heap:=((h.update a (Obj.mapSeq λ_=>#[])).push (seqObj "tuple" vs.toArray 0)).push (seqObj "list" #[] 0)
def yi(f)(F:s.heap.get? a=some (seqObj "list" vs.toArray n))(H:vs.length<64)(hk:2<=vs.length->∃κ,(∀(Q),Q κ {s with heap:=dZ s.heap a vs}->yar (model prog w) A (keyKind' vs.toArray) Q (λ_ _=>False) {s with heap:=dZ s.heap a vs})/\∀i j C,i<vs.length->j<vs.length->C (f i j) {s with heap:=dZ s.heap a vs}->W.kas_ask prog w A κ vs i j C {s with heap:=dZ s.heap a vs})(h:∀p:Array Nat,p.Perm (zcV vs.length).toArray->(2<=vs.length->p=Srt.run f (W.kas_sort vs.length))->d (.done (.ret .none)) {s with heap:=sortedHeap s.heap a vs (p.toList.map λi=>vs.getD i Value.none).toArray}):
  yar (model prog w) A (Builtin.«list.sort» ⟨[.ref a],[]⟩) d E s:=by
 obtain⟨I,t⟩:∃I,(s.heap.update a (Obj.mapSeq λ_=>#[])).get? a=some (seqObj "list" #[] I):=⟨_,get?_update_seq F λ_=>#[]⟩
 have l:(dZ s.heap a vs).get? a=some (seqObj "list" #[] I):=zas _ (zas _ t);have hz:vs.toArray.size<=yag:=by rw[zbj,yaf];lia
 rw[list_sort_plain a];refine yaa (listItems_at F rfl (yaa (listUpdate_at F rfl ?_ hz (zcS _))));refine yaa (seqEpoch_at t rfl (yaa (wpAny_newTuple ?_ (by simp_all))));refine yaa (wpAny_newList (yad ?_) (zcS _));by_cases h2:vs.length<2
 ·rw[yIp (by simp_all)];refine yaa (yab ?_);rw[yIp (by simp_all)];refine yaa (yab ?_);have O:((vs.toArray.zip vs.toArray).map (·.2))=((zcV vs.length).map λi=>vs.getD i Value.none).toArray:=by
   rw[List.zip_toArray,List.map_toArray,List.map_snd_zip (zcR _),rH]
  refine yaa (seqEpoch_at l rfl (yaa (listUpdate_at l rfl ?_ (zcS _) ?_)))
  ·rw[yIn (by simp)];refine yab ?_;have:=h (zcV vs.length).toArray (Array.Perm.refl _) (λz=>by lia);rw[<-O] at this;exact this
  ·rw[O,rH];lia
 ·rw[yIn (by simp_all)];let⟨κ,k1,Z⟩:=hk (by lia);refine yaa (yac (k1 (λq m=>q=κ/\m={s with heap:=dZ s.heap a vs}) ⟨rfl,rfl⟩) (λq m z=>?_) (λ_ _ z=>z.elim));let⟨rfl,rfl⟩:=z;rw[yIn (by simp_all)];have o:=uR (n:=vs.length) (by lia);refine yaa (yac (W.kat_run (Q:=λst m=>∃p:Array Nat,(arrOf st).map (·.2)=(p.toList.map λi=>vs.getD i Value.none).toArray/\failedOf st=none/\p.Perm (zcV vs.length).toArray/\p=Srt.run f (W.kas_sort vs.length)/\m={s with heap:=dZ s.heap a vs}) (G:=λp m=>(p.Perm (zcV vs.length).toArray/\p=Srt.run f (W.kas_sort vs.length))/\m={s with heap:=dZ s.heap a vs}) rfl (by lia) H ?_ (wp_run Z o ⟨⟨zD o,rfl⟩,rfl⟩)) ?_ (λ_ _ z=>z))
  ·rintro p S m hp1 y x ⟨⟨v,u⟩,rfl⟩;refine⟨p,W.kat_snds rfl y,x,v,u,rfl⟩
  ·rintro⟨⟨⟩,st⟩ m ⟨p,Y,X,L,U,rfl⟩;refine yaa (seqEpoch_at l rfl (yaa (listUpdate_at l rfl ?_ (zcS _) ?_)))
   ·rw[X];rw[yIn (by simp)];refine yab ?_;have:=h p L λ_=>U;rw[<-Y] at this;exact this
   ·have:=L.size_eq
    grind
mutual
theorem rF{h h':Heap}{b:Addr}{ob:Obj}(l:h.get? b=some ob)(hd:ob.cls≠ .type "tuple")(kp:∀c o,c≠b->h.get? c=some o->h'.get? c=some o):∀(d:yam){v:yai}{as:List Addr},cU d=true->Reads h v d as->Reads h' v d as
 |.int i,v,as,hk,hr=>by cases hr;exact .int ..
 |.str i,v,as,hk,hr=>by cases hr;exact .str ..
 |.tuple xs,v,as,hk,hr=>by
  cases hr with
  |@tuple a o vs m _ _ ho hc hdat hall=>
   have j:a≠b:=λe=>by
    subst e;rw[l] at ho;cases ho;exact hd hc
   exact .tuple (kp a o j ho) hc hdat (oK l hd kp xs hk hall)
 |.none,_,_,h,_=>by simp[cU] at h
 |.bool _,_,_,h,_=>by simp[cU] at h
 |.list _,_,_,h,_=>by simp[cU] at h
 |.dict _,_,_,h,_=>by simp[cU] at h
theorem oK{h h':Heap}{b:Addr}{ob:Obj}(a:h.get? b=some ob)(hd:ob.cls≠ .type "tuple")(kp:∀c o,c≠b->h.get? c=some o->h'.get? c=some o):∀(ds:List yam){vs:List yai}{as:List Addr},fu ds=true->ReadsAll h vs ds as->ReadsAll h' vs ds as
 |[],vs,as,hk,hr=>by cases hr;exact .nil
 |d::ds,vs,as,hk,hr=>by
  simp only[fu,zbR] at hk;cases hr with
  |cons hx hr=>exact .cons (rF a hd kp d hk.1 hx) (oK a hd kp ds hk.2 hr)
end
theorem gV{α j:Type}{f:α->j}:∀{a:List α}{out:List j},out.Perm (a.map f)->∃o':List α,o'.Perm a/\out=o'.map f
 |[],out,h=>⟨[],.refl _,by simp_all⟩
 |k::a,out,h=>by
  have q:f k∈out:=h.mem_iff.mpr (by simp);let⟨l1,l2,rfl⟩:=List.append_of_mem q;have h2:(l1++l2).Perm (a.map f):=by
   have:=zbL.symm.trans h;simp_all
  let⟨o',m,l⟩:=gV h2;let⟨o,n,s,u,t⟩:=List.map_eq_append_iff.mp l.symm;subst s;refine⟨o++k::n,zbL.trans (m.cons k),?_⟩
  grind
mutual
theorem EZ:∀x:yam,ie x x=false
 |.int i=>by simp only[ie];exact yDf (Int.lt_irrefl i)
 |.str i=>by simp only[ie];exact yDf (List.lt_irrefl _)
 |.tuple xs=>by simp only[ie];exact z7 xs
 |.none=>by simp only[ie]
 |.bool _=>by simp only[ie]
 |.list _=>by simp only[ie]
 |.dict _=>by simp only[ie]
theorem z7:∀x:List yam,dD x x=false
 |[]=>by simp only[dD]
 |x::xs=>by simp only[dD];rw[yIp trivial];exact z7 xs
end
def ue(h:cI (.int d) e=true):∃j,e=.int j:=by
 cases e<;>first|exact⟨_,rfl⟩|simp[cI] at h
def ud(h:cI (.str d) e=true):∃j,e=.str j:=by
 cases e<;>first|exact⟨_,rfl⟩|simp[cI] at h
def ua(h:cI (.tuple d) e=true):∃a,e=.tuple a/\e7 d a=true:=by
 cases e<;>first|refine⟨_,rfl,h⟩|simp[cI] at h
mutual
theorem EX:∀x y z:yam,cI x y=true->cI y z=true->cI x z=true->ie x y=true->ie y z=true->ie x z=true
 |.int i,y,z,a,b,_,h,g=>by
  let⟨j,rfl⟩:=ue a;let⟨k,rfl⟩:=ue b;simp only[ie,decide_eq_true_eq] at h g⊢;lia
 |.str i,y,z,a,b,_,h,g=>by
  let⟨j,rfl⟩:=ud a;let⟨k,rfl⟩:=ud b;simp only[ie,decide_eq_true_eq] at h g⊢;exact List.lt_trans h g
 |.tuple xs,y,z,a,b,c,h,g=>by
  let⟨m,rfl,a⟩:=ua a;let⟨l,rfl,b⟩:=ua b;simp only[ie] at h g⊢;exact EV xs m l a b c h g
 |.none,_,_,a,_,_,_,_=>by simp[cI] at a
 |.bool _,_,_,a,_,_,_,_=>by simp[cI] at a
 |.list _,_,_,a,_,_,_,_=>by simp[cI] at a
 |.dict _,_,_,a,_,_,_,_=>by simp[cI] at a
theorem EV:∀x y z:List yam,e7 x y=true->e7 y z=true->e7 x z=true->dD x y=true->dD y z=true->dD x z=true
 |[],[],z,_,_,_,h,_=>by simp[dD] at h
 |[],y::ys,[],_,_,_,_,g=>by simp[dD] at g
 |[],y::ys,z::zs,_,_,_,_,_=>by simp only[dD]
 |x::xs,[],z,_,_,_,h,_=>by simp[dD] at h
 |x::xs,y::ys,[],_,_,_,_,g=>by simp[dD] at g
 |x::xs,y::ys,z::zs,a,b,c,h,g=>by
  simp only[e7,zbR] at a b c;simp only[dD] at h g⊢;by_cases l:x=y
  ·rw[yIp l] at h;subst l;by_cases j:x=z
   ·rw[yIp j] at g⊢;exact EV xs ys zs a.2 b.2 c.2 h g
   ·rw[yIn j] at g⊢;exact g
  ·rw[yIn l] at h;by_cases j:y=z
   ·subst j;rw[yIn l];exact h
   ·rw[yIn j] at g;have t:=EX x y z a.1 b.1 c.1 h g;rw[yIn (λm=>by subst m;rw[EZ] at t;cases t)];exact t
end
mutual
theorem EW:∀x y:yam,cI x y=true->x≠y->ie x y=true∨ie y x=true
 |.int i,y,a,n=>by
  let⟨j,rfl⟩:=ue a;have:i≠j:=λe=>n (by rw[e]);simp only[ie,decide_eq_true_eq];lia
 |.str i,y,a,n=>by
  let⟨j,rfl⟩:=ud a;simp only[ie,decide_eq_true_eq];by_cases h:i.cps.toList<j.cps.toList
  ·exact .inl h
  ·by_cases g:j.cps.toList<i.cps.toList
   ·exact .inr g
   ·refine absurd ?_ n;have e:i.cps.toList=j.cps.toList:=List.le_antisymm g h;obtain⟨i⟩:=i;obtain⟨j⟩:=j;have e:i.toList=j.toList:=e;rw[show i=j from Array.toList_inj.mp e]
 |.tuple xs,y,a,n=>by
  let⟨l,rfl,a⟩:=ua a;simp only[ie];exact z6 xs l a λe=>n (by rw[e])
 |.none,_,a,_=>by simp[cI] at a
 |.bool _,_,a,_=>by simp[cI] at a
 |.list _,_,a,_=>by simp[cI] at a
 |.dict _,_,a,_=>by simp[cI] at a
theorem z6:∀x y:List yam,e7 x y=true->x≠y->dD x y=true∨dD y x=true
 |[],[],_,n=>absurd rfl n
 |[],y::ys,_,_=>.inl (by simp only[dD])
 |x::xs,[],_,_=>.inr (by simp only[dD])
 |x::xs,y::ys,a,n=>by
  simp only[e7,zbR] at a;simp only[dD];by_cases e:x=y
  ·subst e;rw[yIp rfl,yIp rfl];exact z6 xs ys a.2 λe=>n (by rw[e])
  ·rw[yIn e,yIn (Ne.symm e)];exact EW x y a.1 e
end
noncomputable def Uo(S:List yam)(j:∀x∈S,∀y∈S,cI x y=true):Srt.Ord {x // x∈S} where
 lt:=λa b=>ie a.1 b.1
 UA:=λa=>EZ a.1
 tr:=λa b c h g=>EX _ _ _ (j _ a.2 _ b.2) (j _ b.2 _ c.2) (j _ a.2 _ c.2) h g
 nt:=λa b c h=>by
  by_cases e:a.1=b.1
  ·simp_all
  ·obtain z|z:=EW _ _ (j _ a.2 _ b.2) e
   ·exact .inl z
   ·exact .inr (EX _ _ _ (j _ b.2 _ a.2) (j _ a.2 _ c.2) (j _ b.2 _ c.2) z h)
theorem HR{a:List (yam×Addr)}(hok:∀k∈a,cU k.1=true)(Y:∀k∈a,∀l∈a,cI k.1 l.1=true)(v:e.Perm (zcV n).toArray)(E:n=a.length)(C:2<=n->e=Srt.run (λi j=>ie (a.getD i q).1 (a.getD j q).1) (W.kas_sort n)):
  (e.toList.map λi=>a.getD i q).Pairwise (λx y=>ie y.1 x.1=false):=by
 have hsz  :=by have:=v.size_eq;simpa using this
 rw[List.pairwise_iff_getElem];intro i j o s H;have hi'  :=by simpa using o
 have hj'  :=by simpa using s
 have h2:2<=n:=by lia
 have G:∀i∈e.toList,i<a.length:=λi o=>by
  have:=(Array.perm_iff_toList_perm.mp v).mem_iff.mp o;simp_all
 cases a with
 |nil=>simp at E;lia
 |cons m rest=>
  generalize I:(m::rest).map (·.1)=S;have t:∀x∈S,∀y∈S,cI x y=true:=λx X y U=>by
   grind
  have F:∀i,((m::rest).getD i m).1∈S:=λi=>by
   rw[<-I];refine zcE.mpr ⟨_,?_,rfl⟩;by_cases h:i<(m::rest).length
   ·simp_all
   simp_all
  let⟨u,Q,Z,P⟩:=Srt.H9 (O:=Uo S t) (k:=λi=>⟨((m::rest).getD i m).1,F i⟩) (n:=n) (by lia);have L:Srt.run (λi j=>ie ((m::rest).getD i q).1 ((m::rest).getD j q).1) (W.kas_sort n)=u:=by
   rw[<-Q];refine run_eq (uR (by lia)) λi j o s=>?_;have d:∀i,i<n->(m::rest).getD i q=(m::rest).getD i m:=λi o=>by
    simp_all
   show _=ie ((m::rest).getD i m).1 ((m::rest).getD j m).1;rw[d i o,d j s]
  obtain rfl:e=u:=(C h2).trans L;have:=P i j (by lia) (by lia);have this:ie ((m::rest).getD (e.getD j 0) m).1 ((m::rest).getD (e.getD i 0) m).1=false:=this;simp_all
def Hx(b:Bool)(h:Heap)(k:yam×Addr):Prop:=isKey h k.1 k.2/\∃p r,Fs b p/\k.1=.tuple (p::r)
def yV(h:Heap)(k:yam×Addr):Prop:=isKey h k.1 k.2/\∃p r,k.1=.tuple (.int p::r)
def yV.g(i:yV h k):Hx false h k:=by let⟨a,p,r,e⟩:=i;refine⟨a,_,r,.inl ⟨rfl,p,rfl⟩,e⟩
noncomputable def tyB(b:Bool):String:=if b then "str" else "int"
def RG(f:Fs b z)(g:Reads h d z e)(s:yah):s.TypeIs d (tyB b):=by
 rcases f with⟨rfl,p,rfl⟩|⟨rfl,p,rfl⟩
 ·cases g;exact typeIs_int s _ _
 ·cases g;exact typeIs_str s _ _
theorem vH:∀{n:List (yam×Addr)},(∀k∈n,Hx g z k)->∃fs,W.KatTups z (n.map λk=>.ref k.2) fs/\fs.length=n.length/\∀f∈fs,∀s:yah,s.TypeIs f (tyB g)
 |[],_=>⟨[],.nil,rfl,by simp⟩
 |(d,a)::n,hk=>by
  let⟨fs,h1,h2,y⟩:=vH λk t=>hk k (zaC _ t);let⟨⟨E,C,F,u⟩,p,r,x,e⟩:=hk (d,a) (by simp);subst e;cases u with
  |@tuple _ o vs m _ _ ho hc hdat hall=>
   generalize q:vs.toList=l at hall;cases hall with
   |@cons v l' _ _ a1 b1 g1 t1=>
    refine⟨v::fs,.cons ho hc hdat ?_ h1,by simp[h2],λf j=>?_⟩
    ·rw[<-zaA,q];rfl
    ·obtain rfl|j:=zcq.mp j
     ·exact RG x g1
     ·exact y f j
theorem JW(G:∀k∈ks,Hx b s.heap k)(Q:∀k∈ks,∀l∈ks,cI k.1 l.1=true)(L:A.units+6<cLine)(i j)(C)(v)(u:j<ks.length)(h:C (ie ks[i].1 ks[j].1) s):
  W.kas_ask prog w A (tuples' true) (ks.map λk=>.ref k.2) i j C s:=by
 have F:=G ks[i] (zbG v);have E:=G ks[j] (zbG u);have a:=Q ks[i] (zbG v) ks[j] (zbG u);have e:∀n P,(ks.map λk=>Value.ref k.2).getD n Value.none=.ref ks[n].2:=λn P=>by simp_all
 unfold W.kas_ask;rw[e i v,e j u];generalize ks[i]=x at F a h;generalize ks[j]=y at E a h;let⟨⟨I,H,as,O⟩,p,r,X,Z⟩:=F;let⟨⟨l1,l2,bs,S⟩,q,t,U,Y⟩:=E;let⟨dx,ax⟩:=x;let⟨dy,ay⟩:=y;subst Z;subst Y;rw[dg] at H l2;cases O with
 |@tuple _ o us m _ _ ho hcl hdat hall=>
  cases S with
  |@tuple _ o2 vs m2 _ _ ho2 hcl2 hdat2 hall2=>
   have n1:=gc hall;have n2:=gc hall2;rw[zaR] at n1 n2;exact W.kat_lt ho hdat ho2 hdat2 (vG _ _ 0 (λz hz=>by have:=dQ hz;lia) (λz hz=>by have:=dQ hz;lia) I l1 a hall hall2 L (λ_=>⟨b,X,U⟩) (by lia) h)
def BR(j:d≠a)(e:h.get? d=some g):(dZ h a vs).get? d=some g:=
 zas _ (zas _ ((zat _ _ (Ne.symm j)).trans e))
def uQ{R:yah->Prop}(hh:A.handled=none)(hk:∀k∈ks,Hx b s.heap k)(hc:∀k∈ks,∀l∈ks,cI k.1 l.1=true)(h64:ks.length<64)(hu:A.units+20<cLine)(Z:∀{A':yal}{Q':List yai->yah->Prop}{L:yai->yah->Prop},A'.handled=none->(∀s1 (a:List (yam×Addr)),(∀b o,s.heap.get? b=some o->s1.heap.get? b=some o)->R s1->a.Perm ks->Q' (a.map λk=>Value.ref k.2) s1)->yar (model prog w) A' (collect (.ref d)) Q' L s)(h:∀(s1)(h2)(out:List (yam×Addr))(c),R s1->(∀b o,s.heap.get? b=some o->s1.heap.get? b=some o)->(∀b o,s1.heap.get? b=some o->h2.get? b=some o)->h2.get? s1.heap.objs.size=some (seqObj "list" (out.map λk=>Value.ref k.2).toArray c)->out.Perm ks->out.Pairwise (λx y=>ie y.1 x.1=false)->Q (.ref s1.heap.objs.size) {s1 with heap:=h2}):
  yar (model prog w) A (call (.builtin "sorted") [.ref d]) Q E s:=by
 refine zak kind_sorted plain_sorted entry_sorted (args_sorted1 _) ?_;refine yaa (yab ?_);refine yaa (Z ?_ λs1 a kp hR m=>?_)
 ·exact hh
 have hol  :=m.length_eq;generalize n:(a.map λk=>Value.ref k.2)=vs;have O:vs.length=a.length:=by grind
 refine yaa (wpAny_newList ?_ (by first|(rw[yaf];lia)|(rw[zbj,yaf];lia)));have I:(s1.heap.push (seqObj "list" vs.toArray 0)).get? s1.heap.objs.size=some (seqObj "list" vs.toArray 0):=zaS _ rfl;have u:∀k∈a,Hx b (dZ (s1.heap.push (seqObj "list" vs.toArray 0)) s1.heap.objs.size vs) k:=λk t=>by
  obtain⟨⟨k1,k2,as,hr⟩,r⟩:=hk k (m.mem_iff.mp t);exact⟨⟨k1,k2,as,rF I (λz=>by lia) (λc o X e=>BR X e) _ k1 (Reads.keeps (λb o e=>zas _ (kp b o e)) hr)⟩,r⟩
 have hc'  :=λk h1 l h2=>hc k (m.mem_iff.mp h1) l (m.mem_iff.mp h2);generalize ab:(PyData.none,(0:Addr))=df;have key:∀A',A'.units+8<cLine->∀{P:PySem.Fin->yah->Prop}{L:yai->yah->Prop},(∀p,p.Perm (zcV vs.length).toArray->(2<=vs.length->p=Srt.run (λi j=>ie (a.getD i df).1 (a.getD j df).1) (W.kas_sort vs.length))->P (.done (.ret .none)) {s1 with heap:=sortedHeap (s1.heap.push (seqObj "list" vs.toArray 0)) s1.heap.objs.size vs (p.toList.map λi=>vs.getD i Value.none).toArray})->
   yar (model prog w) A' (Builtin.«list.sort» ⟨[.ref s1.heap.objs.size],[]⟩) P L {s1 with heap:=s1.heap.push (seqObj "list" vs.toArray 0)}:=λA' hA P L hP=>by
  refine yi _ I (by lia) (λh2=>⟨tuples' true,λQ' Y=>?_,?_⟩) hP
  ·obtain⟨fs,f1,f2,f3⟩:=vH u;rw[n] at f1;cases b<;>exact W.kat_kind f1 (by lia) (λv hv A2 Q2 E2 s2 _ q=>wpAny_typeOf (f3 v hv s2) q) (by decide) Y
  ·intro i j C F hj hC;have e:∀i F,a.getD i df=a[i]:=λi F=>by simp[F]
   rw[e i (by lia),e j (by lia)] at hC;have:=JW (prog:=prog) (w:=w) (A:=A') u hc' (by lia) i j C (by lia) (by lia) hC;rw[n] at this;exact this
 refine yaa (yad (wpAny_call_entry slot_list_sort ⟨_,I,rfl⟩ entry_list_sort (key _ ?_ λp hp G=>⟨_,rfl,?_⟩) (args_list_sort _)))
 ·show A.units+1+1+8<cLine;lia
 ·obtain⟨c,U⟩:=sortedHeap_at I;have H:p.toList.Perm (zcV a.length):=by have:=Array.perm_iff_toList_perm.mp hp;simp_all
  have S:∀i∈p.toList,i<a.length:=λi F=>zci.mp (H.mem_iff.mp F);have eo:(p.toList.map λi=>vs.getD i Value.none)=(p.toList.map λi=>a.getD i df).map λk=>Value.ref k.2:=by
   rw[zcF];refine zaN λi F=>?_;have:=S i F;rw[<-n];simp[this]
  refine yab ⟨_,rfl,h s1 _ (p.toList.map λi=>a.getD i df) c hR kp (λb o e=>?_) (by rw[<-eo];exact U) ?_ ?_⟩
  ·have lb:=zcP e;rw[sortedHeap_old (zcG lb) (by rw[size_push'];exact zbs lb)];exact zas _ e
  ·refine(H.map _).trans ?_;have:(zcV a.length).map (λi=>a.getD i df)=a:=by
    refine zbK (by simp) λi h1 h2=>?_;simp[zal h2]
   rw[this];exact m
  ·exact HR (λk t=>(u k t).1.1) hc' hp O G
end M6
namespace L2
open PySem PySem.Spec PyProof.Rows M6
section
variable {σ:St}
def Inv.key(I:Inv X pins σ H s)(h1:cU d=true)(h2:d.depth<=6)(a:dH X.K H d (.ref e)):isKey s.heap d e:=
 ⟨h1,h2,I.reads d (.ref e) (.ref e) a rfl⟩
end
theorem kT{α:Type}(f:α->Addr):∀l:List α,Vals (l.map λx=>V.ref (f x)) (l.map λx=>Value.ref (f x))
 |[]=>.nil
 |x::l=>.cons rfl (kT f l)
end L2
namespace M6
open PySem PySem.Spec PyProof.Rows
def Fj{es:Array yav}(a:ItemsOf (λi v=>∃e,es[i]? =some e/\v=e.key) d es.size):d.toList=es.toList.map (·.key):=by
 refine zbq λi=>?_;cases z:d[i]? with
 |some v=>
  let⟨e,j,rfl⟩:=a.2 i v z;simp_all
 |none=>
  have:es.size<=i:=by rw[<-a.1];simp_all
  simp_all
def uP(v:A.handled=none)(u:(d==yas)=false)(x:kB s.heap d g ep)(j:IntsAre (g.toList.map (·.key)) ns)(y:g.size<64)(h:∀(h1 h2:Heap)(tk)(out)(a)(c),(∀b o,s.heap.get? b=some o->h1.get? b=some o)->(∀b o,h1.get? b=some o->h2.get? b=some o)->h2.get? h1.objs.size=some (seqObj "list" out.toArray c)->IntsAre out a->a.Perm ns->a.Pairwise (· <=·)->Q (.ref h1.objs.size) {s with heap:=h2,toks:=tk}):
  yar (model prog w) A (call (.builtin "sorted") [.ref d]) Q E s:=by
 refine zak kind_sorted plain_sorted entry_sorted (args_sorted1 _) ?_;unfold Builtin.«sorted»;refine yaa (m:=checkCount "sorted" 1 1 _) (yab ?_);refine yaa (Ga u ?_ x (by rw[yaf];lia) λh1 tk kp=>?_)
 ·exact v
 have l:(g.toList.map (·.key)).length=g.size:=by rw[zbV,zaR]
 generalize (g.toList.map (·.key))=vs at j l;refine yaa (wpAny_newList ?_ (by first|(rw[yaf];lia)|(rw[zbj,yaf];lia)));have q:(h1.push (seqObj "list" vs.toArray 0)).get? h1.objs.size=some (seqObj "list" vs.toArray 0):=zaS _ rfl;refine yaa (yad (wpAny_call_entry slot_list_sort ⟨_,q,rfl⟩ entry_list_sort (list_sort_tree q j (by lia) λout a G F C=>⟨_,rfl,?_⟩) (args_list_sort _)));let⟨c,n⟩:=sortedHeap_at (out:=out) q;refine yab ⟨_,rfl,h h1 _ tk out.toList a c kp (λb o e=>?_) (by rw[zaI];exact n) G F C⟩;have t:=zcP e;show(sortedHeap _ _ _ _).get? b=some o;rw[sortedHeap_old (zcG t) (by rw[size_push'];exact zbs t)];exact zas _ e
end M6
namespace L2
open PySem PySem.Spec PyProof.Rows M6
def OC(h:pF k u=true):RelV (kV k) u:=by
 rcases bP h with⟨i,t,rfl,rfl⟩|⟨x,t,rfl,rfl⟩
 ·exact⟨t,rfl⟩
 ·exact⟨t,rfl⟩
theorem vI{prog:yaj}{w:yak}:∀{a:List (Key×V)}{vs:List (Key×yai)}{es:List yav},KV a vs->Pairs (bA prog w) es vs->Vals (a.map λp=>kV p.1) (es.map (·.key))
 |[],_,es,h1,h2=>by cases h1;cases h2;exact .nil
 |p::a,_,es,h1,h2=>by
  cases h1 with
  |cons r t=>
   cases h2 with
   |cons g1 g2 g3=>
    refine .cons ?_ (vI t g3);show RelV (kV p.1) _;rw[r.1];exact OC g1
theorem vL:∀{ns:List Int}{a:List yai},Vals (ns.map V.int) a->IntsAre a ns
 |[],a,h=>by cases h;exact .nil
 |n::ns,a,h=>by
  cases h with
  |cons r t=>
   let⟨j,rfl⟩:=r;exact .cons n j (vL t)
def NI:List V->Hp->VK->Prop:=λj H Q=>∃(a:Addr)(h:List (Key×V)),j=[.ref a]/\H a=some (.dK h)/\∀p,H p=none->Q (.ref p) (upd H p (.lst (h.map λx=>kV x.1)))
def NH:List V->Hp->VK->Prop:=λl H Q=>∃(a:Addr)(j:List (Key×V))(ns:List Int),l=[.ref a]/\H a=some (.dK j)/\(j.map λx=>kV x.1)=ns.map V.int/\ns.length<64/\∀p (h:List Int),H p=none->h.Perm ns->h.Pairwise (· <=·)->Q (.ref p) (upd H p (.lst (h.map V.int)))
def NJ(j:Bool):R2:=λy x H Q=>∃a h k,x=.ref a/\y=kV k/\H a=some (.dK h)/\Q (.bl (j != (fN h k).isSome)) H
def Em(I:Inv X pins d H s)(e:H a=some (.dK g)):(a==yas)=false/\g.length<=yag/\∃es ep,kB s.heap a es ep/\Vals (g.map λx=>kV x.1) (es.toList.map (·.key)):=by
 let⟨z,hd,vs,l,o,es,ep,t,n,j,v,q,u⟩:=As I.hok e;refine⟨hd,z,es,ep,⟨o,t,n,j⟩,vI l q⟩
def yD(y:bB k X.A):cG X (.type "list") NI:=by
 intro n s F H G L Q I r h;let⟨a,j,rfl,e,q⟩:=h;let⟨u,rfl,ru⟩:=vals1 r;cases ru;let⟨v,hz,E,U,C,t⟩:=Em I e;have P:E.size=j.length:=by have:=t.length;simp_all
 refine W.kdl_call (Qq v) y.hd C (by simp_all) λS O m c kp g l=>?_;have ea  :=Fj l;refine⟨.ref s.heap.objs.size,_,I.laid (o:=.lst (j.map λx=>kV x.1)) kp (zcR _) ⟨by simp_all,m.toList,c,by rw[ea];exact t,by exact g⟩,rfl,q _ (I.hok.fresh (zcR _))⟩
def yC(L:bB k X.A):cG X (.builtin "sorted") NH:=by
 intro j s E H Y Z Q I r h;let⟨a,G,ns,rfl,e,O,x,q⟩:=h;let⟨u,rfl,ru⟩:=vals1 r;cases ru;let⟨F,hz,S,ep,P,v⟩:=Em I e;rw[O] at v;have hl:S.size=ns.length:=by have:=v.length;simpa using this.symm
 refine uP L.hd F P (vL v) (by lia) λh1 h2 m out l c t n g W y U=>?_;have C:Inv X j E H {s with heap:=h1,toks:=m}:=I.kept (t':=m) t;refine⟨.ref h1.objs.size,_,C.laid (a:=h1.objs.size) (t':=m) (o:=.lst (l.map V.int)) n (zcR _) ⟨by rw[zbV,y.length_eq,yaf];lia,out,c,iJ W,g⟩,rfl,q _ l (C.hok.fresh (zcR _)) y U⟩
def N7(o:X.A.units+1<cLine):iI X (yan .In) (NJ false):=by
 intro l s C H y x v u Q I m n h;let⟨a,j,k,rfl,rfl,e,q⟩:=h;obtain rfl:u=Value.ref a:=n;exact UM o I (l9.k e) m λE t=>⟨.bl (fN j k).isSome,H,t,rfl,by simpa using q⟩
def BH(o:X.A.units+1<cLine):iI X (yan .NotIn) (NJ true):=by
 intro l s C H y x v u Q I m n h;let⟨a,j,k,rfl,rfl,e,q⟩:=h;obtain rfl:u=Value.ref a:=n;exact JD o I (l9.k e) m λE t=>⟨.bl (!(fN j k).isSome),H,t,rfl,by simpa using q⟩
end L2
namespace M6
open PySem PySem.Spec PyProof.Rows
def BQ:typeLookup (.type "list") (Str.ofString "keys")=pure none:=by rfl
def BW(q:s.heap.get? a=some {cls:=.type "list",data:=.seq r k})(H:A.handled=none)(h:∀(h')(tk),(∀b o,s.heap.get? b=some o->h'.get? b=some o)->z none {s with heap:=h',toks:=tk}):yar (model prog w) A (getAttr? (.ref a) (Str.ofString "keys")) z E s:=by
 have v:=sub_AttributeError;have S:=PySem.F.slot_list_getattribute.lookup;have P:=PySem.F.slot_list_getattribute.bind (Value.ref a);have L:=am_list_getattr_none;have I:=BQ;let⟨O,g,d,tk,os⟩:=s;unfold getAttr? getAttrBy? getAttrBy getAttrByItsOwn callGetattribute boundAndCalled;generalize G:@PySem.call=C
 wp_walk
 subst G;refine call_meets PySem.F.slot_list_getattribute ⟨_,q,rfl⟩ am_entry_list_getattribute (PySem.F.args_list_getattribute_2 (Value.ref a) (Value.str (Str.ofString "keys") tk)) (meets_getattribute_miss_list a r k #[] (Str.ofString "keys") tk I (by rfl)) ⟨q,H,λh' j e l=>?_⟩;let⟨t,u,y⟩:=l.there;have m:Shared.TypeIs ⟨h',g,d,j,os⟩ (.ref e) "AttributeError":=⟨_,y,rfl⟩
 have x:=l.keeps;refine yaa (wpAny_isInstance m v ?_);refine yaa (wpAny_of_eq L ?_);refine yaa (wpAny_throw ?_);refine yaa (wpAny_isInstance m v ?_);exact yab (h h' j x)
def se:entryFor table "dict.update.loop"=some Builtin.«dict.update.loop»:=entryFor_of_tree (by rfl)
def rL:plainId "dict.update.loop"=true:=by decide+kernel
noncomputable def cK{K:Type}[DecidableEq K](ps:List (K×yai)):List (K×yai):=ps.foldl (λa p=>stored a p.1 p.2) []
section
variable {K:Type}[DecidableEq K]{knd:KeyKind prog w K}
def lZ(knd:KeyKind prog w K)(h:Heap)(v:yai)(p:K×yai):Prop:=∃t a o n,v=.ref t/\h.get? t=some o/\o.cls=.type "tuple"/\o.data=.seq #[a,p.2] n/\knd.is p.1 a=true
def lZ.at(x:lZ knd h d g)(e:∀b o,o.cls=.type "tuple"->h.get? b=some o->h'.get? b=some o):lZ knd h' d g:=by
 let⟨t,j,o,n,h1,h2,a,l⟩:=x;refine⟨t,j,o,n,h1,e t o a h2,a,l⟩
def JB(x:Heap.DictOf knd h d g)(e:∀o,h.get? d=some o->h'.get? d=some o):Heap.DictOf knd h' d g:=by
 let⟨o,j,l,h1,r⟩:=x;refine⟨o,j,l,e o h1,r⟩
def xx(a:List (K×yai))(k)(v):(stored a k v).length<=a.length+1:=by
 unfold stored;split
 ·simp
 simp
def n5(ps:List (K×yai))(p):cK (ps++[p])=stored (cK ps) p.1 p.2:=by
 unfold cK;simp
def qK(ps:List (K×yai)):(cK ps).length<=ps.length:=by
 have:∀(l h:List (K×yai)),(l.foldl (λh p=>stored h p.1 p.2) h).length<=h.length+l.length:=by
  intro l
  induction l with
  |nil=>simp
  |cons a r ih=>intro h;rw[zbZ,zbB];have:=ih (stored h a.1 a.2);have:=xx h a.1 a.2;lia
 have:=this ps [];simpa[cK] using this
abbrev KT(h h':Heap):Prop:=∀b o,o.cls=.type "tuple"->h.get? b=some o->h'.get? b=some o
def LY(prog:yaj)(w:yak)(A:yal)(d:Addr)(its:Array yai)(Dc:Nat->Heap->Prop)(PP:yai->Nat->Heap->Prop):Prop:=
 ∀(i)(v)(s),its[i]? =some v->PP v i s.heap->Dc i s.heap->∃t o k u n,v=.ref t/\s.heap.get? t=some o/\o.cls=.type "tuple"/\o.data=.seq #[k,u] n/\
  ∀{E:yai->yah->Prop}{Q:Unit->yah->Prop},(∀a h,Dc (i+1) a->KT s.heap a->Heap.SameBut d s.heap a->Q () {s with heap:=a,toks:=h})->yar (model prog w) A (dictSet d k u) Q E s
theorem yh{d:Addr}{R:Result->yah->Prop}{St:Nat->Heap->Prop}{Dc:Nat->Heap->Prop}{PP:yai->Nat->Heap->Prop}(W:Walks prog w A.in1 I [I,l] [I] its.size (λi v=>its[i]? =some v) St)(hSt:∀i h,St i h->∀o,h.get? I=some o->o.cls≠ .type "tuple")(hdI:d≠I)(hdl:d≠l)(dk:∀{i h h'},Dc i h->(∀o,h.get? d=some o->h'.get? d=some o)->KT h h'->Dc i h')(U:∀{v i h h'},PP v i h->KT h h'->PP v i h')(st:LY prog w A.in1 d its Dc PP):
  ∀(k i)(s),its.size - i=k->i<=its.size->St i s.heap->Dc i s.heap->(∀i v,its[i]? =some v->PP v i s.heap)->
   (∀(h')(tk),Dc its.size h'->(∀b o,b≠d->b≠I->s.heap.get? b=some o->h'.get? b=some o)->R (.ok (.ret .none)) {s with heap:=h',toks:=tk})->
   codeAny (model prog w) A (.builtin "dict.update.loop" ⟨[.ref d,.ref I,rawInt i,.none],[]⟩) R s:=by
 intro k
 induction k with
 |zero=>
  intro i s hk hi a S O P;obtain rfl:i=its.size:=by lia
  refine codeAny_builtin se ?_;refine yaa (W.done s _ _ a λh' tk m=>?_);exact yab (P h' tk (dk S (λo e=>m d o (by simp_all) e) λb o x e=>m b o (λz=>by
   grind) e) λb o h1 h2 e=>m b o (by simp_all) e)
 |succ k ih=>
  intro i s hk hi a S O P;have C:i<its.size:=by lia
  refine codeAny_builtin se ?_;refine yaa (W.item i s _ _ C a λv h' tk Z y m=>?_);have kt:KT s.heap h':=λb o x e=>m b o (λz=>by
   grind) e
  let⟨t,o,ku,u,n,rfl,X,x,hd,sd⟩:=st i v {s with heap:=h',toks:=tk} Z (U (O i v Z) kt) (dk S (λo e=>m d o (by simp_all) e) kt);refine yaa (yad ?_);refine yaa (wpAny_tryCatch ?_);refine yaa (wpAny_typeOf ⟨o,X,x⟩ ?_);refine yaa (wpAny_seqItems X hd (yab ?_));refine yad (sd λq G E H hs=>?_);have e9:∀b o,b≠d->h'.get? b=some o->q.get? b=some o:=λb o Y e=>(hs.2 b Y).trans e;refine yab ⟨plainId_quiet rL _,?_⟩;refine ih (i+1) {s with heap:=q,toks:=G} (by lia) C (W.frame _ h' q y λb Y o e=>e9 b o ?_ e) E (λj v h1=>U (O j v h1) λb o x e=>H b o x (kt b o x e)) λh3 F Q L=>
   P h3 F Q λb o h1 h2 e=>L b o h1 h2 (e9 b o h1 (m b o (by simp_all) e))
  grind
def yF(I:A.handled=none)(H:s.heap.get? l=some {cls:=.type "list",data:=.seq its c})(W:Dc 0 (s.heap.push {cls:=.type "dict",data:=.dict #[]}))(L:∀{i h h'},Dc i h->(∀o,h.get? s.heap.objs.size=some o->h'.get? s.heap.objs.size=some o)->KT h h'->Dc i h')(C:∀{v i h h'},PP v i h->KT h h'->PP v i h')(st:LY prog w A.in1.in1 s.heap.objs.size its Dc PP)(P:∀i v,its[i]? =some v->PP v i s.heap)(h:∀(h')(tk),Dc its.size h'->(∀b o,s.heap.get? b=some o->h'.get? b=some o)->Q (.ref s.heap.objs.size) {s with heap:=h',toks:=tk}):
  yar (model prog w) A (call (.type "dict") [.ref l]) Q E s:=by
 refine callType_codes PySem.F.kt_called_dict (PySem.F.kt_typeCall_dict_1 (.ref l)) PySem.F.entry_dict_init (kt_code_dict_new (.ref l) (Q₁:=λu j=>u=.ref s.heap.objs.size/\j={s with heap:=s.heap.push {cls:=.type "dict",data:=.dict #[]}}) ⟨rfl,rfl⟩) λobj j z=>?_;let⟨rfl,rfl⟩:=z;have m:(s.heap.push {cls:=Value.type "dict",data:=Data.dict #[]}).get? s.heap.objs.size=some {cls:=Value.type "dict",data:=Data.dict #[]}:=zaS _ rfl;have n:(s.heap.push {cls:=Value.type "dict",data:=Data.dict #[]}).get? l=some {cls:=.type "list",data:=.seq its c}:=zas _ H;have q:Shared.TypeIs {s with heap:=s.heap.push {cls:=Value.type "dict",data:=Data.dict #[]}} (.ref s.heap.objs.size) "dict":=⟨_,m,rfl⟩
 refine⟨q,PySem.F.args_dict_init_2 _ _,?_⟩;refine yaa (yaa (wpAny_notOrdered_dict q (yab ?_)));refine yaa (wpAny_typeOf ⟨_,n,rfl⟩ ?_);refine yaa (BW n I λh1 O a=>?_);refine yaa (wpAny_rule ?_);have t:h1.IsList l its:=⟨_,a _ _ n,rfl,c,rfl⟩
 refine yaa (wpAny_pyIter_list t ?_);refine yab ⟨plainId_quiet rL _,?_⟩;have lS  :=zcP (a _ _ m);have ll  :=zcP H;have kp2  :=λb o e=>a b o (zas _ e);refine yh (Dc:=Dc) (PP:=PP) (Walks.list (A:=A.in1.in1) I h1.objs.size l (zcG (zcK ll lS)) its) (λi h z o e=>?_) (zcG lS) (zcJ ll) L C st its.size 0 _ rfl (zcS _) ?_
  (L W (λo e=>zas _ (a _ _ e)) λb o _ e=>zas _ (a _ _ e)) (λi v h2=>C (P i v h2) λb o _ e=>zas _ (kp2 b o e)) λh' tk y x=>⟨rfl,h h' tk y λb o e=>?_⟩
 ·let⟨X,S,U,_⟩:=z.1;lia
 ·exact⟨⟨_,zaS _ rfl,rfl,rfl⟩,t.at λo e=>zas _ e⟩
 ·have G:=zcP e;exact x b o (zcG G) (zcG (zcK G lS)) (zas _ (kp2 b o e))
def yE(W:A.handled=none)(U:s.heap.get? l=some {cls:=.type "list",data:=.seq its c})(m:its.size=d.length)(P:∀(i:Nat)(v)(p),its[i]? =some v->d[i]? =some p->lZ knd s.heap v p)(Z:d.length<=1000)(h:∀(h')(tk),Heap.DictOf knd h' s.heap.objs.size (cK d)->(∀b o,s.heap.get? b=some o->h'.get? b=some o)->Q (.ref s.heap.objs.size) {s with heap:=h',toks:=tk}):
  yar (model prog w) A (call (.type "dict") [.ref l]) Q E s:=by
 refine yF (Dc:=λi h=>Heap.DictOf knd h s.heap.objs.size (cK (d.take i))) (PP:=λv i h=>∃p,d[i]? =some p/\lZ knd h v p) W U (Heap.DictOf.new s.heap) (λx e _=>JB x e) (λ⟨p,e,x⟩ k=>⟨p,e,x.at k⟩) (λi v X C z y=>?_) (λi v C=>?_) λh' tk y=>h h' tk (by rw[m,zbF] at y;exact y)
 ·let⟨p,a,t,O,o,n,rfl,S,I,hd,G⟩:=z;refine⟨t,o,O,p.2,n,rfl,S,I,hd,λ{E Q} q=>wpAny_dictSet_pairs G y (λj u L=>q j _ ?_ (λb o I e=>(L.2 b λz=>?_).trans e) L) ?_⟩
  ·show Heap.DictOf knd j _ (cK (d.take (i+1)));rw[List.take_succ,a];show Heap.DictOf knd j _ (cK (d.take i++[p]));rw[n5];exact u
  ·subst z;let⟨Y,_,_,F,H,_⟩:=y;rw[F] at e;cases e;rw[H.1] at I;lia
  ·have h2:=qK (d.take i);rw[zbA] at h2;rw[yaf];lia
 ·have  :=(zae.mp C).1;have a:d[i]? =some d[i]:=zal (by lia);refine⟨_,a,P i v _ C a⟩
end
end M6
namespace L2
open PySem PySem.Spec PyProof.Rows M6
noncomputable def putAll(a:List (Key×V)):List (Key×V):=a.foldl (λh p=>putK h p.1 p.2) []
theorem oO:∀{j:List (Key×V)}{vs:List (Key×yai)},KV j vs->∀{a:List (Key×V)}{b:List (Key×yai)},KV a b->KV (j.foldl (λl p=>putK l p.1 p.2) a) (vs.foldl (λl p=>stored l p.1 p.2) b)
 |[],_,h,a,b,g=>by cases h;exact g
 |p::j,_,h,a,b,g=>by
  cases h with
  |@cons _ q _ vs r t=>
   show KV (j.foldl _ (putK a p.1 p.2)) (vs.foldl _ (stored b q.1 q.2));rw[<-r.1];exact oO t (g.put p.1 r.2)
def xT(j):(putAll j).length<=j.length:=by
 have:∀(l h:List (Key×V)),(l.foldl (λh p=>putK h p.1 p.2) h).length<=h.length+l.length:=by
  intro l
  induction l with
  |nil=>simp
  |cons a r ih=>intro h;rw[zbZ,zbB];have:=ih (putK h a.1 a.2);have:=ef h a.1 a.2;lia
 have:=this j [];simpa[putAll] using this
def PD(K:yaJ)(H:Hp)(ts:List Addr)(a:List (Key×V)):Prop:=Paired (λt (p:Key×V)=>eO K H t [kV p.1,p.2]) ts a
def NL(K:yaJ):List V->Hp->VK->Prop:=λj H Q=>∃(a:Addr)(ts:List Addr)(h:List (Key×V)),j=[.ref a]/\H a=some (.lst (ts.map V.ref))/\PD K H ts h/\h.length<=1000/\∀p,H p=none->Q (.ref p) (upd H p (.dK (putAll h)))
theorem rE:∀{ts:List Addr}{a:List yai},Vals (ts.map V.ref) a->a=ts.map Value.ref
 |[],a,h=>by cases h;rfl
 |t::ts,a,h=>by
  cases h with
  |cons r g=>
   obtain rfl:_=Value.ref t:=r;rw[rE g];rfl
theorem Ew(I:Inv X d e k z):∀{ts:List Addr}{a:List (Key×V)},PD X.K k ts a->∃ps:List (Key×yai),KV a ps/\ps.length=ts.length/\∀(i:Nat)(v)(p),(ts.map Value.ref)[i]? =some v->ps[i]? =some p->lZ (bA X.prog X.w) z.heap v p
 |[],_,h=>by cases h;refine⟨[],.nil,rfl,λi v p h=>by simp at h⟩
 |t::ts,_,h=>by
  cases h with
  |@cons _ q _ a r g=>
   let⟨ps,h1,h2,G⟩:=Ew I g;let⟨C,j,⟨o,E,F,n,hd⟩,_⟩:=I.tuple r;cases j with
   |@cons _ ku _ its' g1 j=>
    cases j with
    |@cons _ u _ its'' g2 j=>
     cases j;refine⟨(q.1,u)::ps,.cons ⟨rfl,g2⟩ h1,by simp[h2],λi v p x m=>?_⟩;cases i with
     |zero=>
      simp only[zcs,List.getElem?_cons_zero,zcU.injEq] at x m;subst x;subst m;refine⟨t,ku,o,n,rfl,E,F,hd,jW g1⟩
     |succ i=>
      exact G i v p x m
def yG(x:bB k X.A):cG X (.type "dict") (NL X.K):=by
 intro l s F H G L Q I r h;let⟨a,ts,j,rfl,e,y,W,q⟩:=h;let⟨u,rfl,ru⟩:=vals1 r;cases ru;let⟨hz,t,c,n,g⟩:=(show bK X.prog X.w H s.heap a (.lst (ts.map V.ref)) from I.hok a _ e)
 have C:=rE n;let⟨P,m,U,p3⟩:=Ew I y;have S:=Paired.length m;refine yE x.hd g (by simp_all) (λi v p h1 h2=>p3 i v p (by rw[<-C];simpa using h1) h2) (by lia) λY O E kp=>?_;have dd'  :=E;refine⟨.ref s.heap.objs.size,_,I.laid (o:=.dK (putAll j)) kp (zcR _) ⟨by have:=xT j;rw[yaf];lia,beq_eq_false_iff_ne.mpr (Ne.symm (zcG I.big)),_,oO m .nil,dd'⟩,rfl,q _ (I.hok.fresh (zcR _))⟩
end L2
namespace M
open PySem PySem.Spec PyProof.Rows L2 M6
noncomputable def keyOf:D->Option Key
 |.int i=>some (.inl i)
 |.str x=>some (.inr x)
 |_=>none
noncomputable def kD:Key->D
 |.inl i=>.int i
 |.inr x=>.str x
noncomputable def lH(a:List Key)(k:Key):Bool:=a.any λj=>decide (j=k)
def jJ(h:Rep K g d v)(e:keyOf d=some k):v=kV k:=by
 cases d<;>simp only[keyOf] at e<;>cases e
 ·simpa[Rep,kV] using h
 ·simpa[Rep,kV] using h
def Ih(h:Rep K g d v)(e:keyOf (aT S d)=some k):v=kV k:=by
 cases z:aT S d<;>rw[z] at e<;>simp only[keyOf] at e<;>cases e
 ·exact cL h z
 ·exact b9 h z
def OD(k):Rep K d (kD k) (kV k):=by cases k<;>simp[kD,kV,Rep]
theorem Ac:∀(a:List (Key×V)),aD K d ((a.map (·.1)).map kD) (a.map λx=>kV x.1)
 |[]=>.nil
 |p::r=>.cons (OD p.1) (Ac r)
def uw:AE:=λ_ S Q=>Q (.new (.dct [] [])) S
def Iu:∀a H Q,aX K uw a H Q->CZ a H Q:=by
 intro a H Q z p h;let⟨w,j,S,l,ok,env,q,bk⟩:=z;exact bk (.new (.dct [] [])) S _ w _ .refl (ok.alloc h) (ok.fresh h ⟨[],rfl,rfl,.nil⟩) q
def qc(a b:AE):AE:=λh S Q=>a h S λn o=>b h o λm l=>∃j ds k d,aT l n.d=.dct j ds/\keyOf m.d=some k/\dR j ds k=some d/\Q (.dat d) l
def Iv:∀o H Q,aX K (qc e g) o H Q->C1 (aX K e) (aX K g) o H Q:=by
 intro o H Q z;let⟨w,u,S,Qa,ok,env,q,bk⟩:=z;refine⟨w,u,S,_,ok,env,q,.go λZ P X E H1 n t j F=>?_⟩;refine⟨E,u,P,_,t,env.le n,F,.go λY S2 W U H2 m l h s=>?_⟩;let⟨ks,ds,k,d,C,y,x,q2⟩:=s;let⟨e,G,rfl,h1,rfl,I⟩:=dW l (j.le m) C;let⟨v,O,L⟩:=iS I x;rw[jJ h y];refine⟨e,v,rfl,?_,bk.dat (n.trans m) l L q2⟩;rw[<-O];exact l9.k h1
def uv(a b c:AE):AS:=λD h S=>c h S λm t=>a h t λq s=>b h s λo l=>∃n j ds k,q.d=.loc n/\keyOf o.d=some k/\l[n]? =some (some (.dct j ds))/\ds.length<1000/\D.nx h (l.set n (some (j9 j ds k m.d)))
def Ir{a b c:AE}:∀D u H,jr K (uv a b c) D u H->DY (aX K a) (aX K b) (aX K c) D u H:=by
 intro D u H z;let⟨w,v,S,Da,ok,env,q,bk⟩:=z;refine⟨w,v,S,_,ok,env,q,.go λr3 S1 v3 W H1 l E o X=>?_⟩;refine⟨W,v,S1,_,E,env.le l,X,.go λr1 Z v1 U H2 j C m q2=>?_⟩;refine⟨U,v,Z,_,C,(env.le l).le j,q2,.go λr2 S3 v2 Q H3 h t s x=>?_⟩;let⟨n,ks,ds,k,P,O,G,hl,q3⟩:=x;rw[P] at m;let⟨a,F,rfl,Y,h1,rfl,L⟩:=pP t (m.le h) G;rw[jJ s O];have I:F.length=ds.length:=by have:=L.length;simp_all
 refine⟨a,_,rfl,CF.k h1 (by rw[yaf];lia),?_⟩;have y:=t.put G Y (jM (k:=k) (o.le (j.trans h)) L);exact bk.nx v _ u Q _ ((l.trans j).trans h) y (((env.le l).le j).le h) q3
def Gx(a:Bool):A2:=λx y S Q=>match aT S y with
 |.dct ks _=>∃k,keyOf (aT S x)=some k/\Q (.dat (.bl (a != lH ks k))) S
 |_=>False
def LN:∀x y H Q,Ce K (Gx neg) x y H Q->NJ neg x y H Q:=by
 intro x y H Q h;let⟨w,d,e,S,t,ok,n,m,q,bk⟩:=h;unfold Gx at q;cases z:aT S e<;>rw[z] at q<;>first|exact q.elim|skip
 let⟨k,l,q⟩:=q;let⟨a,j,rfl,h1,rfl,s⟩:=dW ok m z;refine⟨a,j,k,rfl,Ih n l,h1,bk.dat .refl ok .bl ?_⟩;have o:lH (j.map (·.1)) k=(fN j k).isSome:=by
  unfold lH;rw[zcC];exact nY k j
 rw[<-o];exact q
def Pn:AN:=λds S Q=>∃d a h,ds=[d]/\aT S d=.dct a h/\Q (.new (.lst (a.map kD))) S
def Pf:AN:=λds S Q=>∃d h,∃ns:List Int,ds=[d]/\aT S d=.dct (ns.map Sum.inl) h/\ns.length<64/\∀a:List Int,a.Perm ns->a.Pairwise (· <=·)->Q (.new (.lst (a.map D.int))) S
noncomputable def FO(a:List Key×List D)(p:Key×D):List Key×List D:=if lH a.1 p.1=true then(a.1,(a.1.zip a.2).map λx=>if x.1=p.1 then p.2 else x.2) else(a.1++[p.1],a.2++[p.2])
noncomputable def yw(ps:List (Key×D)):List Key×List D:=ps.foldl FO ([],[])
def Pw:AN:=λds S Q=>∃d,∃a:List (Key×D),ds=[d]/\aT S d=.lst (a.map λp=>.tup [kD p.1,p.2])/\a.length<=1000/\Q (.new (.dct (yw a).1 (yw a).2)) S
def Az(a)(p):j9 a.1 a.2 p.1 p.2=.dct (FO a p).1 (FO a p).2:=by
 unfold j9 FO lH;split<;>rfl
theorem vW{w:Wd}:∀{ps:List (Key×D)}{j:List (Key×V)},Paired (λ(p:Key×D)(q:Key×V)=>p.1=q.1/\Rep K w p.2 q.2) ps j->∀{a:List Key×List D}{b:List (Key×V)},b.map (·.1)=a.1->aD K w a.2 (b.map (·.2))->
  (j.foldl (λl p=>putK l p.1 p.2) b).map (·.1)=(ps.foldl FO a).1/\aD K w (ps.foldl FO a).2 ((j.foldl (λl p=>putK l p.1 p.2) b).map (·.2))
 |[],_,h,a,b,g1,g2=>by cases h;exact⟨g1,g2⟩
 |p::ps,_,h,a,b,g1,g2=>by
  cases h with
  |@cons _ q _ j r t=>
   have m:=jM (k:=p.1) r.2 g2;rw[g1] at m;rw[show j9 a.1 a.2 p.1 p.2=_ from Az a p] at m;let⟨o,n,u,s⟩:=m;injection n with n;subst n;rw[r.1] at u s;exact vW t u s
theorem rQ(ok:Ok K d e g):∀{ps:List (Key×D)}{j:List V},aD K d (ps.map λp=>D.tup [kD p.1,p.2]) j->∃ts a,j=ts.map V.ref/\PD K e ts a/\Paired (λ(p:Key×D)(q:Key×V)=>p.1=q.1/\Rep K d p.2 q.2) ps a
 |[],j,h=>⟨[],[],by simpa[aD] using h,.nil,.nil⟩
 |p::ps,j,h=>by
  obtain⟨x,r,rfl,h1,h2⟩:=h;obtain⟨ts,a,rfl,y,v⟩:=rQ ok h2;obtain⟨t,E,rfl,u,s⟩:=h1;obtain⟨m,G,rfl,o,l,F,rfl,n,rfl⟩:=s;have C:m=kV p.1:=jJ o (by cases p.1<;>rfl);subst C;exact⟨t::ts,(p.1,l)::a,rfl,.cons (eO.same ok.base u) y,.cons ⟨rfl,n⟩ v⟩
section
variable {o i:Expr}
theorem jQ:GE X (.Dict [] [] pos) uw:=⟨mE L2.jQ Iu⟩
def oW(a:X.A.units+1<cLine)(j:GE X o ta)(l:GE X i tb)(h:KG i):GE X (.Subscript o i pos) (qc ta tb):=⟨mE (L2.dY a j.p l.p h) Iv⟩
def vj(j:X.A.units+1<cLine)(m:GE X o ta)(n:GE X i tb)(h:GE X value d)(l:yat value (some (.Subscript o i pos')) pos.line X.env=pure false):GS X (.Assign [.Subscript o i pos'] value pos) (uv ta tb d):=
 ⟨mS (L2.iO j m.p n.p h.p l) Ir⟩
def Lw(a:bB k X.A):uA X (yan .In) (Gx false):=⟨m2 (N7 (dI a)) LN⟩
def EJ(a:bB k X.A):uA X (yan .NotIn) (Gx true):=⟨m2 (BH (dI a)) LN⟩
def IY(n:bB k X.A):uz X (.type "list") Pn:=⟨mC (yD n) λs H Q h=>by
 let⟨w,ds,S,y,ok,rep,⟨d,t,x,rfl,z,q⟩,bk⟩:=h;let⟨v,rfl,m⟩:=f9 rep;let⟨a,j,rfl,h1,rfl,u⟩:=dW ok m z;refine⟨a,j,rfl,h1,λp l=>bk (.new (.lst _)) S _ w _ .refl (ok.alloc l) (ok.fresh l ⟨_,rfl,Ac j⟩) q⟩⟩
def zW(s:bB k X.A):uz X (.builtin "sorted") Pf:=⟨mC (yC s) λC H Q h=>by
 let⟨w,ds,S,G,ok,rep,⟨d,F,ns,rfl,z,t,q⟩,bk⟩:=h;let⟨v,rfl,n⟩:=f9 rep;let⟨a,j,rfl,h1,h2,E⟩:=dW ok n z;refine⟨a,j,ns,rfl,h1,?_,t,λp l m y u=>bk (.new (.lst _)) S _ w _ .refl (ok.alloc m) (ok.fresh m ⟨_,rfl,dM l⟩) (q l y u)⟩;have:(j.map λx=>kV x.1)=(j.map (·.1)).map kV:=by rw[zcF];rfl
 rw[this,h2,zcF];rfl⟩
def zX(x:bB k X.A):uz X (.type "dict") Pw:=⟨mC (yG x) λt H Q h=>by
 let⟨w,ds,S,G,ok,rep,⟨d,l,rfl,z,F,q⟩,bk⟩:=h;let⟨v,rfl,u⟩:=f9 rep;let⟨a,t,rfl,h1,h2⟩:=bh ok u z;let⟨ts,j,rfl,y,s⟩:=rQ ok h2;have n:=Paired.length s;let⟨E,C⟩:=vW s (a:=([],[])) (b:=[]) rfl .nil;refine⟨a,ts,j,rfl,h1,y,by lia,λp m=>bk (.new (.dct (yw l).1 (yw l).2)) S _ w _ .refl (ok.alloc m) (ok.fresh m ⟨_,rfl,E,C⟩) q⟩⟩
end
def wY(d:D):Prop:=cg d=true/\cU (py d)=true/\(py d).depth<=6/\∃a,d=.tup a
def Ft(ok:Ok K e H S)(h:Rep K e d v)(g:wY d):∃b,v=.ref b/\dH K H (py d) (.ref b):=by
 obtain⟨a,m,l,n,rfl⟩:=g;have h2:=h;obtain⟨b,j,rfl,_⟩:=h2;have:=zw ok h (by simpa[aT] using a);exact⟨b,rfl,by simpa[aT] using this⟩
theorem i6:∀{o:List (D×Addr)},(∀x∈o,Rep K d x.1 (.ref x.2))->aD K d (o.map (·.1)) (o.map λx=>V.ref x.2)
 |[],_=>.nil
 |x::o,h=>.cons (h x (by simp)) (i6 λy a=>h y (zaC _ a))
def CM(h:H a=some d):upd H a d=H:=by
 funext b;by_cases j:b=a
 ·subst j;rw[bW,h]
 ·rw[aR j]
inductive yX(p:Nat)(ks:List Key):List D->aK->List D->aK->Prop
 |nil {ds:List D}{S:aK}:yX p ks ds S ds S
 |step {ds ds' es:List D}{S S':aK}{m:Nat} (h:S[m]? =some (some (.lst es))) (hm:m≠p) (t:yX p ks (ds.map (sb m (.lst es))) ((S.set m none).set p (some (.dct ks (ds.map (sb m (.lst es)))))) ds' S'):yX p ks ds S ds' S'
def Ju{p:Nat}{q:List Key}{ds o:List D}{C:aK}(h:yX p q ds S o C):∀{w:Wd}{H:Hp},S[p]? =some (some (.dct q ds))->Ok K w H S->∃E,w.le E/\Ok K E H C:=by
 induction h with
 |nil=>exact λ_ ok=>⟨_,.refl,ok⟩
 |@step ds o es S C m hS hm t ih=>
  intro w H F ok;let⟨I,j,v,f⟩:=RH ok hS;have X:p<S.length:=by
   grind
  have y:(S.set m none)[p]? =some (some (.dct q ds)):=by rw[zaE hm];exact F
  let⟨a,u,U,W,Q,n,rfl,P,O⟩:=ok.live p _ F;have k1'  :=j.r _ _ U;have L:lP K I (.dct q (ds.map (sb m (.lst es)))) (.dK n):=⟨n,rfl,P,xF j f O⟩
  have l:=v.put y k1' L;rw[CM Q] at l;let⟨G,x,s⟩:=ih (by simp_all) l;refine⟨G,j.trans x,s⟩
def A5(a:AE):AE:=λn S Q=>a n S λr m=>∃p j ds h l,r=.dat (.loc p)/\m[p]? =some (some (.dct j ds))/\yX p j ds m h l/\Q (.dat (.loc p)) l
def MP:∀l H Q,aX K (A5 d) l H Q->aX K d l H Q:=by
 intro l H Q z;let⟨w,t,S,P,ok,env,q,bk⟩:=z;refine⟨w,t,S,_,ok,env,q,λr O v G U s o h m=>?_⟩;let⟨p,I,ds,E,L,C,y,x,u⟩:=m;subst C;let⟨F,j,n⟩:=Ju x y o;exact bk.dat (s.trans j) n (h.le j) u
section
variable {e:Expr}
def RI(h:GE X e d):GE X e (A5 d):=⟨mE h.p MP⟩
end
end M
namespace M7
open PySem PySem.Spec PyProof.Rows M5
def fZ:qe d↔d.toList.Pairwise (· < ·):=by
 rw[List.pairwise_iff_getElem];constructor
 ·intro h i j n m a;have:=h i j a (by simp_all) (by simp_all);simp_all
 ·intro h i j a m n;simp_all
def uZ(m:qe d)(y:(d[SetTable.below d j]? ==some j)=false):qe (SetTable.insertAt d (SetTable.below d j) j):=by
 obtain⟨h1,h2,u⟩:=ki m j;rw[fZ] at m⊢;have e:(SetTable.insertAt d (SetTable.below d j) j).toList=d.toList.take (SetTable.below d j)++[j]++d.toList.drop (SetTable.below d j):=by
  unfold SetTable.insertAt;simp[zaJ];exact zan (by simp)
 rw[e];generalize SetTable.below d j=p at*;have v:∀x∈d.toList.take p,x<j:=λx l=>by
  obtain⟨i,s,rfl⟩:=zaL l;rw[zbA] at s;simp_all
 have hd:∀x∈d.toList.drop p,j<x:=λx l=>by
  obtain⟨i,s,rfl⟩:=zaL l;have o:p+i<d.size:=by simp at s;lia
  have H:=u (p+i) o (by lia);have C:(d.toList.drop p)[i]=d[p+i]:=by simp
  have n:p<d.size:=by lia
  have G:d[p]≠j:=λz=>by
   simp_all
  obtain rfl|z:=Nat.eq_zero_or_pos i
  ·have:d[p+0]=d[p]:=rfl;lia
  ·have F:=u p n (zcR _);have E:=fZ.mpr m p (p+i) (by lia) o n;lia
 rw[List.pairwise_append,List.pairwise_append];refine⟨⟨m.sublist (List.take_sublist ..),by simp,λa q b t=>?_⟩,m.sublist (List.drop_sublist ..),λa q b t=>?_⟩
 ·simp_all
 ·obtain q|q:=zbU.mp q
  ·exact zcK (v a q) (hd b t)
  simp_all
theorem nM{α:Type}(f:Nat->Option α):∀l:List Nat,(zcY (λx=>x.1) (List.filterMap (λj=>Option.map (λx=>(j,x)) (f j)) l)).Sublist l
 |[]=>.slnil
 |a::l=>by
  rw[zaK];cases f a with
  |none=>exact .cons a (nM f l)
  |some x=>exact .cons₂ a (nM f l)
def qW(t:SetTable):Prop:=t.dummies=#[]/\(t.plain=true->qe t.place)
def gx(t:SetTable)(n):qW (t.standIn n):=⟨rfl,λz=>by cases z⟩
def Jc(h:qW t):qW (t.orStandIn n):=by
 unfold SetTable.orStandIn;split
 ·exact h
 ·exact gx t n
def BN(h:SetTable.laid mask finger moves led d e=some (t,g)):qW t:=by
 unfold SetTable.laid at h;cases j:SetTable.layClean mask e with
 |none=>rw[j] at h;cases h
 |some ow=>
  rw[j] at h;have h:some _=some _:=h;injection h with h;injection h with h1 h2;subst h1;refine⟨rfl,λ_=>?_⟩;rw[fZ];exact List.Pairwise.sublist (nM _ _) List.pairwise_lt_range
def ya:qW (relayAll t es n).2.1:=by
 unfold relayAll;split
 ·rename_i j a h;dsimp only;split
  ·exact BN h
  ·exact gx _ _
 ·exact gx _ _
theorem oR{t:SetTable}(hd:t.dummies=#[]){hashAt:Nat->Int}{h:Int}:∀(f)(p){j:Nat}{dm:Option Nat},p.dummy=none->SetTable.probe.go t hashAt h f p=some (.empty j dm)->dm=none/\(t.place[SetTable.below t.place j]? ==some j)=false
 |0,p,j,dm,_,e=>by rw[SetTable.probe.go.eq_1] at e;cases e
 |f+1,p,j,dm,hp,e=>by
  rw[SetTable.probe.go.eq_2] at e;have l:∀q,t.slot q=if(t.place[SetTable.below t.place q]? ==some q)=true then .live (SetTable.below t.place q) else .empty:=λq=>by
   unfold SetTable.slot;dsimp only;rw[hd];have:SetTable.has #[] q=false:=by unfold SetTable.has;rfl
   rw[this];rfl
  have Gp:(t.advance p).dummy=none:=by
   unfold SetTable.advance;split
   ·exact hp
   ·exact hp
  rw[l] at e;by_cases a:(t.place[SetTable.below t.place p.j]? ==some p.j)=true
  ·rw[yIp a] at e;dsimp only at e;split at e
   ·cases e
   ·exact oR hd f _ Gp e
  ·rw[yIn a] at e;dsimp only at e;injection e with e;injection e with e1 e2;subst e1;exact⟨by rw[<-e2];exact hp,by simpa using a⟩
def EN{h:Int}{x:yai}(l:qW t):qW (layNew t es h x).2.1:=by
 unfold layNew;split
 ·rename_i slot wd a;dsimp only;refine Jc ?_;unfold SetTable.freeSlot at a;split at a
  ·rename_i j dm n;injection a with a;injection a with m e2;let⟨rfl,h2⟩:=oR l.1 _ _ rfl n;have m:j=slot:=m;subst m;have o:SetTable.has t.dummies j=false:=by rw[l.1];unfold SetTable.has;rfl
   refine⟨?_,λz=>?_⟩
   ·show(if SetTable.has t.dummies j=true then _ else t.dummies)=#[];rw[yIn (by rw[o];decide)];exact l.1
   ·exact uZ (l.2 z) h2
  ·cases a
 ·exact gx _ _
noncomputable def intOf:yai->Int
 |.int i _=>i
 |_=>0
def U4(prog:yaj)(w:yak)(o:Obj)(S:List Int):Prop:=
 ∃a h t,o.ExactSet/\o.data=.set a h t/\ElemsOf (PySem.intKind prog w) a.toList/\(a.toList.map λe=>intOf e.2).Perm S/\t.fits a.size=true/\t.led=(!w.params.followText "set-order")/\qW t
def fU(prog:yaj)(w:yak)(h:Heap)(a:Addr)(S:List Int):Prop:=∃o,h.get? a=some o/\U4 prog w o S
noncomputable def m9(S:List Int)(x:Int):List Int:=if x∈S then S else S++[x]
def Jo(x)(t):(PySem.intKind prog w).is x (.int x t)=true:=by
 show Value.isInt x (.int x t)=true;simp[Value.isInt]
def pI(h:(PySem.intKind prog w).is d e=true):intOf e=d:=by
 let⟨t,rfl⟩:=Value.isInt_shape h;rfl
theorem add_int{S:List Int}{x:Int}{Q:Bool->yah->Prop}(hS:fU prog w s.heap a S)(hn:S.length+1<4096)(h:∀b h',Heap.SameBut a s.heap h'->fU prog w h' a (m9 S x)->Q b {s with heap:=h'}):
  yar (model prog w) A (setAddHashed a (.int x tk) ((PySem.intKind prog w).hash x)) Q E s:=by
 let⟨o,ho,es,ep,t,U,hd,y,hp,hf,v,hpl⟩:=hS;have ac:es.size=S.length:=by rw[<-hp.length_eq,zbV,zaR]
 have hb:es.size<scanBound:=by show es.size<4096;lia
 unfold setAddHashed;unfold setAddHashedIn;refine yad (yaa (wpAny_setState_of ho hd hf ?_));dsimp only;rw[byScan_of (x:=.int x tk) rfl hb y,yIp rfl];unfold setAddByScan;refine yaa (yaa (wpAny_rule (yaa (wpAny_setScan_of (k:=x) (Jo x tk) ho hd hf y ?_))));cases hr:List.findIdx? (λe=>(PySem.intKind prog w).is x e.2) es.toList with
 |some j=>
  let⟨hj,hpj,_⟩:=zaa.mp hr;have X:x∈S:=hp.mem_iff.mp (zcE.mpr ⟨_,zbG hj,pI hpj⟩);dsimp only;refine yab (yab ?_);have q:=h false s.heap (Heap.SameBut.refl a s.heap) (by
   unfold m9;rw[yIp X];refine⟨o,ho,es,ep,t,U,hd,y,hp,hf,v,hpl⟩)
  exact q
 |none=>
  have X:x ∉ S:=λX=>by
   let⟨e,he,z⟩:=zcE.mp (hp.mem_iff.mpr X);let⟨⟨k,hk,_⟩,_⟩:=y e he;rw[pI hk] at z;subst z;have:=List.findIdx?_eq_none_iff.mp hr e he;rw[hk] at this;cases this
  dsimp only;have u:=layNew_perm t es ((PySem.intKind prog w).hash x) (.int x tk);have G:=layNew_fits t es ((PySem.intKind prog w).hash x) (.int x tk);have C:=EN (es:=es) (h:=(PySem.intKind prog w).hash x) (x:=.int x tk) hpl;have F:=mJ t es ((PySem.intKind prog w).hash x) (.int x tk);generalize layNew t es ((PySem.intKind prog w).hash x) (.int x tk)=L at u G F C⊢;let⟨l,t1,wd,gv⟩:=L;dsimp only at u G F C⊢;rw[zbw] at u;have I:ElemsOf (PySem.intKind prog w) l.toList:=(y.push (Jo x tk) rfl).perm u;have O:(l.toList.map λe=>intOf e.2).Perm (S++[x]):=by
   refine(u.map _).trans ?_;rw[zca];exact hp.append_right [x]
  have H:l.size=S.length+1:=by rw[<-zaR,<-zbV (f:=λe:Int×yai=>intOf e.2),O.length_eq,zaU];rfl
  have gw:∀(b:Bool){n:yah}{Q':Unit->yah->Prop},Q' () n->yar (model prog w) A (match b with|true=>rule "set.scan.the-table-gave-way"|false=>pure ()) Q' E n:=by
   intro b n Q' q;cases b
   ·exact yab q
   ·exact wpAny_rule q
  refine yaa (gw _ ?_);have fin:∀(m:SetTable),m.fits l.size=true->m.led=t.led->qW m->yar (model prog w) A (do
    storeSet a l m
    if(!wd&&m.tooFull)=true then do
      (match(relayAll m l (SetTable.grown l.size)).2.2 with|true=>rule "set.scan.the-table-gave-way"|false=>pure ())
      storeSet a (relayAll m l (SetTable.grown l.size)).1 (relayAll m l (SetTable.grown l.size)).2.1
      pure (some true)
     else pure (some true)) (λr s'=>r=some true/\Q true s') E s:=by
   intro m f2 l2 p2;refine yaa (wpAny_storeSet_of ho hd ?_ (by rw[H,yaf];lia));have P:=dh l m ho hd;have Y:=Heap.SameBut.update s.heap a (Obj.putSet l m);split
   ·have Z:=relayAll_perm m l (SetTable.grown l.size);have rf:=relayAll_fits m l (SetTable.grown l.size);have rk:=i8 m l (SetTable.grown l.size);have rn:qW (relayAll m l (SetTable.grown l.size)).2.1:=ya;generalize relayAll m l (SetTable.grown l.size)=Rl at Z rf rk rn⊢;let⟨W,t3,g2⟩:=Rl;dsimp only at Z rf rk rn⊢;have ab:W.size=l.size:=by rw[<-zaR,Z.length_eq,zaR]
    refine yaa (gw _ ?_);refine yaa (wpAny_storeSet_of P rfl ?_ (by rw[ab,H,yaf];lia));refine yab ⟨rfl,h true _ (Y.trans (Heap.SameBut.update _ a _)) ⟨_,dh W t3 P rfl,W,_,t3,U,rfl,I.perm Z,?_,rf,rk.1.trans (l2.trans v),rn⟩⟩
    ·unfold m9;rw[yIn X];exact(Z.map _).trans O
   ·refine yab ⟨rfl,h true _ Y ⟨_,P,l,_,m,U,rfl,I,?_,f2,l2.trans v,p2⟩⟩;unfold m9;rw[yIn X];exact O
  cases hpt:t1.plain with
  |true=>
   rw[yIp rfl];refine yaa ?_;rw[hashByValue_scannable 8 (x:=.int x tk) rfl];refine yab ?_;refine yac (fin _ ?_ ?_ ?_) ?_ (λ_ _ z=>z)
   ·rw[yIp (by simp[plainKind])];exact G
   ·rw[yIp (by simp[plainKind])];exact F.1
   ·rw[yIp (by simp[plainKind])];exact C
   ·rintro r s' ⟨rfl,q⟩;exact yab q
  |false=>
   rw[yIn (by decide)];refine yaa (yab ?_);refine yac (fin _ ?_ ?_ ?_) ?_ (λ_ _ z=>z)
   ·rw[yIp rfl];exact G
   ·rw[yIp rfl];exact F.1
   ·rw[yIp rfl];exact C
   ·rintro r s' ⟨rfl,q⟩;exact yab q
noncomputable def allI(val:Nat->Int):Nat->List Int
 |0=>[]
 |i+1=>m9 (allI val i) (val i)
def wC(S)(x):(m9 S x).length<=S.length+1:=by
 unfold m9;split
 ·lia
 ·rw[zaU];exact zcR _
theorem iy(val):∀i,(allI val i).length<=i
 |0=>zcR _
 |i+1=>zcH (wC ..) (Nat.succ_le_succ (iy val i))
def fU.keep(x:fU prog w h a d)(e:∀o,h.get? a=some o->h'.get? a=some o):fU prog w h' a d:=
 by let⟨o,j,r⟩:=x;refine⟨o,e o j,r⟩
section
variable {R:Result->yah->Prop}{wr:List Addr}{P:Nat->yai->Prop}{St:Nat->yah->Prop}
theorem E7(W:WalksS prog w A.in1 I fp wr G n P St)(a)(Y:a ∉ fp)(val)(m:∀i v,P i v->∃t,v=.int (val i) t)(hn:n<4000):
  ∀(k i)(s),n - i=k->i<=n->St i s->fU prog w s.heap a (allI val i)->
   (∀h,Moved (a::wr) G s h->fU prog w h.heap a (allI val n)->R (.ok (.ret .none)) h)->
   codeAny (model prog w) A (.builtin "set.update.loop" ⟨[.ref a,.ref I],[]⟩) R s:=by
 have E:a ∉ wr:=λz=>Y (W.sub _ z);have l:∀b∈wr,b∈a::wr:=λb z=>zaC _ z;intro k
 induction k with
 |zero=>
  intro i s Z hi j U X;obtain rfl:i=n:=by lia
  refine codeAny_builtin PyProof.Rows.F.entry_set_update_loop ?_;rw[Around.under_plainId PyProof.Rows.F.plain_set_update_loop _];show yar _ A.in1 (pyNext (.ref I) >>= _) _ _ s;refine yaa (W.done s _ _ j λh y=>?_);exact yab (X h (y.mono l) (U.keep λo e=>y.heap a o E e))
 |succ k ih=>
  intro i s Z hi j U X;have C:i<n:=by lia
  refine codeAny_builtin PyProof.Rows.F.entry_set_update_loop ?_;rw[Around.under_plainId PyProof.Rows.F.plain_set_update_loop _];show yar _ A.in1 (pyNext (.ref I) >>= _) _ _ s;refine yaa (W.item i s _ _ C j λv h hP q y=>?_);let⟨t,rfl⟩:=m i v hP;have S:fU prog w h.heap a (allI val i):=U.keep λo e=>y.heap a o E e;show yar _ A.in1 (holding [Value.int (val i) t] (setAdd a (.int (val i) t)) >>= _) _ _ h;refine yaa (yad ?_);unfold setAdd;refine yad (yaa ((PySem.intKind prog w).pyHash (k:=val i) (Jo _ _) ?_));have:=iy val i;refine add_int (s:={h with toks:=h.toks+1}) S (by lia) λb h' u Q=>?_;refine yab ⟨plainId_quiet PyProof.Rows.F.plain_set_update_loop _,ih (i+1) _ (by lia) C (W.frame _ h _ _ q (zcT _) λb O o e=>?_) Q λL x H=>?_⟩
  ·rw[u.2 b λz:b=a=>Y (z▸O)];exact e
  ·refine X L (Moved.trans W.gtrans ((y.mono l).then_heap (zcT _) λb o O e=>?_) x) H;rw[u.2 b λz:b=a=>O (z▸zaV)];exact e
end
def sH(e:h.get? a=some (aW (!w.params.followText "set-order"))):fU prog w h a []:=
 ⟨_,e,#[],0,_,⟨rfl,rfl,rfl⟩,rfl,λe m=>by simp at m,.nil,rfl,rfl,rfl,λ_=>λi j _ l _=>absurd l (by simp[SetTable.fresh])⟩
def su{T:String}{P:Nat->yai->Prop}{St:Addr->Nat->Heap->Prop}{val:Nat->Int}(O:A.handled=none)(U:s.TypeIs (.ref l) T)(h1:isSubtype (.type T) (.type "set")=pure false)(h2:isSubtype (.type T) (.type "frozenset")=pure false)(Y:(Value.type T==Value.type "dict")=false)(it:∀{A':yal}{a:yah}{H:yai->yah->Prop}{E':yai->yah->Prop},(∀b o,s.heap.get? b=some o->a.heap.get? b=some o)->H (.ref a.heap.objs.size) {a with heap:=a.heap.push ob}->yar (model prog w) A' (pyIter (.ref l)) H E' a)(y:ob.isFreed=false)(W:∀{A':yal}(I),A'.handled=none->l≠I->Walks prog w A' I [I,l] [I] n P (St I))(u:∀I h',(∀b o,s.heap.get? b=some o->h'.get? b=some o)->h'.get? I=some ob->St I 0 h')(j:∀i v,P i v->∃t,v=.int (val i) t)(L:n<4000)(h:∀(h')(tk),fU prog w h' s.heap.objs.size (allI val n)->(∀b o,b<s.heap.objs.size->s.heap.get? b=some o->h'.get? b=some o)->Q (.ref s.heap.objs.size) {s with heap:=h',toks:=tk}):
  yar (model prog w) A (call (.type "set") [.ref l]) Q E s:=by
 refine lK (Z:=λh'=>fU prog w h' s.heap.objs.size (allI val n)) U h1 h2 Y it y (λI h0 R kp gS gI C F X=>?_) h;refine E7 (W (A':=A.in1.in1.in1) I O C).toS s.heap.objs.size F val j L (n - 0) 0 _ rfl (zcS _) (u I h0 kp gI) (sH gS) λa m G=>?_;let⟨h',g',d',q,x⟩:=a;obtain rfl:g'=s.gens:=m.gens;obtain rfl:d'=s.drawn:=m.drawn;obtain rfl:x=s.os:=m.os;exact X h' q G λb o S e=>m.heap b o S e
theorem oi{ss:List Int}(y:A.handled=none)(j:s.heap.IsTuple l its)(m:IntsAre its.toList ss)(u:ss.length<4000)(h:∀(h')(tk),fU prog w h' s.heap.objs.size (allI (λi=>ss.getD i 0) ss.length)->(∀b o,b<s.heap.objs.size->s.heap.get? b=some o->h'.get? b=some o)->Q (.ref s.heap.objs.size) {s with heap:=h',toks:=tk}):
  yar (model prog w) A (call (.type "set") [.ref l]) Q E s:=by
 have el:its.size=ss.length:=by rw[<-zaR,m.length]
 rw[<-el] at h;refine su (T:="tuple") (St:=λI i h=>h.IsTupleIter I l i/\h.IsTuple l its) (ob:={cls:=.type "tuple_iterator",data:=.fields #[.ref l,.int 0 0]}) (P:=λi v=>its[i]? =some v) y j.typeIs M5.F.sub_tuple_set M5.F.sub_tuple_frozenset (by decide) (λkp q=>wpAny_pyIter_tuple (j.at (kp l)) q) rfl (λI h1 h2=>Walks.tuple h1 I l h2 its)
  (λI h' kp e=>⟨⟨_,e,rfl,rfl⟩,j.at (kp l)⟩) ?_ (by lia) h
 intro i v a;rw[<-zaA] at a;clear h;revert i;generalize its.toList=vs at m;clear el u
 induction m with
 |nil=>intro i a;simp at a
 |cons x t r ih=>
  intro i a;cases i with
  |zero=>simp at a;exact⟨t,by rw[<-a];rfl⟩
  |succ i=>
   rw[zam] at a;let⟨n,e⟩:=ih i a;exact⟨n,e⟩
theorem rg{ss:List Int}(y:A.handled=none)(j:s.heap.IsList l its)(m:IntsAre its.toList ss)(u:ss.length<4000)(h:∀(h')(tk),fU prog w h' s.heap.objs.size (allI (λi=>ss.getD i 0) ss.length)->(∀b o,b<s.heap.objs.size->s.heap.get? b=some o->h'.get? b=some o)->Q (.ref s.heap.objs.size) {s with heap:=h',toks:=tk}):
  yar (model prog w) A (call (.type "set") [.ref l]) Q E s:=by
 have el:its.size=ss.length:=by rw[<-zaR,m.length]
 rw[<-el] at h;refine su (T:="list") (St:=λI i h=>h.IsListIter I l i/\h.IsList l its) (ob:={cls:=.type "list_iterator",data:=.fields #[.ref l,.int 0 0]}) (P:=λi v=>its[i]? =some v) y j.typeIs PySem.F.sub_list_set PySem.F.sub_list_frozenset (by decide) (λkp q=>wpAny_pyIter_list (j.at (kp l)) q) rfl (λI h1 h2=>Walks.list h1 I l h2 its)
  (λI h' kp e=>⟨⟨_,e,rfl,rfl⟩,j.at (kp l)⟩) ?_ (by lia) h
 intro i v a;rw[<-zaA] at a;clear h;revert i;generalize its.toList=vs at m;clear el u
 induction m with
 |nil=>intro i a;simp at a
 |cons x t r ih=>
  intro i a;cases i with
  |zero=>simp at a;exact⟨t,by rw[<-a];rfl⟩
  |succ i=>
   rw[zam] at a;let⟨n,e⟩:=ih i a;exact⟨n,e⟩
def vC:k∈m9 d g↔k∈d∨k=g:=by
 unfold m9;split
 ·exact⟨.inl,λz=>z.elim id λe=>e▸‹_›⟩
 ·simp
def x7(h:d.Nodup):(m9 d g).Nodup:=by
 unfold m9;split
 ·exact h
 ·rw[zbp];refine⟨h,by simp,λa l b j=>?_⟩;simp only[zaY] at j;subst j;intro e;subst e;exact absurd l ‹_›
theorem jm(val):∀n,(allI val n).Nodup
 |0=>List.nodup_nil
 |n+1=>x7 (jm val n)
theorem vA(val)(y):∀n,y∈allI val n↔∃i,i<n/\val i=y
 |0=>by simp[allI]
 |n+1=>by
  show y∈m9 _ _↔_;rw[vC,vA val y n];constructor
  ·rintro(⟨i,h,e⟩|e)
   ·refine⟨i,by lia,e⟩
   ·refine⟨n,by lia,e.symm⟩
  ·rintro⟨i,h,e⟩;obtain z|z:=zcL i n
   ·exact .inl ⟨i,z,e⟩
   ·obtain rfl:i=n:=by lia
    exact .inr e.symm
def lB(ss:List Int)(y):y∈allI (λi=>ss.getD i 0) ss.length↔y∈ss:=by
 rw[vA];constructor
 ·rintro⟨i,h,e⟩;have:ss.getD i 0=ss[i]:=by simp[h]
  rw[this] at e;exact e▸zbG h
 ·intro h;let⟨i,h1,e⟩:=zaL h;refine⟨i,h1,by simp[h1,e]⟩
def U3(vs:List yai)(S:List Int):Prop:=(∀v∈vs,∃x t,v=.int x t)/\(vs.map intOf).Perm S
def Jp{l:List (Int×yai)}(a:ElemsOf (PySem.intKind prog w) es.toList)(m:(es.toList.map λe=>intOf e.2).Perm d)(h:l.Perm es.toList):U3 (l.map (·.2)) d:=by
 refine⟨λv j=>?_,?_⟩
 ·let⟨e,o,rfl⟩:=zcE.mp j;let⟨⟨k,n,_⟩,_⟩:=a e (h.mem_iff.mp o);let⟨t,z⟩:=Value.isInt_shape n;refine⟨k,t,z⟩
 ·rw[zcF];exact(h.map _).trans m
theorem intsAre_map:∀(vs),(∀v∈vs,∃x t,v=.int x t)->IntsAre vs (vs.map intOf)
 |[],_=>.nil
 |v::vs,h=>by
  let⟨x,t,rfl⟩:=h v (by simp);exact .cons x t (intsAre_map vs λu a=>h u (zaC _ a))
def uO(W:A.handled=none)(Z:fU prog w s.heap a d)(hn:d.length<64)(h:∀(p:Addr) q (out)(ss) c,(∀b o,s.heap.get? b=some o->q.heap.get? b=some o)->q.gens=s.gens->q.os=s.os->s.heap.objs.size<=p->q.heap.get? p=some (seqObj "list" out.toArray c)->IntsAre out ss->ss.Perm d->ss.Pairwise (· <=·)->Q (.ref p) q):
  yar (model prog w) A (call (.builtin "sorted") [.ref a]) Q E s:=by
 refine zak kind_sorted plain_sorted entry_sorted (args_sorted1 _) ?_;unfold Builtin.«sorted»;refine yaa (m:=checkCount "sorted" 1 1 _) (yab ?_);let⟨o,U,es,ep,t,C,hd,F,L,X,u,y⟩:=Z;have P:es.size=d.length:=by rw[<-L.length_eq,zbV,zaR]
 refine yaa (iu (es:=es) (ep:=ep) (t:=t) ?_ ⟨o,U,C,hd,X,u,y.2⟩ (by lia) λv j kp e1 e2 le n=>?_)
 ·exact W
 let⟨O,l,rfl⟩:=M6.gV n;have n:=Jp F L l;clear l;generalize O.map (·.2)=j at*;have hl:j.length=d.length:=by rw[<-n.2.length_eq,zbV]
 refine yaa (wpAny_newList ?_ (by first|(rw[yaf];lia)|(rw[zbj,yaf];lia)));have G:IntsAre j (j.map intOf):=intsAre_map j n.1;have H:(v.heap.push (seqObj "list" j.toArray 0)).get? v.heap.objs.size=some (seqObj "list" j.toArray 0):=zaS _ rfl;refine yaa (yad (wpAny_call_entry slot_list_sort ⟨_,H,rfl⟩ entry_list_sort (list_sort_tree H G (by lia) λout x a1 a2 a3=>⟨_,rfl,?_⟩) (args_list_sort _)));let⟨c,Y⟩:=sortedHeap_at (out:=out) H;refine yab ⟨_,rfl,h v.heap.objs.size _ out.toList x c (λb o e=>?_) e1 e2 le ?_ a1 (a2.trans n.2) a3⟩
 ·have I:=zcP (kp b o e);show(sortedHeap _ _ _ _).get? b=some o;rw[sortedHeap_old (zcG I) (by rw[size_push'];exact zbs I)];exact zas _ (kp b o e)
 ·rw[zaI];exact Y
end M7
namespace L2
open PySem PySem.Spec PyProof.Rows
def qX(K:yaJ)(n:TE):TE:=λm H Q=>n m H λx j=>∃(p:Addr)(h:List Int),x=.ref p/\(eO K j p (h.map V.int)∨dF K j p (h.map V.int))/\h.length<64/\
 ∀(l)(a:List Int),j l=none->a.Nodup->(∀y,y∈a↔y∈h)->a.Pairwise (· <=·)->Q (.ref l) (upd j l (.lst (a.map V.int)))
section
variable {e:Expr}{ta:TE}{p:Pos}
def cY(hc:X.calm=true)(hg:Gl X "sorted")(hm:X.mg "sorted"=none)(hg2:Gl X "set")(hm2:X.mg "set"=none)(he:PE X e ta)(O:autoParam (notStar e=true) r0):
  PE X (.Call (.Name "sorted" p) [.Call (.Name "set" p2) [e] [] pos2] [] pos) (qX X.K ta):=by
 intro n s σ H Q I h;have hk:=I.ok.hd hc;refine wpAny_Call_Name_kw (eZ I hg hm (u:=.builtin "sorted") (by decide+kernel) ?_ (by decide+kernel) (by decide+kernel));refine PyProof.Rows.callWith_builtin1 (E:=X.xe) ?_ (br [] X.env rfl) rfl;rw[br [] X.env rfl];refine zbi ?_;refine wpAny_Call_Name_kw (eZ I hg2 hm2 (u:=.type "set") (by decide+kernel) ?_ (by decide+kernel) (by decide+kernel));refine PyProof.Rows.callWith_type1 (E:=X.xe) ?_ (br [] X.env O) rfl;rw[br [] X.env O];refine zbi (cB (he n s σ H _ I h) λu j S=>?_);let⟨x,H1,P,rx,a,ss,ex,G,hl,q⟩:=S;subst ex;obtain rfl:u=Value.ref a:=rx;refine zbz ?_;have L:∀(m:Heap)(t:Nat),M7.fU X.prog X.w m j.heap.objs.size (M7.allI (λi=>ss.getD i 0) ss.length)->(∀b o,b<j.heap.objs.size->j.heap.get? b=some o->m.get? b=some o)->
   yar (model X.prog X.w) X.A (call (.builtin "sorted") [.ref j.heap.objs.size]) (EP X n σ Q) X.xe {j with heap:=m,toks:=t}:=by
  intro m t C kp;have ac:=M7.iy (λi=>ss.getD i 0) ss.length;refine M7.uO (s:={j with heap:=m,toks:=t}) hk C (by lia) λl s2 out v c Y e1 e2 le g hS Z O=>?_;let⟨h2,g2,d2,t2,o2⟩:=s2;obtain rfl:g2=j.gens:=e1;obtain rfl:o2=j.os:=e2;have W:∀b o,j.heap.get? b=some o->h2.get? b=some o:=λb o z=>Y b o (kp b o (zcP z) z);have F:j.heap.objs.size<=l:=by
   let⟨o,ho,_⟩:=C;exact zcH (zcI (zcP ho)) le
  have ab:v.length<64:=by rw[Z.length_eq];lia
  refine⟨.ref l,_,(P.laid (a:=l) (t':=t2) (o:=.lst (v.map V.int)) W F ⟨by rw[zbV,yaf];lia,out,c,iJ hS,g⟩).mZ d2,rfl,q l v (P.hok.fresh F) (Z.nodup_iff.mpr (M7.jm _ _)) (λy=>(Z.mem_iff).trans (M7.lB ss y)) O⟩
 obtain G|G:=G
 ·let⟨its,U,pl,hz⟩:=P.tuple G;refine M7.oi (its:=its.toArray) (ss:=ss) hk pl (by simpa using intsAre_of U) (by lia) λm t C kp=>?_;exact zbz (L m t C kp)
 ·let⟨its,U,pl,hz⟩:=P.list G;refine M7.rg (its:=its.toArray) (ss:=ss) hk pl.isList (by simpa using intsAre_of U) (by lia) λm t C kp=>?_;exact zbz (L m t C kp)
end
end L2
namespace M
open PySem PySem.Spec PyProof.Rows L2
def dS(a:AE):AE:=λm S Q=>a m S λr l=>∃j:List Int,(aT l r.d=.tup (j.map D.int)∨aT l r.d=.lst (j.map D.int))/\j.length<64/\
 ∀h:List Int,h.Nodup->(∀y,y∈h↔y∈j)->h.Pairwise (· <=·)->Q (.new (.lst (h.map D.int))) l
def xG:∀s H Q,aX K (dS d) s H Q->qX K (aX K d) s H Q:=by
 intro s H Q k;let⟨w,F,S,O,ok,env,q,bk⟩:=k;refine⟨w,F,S,_,ok,env,q,.go λL E I v P n h m t=>?_⟩;let⟨x,z,C,y⟩:=t;obtain z|z:=z
 ·let⟨d,G,rfl,h1,h2⟩:=b7 h m z;rw[dJ h2] at h1;refine⟨d,x,rfl,.inl h1,C,λl j o n1 n2 u=>bk (.new (.lst _)) E _ v _ n (h.alloc o) (h.fresh o ⟨_,rfl,dM j⟩) (y j n1 n2 u)⟩
 ·let⟨d,G,rfl,h1,h2⟩:=bh h m z;rw[dJ h2] at h1;refine⟨d,x,rfl,.inr (dF.of h1),C,λl j o n1 n2 u=>bk (.new (.lst _)) E _ v _ n (h.alloc o) (h.fresh o ⟨_,rfl,dM j⟩) (y j n1 n2 u)⟩
section
variable {e:Expr}{p:Pos}
theorem cY(o:X.calm=true)(m:Gl X "sorted")(l:X.mg "sorted"=none)(h:Gl X "set")(a:X.mg "set"=none)(n:GE X e ta)(j:autoParam (notStar e=true) r0):
  GE X (.Call (.Name "sorted" p) [.Call (.Name "set" p2) [e] [] pos2] [] pos) (dS ta):=⟨mE (L2.cY o m l h a n.p j) xG⟩
end
end M
namespace M8
open PySem PySem.Spec PyProof.Rows
open PySem.SetTable (Probe bits runEnd leap turns)
theorem Um{α:Type}[DecidableEq α]:∀{l m:List α},l.Nodup->(∀x∈l,x∈m)->l.length<=m.length
 |[],m,_,_=>zcS _
 |a::l,m,hn,hs=>by
  rw[zbX] at hn;have h1:l.length<=(m.erase a).length:=Um hn.2 λx h=>by
   grind
  have h2  :=hs a (by simp);have j:=List.length_erase_of_mem h2;have h4  :=List.length_pos_of_mem h2;rw[zbB];lia
noncomputable def Gp(m:Nat)(p:Probe):Probe:=
 if p.more> 0 then{p with j:=p.j+1,more:=p.more - 1} else
 {p with j:=(leap m p.i p.perturb).1,more:=runEnd m (leap m p.i p.perturb).1 - (leap m p.i p.perturb).1,i:=(leap m p.i p.perturb).1,perturb:=(leap m p.i p.perturb).2}
noncomputable def b6(m:Nat)(q:Nat×Nat):Probe:={j:=q.1,more:=runEnd m q.1 - q.1,i:=q.1,perturb:=q.2,dummy:=none}
noncomputable def ru(m:Nat)(h:Int):Nat->Nat×Nat
 |0=>(bits h % (m+1),bits h)
 |k+1=>leap m (ru m h k).1 (ru m h k).2
noncomputable def road(m:Nat)(h:Int):Nat->Probe
 |0=>b6 m (ru m h 0)
 |n+1=>Gp m (road m h n)
noncomputable def nk(m:Nat)(h:Int):Nat->Nat
 |0=>0
 |k+1=>nk m h k+(runEnd m (ru m h k).1 - (ru m h k).1)+1
def Ny:runEnd m i - i<=9:=by unfold runEnd;split<;>lia
def Nz:i<=runEnd m i:=by unfold runEnd;split<;>lia
def D6(h:i<=m):runEnd m i<=m:=by unfold runEnd;split<;>lia
theorem D9(m)(h):∀k,(ru m h k).1<=m
 |0=>zbt (Nat.mod_lt _ (Nat.succ_pos m))
 |k+1=>zbt (Nat.mod_lt _ (Nat.succ_pos m))
theorem Lx(m)(h):∀k,nk m h k<=10*k
 |0=>zcR _
 |k+1=>by have:=Lx m h k;have:=Ny (m:=m) (i:=(ru m h k).1);show nk m h k+_+1<=_;lia
def zE(m)(h):∀k,road m h (nk m h k)=b6 m (ru m h k)/\∀c,c<=runEnd m (ru m h k).1 - (ru m h k).1->road m h (nk m h k+c)={b6 m (ru m h k) with j:=(ru m h k).1+c,more:=runEnd m (ru m h k).1 - (ru m h k).1 - c}:=by
 have step:∀k,road m h (nk m h k)=b6 m (ru m h k)->∀c,c<=runEnd m (ru m h k).1 - (ru m h k).1->road m h (nk m h k+c)={b6 m (ru m h k) with j:=(ru m h k).1+c,more:=runEnd m (ru m h k).1 - (ru m h k).1 - c}:=by
  intro k a c
  induction c with
  |zero=>intro _;rw[Nat.add_zero,a];rfl
  |succ c ih=>
   intro l;show Gp m (road m h (nk m h k+c))=_;rw[ih (by lia)];unfold Gp;rw[yIp (by show runEnd m (ru m h k).1 - (ru m h k).1 - c> 0;lia)];rfl
 intro k
 induction k with
 |zero=>exact⟨rfl,step 0 rfl⟩
 |succ k ih=>
  have:road m h (nk m h (k+1))=b6 m (ru m h (k+1)):=by
   show Gp m (road m h (nk m h k+(runEnd m (ru m h k).1 - (ru m h k).1)))=_;rw[ih.2 _ (zcR _)];unfold Gp;rw[yIn (by simp)];rfl
  exact⟨this,step _ this⟩
theorem oE(m)(h):∀n,(road m h n).j+(road m h n).more<=m/\(road m h n).dummy=none
 |0=>by
  have h1:=D9 m h 0;have h2:=D6 h1;refine⟨?_,rfl⟩;show(ru m h 0).1+(runEnd m (ru m h 0).1 - (ru m h 0).1)<=m;lia
 |n+1=>by
  have a:=oE m h n;show(Gp m (road m h n)).j+(Gp m (road m h n)).more<=m/\(Gp m (road m h n)).dummy=none;unfold Gp;split
  ·refine⟨?_,a.2⟩;show(road m h n).j+1+((road m h n).more - 1)<=m;lia
  ·refine⟨?_,a.2⟩;dsimp only;have h1:(leap m (road m h n).i (road m h n).perturb).1<=m:=zbt (Nat.mod_lt _ (Nat.succ_pos m));have h2:=D6 h1;lia
noncomputable def Tu(m i:Nat):Nat:=(i*5+1) % (m+1)
noncomputable def it(m:Nat):Nat->Nat->Nat
 |0,i=>i
 |k+1,i=>it m k (Tu m i)
theorem pG(m):∀a b i,it m (a+b) i=it m b (it m a i)
 |0,b,i=>by rw[Nat.zero_add];rfl
 |a+1,b,i=>by rw[Nat.add_right_comm];exact pG m a b (Tu m i)
noncomputable def Q5(m:Nat):Nat->Nat->List Nat
 |0,_=>[]
 |k+1,i=>i::Q5 m k (Tu m i)
theorem zT(m):∀k i j,j∈Q5 m k i->∃a,a<k/\it m a i=j
 |0,i,j,h=>by simp[Q5] at h
 |k+1,i,j,h=>by
  simp only[Q5,zcq] at h;obtain rfl|h:=h
  ·refine⟨0,by lia,rfl⟩
  ·let⟨a,h1,h2⟩:=zT m k _ j h;refine⟨a+1,by lia,h2⟩
noncomputable def full(m:Nat):Bool:=(zcV (m+1)).all (λj=>(Q5 m (m+1) 0).contains j)&&it m (m+1) 0==0
def RE:full 7=true:=by rfl
def ON:full 31=true:=by rfl
def Jt:full 127=true:=by rfl
def OO:full 15=true:=by rfl
def OM:full 63=true:=by rfl
def OG(h:full m=true)(o:i<=m)(n:j<=m):∃k,k<=m/\it m k i=j:=by
 unfold full at h;rw[zbR,zbE] at h;have g:∀x,x<=m->∃a,a<m+1/\it m a 0=x:=λx t=>zT m _ _ _ (by
  have:=h.1 x (zci.mpr (by lia));simp_all)
 have per  :=by simpa using h.2
 let⟨a,v,l⟩:=g i o;let⟨b,u,s⟩:=g j n;by_cases q:a<=b
 ·refine⟨b - a,by lia,?_⟩;rw[<-l,<-pG];simp_all
 ·refine⟨m+1 - a+b,by lia,?_⟩;rw[<-l,<-pG,<-s];have:a+(m+1 - a+b)=m+1+b:=by lia
  rw[this,pG,per]
def JS(h):bits h<2 ^ 64:=by
 unfold bits;lia
theorem D8(m)(h):∀k,(ru m h k).2=bits h / 32 ^ k
 |0=>by simp[ru]
 |k+1=>by
  show(ru m h k).2 / 32=_;rw[D8 m h k,Nat.div_div_eq_div_mul,Nat.pow_succ]
def IA(m)(h)(a:13<=k):(ru m h k).2=0:=by
 rw[D8];refine Nat.div_eq_of_lt (zbc (JS h) ?_);exact zcH (show 2 ^ 64<=32 ^ 13 by decide) (zaH (by decide) a)
theorem Lm(m)(h):∀k,(ru m h (13+k)).1=it m k (ru m h 13).1
 |0=>rfl
 |k+1=>by
  have e:(ru m h (13+(k+1))).1=Tu m (ru m h (13+k)).1:=by
   show((ru m h (13+k)).1*5+1+(ru m h (13+k)).2 / 32) % (m+1)=_;rw[IA m h (by lia)];rfl
  rw[e,Lm m h k,pG m k 1];rfl
def Ea(l:full m=true)(h)(a:j<=m):∃k,k<=m+13/\(ru m h k).1=j:=by
 let⟨k,h1,h2⟩:=OG l (D9 m h 13) a;refine⟨13+k,by lia,by rw[Lm,h2]⟩
def Ec(l:full m=true)(h)(a:j<=m):∃n,n<10*turns m/\(road m h n).j=j:=by
 let⟨k,h1,h2⟩:=Ea l h a;refine⟨nk m h k,?_,?_⟩
 ·have:=Lx m h k;unfold turns;lia
 ·rw[(zE m h k).1];exact h2
def Way(m:Nat)(occ:Nat->Prop)(h:Int)(j:Nat):Prop:=∃n,(road m h n).j=j/\∀a<n,occ (road m h a).j
def Way.mono(w:Way m occ e j)(g:∀x,occ x->d x):Way m d e j:=by
 let⟨n,h1,h2⟩:=w;refine⟨n,h1,λl o=>g _ (h2 l o)⟩
theorem least{P:Nat->Prop}:∀(n),P n->∃k,k<=n/\P k/\∀i<k,¬P i
 |0,h=>⟨0,zcR _,h,λi j=>absurd j (zcd _)⟩
 |n+1,h=>by
  by_cases g:∃i,i<=n/\P i
  ·let⟨i,h1,h2⟩:=g;let⟨k,a,b,c⟩:=least i h2;refine⟨k,by lia,b,c⟩
  ·refine⟨n+1,zcR _,h,λi j l=>g ⟨i,by lia,l⟩⟩
def yp(u:full m=true)(h){occ:List Nat}(y:occ.length<=m):∃N,N<10*turns m/\(road m h N).j ∉ occ/\∀n<N,(road m h n).j∈occ:=by
 have:∃j,j<=m/\j ∉ occ:=by
  apply Classical.byContradiction;intro s;have h1:=Um (l:=zcV (m+1)) (m:=occ) zbM λx v=>by
   grind
  rw[zbo] at h1;lia
 let⟨j,h1,h2⟩:=this;let⟨n,E,C⟩:=Ec u h h1;let⟨N,a,b,c⟩:=least (P:=λn=>(road m h n).j ∉ occ) n (by simp_all);refine⟨N,by lia,b,λq t=>Classical.byContradiction λo=>c q t o⟩
end M8
namespace M8
open PySem PySem.Spec PyProof.Rows M7
open PySem.SetTable (Probe bits runEnd leap turns)
abbrev Ent:=Nat×(Int×yai)
noncomputable def fs(l:List Ent):List Nat:=l.map (·.1)
structure Tab(t:SetTable)(es:Array (Int×yai))(l:List Ent):Prop where
 dm:t.dummies=#[]
 pl:t.place.toList=fs l
 el:es.toList=l.map (·.2)
 up:(fs l).Pairwise (· < ·)
 mm:t.mask=7∨t.mask=31∨t.mask=127
 nf:l.length*5<t.mask*3
 le:∀e∈l,e.1<=t.mask
 way:∀e∈l,Way t.mask (· ∈fs l) e.2.1 e.1
def Aj(h:m=7∨m=31∨m=127):full m=true:=by
 obtain rfl|rfl|rfl:=h
 ·rfl
 ·rfl
 rfl
section
variable {l:List Ent}
def Tab.rise(T:Tab t es l):qe t.place:=fZ.mpr (by rw[T.pl];exact T.up)
def Tab.sz(T:Tab t es l):t.place.size=l.length:=by rw[<-zaR,T.pl];exact zbV ..
def Tab.Tv(T:Tab t es l):es.size=l.length:=by rw[<-zaR,T.el,zbV]
theorem Tab.fits(T:Tab t es l):t.fits es.size=true:=by
 have h1:=T.sz;have h2:=T.Tv;have a:=T.nf;unfold SetTable.fits SetTable.fill;rw[T.dm];simp;lia
def below_at(h:qe d)(j):SetTable.below d d[i]=i:=by
 let⟨h1,h2,m⟩:=ki h d[i];obtain z|z|z:=Nat.lt_trichotomy i (SetTable.below d d[i])
 ·have:=h2 i j z;lia
 ·exact z.symm
 ·have:=m _ (by lia:SetTable.below d d[i]<d.size) (zcR _);have:=h _ _ z j (by lia);lia
theorem Tab.live(T:Tab t es l)(h:(j,e)∈l):∃i,t.slot j=.live i/\es[i]? =some e/\i<es.size:=by
 let⟨i,a,n⟩:=zaL h;have m:i<t.place.size:=by rw[T.sz];exact a
 have s:t.place[i]=j:=by
  have:t.place.toList[i]'(by simp_all)=(fs l)[i]'(by unfold fs;simp_all):=by simp only[T.pl]
  rw[Array.getElem_toList] at this;rw[this];unfold fs;simp_all
 have o:es[i]? =some e:=by
  rw[<-zaA,T.el,zbl,zal a,n];rfl
 have q:=below_at T.rise m;refine⟨i,?_,o,by rw[T.Tv];exact a⟩;unfold SetTable.slot;simp_all
theorem Tab.empty(T:Tab t es l)(h:j ∉ fs l):t.slot j=.empty:=by
 unfold SetTable.slot;rw[yIn (λz=>h (by
  have z  :=by simpa using z
  rw[<-zaA,T.pl] at z;exact zaF z)),T.dm]
 rfl
def Oq(h:j∈fs l):∃e,(j,e)∈l:=by
 let⟨⟨a,b⟩,h1,h2⟩:=zcE.mp h;subst h2;exact⟨b,h1⟩
theorem Tab.probe(T:Tab t es l){hashAt:Nat->Int}{h:Int}(u:∀i e,es[i]? =some e->hashAt i=e.1){N:Nat}(hN:(road t.mask h N).j ∉ fs l)(E:∀n<N,(road t.mask h n).j∈fs l):∀(f n),n<=N->N - n<f->
  (SetTable.probe.go t hashAt h f (road t.mask h n)=some (.empty (road t.mask h N).j none)/\∀o,n<=o->o<N->∀e,((road t.mask h o).j,e)∈l->e.1≠h)∨
  ∃n1 e i,n<=n1/\n1<N/\((road t.mask h n1).j,e)∈l/\e.1=h/\t.slot (road t.mask h n1).j=.live i/\es[i]? =some e/\SetTable.probe.go t hashAt h f (road t.mask h n)=some (.candidate (road t.mask h n1).j i (road t.mask h (n1+1)))/\∀o,n<=o->o<n1->∀e,((road t.mask h o).j,e)∈l->e.1≠h
 |0,n,h1,h2=>by lia
 |f+1,n,h1,h2=>by
  rw[SetTable.probe.go.eq_2];obtain z|z:=zcL n N
  ·let⟨e,C⟩:=Oq (E n z);let⟨i,y,x,W⟩:=T.live C;rw[y];dsimp only;rw[u i e x];have uniq:∀q,((road t.mask h n).j,q)∈l->q=e:=λq m=>by
    let⟨X,U,S,_⟩:=T.live m;lia
   by_cases s:e.1=h
   ·refine .inr ⟨n,e,i,zcR _,z,C,s,y,x,?_,λo a b=>by lia⟩;rw[yIp (by simp[s])];rfl
   ·rw[yIn (by simp[s])];rcases T.probe u hN E f (n+1) (by lia) (by lia) with⟨a,b⟩|⟨n1,F,v,Y,Q,P,O,L,I,H,G⟩
    ·refine .inl ⟨a,λo c d q m=>?_⟩;obtain rfl|c:=Nat.eq_or_lt_of_le c
     ·rw[uniq q m];exact s
     ·exact b o c d q m
    ·refine .inr ⟨n1,F,v,by lia,Q,P,O,L,I,H,λo c d q m=>?_⟩;obtain rfl|c:=Nat.eq_or_lt_of_le c
     ·rw[uniq q m];exact s
     ·exact G o c d q m
  ·obtain rfl:n=N:=by lia
   rw[T.empty hN];rw[(oE t.mask h n).2];exact .inl ⟨rfl,λo a b=>by lia⟩
noncomputable def more(l:List Ent)(p:Nat)(e:Ent):List Ent:=l.take p++e::l.drop p
def eV(l)(p)(e):(more l p e).Perm (e::l):=by
 refine zbL.trans ?_;simp
def jY{α:Type}(a:Array α)(p)(x):(SetTable.insertAt a p x).toList=a.toList.take p++x::a.toList.drop p:=by
 unfold SetTable.insertAt;simp[zaJ];exact zan (by simp)
def Es(T:Tab t es l){h:Int}{x:yai}:(SetTable.insertAt es (t.put j).2 (h,x)).toList=(more l (t.put j).2 (j,(h,x))).map (·.2):=by
 rw[jY,T.el];unfold more;simp
theorem Tab.put(T:Tab t es l){x:yai}(hN:(road t.mask d N).j ∉ fs l)(u:∀n<N,(road t.mask d n).j∈fs l)(q:(l.length+1)*5<t.mask*3):
  Tab (t.put (road t.mask d N).j).1 (SetTable.insertAt es (t.put (road t.mask d N).j).2 (d,x)) (more l (t.put (road t.mask d N).j).2 ((road t.mask d N).j,(d,x))):=by
 have C:=oE t.mask d N;generalize v:(road t.mask d N).j=j at*;have E:SetTable.has t.dummies j=false:=by rw[T.dm];rfl
 have o:(SetTable.insertAt t.place (SetTable.below t.place j) j).toList=fs (more l (SetTable.below t.place j) (j,(d,x))):=by
  rw[jY,T.pl];unfold more fs;simp
 have sub  :=λy s=>by
  have:=((eV l (SetTable.below t.place j) (j,(d,x))).map (·.1)).mem_iff (a:=y);exact this.mpr (zaC _ s)
 refine⟨?_,o,Es T,?_,T.mm,?_,?_,?_⟩
 ·show(if SetTable.has t.dummies j=true then _ else t.dummies)=#[];rw[yIn (by simp_all)];exact T.dm
 ·have:=fZ.mp (uZ T.rise (by
   cases z:t.place[SetTable.below t.place j]? ==some j with
   |false=>rfl
   |true=>
    have z  :=by simpa using z
    rw[<-zaA,T.pl] at z;exact absurd (zaF z) hN))
  rw[o] at this;exact this
 ·rw[(eV ..).length_eq];exact q
 ·intro e m;obtain rfl|m:=zcq.mp ((eV ..).mem_iff.mp m)
  ·show j<=t.mask;lia
  ·exact T.le e m
 ·intro e m;obtain rfl|m:=zcq.mp ((eV ..).mem_iff.mp m)
  ·refine⟨N,v,λn q=>sub _ (u n q)⟩
  ·exact(T.way e m).mono sub
end
def oY(ow:Array (Option Nat))(j:Nat):Prop:=∃i,ow[j]? =some (some i)
structure Own(m:Nat)(hs:List Int)(ow:Array (Option Nat)):Prop where
 sz:ow.size=m+1
 wy:∀(j i:Nat),ow[j]? =some (some i)->i<hs.length/\Way m (oY ow) (hs.getD i 0) j
 al:∀(i:Nat),i<hs.length->∃j:Nat,ow[j]? =some (some i)
 un:∀(j j' i:Nat),ow[j]? =some (some i)->ow[j']? =some (some i)->j=j'
def LF(sz:ow.size=m+1)(l:j<=m):((ow.getD j (some 0)).isNone=true->ow[j]? =some none)/\((ow.getD j (some 0)).isNone=false->oY ow j):=by
 have a:j<ow.size:=by lia
 have h:ow.getD j (some 0)=ow[j]:=by simp[a]
 unfold oY;rw[h,zaj a];cases ow[j] with
 |none=>simp
 |some i=>grind
theorem An{m:Nat}{ow:Array (Option Nat)}{h:Int}(sz:ow.size=m+1):∀(f k),(∃l,k<=l/\l<k+f/\ow[(ru m h l).1]? =some none)->(∀n<nk m h k,oY ow (road m h n).j)->∃j,SetTable.layClean.free m ow f (ru m h k).1 (ru m h k).2=some j/\j<=m/\ow[j]? =some none/\Way m (oY ow) h j
 |0,k,hx,_=>by lia
 |f+1,k,hx,hb=>by
  let⟨l,h1,h2,C⟩:=hx;rw[SetTable.layClean.free.eq_2];have s:=D9 m h k;have v:=D6 s;have y:=Nz (m:=m) (i:=(ru m h k).1);have a:=zE m h k;cases o:(zcV (runEnd m (ru m h k).1+1 - (ru m h k).1)).find? (λc=>(ow.getD ((ru m h k).1+c) (some 0)).isNone) with
  |some c=>
   rw[List.find?_range_eq_some] at o;let⟨E,u,G⟩:=o;have u:=zci.mp u;have t:(ru m h k).1+c<=m:=by lia
   refine⟨_,rfl,t,(LF sz t).1 E,nk m h k+c,?_,λn q=>?_⟩
   ·rw[a.2 c (by lia)]
   ·obtain z|z:=zcL n (nk m h k)
    ·exact hb n z
    ·obtain⟨d,rfl⟩:∃d,n=nk m h k+d:=⟨n - nk m h k,by lia⟩
     rw[a.2 d (by lia)];exact(LF sz (j:=(ru m h k).1+d) (by lia)).2 (by simp_all)
  |none=>
   rw[List.find?_range_eq_none] at o;have all:∀d,d<=runEnd m (ru m h k).1 - (ru m h k).1->oY ow ((ru m h k).1+d):=λd hd=>(LF sz (by lia)).2 (by have:=o d (by lia);simp_all);have x:k≠l:=λe=>by
    let⟨i,F⟩:=all 0 (by lia);simp_all
   exact An sz f (k+1) ⟨l,by lia,by lia,C⟩ λn q=>by
    have q:n<nk m h k+(runEnd m (ru m h k).1 - (ru m h k).1)+1:=q;obtain z|z:=zcL n (nk m h k)
    ·exact hb n z
    ·obtain⟨d,rfl⟩:∃d,n=nk m h k+d:=⟨n - nk m h k,by lia⟩
     rw[a.2 d (by lia)];exact all d (by lia)
def Own.step{o:List Int}{ow:Array (Option Nat)}(O:Own m o ow)(P:full m=true)(X:o.length<=m)(h):
  ∃j,SetTable.layClean.free m ow (turns m) (bits h % (m+1)) (bits h)=some j/\Own m (o++[h]) (ow.setIfInBounds j (some o.length)):=by
 have⟨j0,z1,z2⟩:∃j,j<=m/\ow[j]? =some none:=by
  apply Classical.byContradiction;intro E;have C:∀j,j<=m->oY ow j:=λj I=>by
   cases e:ow[j]? with
   |none=>rw[Array.getElem?_eq_none_iff] at e;have:=O.sz;lia
   |some x=>
    cases x with
    |none=>exact absurd ⟨j,I,e⟩ E
    |some i=>exact⟨i,e⟩
  let g  :=λi=>if h:i<o.length then Classical.choose (O.al i h) else 0;have L:∀i (h:i<o.length),ow[g i]? =some (some i):=λi h=>by
   grind
  have:=Um (l:=zcV (m+1)) zbM λx q=>by
   have q:=zci.mp q;let⟨i,s⟩:=C x (by lia);have v:=(O.wy x i s).1;rw[O.un x (g i) i s (L i v)];exact zcE.mpr ⟨i,zci.mpr v,rfl⟩
  rw[zbo,zbV,zbo] at this;lia
 let⟨k,W,U⟩:=Ea P h z1;let⟨j,S,Z,Y,Q⟩:=An (h:=h) O.sz (turns m) 0 ⟨k,zcS _,by unfold turns;lia,by simp_all⟩ (λn H=>absurd H (zcd _));refine⟨j,S,?_⟩;have cH:∀x,(ow.setIfInBounds j (some o.length))[x]? =if j=x then some (some o.length) else ow[x]?:=λx=>by
  grind
 have u:∀x,oY ow x->oY (ow.setIfInBounds j (some o.length)) x:=λx ⟨i,s⟩=>by
  unfold oY;rw[cH];by_cases e:j=x
  ·exact⟨_,yIp e⟩
  ·exact⟨i,by simp_all⟩
 refine⟨by simp[O.sz],λx i s=>?_,λi s=>?_,λx y i q t=>?_⟩
 ·rw[cH] at s;by_cases e:j=x
  ·have s:o.length=i:=by simp_all
   subst s;subst e;refine⟨by simp,?_⟩;have:(o++[h]).getD o.length 0=h:=by simp
   rw[this];exact Q.mono u
  ·rw[yIn e] at s;let⟨a,b⟩:=O.wy x i s;refine⟨by rw[zaU];lia,?_⟩;have:(o++[h]).getD i 0=o.getD i 0:=by simp[zag a]
   rw[this];exact b.mono u
 ·rw[zaU] at s;by_cases e:i=o.length
  ·exact⟨j,by simp_all⟩
  ·let⟨x,q⟩:=O.al i (by have:[h].length=1:=rfl;lia);refine⟨x,?_⟩;rw[cH,yIn (λe=>by simp_all)];exact q
 ·rw[cH] at q t;by_cases G:j=x<;>by_cases F:j=y
  ·simp_all
  ·rw[yIn F] at t;have q:o.length=i:=by simp_all
   have:=(O.wy y i t).1;lia
  ·rw[yIn G] at q;have t:o.length=i:=by simp_all
   have:=(O.wy x i q).1;lia
  ·rw[yIn G] at q;rw[yIn F] at t;exact O.un x y i q t
theorem Fc{m:Nat}(o:full m=true){F:Option (Array (Option Nat)×Nat)->Int->Option (Array (Option Nat)×Nat)}(q:∀ow k h j,SetTable.layClean.free m ow (turns m) (bits h % (m+1)) (bits h)=some j->F (some (ow,k)) h=some (ow.setIfInBounds j (some k),k+1)):
  ∀(rest done)(ow),Own m done ow->done.length+rest.length<=m->∃l,rest.foldl F (some (ow,done.length))=some (l,done.length+rest.length)/\Own m (done++rest) l
 |[],done,ow,O,_=>⟨ow,rfl,by rw[zbW];exact O⟩
 |h::rest,done,ow,O,hl=>by
  rw[zbB] at hl;let⟨j,t,s⟩:=O.step o (by lia) h;have n:(done++[h]).length=done.length+1:=by simp
  let⟨l,a,b⟩:=Fc o q rest (done++[h]) _ s (by lia);refine⟨l,?_,?_⟩
  ·rw[zbZ,q _ _ _ _ t];rw[n] at a;rw[a,zbB];congr 2;lia
  ·rw[zbn] at b;exact b
def gB(t:full m=true)(n)(y:n.size<=m):∃ow,SetTable.layClean m n=some ow/\Own m n.toList ow:=by
 have v:Own m [] (Array.replicate (m+1) none):=by
  have no:∀j i,¬(Array.replicate (m+1) (none:Option Nat))[j]? =some (some i):=λj i z=>by
   rw[Array.getElem?_replicate] at z;simp_all
  refine⟨by simp,λj i l=>absurd l (no j i),λi l=>by simp at l,λj x i l=>absurd l (no j i)⟩
 unfold SetTable.layClean;rw[<-Array.foldl_toList];generalize u:(λq h=>(do
  let(owner,k) <-q;let j <-SetTable.layClean.free m owner (turns m) (bits h % (m+1)) (bits h)
  pure (owner.setIfInBounds j (some k),k+1)))=F
 have o:∀ow k h j,SetTable.layClean.free m ow (turns m) (bits h % (m+1)) (bits h)=some j->F (some (ow,k)) h=some (ow.setIfInBounds j (some k),k+1):=λow k h j s=>by
  grind
 let⟨ow,a,b⟩:=Fc t (λow k h j s=>by
  exact o ow k h j s) n.toList [] _ v (by simp_all)
 refine⟨ow,?_,b⟩;have a:=congrArg (Option.map (·.1)) a;exact a
def tT{fi mv:Nat}{ld pn:Bool}(W:full m=true)(Z:es.size*5<m*3):
  ∃t' o n,SetTable.laid m fi mv ld pn (es.map (·.1))=some (t',o)/\((m=7∨m=31∨m=127)->Tab t' (o.filterMap (es[·]?)) n)/\(n.map (·.2)).Perm es.toList/\(o.filterMap (es[·]?)).toList=n.map (·.2)/\t'.place.size=n.length/\t'.dummies=#[]/\t'.mask=m/\t'.led=ld/\t'.plain=pn:=by
 let⟨ow,a,O⟩:=gB W (es.map (·.1)) (by rw[Array.size_map];lia);generalize v:((zcV (m+1)).filterMap λj=>(ow.getD j none).map (j,·))=live;have mem:∀j i,(j,i)∈live↔ow[j]? =some (some i):=λj i=>by
  rw[<-v,zaT];constructor
  ·rintro⟨x,h1,h2⟩;have h1:=zci.mp h1;have s:x<ow.size:=by rw[O.sz];exact h1
   have C:ow.getD x none=ow[x]:=by simp[s]
   rw[C] at h2;cases X:ow[x] with
   |none=>simp_all
   |some y=>
    rw[X] at h2;injection h2 with h2;injection h2 with h3 h4;subst h3;simp_all
  ·intro h;let⟨s,e⟩:=zae.mp h;refine⟨j,zci.mpr (by rw[<-O.sz];exact s),?_⟩;simp_all
 have u:∀e∈live,e.2<es.size/\Way m (oY ow) ((es.getD e.2 (0,.none)).1) e.1:=λe l=>by
  let⟨h1,h2⟩:=O.wy e.1 e.2 ((mem e.1 e.2).mp l);simp_all
 have up:(live.map (·.1)).Pairwise (· < ·):=by
  rw[<-v];exact List.Pairwise.sublist (nM _ _) List.pairwise_lt_range
 have nd  :=by
  rw[zbr] at up;show(live.map (·.2)).Pairwise (· ≠·);rw[zbr];refine up.imp_of_mem λ{x y} s E Q e=>?_;have h1:=(mem x.1 x.2).mp s;have h2:=(mem y.1 y.2).mp E;rw[<-e] at h2;have:=O.un _ _ _ h1 h2;lia
 have P:(live.map (·.2)).Perm (zcV es.size):=by
  rw[List.perm_ext_iff_of_nodup nd zbM];intro i;rw[zci,zcE];constructor
  ·rintro⟨e,l,rfl⟩;exact(u e l).1
  ·intro H;let⟨j,U⟩:=O.al i (by simp_all);refine⟨(j,i),(mem j i).mpr U,rfl⟩
 generalize t:(live.map λe=>((e.1,es.getD e.2 (0,.none)):Ent))=n;have L:fs n=live.map (·.1):=by rw[<-t];unfold fs;rw[zcF];rfl
 have F:n.map (·.2)=(live.map (·.2)).map λi=>es.getD i (0,.none):=by rw[<-t,zcF,zcF];rfl
 have G:(n.map (·.2)).Perm es.toList:=by
  rw[F];refine(P.map _).trans ?_;have:(zcV es.size).map (λi=>es.getD i (0,.none))=es.toList:=by
   refine zbK (by simp) λi h1 h2=>?_;have h3  :=by simpa using h2
   simp_all
  rw[this]
 have I:∀q:List (Nat×Nat),(∀e∈q,e.2<es.size)->(q.map (·.2)).filterMap (es[·]?)=(q.map (·.2)).map λi=>es.getD i (0,.none):=by
  intro q
  induction q with
  |nil=>intro _;rfl
  |cons e q ih=>
   intro Y;simp_all
 refine⟨{mask:=m,place:=(live.map (·.1)).toArray,dummies:=#[],finger:=fi,led:=ld,moves:=mv,plain:=pn},(live.map (·.2)).toArray,n,?_,λS=>⟨rfl,?_,?_,?_,S,?_,?_,?_⟩,G,?_,?_,rfl,rfl,rfl,rfl⟩
 ·unfold SetTable.laid;rw[a];show some _=some _;rw[v]
 ·simp_all
 ·rw[Array.toList_filterMap,F];exact I live λe l=>(u e l).1
 ·simp_all
 ·have:=G.length_eq;rw[zbV] at this;simp_all
 ·intro e l;rw[<-t] at l;let⟨x,s,rfl⟩:=zcE.mp l;let⟨h1,_⟩:=zae.mp ((mem x.1 x.2).mp s);have:=O.sz;show x.1<=m;lia
 ·intro e l;rw[<-t] at l;let⟨x,s,rfl⟩:=zcE.mp l;refine(u x s).2.mono λy E=>?_;rw[L];let⟨i,H⟩:=E;exact zcE.mpr ⟨(y,i),(mem y i).mpr H,rfl⟩
 ·rw[Array.toList_filterMap,F];exact I live λe l=>(u e l).1
 ·have C:=congrArg zcQ L;unfold fs at C;simp at C;simp[C]
def Ek(j:SetTable.sizeAbove n - 1=m)(h:m=7∨m=31∨m=127)(l:es.size*5<m*3):
  ∃t' o a,t.relaid (es.map (·.1)) n=some (t',o)/\Tab t' (o.filterMap (es[·]?)) a/\(a.map (·.2)).Perm es.toList/\t'.led=t.led/\t'.plain=t.plain:=by
 unfold SetTable.relaid;rw[j];obtain⟨t',o,a,h1,h2,s,_,_,_,_,q⟩:=tT (Aj h) l;exact⟨t',o,a,h1,h2 h,s,q⟩
end M8
namespace M8
open PySem PySem.Spec PyProof.Rows M5 M6 M7
open PySem.SetTable (Probe bits runEnd leap turns)
def pR:∀(n)(d){v:yai}{as:List Addr}{A:yal}{E:yai->yah->Prop}{s:yah}{Q:Bool->yah->Prop},d.depth<=n->cU d=true->Reads s.heap v d as->Q false s->yar (model prog w) A (ofAClassStatement n v) Q E s:=by
 intro n d v as A E s Q hd O L h;refine deep (G:=λn v=>∀{Q:Bool->yah->Prop},Q false s->yar (model prog w) A (ofAClassStatement n v) Q E s) (λn i t Q h=>by rw[ofAClassStatement.eq_def];exact yab h) (λn i t Q h=>by rw[ofAClassStatement.eq_def];exact yab h) (λn a o vs m F P l q Q h=>?_) n d hd O L h;rw[ofAClassStatement.eq_def];refine yaa (wpAny_typeOf (eT F P) ?_);refine yaa (yab ?_);refine yaa (wpAny_seqItems F l (yaa ?_));rw[<-zbg];refine wpAny_forIn_list _ (λrest r u=>r.1=none/\u=s/\∀y∈rest,y∈vs.toList) _ ?_ ?_ vs.toList (none,()) ⟨rfl,rfl,λ_ C=>C⟩
 ·rintro y rest ⟨I,H⟩ u ⟨z,rfl,j⟩;exact yaa (q y (j y (by simp)) (yab ⟨rfl,rfl,λx C=>j x (zaC _ C)⟩))
 ·rintro⟨I,H⟩ u ⟨z,rfl,_⟩;subst z;exact yab h
def xo:∀(n)(d){v:yai}{as:List Addr}{A:yal}{E:yai->yah->Prop}{s:yah}{Q:Bool->yah->Prop},d.depth<=n->cU d=true->Reads s.heap v d as->(∀b,Q b s)->yar (model prog w) A (hashByValue n v) Q E s:=by
 intro n d v as A E s Q hd P O h;refine deep (G:=λn v=>∀{Q:Bool->yah->Prop},(∀b,Q b s)->yar (model prog w) A (hashByValue n v) Q E s) (λn i t Q h=>by rw[hashByValue.eq_def];exact yab (h _)) (λn i t Q h=>by rw[hashByValue.eq_def];exact yab (h _)) (λn a o vs m I S l q Q h=>?_) n d hd P O h;refine yaa (wpAny_specialOf (eT I S) F.slot_tuple_hash.lookup ?_);refine yaa (wpAny_seqItems I l (yaa ?_));rw[<-zbg];refine wpAny_forIn_list _ (λrest r u=>u=s/\∀y∈rest,y∈vs.toList) _ ?_ ?_ vs.toList (none,()) ⟨rfl,λ_ C=>C⟩
 ·rintro y rest ⟨H,L⟩ u ⟨rfl,j⟩;refine yaa (q y (j y (by simp)) λb=>?_);cases b
  ·exact yab (yab (h _))
  ·exact yab ⟨rfl,λx C=>j x (zaC _ C)⟩
 ·rintro⟨H,L⟩ u ⟨rfl,_⟩;cases H<;>exact yab (h _)
def Cc(F:isKey s.heap d e)(C:∀v∈g,∃k a,v=.ref a/\isKey s.heap k a)(h:z false s):yar (model prog w) A (searchCouldBeSeen (.ref e) g) z E s:=by
 refine yaa ?_;refine wpAny_forIn_list _ (λrest r m=>r=(none,())/\m=s/\∀v∈rest,∃k a,v=.ref a/\isKey s.heap k a) _ ?_ ?_ g (none,()) ⟨rfl,rfl,C⟩
 ·rintro y rest r m ⟨rfl,rfl,n⟩;let⟨k,a,rfl,G⟩:=n y (by simp);have l:=λv x=>n v (zaC _ x);let⟨q,H,bs,o⟩:=F;let⟨u,L,I,t⟩:=G;dsimp only;split
  ·exact yab ⟨rfl,rfl,l⟩
  ·refine yaa (ji 8 d (by lia) q o ?_);refine yaa (ji 8 k (by lia) u t ?_);refine yaa (pR 8 d (by lia) q o ?_);refine yaa (pR 8 k (by lia) u t ?_);exact yab ⟨rfl,rfl,l⟩
 ·rintro r m ⟨rfl,rfl,_⟩;exact yab h
noncomputable def tY(w:yak)(k:yam×Addr):Int×yai:=(bJ w k.1,.ref k.2)
theorem search{a b:Addr}{o:Obj}{es:Array (Int×yai)}{ep:Nat}{t:SetTable}{l:List Ent}{C:List (yam×Addr)}{d:yam}{Q:SetFound->yah->Prop}(Y:s.heap.get? a=some o)(hd:o.data=.set es ep t)(T:Tab t es l)(q:es.toList=C.map (tY w))(L:∀k∈C,isKey s.heap k.1 k.2)(hb:isKey s.heap d b)(hu:A.units+10<cLine){N:Nat}(hNf:N<10*turns t.mask)(hN:(road t.mask (bJ w d) N).j ∉ fs l)(O:∀n<N,(road t.mask (bJ w d) n).j∈fs l)(q1:(∃k∈C,k.1=d)->Q (.there none) s)(q2:(∀k∈C,k.1≠d)->Q (.free (road t.mask (bJ w d) N).j false) s):
  ∀(f n)(st),st.getD (t.probeStart (bJ w d))=road t.mask (bJ w d) n->n<=N->N - n<f->(∀H<n,∀k∈C,((road t.mask (bJ w d) H).j,tY w k)∈l->k.1≠d)->
   yar (model prog w) A (setSearchFrom a (.ref b) (bJ w d) true f st) Q E s
 |0,n,st,_,_,h,_=>by lia
 |f+1,n,st,hst,hn,hf,hne=>by
  have ent:∀e,e∈l.map (·.2)->∃k∈C,e=tY w k:=λe m=>by
   rw[<-T.el,q] at m;let⟨k,h1,h2⟩:=zcE.mp m;refine⟨k,h1,h2.symm⟩
  refine yaa (wpAny_setState_of Y hd T.fits ?_);dsimp only;rw[yIn (by unfold SetTable.gaveWay;obtain e|e|e:=T.mm<;>rw[e]<;>decide)];rw[hst];unfold SetTable.probe;generalize hG:SetTable.probe.go t _ (bJ w d) (10*turns t.mask) (road t.mask (bJ w d) n)=G;rcases T.probe (hashAt:=λi=>(es[i]?.map (·.1)).getD 0) (λi e m=>by simp_all) hN O (10*turns t.mask) n hn (by lia) with⟨p1,p2⟩|⟨n1,e,i,c1,c2,c3,c4,c5,c6,c7,c8⟩
  ·obtain rfl:some _=G:=p1.symm.trans hG;refine yab (q2 λk hk1 e=>?_);have hm:tY w k∈l.map (·.2):=by rw[<-T.el,q];exact zcE.mpr ⟨k,hk1,rfl⟩
   let⟨⟨j,e'⟩,y,e2⟩:=zcE.mp hm;let⟨n0,r1,r2⟩:=T.way _ y;have hh:(tY w k).1=bJ w d:=by rw[<-e];rfl
   have r1:(road t.mask (bJ w d) n0).j=j:=by simp_all
   rw[<-r1] at y;have hjm:(road t.mask (bJ w d) n0).j∈fs l:=zcE.mpr ⟨_,y,rfl⟩
   grind
  ·obtain rfl:some _=G:=c7.symm.trans hG;dsimp only;let⟨k,W,rfl⟩:=ent e (zcE.mpr ⟨_,c3,rfl⟩);have OJ:∀v∈zcY (λx=>x.2) (Array.filter (λx=>x.1==bJ w d) es).toList,∃k a,v=.ref a/\isKey s.heap k a:=λv hv=>by
    let⟨e,m,rfl⟩:=zcE.mp hv;rw[Array.toList_filter] at m;have m:=(zbT.mp m).1;rw[q] at m;let⟨F,h1,rfl⟩:=zcE.mp m;refine⟨F.1,F.2,rfl,L F h1⟩
   by_cases hl:(!t.led)=true
   case' pos=>(rw[yIp hl];refine yaa (Cc hb OJ ?_);rw[yIn (by decide)])
   case' neg=>rw[yIn hl]
   all_goals
    rw[c6];refine yaa (yad ((pQ prog w).eqBool hu (L k W) hb ?_));refine yaa (wpAny_setState_of Y hd T.fits ?_);by_cases m:k.1=d
    ·rw[yDt m];exact yab (q1 ⟨k,W,m⟩)
    ·rw[yDf m];have X:t.sameMemory t.moves t.mask=some true:=by unfold SetTable.sameMemory;simp
     rw[X];dsimp only;rw[yIp rfl,c5];dsimp only;rw[c6];refine yaa (wpAny_isSame_ref_self ?_);refine search Y hd T q L hb hu hNf hN O q1 q2 f (n1+1) _ rfl (by lia) (by lia) λH Z F I u=>?_;obtain z|z:=zcL H n
     ·exact hne H z F I u
     ·obtain U|U:=Nat.eq_or_lt_of_le (zbt Z)
      ·subst U;let⟨i',S,P,_⟩:=T.live u;rw[c5] at S;injection S with S;subst S;rw[c6] at P;have P:=zcU.inj P;injection P with _ j3;injection j3 with j3;have a1:=L k W;have a2:=L F I;rw[<-j3] at a2;rw[<-(pQ prog w).inj a1 a2];exact m
      ·intro e;refine c8 H z U _ u ?_;rw[<-e];rfl
def eB(h h':Heap):Prop:=∀c o,o.cls=.type "tuple"->h.get? c=some o->h'.get? c=some o
def eB.trans(x:eB h h1)(y:eB h1 h2):eB h h2:=λc o e z=>y c o e (x c o e z)
def eB.but(j:h.get? d=some ob)(a:ob.cls≠ .type "tuple")(k:∀c o,c≠d->h.get? c=some o->h'.get? c=some o):eB h h':=λc o e z=>
 k c o (λl=>by simp_all) z
mutual
theorem zJ{h h':Heap}(kp:eB h h'):∀(d:yam){v:yai}{as:List Addr},cU d=true->Reads h v d as->Reads h' v d as
 |.int i,v,as,hk,hr=>by cases hr;exact .int ..
 |.str i,v,as,hk,hr=>by cases hr;exact .str ..
 |.tuple xs,v,as,hk,hr=>by
  cases hr with
  |@tuple a o vs m _ _ ho hc hdat hall=>exact .tuple (kp a o hc ho) hc hdat (vg kp xs hk hall)
 |.none,_,_,h,_=>by simp[cU] at h
 |.bool _,_,_,h,_=>by simp[cU] at h
 |.list _,_,_,h,_=>by simp[cU] at h
 |.dict _,_,_,h,_=>by simp[cU] at h
theorem vg{h h':Heap}(kp:eB h h'):∀(ds:List yam){vs:List yai}{as:List Addr},fu ds=true->ReadsAll h vs ds as->ReadsAll h' vs ds as
 |[],vs,as,hk,hr=>by cases hr;exact .nil
 |d::ds,vs,as,hk,hr=>by
  simp only[fu,zbR] at hk;cases hr with
  |cons hx hr=>exact .cons (zJ kp d hk.1 hx) (vg kp ds hk.2 hr)
end
def rW(kp:eB h h')(x:isKey h d a):isKey h' d a:=by let⟨j,l,n,m⟩:=x;refine⟨j,l,n,zJ kp d j m⟩
def Bl(w:yak)(B:List (yam×Addr))(h:Heap)(a:Addr)(S:List yam):Prop:=
 ∃o m n t l,∃j:List (yam×Addr),h.get? a=some o/\o.ExactSet/\o.data=.set m n t/\Tab t m l/\t.led=(!w.params.followText "set-order")/\m.toList=j.map (tY w)/\(∀k∈j,k∈B/\isKey h k.1 k.2)/\(j.map (·.1)).Perm S
def Bl.keep(x:Bl w B h a d)(e:∀o,h.get? a=some o->h'.get? a=some o)(kp:eB h h'):Bl w B h' a d:=
 by let⟨o,F,G,t,l,C,E,y,v,u,s,q,j,n⟩:=x;refine⟨o,F,G,t,l,C,e o E,y,v,u,s,q,λk m=>⟨(j k m).1,rW kp (j k m).2⟩,n⟩
noncomputable def p7(S:List yam)(x:yam):List yam:=if x∈S then S else S++[x]
def MB{o:Obj}(h:o.ExactSet):o.cls≠ .type "tuple":=by
 rw[h.1];simp
def QB(l:h.get? a=some d)(j:d.ExactSet)(sb:Heap.SameBut a h h'):eB h h':=
 eB.but l (MB j) λc d m e=>by rw[sb.2 c m];exact e
def rO{es:List (Int×yai)}(h:es.Perm (ks.map (tY w))):∃a:List (yam×Addr),a.Perm ks/\es=a.map (tY w):=gV h
def JZ{b:Addr}{S:List yam}{d:yam}{Q:Bool->yah->Prop}(hS:Bl w B s.heap a S)(hbB:(d,b)∈B)(hb:isKey s.heap d b)(hu:A.units+10<cLine)(hn:S.length+1<64)(h:∀r h',Heap.SameBut a s.heap h'->eB s.heap h'->Bl w B h' a (p7 S d)->Q r {s with heap:=h'}):
  yar (model prog w) A (setAddHashed a (.ref b) (bJ w d)) Q E s:=by
 obtain⟨o,es,ep,t,l,ks,I,y,hd,T,ab,G,H,X⟩:=hS;have hk  :=λk n=>(H k n).2;have an:l.length=S.length:=by
  rw[<-X.length_eq,zbV,<-T.Tv,<-zaR,G,zbV]
 have F:=T.mm;have hnf:=T.nf;obtain⟨N,n1,n2,n3⟩:=yp (Aj F) (bJ w d) (occ:=fs l) (by unfold fs;rw[zbV];lia);refine yad (yaa (wpAny_setState_of I hd T.fits ?_));dsimp only;refine yaa ?_;refine search I hd T G hk hb hu n1 n2 n3 (λhx=>?_) (λhx=>?_) 100000 0 none rfl (zcS _) (by
  have:turns t.mask<=142:=by unfold turns;obtain e|e|e:=F<;>lia
  lia) (λn' hn'=>absurd hn' (zcd _))
 ·obtain⟨k,k1,k2⟩:=hx;have hm  :=X.mem_iff.mp (zcE.mpr ⟨k,k1,k2⟩);refine yab ?_;have q:=h false s.heap (Heap.SameBut.refl a s.heap) (λc o _ z=>z) (by
   unfold p7;rw[yIp hm];exact⟨o,es,ep,t,l,ks,I,y,hd,T,ab,G,H,X⟩)
  exact q
 ·have hm:d ∉ S:=λz=>by
   obtain⟨k,k1,k2⟩:=zcE.mp (X.mem_iff.mpr z);exact hx k k1 k2
  have ae:p7 S d=S++[d]:=by unfold p7;simp_all
  rw[ae] at h;refine yaa (wpAny_setState_of I hd T.fits ?_);have hes:=Es T (j:=(road t.mask (bJ w d) N).j) (h:=bJ w d) (x:=.ref b);have UC:=T.put (x:=.ref b) n2 n3;have Rz:(SetTable.insertAt es (t.put (road t.mask (bJ w d) N).j).2 (bJ w d,Value.ref b)).size=l.length+1:=by
   rw[<-zaR,hes,zbV,(eV ..).length_eq];rfl
  have hpe:(SetTable.insertAt es (t.put (road t.mask (bJ w d) N).j).2 (bJ w d,Value.ref b)).toList.Perm (((d,b)::ks).map (tY w)):=by
   rw[hes];refine((eV ..).map _).trans ?_;rw[zcs,<-T.el,G];rfl
  have ag:(t.put (road t.mask (bJ w d) N).j).1.place.size=l.length+1:=by
   show(SetTable.insertAt t.place _ _).size=_;rw[<-zaR,jY,zaU,zbB,zbA,zbC,zaR,T.sz];lia
  have hdm:(t.put (road t.mask (bJ w d) N).j).1.dummies=#[]:=by
   have hh:SetTable.has t.dummies (road t.mask (bJ w d) N).j=false:=by rw[T.dm];rfl
   show(if SetTable.has t.dummies _=true then _ else t.dummies)=#[];rw[yIn (by simp_all)];exact T.dm
  have LG:(t.put (road t.mask (bJ w d) N).j).1.led=t.led:=rfl;have ak:(t.put (road t.mask (bJ w d) N).j).1.mask=t.mask:=rfl;generalize (t.put (road t.mask (bJ w d) N).j)=tp at*;obtain⟨Z,p⟩:=tp;dsimp only at*;generalize hE1:SetTable.insertAt es p (bJ w d,Value.ref b)=es1 at*;have W:∀u,u.place=Z.place->u.dummies=Z.dummies->u.mask=Z.mask->u.led=Z.led->yar (model prog w) A (do
    storeSet a es1 u
    if(!false&&u.tooFull)=true then do
      setRelay a (SetTable.grown (es.size+1))
      pure true
     else pure true) Q E s:=by
   intro u e1 e2 e3 e4;have C:=dh es1 u I hd;have L:=Heap.SameBut.update s.heap a (Obj.putSet es1 u);have P:=QB I y L;refine yaa (wpAny_storeSet_of I hd ?_ (by rw[yaf];lia));have htf:u.tooFull=decide ((l.length+1)*5≥t.mask*3):=by
    unfold SetTable.tooFull SetTable.fill;simp_all
   rw[htf];by_cases v:(l.length+1)*5≥t.mask*3
   ·rw[yDt v];have ac:u.fits es1.size=true:=by
     unfold SetTable.fits SetTable.fill;rw[e1,e2,hdm];simp;obtain e|e|e:=F<;>lia
    have hg:SetTable.grown (es.size+1)=(l.length+1)*4:=by
     unfold SetTable.grown;rw[T.Tv,yIn (by lia)]
    obtain⟨m,m1,m2,m3,m4⟩:∃m,SetTable.sizeAbove ((l.length+1)*4) - 1=m/\(m=7∨m=31∨m=127)/\es1.size*5<m*3/\SetTable.sizeAbove ((l.length+1)*4)<=128:=by
     obtain e|e|e:=F
     ·have:l.length=4:=by lia
      rw[this];exact⟨31,by rfl,.inr (.inl rfl),by rw[Rz,this];decide,by decide+kernel⟩
     ·have:l.length=18:=by lia
      rw[this];exact⟨127,by rfl,.inr (.inr rfl),by rw[Rz,this];decide,by decide+kernel⟩
     ·lia
    obtain⟨t3,od,l3,r1,r2,r3,r4,r5⟩:=Ek m1 m2 m3;refine yaa ?_;refine yaa (wpAny_setState_of C rfl ac ?_);dsimp only;rw[hg,yIn (by rw[yaf];lia),r1];have UB:(od.filterMap (es1[·]?)).size=es1.size:=by
     rw[<-zaR,r2.el,r3.length_eq,zaR]
    refine yaa ?_;show yar _ _ (if((od.filterMap (es1[·]?)).size != es1.size)=true then _ else _) _ _ _;rw[yIn (by rw[UB];simp)];refine yab ?_;dsimp only;refine wpAny_storeSet_of C rfl ?_ (by rw[yaf];lia);refine yab ?_;have sb2:=L.trans (Heap.SameBut.update _ a (Obj.putSet (od.filterMap (es1[·]?)) t3));have O:=QB I y sb2;obtain⟨U,p1,p2⟩:=rO (es:=(od.filterMap (es1[·]?)).toList) (by rw[r2.el];exact r3.trans hpe);refine h true _ sb2 O ⟨_,_,_,t3,l3,U,dh _ t3 C rfl,y,rfl,r2,by simp_all,p2,λk n=>?_,?_⟩
    ·obtain rfl|n:=zcq.mp (p1.mem_iff.mp n)
     ·exact⟨hbB,rW O hb⟩
     ·exact⟨(H k n).1,rW O (hk k n)⟩
    ·refine(p1.map _).trans ?_;refine(X.cons d).trans ?_;exact List.perm_append_singleton d S |>.symm
   ·rw[yDf v];refine yab ?_;have Y:=UC (by lia);obtain⟨U,p1,p2⟩:=rO hpe;refine h true _ L P ⟨_,_,_,u,_,U,C,y,rfl,⟨by simp_all,by rw[e1];exact Y.pl,Y.el,Y.up,by simp_all,by rw[e3];exact Y.nf,by rw[e3];exact Y.le,by rw[e3];exact Y.way⟩,by simp_all,p2,λk n=>?_,?_⟩
    ·obtain rfl|n:=zcq.mp (p1.mem_iff.mp n)
     ·exact⟨hbB,rW P hb⟩
     ·exact⟨(H k n).1,rW P (hk k n)⟩
    ·refine(p1.map _).trans ?_;refine(X.cons d).trans ?_;exact List.perm_append_singleton d S |>.symm
  obtain⟨b1,b2,bs,b3⟩:=hb;cases hpt:Z.plain with
  |true=>
   refine yaa (xo 8 d (by lia) b1 b3 λr=>?_);cases r
   ·exact W _ rfl rfl rfl rfl
   ·exact W _ rfl rfl rfl rfl
  |false=>
   exact W _ rfl rfl rfl rfl
end M8
namespace M8
open PySem PySem.Spec PyProof.Rows M5 M6 M7
noncomputable def qV(val:Nat->yam):Nat->List yam
 |0=>[]
 |i+1=>p7 (qV val i) (val i)
theorem pY(val):∀i,(qV val i).length<=i
 |0=>zcR _
 |i+1=>by
  have:=pY val i;show(p7 _ _).length<=_;unfold p7;split
  ·lia
  simp_all
theorem vz(val)(y):∀n,y∈qV val n↔∃i,i<n/\val i=y
 |0=>by simp[qV]
 |n+1=>by
  have a:=vz val y n;have h:y∈qV val (n+1)↔y∈qV val n∨y=val n:=by
   show y∈p7 _ _↔_;unfold p7
   grind
  grind
theorem o7(val):∀n,(qV val n).Nodup
 |0=>List.nodup_nil
 |n+1=>by
  have a:=o7 val n;show(p7 _ _).Nodup;unfold p7
  grind
section
variable {R:Result->yah->Prop}{wr:List Addr}{P:Nat->yai->Prop}{St:Nat->yah->Prop}
theorem E6{h0:Heap}(W:WalksS prog w A.in1 I fp wr G n P St)(a)(ha:a ∉ fp)(val:Nat->yam×Addr)(u:∀i v,P i v->v=.ref (val i).2)(hB:∀i,i<n->val i∈B)(S:∀i,i<n->isKey h0 (val i).1 (val i).2)(hI:∀i s,St i s->∃o,s.heap.get? I=some o/\o.cls≠ .type "tuple")(hw:∀b∈wr,b=I)(hu:A.units+11<cLine)(hn:n<63):
  ∀(k i)(s),n - i=k->i<=n->St i s->Bl w B s.heap a (qV (λi=>(val i).1) i)->eB h0 s.heap->
   (∀j,Moved (a::wr) G s j->eB h0 j.heap->Bl w B j.heap a (qV (λi=>(val i).1) n)->R (.ok (.ret .none)) j)->
   codeAny (model prog w) A (.builtin "set.update.loop" ⟨[.ref a,.ref I],[]⟩) R s:=by
 have haw  :=λz=>ha (W.sub _ z);have q:∀b∈wr,b∈a::wr:=λb z=>zaC _ z;have kt:∀{i:Nat}{s j:yah},St i s->Moved wr G s j->eB s.heap j.heap:=λ{i s j} h l=>by
  let⟨o,ho,hc⟩:=hI _ _ h;exact eB.but ho hc λc o U e=>l.heap c o (λz=>U (hw c z)) e
 intro k
 induction k with
 |zero=>
  intro i s hk hi h hS Y hR;obtain rfl:i=n:=by lia
  refine codeAny_builtin PyProof.Rows.F.entry_set_update_loop ?_;refine yaa (W.done s _ _ h λj l=>?_);have t:=kt h l;exact yab (hR j (l.mono q) (Y.trans t) (hS.keep (λo e=>l.heap a o haw e) t))
 |succ k ih=>
  intro i s hk hi h hS Y hR;have m:i<n:=by lia
  refine codeAny_builtin PyProof.Rows.F.entry_set_update_loop ?_;rw[Around.under_plainId PyProof.Rows.F.plain_set_update_loop _];refine yaa (W.item i s _ _ m h λv j hP x l=>?_);have t:=kt h l;obtain rfl:=u i v hP;have hS':=hS.keep (λo e=>l.heap a o haw e) t;have H:=Y.trans t;have hkey  :=rW H (S i m);refine yaa (yad ?_);refine yad (yaa ((pQ prog w).pyHash (by show A.units+1+10<cLine;lia) hkey ?_));have:=pY (λi=>(val i).1) i;refine JZ hS' (hB i m) hkey (by simp_all) (by lia) λb h' y Q Z=>?_;refine yab ⟨plainId_quiet PyProof.Rows.F.plain_set_update_loop _,ih (i+1) _ (by lia) m (W.frame _ j _ _ x (Nat.le_add_right _ _) λb X o e=>?_) Z (H.trans Q) λO C E L=>?_⟩
  ·rw[y.2 b λz=>ha (z▸X)];exact e
  ·refine hR O (Moved.trans W.gtrans ((l.mono q).then_heap (Nat.le_add_right _ _) λb o X e=>?_) C) E L;rw[y.2 b λz=>X (z▸zaV)];exact e
end
def CD(e:h.get? a=some (aW (!w.params.followText "set-order"))):Bl w B h a []:=
 ⟨_,#[],0,_,[],[],e,⟨rfl,rfl,rfl⟩,rfl,⟨rfl,rfl,rfl,.nil,.inl rfl,(by show 0*5<7*3;decide),λe j=>by simp at j,λe j=>by simp at j⟩,rfl,rfl,λk l=>by simp at l,.nil⟩
def uS{St:Addr->Nat->Heap->Prop}(hh:A.handled=none)(hT:s.TypeIs (.ref l) T)(h1:isSubtype (.type T) (.type "set")=pure false)(h2:isSubtype (.type T) (.type "frozenset")=pure false)(h3:(Value.type T==Value.type "dict")=false)(it:∀{A':yal}{j:yah}{X:yai->yah->Prop}{E':yai->yah->Prop},(∀b o,s.heap.get? b=some o->j.heap.get? b=some o)->X (.ref j.heap.objs.size) {j with heap:=j.heap.push ob}->yar (model prog w) A' (pyIter (.ref l)) X E' j)(F:ob.isFreed=false)(W:∀{A':yal}(I),A'.handled=none->l≠I->Walks prog w A' I [I,l] [I] its.size (λi v=>its[i]? =some v) (St I))(t:∀I h',(∀b o,s.heap.get? b=some o->h'.get? b=some o)->h'.get? I=some ob->St I 0 h')(bC:∀I i h',St I i h'->∃o,h'.get? I=some o/\o.cls≠ .type "tuple")(hv:its.toList=ks.map λk=>.ref k.2)(hk:∀k∈ks,isKey s.heap k.1 k.2)(hu:A.units+13<cLine)(hn:ks.length<63)(h:∀(h')(tk)(S),S.Nodup->(∀y,y∈S↔y∈ks.map (·.1))->S.length<63->Bl w ks h' s.heap.objs.size S->(∀b o,b<s.heap.objs.size->s.heap.get? b=some o->h'.get? b=some o)->Q (.ref s.heap.objs.size) {s with heap:=h',toks:=tk}):
  yar (model prog w) A (call (.type "set") [.ref l]) Q E s:=by
 have el:its.size=ks.length:=by rw[<-zaR,hv,zbV]
 have a:∀i m,ks.getD i (.none,0)=ks[i]:=λi m=>by simp_all
 have U:=pY (λi=>(ks.getD i (.none,0)).1) its.size;refine lK (Z:=λh'=>Bl w ks h' s.heap.objs.size (qV (λi=>(ks.getD i (.none,0)).1) its.size)) hT h1 h2 h3 it F (λI h0 R kp gS gI G O hR=>?_)
  λh' tk hZ kp=>h h' tk _ (o7 _ _) (λy=>?_) (by lia) hZ kp
 ·refine E6 (B:=ks) (W (A':=A.in1.in1.in1) I hh G).toS s.heap.objs.size O (λi=>ks.getD i (.none,0)) (λi v x=>?_) (λi m=>?_) (λi m=>?_) (λi j C=>bC I i _ C) (λb L=>by simpa using L) (by simp_all) (by lia) (its.size - 0) 0 _ rfl (zcS _) (t I h0 kp gI) (CD gS) (λc o _ z=>z) λj n _ P=>?_
  ·rw[<-zaA] at x
   grind
  ·simp_all
  ·rw[a i (by lia)];obtain⟨k1,k2,as,Y⟩:=hk _ (zbG (by lia:i<ks.length));exact⟨k1,k2,as,Reads.keeps kp Y⟩
  ·obtain⟨h',g',d',q,u⟩:=j;obtain rfl:g'=s.gens:=n.gens;obtain rfl:d'=s.drawn:=n.drawn;obtain rfl:u=s.os:=n.os;exact hR h' q P λb o L e=>n.heap b o L e
 ·rw[vz,zcE];constructor
  ·rintro⟨i,m,e⟩;rw[a i (by lia)] at e;exact⟨_,zbG (by lia),e⟩
  ·rintro⟨k,H,e⟩;obtain⟨i,m,rfl⟩:=zaL H;exact⟨i,by lia,by rw[a i m];exact e⟩
def xD(x:A.handled=none)(j:s.heap.IsTuple l its)(m:its.toList=ks.map λk=>.ref k.2)(v:∀k∈ks,isKey s.heap k.1 k.2)(n:A.units+13<cLine)(u:ks.length<63)(h:∀(h')(tk)(S),S.Nodup->(∀y,y∈S↔y∈ks.map (·.1))->S.length<63->Bl w ks h' s.heap.objs.size S->(∀b o,b<s.heap.objs.size->s.heap.get? b=some o->h'.get? b=some o)->Q (.ref s.heap.objs.size) {s with heap:=h',toks:=tk}):
  yar (model prog w) A (call (.type "set") [.ref l]) Q E s:=by
 refine uS x j.typeIs M5.F.sub_tuple_set M5.F.sub_tuple_frozenset (by decide) (λkp q=>wpAny_pyIter_tuple (j.at (kp l)) q) rfl (λI h1 h2=>Walks.tuple h1 I l h2 its) (λI h' kp e=>⟨⟨_,e,rfl,rfl⟩,j.at (kp l)⟩) (λI i h' a=>?_) m v n u h;let⟨⟨o,t,C,_⟩,_⟩:=a;refine⟨o,t,by lia⟩
def BA(x:A.handled=none)(j:s.heap.IsList l its)(m:its.toList=ks.map λk=>.ref k.2)(v:∀k∈ks,isKey s.heap k.1 k.2)(n:A.units+13<cLine)(u:ks.length<63)(h:∀(h')(tk)(S),S.Nodup->(∀y,y∈S↔y∈ks.map (·.1))->S.length<63->Bl w ks h' s.heap.objs.size S->(∀b o,b<s.heap.objs.size->s.heap.get? b=some o->h'.get? b=some o)->Q (.ref s.heap.objs.size) {s with heap:=h',toks:=tk}):
  yar (model prog w) A (call (.type "set") [.ref l]) Q E s:=by
 refine uS x j.typeIs PySem.F.sub_list_set PySem.F.sub_list_frozenset (by decide) (λkp q=>wpAny_pyIter_list (j.at (kp l)) q) rfl (λI h1 h2=>Walks.list h1 I l h2 its) (λI h' kp e=>⟨⟨_,e,rfl,rfl⟩,j.at (kp l)⟩) (λI i h' a=>?_) m v n u h;let⟨⟨o,t,C,_⟩,_⟩:=a;refine⟨o,t,by lia⟩
def uN(hh:A.handled=none)(hS:Bl w B s.heap a z)(h0:∀d∈z,∃p r,d=.tuple (.int p::r))(hc:∀x∈z,∀y∈z,cI x y=true)(hn:z.length<64)(hu:A.units+20<cLine)(h:∀(s1:yah)(h2)(out:List (yam×Addr))(c),s1.gens=s.gens->s1.os=s.os->(∀b o,s.heap.get? b=some o->s1.heap.get? b=some o)->(∀b o,s1.heap.get? b=some o->h2.get? b=some o)->h2.get? s1.heap.objs.size=some (seqObj "list" (out.map λk=>Value.ref k.2).toArray c)->(∀k∈out,k∈B)->(out.map (·.1)).Perm z->out.Pairwise (λx y=>ie y.1 x.1=false)->Q (.ref s1.heap.objs.size) {s1 with heap:=h2}):
  yar (model prog w) A (call (.builtin "sorted") [.ref a]) Q E s:=by
 let⟨o,P,ep,t,l,v,ho,H,hd,T,n,q,u,F⟩:=hS;have hm  :=λk j=>F.mem_iff.mp (zcE.mpr ⟨k,j,rfl⟩);have L:v.length=z.length:=by rw[<-F.length_eq,zbV]
 have hsz:P.size=v.length:=by rw[<-zaR,q,zbV]
 refine uQ (R:=λs1=>s1.gens=s.gens/\s1.os=s.os) hh (λk j=>yV.g ⟨(u k j).2,h0 _ (hm k j)⟩) (λk j l hl=>hc _ (hm k j) _ (hm l hl)) (by lia) hu (λG hQ=>iu G ⟨o,ho,H,hd,T.fits,n,λ_=>T.rise⟩ (by lia) λs1 W kp e1 e2 le I=>?_) λs1 h2 out c O Z Y g m C=>?_
 ·have e:P.toList.map (·.2)=v.map λk=>Value.ref k.2:=by rw[q,zcF];rfl
  rw[e] at I;let⟨X,U,rfl⟩:=gV I;exact hQ s1 X kp ⟨e1,e2⟩ U
 ·exact h s1 h2 out c O.1 O.2 Z Y g (λk j=>(u k (m.mem_iff.mp j)).1) ((m.map _).trans F) C
end M8
namespace L2
open PySem PySem.Spec PyProof.Rows M6 M8
section
variable {e:Expr}{ta:TE}{p:Pos}
theorem fM{α:Type}(f:α->Addr):∀{l:List α}{a:List yai},Vals (l.map λx=>V.ref (f x)) a->a=l.map λx=>Value.ref (f x)
 |[],a,h=>by cases h;rfl
 |x::l,a,h=>by
  cases h with
  |cons h1 h2=>cases h1;rw[fM f h2];rfl
end
end L2
namespace M
open PySem PySem.Spec PyProof.Rows L2 M6
theorem oS{α a:Type}{f:α->a}{l:List α}:∀{out:List a},(∀y∈out,y∈l.map f)->∃o':List α,(∀x∈o',x∈l)/\out=o'.map f
 |[],_=>⟨[],λ_ h=>by simp at h,rfl⟩
 |y::out,h=>by
  let⟨x,m,j⟩:=zcE.mp (h y (by simp));let⟨o',o,n⟩:=oS λz hz=>h z (zaC _ hz);refine⟨x::o',λz hz=>?_,by simp_all⟩
  grind
def sF(a:AE):AE:=λn S Q=>a n S λr m=>∃j:List D,(aT m r.d=.tup j∨aT m r.d=.lst j)/\(∀k∈j,wY k/\∃q r,py k=PyData.tuple (.int q::r))/\(∀k∈j,∀l∈j,cI (py k) (py l)=true)/\j.length<63/\
 ∀h:List D,(∀k∈h,k∈j)->(∀y,y∈h.map py↔y∈j.map py)->(h.map py).Nodup->h.Pairwise (λx y=>ie (py y) (py x)=false)->Q (.new (.lst h)) m
end M
namespace M9
open PySem PySem.Spec PyProof.Rows
def Jb(m:s.heap.IsTupleIter I d i)(q:s.heap.IsTuple d its)(n:its[i]? =some e)(h:∀h',h'.IsTupleIter I d (i+1)->Heap.SameBut I s.heap h'->Q e {s with heap:=h'}):yar (model prog w) A (Builtin.SmallTypes.nextOf (.ref I)) Q E s:=by
 let⟨o,a,u,hd⟩:=id m;let⟨v,j,_,y,l⟩:=q;refine yaa (wpAny_callSpecial?_slot m.typeIs F.slot_tuple_iterator_next (wpAny_call_entry F.slot_tuple_iterator_next m.typeIs F.entry_tuple_iterator_next ?_ (F.args_tuple_iterator_next_1 _)));show yar _ _ (field (.ref I) 0 >>= _) _ _ s;refine yaa (wpAny_field a hd rfl ?_);refine yaa (wpAny_field a hd rfl (yaa (wpAny_seqItems j l ?_)));simp only[zbu,n];refine yaa (wpAny_setField a hd (by simp) (yab ⟨e,rfl,yab (h _ ⟨_,zaB _ a (Obj.isFreed_of_fields (Obj.data_mapFields hd _)),(Obj.cls_mapFields ..).trans u,by rw[Obj.data_mapFields hd];rfl⟩ (Heap.SameBut.update ..))⟩))
structure ZAt(h:Heap)(z TI TO i1 i2 l1 l2:Addr)(f:yai)(k:Nat):Prop where
 hz:IsZip h z TI TO f
 hTI:IsPair h TI (.ref i1) (.ref i2)
 hTO:∃a b,IsPair h TO a b
 h1:h.IsTupleIter i1 l1 k
 h2:h.IsTupleIter i2 l2 k
noncomputable abbrev P7(l:Addr):Obj:={cls:=.type "tuple_iterator",data:=.fields #[.ref l,.int 0 0]}
noncomputable abbrev Va(a b:yai):Obj:={cls:=.type "tuple",data:=.seq #[a,b]}
noncomputable abbrev zO(a b:Addr):Obj:={cls:=.type "zip",data:=.fields #[.none,.bool false,.bool false,.ref a,.ref b]}
noncomputable abbrev q2(h:Heap)(l1 l2:Addr):Heap:=(h.push (P7 l1)).push (P7 l2)
noncomputable abbrev q3(h:Heap)(l1 l2:Addr):Heap:=(q2 h l1 l2).push (Va (.ref h.objs.size) (.ref (h.push (P7 l1)).objs.size))
noncomputable abbrev q4(h:Heap)(l1 l2:Addr):Heap:=(q3 h l1 l2).push (Va .none .none)
noncomputable abbrev q5(h:Heap)(l1 l2:Addr):Heap:=(q4 h l1 l2).push (zO (q2 h l1 l2).objs.size (q3 h l1 l2).objs.size)
end M9
namespace M12
open PySem PySem.Spec PyProof.Rows M9
noncomputable abbrev ad(h:Heap)(i:Nat):Addr:=(h.objs.size+i:Nat)
noncomputable abbrev Bv(a b c:yai):Obj:={cls:=.type "tuple",data:=.seq #[a,b,c]}
noncomputable abbrev HG(a:Heap)(j h:yai):Obj:={cls:=.type "zip",data:=.fields #[j,h,.bool false,.ref (ad a 3),.ref (ad a 4)]}
structure Zs(hb h0 h:Heap)(m:Nat)(os:List Obj):Prop where
 b:∀c o,hb.get? c=some o->h.get? c=some o
 c:∀(i:Nat) o,os[i]? =some o->h.get? (ad hb i)=some o
 f:∀(c:Nat) o,hb.objs.size+os.length<=c->h0.get? c=some o->h.get? c=some o
 z:h.objs.size=m
section
variable {hb h0:Heap}{m' k:Nat}{o o0:Obj}
def Zs.put(Z:Zs hb h0 h m os)(s:os[i]? =some o0)(S:Heap.SameBut (ad hb i) h h')(e:h'.get? (ad hb i)=some o):Zs hb h0 h' m (os.set i o):=by
 have n:=(zaf.mp s).1;refine⟨λc a q=>S.extBut _ _ (zcG (zbc (zcP q) (Nat.le_add_right _ _))) (Z.b c a q),λj a q=>?_,λc a l q=>?_,S.1.trans Z.z⟩
 ·rw[zbm] at q;split at q
  ·simp_all
  ·next h=>exact S.extBut _ _ (λe=>h (zaQ e).symm) (Z.c j a q)
 ·rw[zbY] at l;exact S.extBut _ _ (zcJ (zbc (Nat.add_lt_add_left n _) l)) (Z.f c a l q)
def Zs.to(Z:Zs hb h0 h m os)(k:∀c o,h.get? c=some o->h'.get? c=some o)(e:h'.objs.size=m'):Zs hb h' h' m' os:=
 ⟨λc o q=>k c o (Z.b c o q),λi o q=>k _ o (Z.c i o q),λ_ _ _ q=>q,e⟩
def Zs.upd(Z:Zs hb h h m os)(f)(a:os.length<=i):Zs hb (h.update (ad hb i) f) (h.update (ad hb i) f) m os:=
 have S:=Heap.SameBut.update h (ad hb i) f
 ⟨λb o e=>S.extBut _ _ (zcG (zbc (zcP e) (Nat.le_add_right _ _))) (Z.b b o e),λj o e=>S.extBut _ _ (λl=>Nat.not_le.mpr (zaQ l▸(zaf.mp e).1) a) (Z.c j o e),λ_ _ _ e=>e,S.1.trans Z.z⟩
def SX(b:Bool)(o:Obj)(l:Addr)(k:Nat):Prop:=o.cls=.type (if b then "list_iterator" else "tuple_iterator")/\o.data=.fields #[.ref l,.int k 0]
def Sq(b:Bool)(h:Heap)(l:Addr)(a:Array yai):Prop:=if b then h.IsList l a else h.IsTuple l a
def ZZ(hb h0 h:Heap)(m:Nat)(l1 l2 q:Addr)(k:Nat)(n:Obj):Prop:=
 ∃o0 l j a b c,SX true o0 l1 k/\SX false l l2 k/\SX true j q k/\Zs hb h0 h m [o0,l,j,Bv (.ref (ad hb 0)) (.ref (ad hb 1)) (.ref (ad hb 2)),Bv a b c,n]
variable {l1 l2 l3:Addr}{xs ys zs:Array yai}{x y v f0 f1 a b c:yai}
def nx(Z:Zs hb h0 s.heap m os)(j:os[i]? =some o)(I:SX d o l k)(M:Sq d hb l xs)(q:xs[k]? =some x)(h:∀h' o',SX d o' l (k+1)->Zs hb h0 h' m (os.set i o')->Q x {s with heap:=h'}):yar (model prog w) A (Builtin.SmallTypes.nextOf (.ref (ad hb i))) Q E s:=by
 cases d
 ·refine Jb ⟨o,Z.c i o j,I⟩ (Heap.IsTuple.at M λo e=>Z.b _ o e) q λh' J S=>?_;let⟨o',e,n⟩:=J;exact h h' o' n (Z.put j S e)
 ·refine wpAny_nextOf_list_item ⟨o,Z.c i o j,I⟩ (Heap.IsList.at M λo e=>Z.b _ o e) q λh' J S=>?_;let⟨o',e,n⟩:=J;exact h h' o' n (Z.put j S e)
def sI(Z:Zs hb h0 s.heap m os)(j:os[4]? =some (Bv a b c))(h:∀h',Zs hb h0 h' m (os.set 4 {cls:=.type "tuple",data:=.seq ((#[a,b,c]:Array yai).setIfInBounds d x)})->e () {s with heap:=h'}):
  yar (model prog w) A (updateSeq (ad hb 4) (·.setIfInBounds d x)) e E s:=by
 have l:=Z.c 4 _ j;refine wpAny_updateSeq l rfl (h _ (Z.put j (Heap.SameBut.update ..) ?_));rw[zaB _ l rfl];simp[Obj.mapSeq]
def nE(Z:Zs hb h0 s.heap m os)(j:os[5]? =some (HG hb f0 f1))(l:k<5)(h:∀h',Zs hb h0 h' m (os.set 5 {cls:=.type "zip",data:=.fields ((#[f0,f1,.bool false,.ref (ad hb 3),.ref (ad hb 4)]:Array yai).setIfInBounds k x)})->d () {s with heap:=h'}):
  yar (model prog w) A (setField (.ref (ad hb 5)) k x) d E s:=
 wpAny_setField_rec (Z.c 5 _ j) l λh' e S=>h h' (Z.put j S e)
def Fr(hb h:Heap)(f0 f1:yai):Prop:=∃(T:Nat)(j:Obj)(f:Bool),f0=rawInt T/\f1=.bool f/\h.get? T=some j/\hb.objs.size+6<T
def BG{T:Nat}(Z:Zs hb h0 s.heap m os)(j:os[5]? =some (HG hb (rawInt T) (.bool d)))(l:s.heap.get? T=some o)(h:∀g,Zs hb h0 g m (os.set 5 (HG hb (rawInt T) (.bool true)))->e false {s with heap:=g}):yar (model prog w) A (Builtin.SmallTypes.ownedTupleIsFree (.ref (ad hb 5))) e E s:=by
 have hz:=Z.c 5 _ j;refine yaa (wpAny_field hz rfl rfl ?_);refine yaa (PySem.W.kdx_alive l ?_);refine yaa (wpAny_field hz rfl rfl ?_);cases d with
 |true=>
  exact yab (h _ (Z.put j (Heap.SameBut.refl _ _) hz))
 |false=>
  exact yaa (nE Z j (by decide) λg Z=>yab (h g Z))
def CK(M1:Sq true hb l1 xs)(M2:Sq false hb l2 ys)(M3:Sq true hb l3 zs)(Z:ZZ hb s.heap s.heap m l1 l2 l3 k (HG hb f0 f1))(hf:(f0=.none/\f1=.bool false)∨Fr hb s.heap f0 f1)(hs:hb.objs.size+6<m)(j:(∃x y v,xs[k]? =some x/\ys[k]? =some y/\zs[k]? =some v/\∀h' X W,ZZ hb h' h' (m+1) l1 l2 l3 (k+1) (HG hb X W)->Fr hb h' X W->h'.get? m=some (Bv x y v)->(∀(c) o,hb.objs.size+6<=c->s.heap.get? c=some o->h'.get? c=some o)->d (some (.ref m)) {s with heap:=h'})∨(xs[k]? =none/\f0≠ .none/\A.handled=none/\∀h',(∀c o,hb.get? c=some o->h'.get? c=some o)->(∀(c) o,hb.objs.size+6<=c->s.heap.get? c=some o->h'.get? c=some o)->d none {s with heap:=h'})):
  yar (model prog w) A (pyNext (.ref (ad hb 5))) d E s:=by
 let⟨o0,I,H,a,b,c,n,u,t,Z⟩:=Z;have hz:=Z.c 5 _ rfl;have P:s.TypeIs (.ref (ad hb 5)) "zip":=⟨_,hz,rfl⟩
 refine yaa (wpAny_attempt (wpAny_callSpecial?_slot P F.slot_zip_next (wpAny_call_entry F.slot_zip_next P F.entry_zip_next ?_ (F.args_zip_next_1 _))));show yar _ _ (field (.ref (ad hb 5)) 2 >>= _) _ _ _;refine yaa (wpAny_field hz rfl rfl ?_);refine yaa (wpAny_field hz rfl rfl (yaa (wpAny_seqItems (Z.c 3 _ rfl) rfl ?_)));rcases hf with⟨rfl,rfl⟩|⟨T,oT,f,rfl,rfl,P,O⟩
 ·refine yaa ?_;refine yaa (wpAny_field hz rfl rfl (yab ?_));rcases j with⟨x,y,v,L,Y,hv,U⟩|⟨_,h,_⟩
  ·refine yaa (wpAny_rule (yaa (wpAny_field hz rfl rfl (yaa (nE Z rfl (by decide) λg1 Z=>?_)))));refine yaa ?_;refine yaa (yaa (yaC ?_));refine yaa (nx Z rfl n M1 L λl o0 n Z=>yab (yaa (wpAny_seqItems (Z.c 4 _ rfl) rfl (yaa (sI Z rfl λC Z=>?_)))));refine yaa (wpAny_letGo (yab (yaa (yaa (yaC ?_)))));refine yaa (nx Z rfl u M2 Y λl I u Z=>yab (yaa (wpAny_seqItems (Z.c 4 _ rfl) rfl (yaa (sI Z rfl λC Z=>?_)))));refine yaa (wpAny_letGo (yab (yaa (yaa (yaC ?_)))));refine yaa (nx Z rfl t M3 hv λl H t Z=>yab (yaa (wpAny_seqItems (Z.c 4 _ rfl) rfl (yaa (sI Z rfl λC G=>?_)))))
   replace G:Zs hb s.heap C m [o0,I,H,Bv (.ref (ad hb 0)) (.ref (ad hb 1)) (.ref (ad hb 2)),Bv x y v,HG hb .ellipsis (.bool false)]:=G
   refine yaa (wpAny_letGo (yab (yab (yaa (wpAny_seqItems (G.c 4 _ rfl) rfl (yaa (wpAny_newTuple ?_)))))));have hm:=G.z;subst hm;have hp:(C.push (Bv x y v)).get? C.objs.size=some (Bv x y v):=zaS _ rfl;have Z':=G.to (h':=C.push (Bv x y v)) (λ_ _ e=>zas _ e) (zcp ..);refine yaa ?_;refine yaa (nE Z' rfl (by decide) λg9 Z9=>nE Z9 rfl (by decide) λg Z=>?_);have e:=Z.f _ _ (zcI hs) hp;exact yab ⟨_,rfl,yab (U g _ _ ⟨o0,I,H,_,_,_,n,u,t,Z.to (λ_ _ e=>e) Z.z⟩ ⟨_,_,_,rfl,rfl,e,hs⟩ e λc o j e=>Z.f c o j (zas _ (G.f c o j e)))⟩
  ·exact absurd rfl h
 ·refine yaa (BG Z rfl P λg1 Z=>?_);refine yaa (yaa (yaa (yad ?_)));rcases j with⟨x,y,v,L,Y,hv,U⟩|⟨L,_,hh,U⟩
  ·refine yaa (nx Z rfl n M1 L λl o0 n Z=>yab (yab (yaa (yaa (yad ?_)))));refine yaa (nx Z rfl u M2 Y λl I u Z=>yab (yab (yaa (yaa (yad ?_)))));refine yaa (nx Z rfl t M3 hv λl H t Z=>yab (yab (yab ?_)));show yar _ _ (newTuple [x,y,v] >>= _) _ _ _;refine yaa (wpAny_newTuple (yab ⟨_,rfl,yab ?_⟩));have hm:=Z.z;subst hm;have kp:∀c o,l.get? c=some o->(l.push (Bv x y v)).get? c=some o:=λ_ _ e=>zas _ e;exact U _ _ _ ⟨o0,I,H,_,_,_,n,u,t,Z.to kp (zcp ..)⟩ ⟨_,_,_,rfl,rfl,kp _ _ (Z.f _ _ (zcI O) P),O⟩ (zaS _ rfl) λc o j e=>kp c o (Z.f c o j e)
  ·refine yaa (wpAny_nextOf_list_end hh ⟨_,Z.c 0 _ rfl,n⟩ (Heap.IsList.at M1 λo e=>Z.b _ o e) L λl e S he=>?_);let⟨oe,hoe,hce⟩:=he;exact yaa (wpAny_isInstance ⟨oe,hoe,hce⟩ isSubtype_stop (yab (U l (λc o q=>S _ _ (zcG (zcP q)) (Z.b c o q)) λc o j q=>S _ _ (zcJ (zbc (Nat.lt_add_of_pos_right (by decide)) j)) (Z.f c o j q))))
end
namespace F
def nZ(a b c):checkTypeCall "zip" ⟨[a,b,c],[]⟩=pure ():=by rfl
def qO(a b c):checkBuiltinCall "zip.__new__" ⟨[.type "zip",a,b,c],[]⟩=pure ():=by kernel_rfl
def ju(a b c d):argsOk "object.__init__" ⟨[a,b,c,d],[]⟩:=by
 rfl
def xj:typeLookup (.type "zip") "__len__"=pure none:=by rfl
def uH:typeLookup (.type "zip") "__length_hint__"=pure none:=by rfl
end F
noncomputable abbrev Tt(l:Addr):Obj:={cls:=.type "list_iterator",data:=.fields #[.ref l,.int 0 0]}
noncomputable def pu:Heap->List Obj->Heap
 |h,[]=>h
 |h,o::os=>pu (h.push o) os
def Et(e:h.get? d=some g):(pu h os).get? d=some g:=by
 induction os generalizing h with
 |nil=>exact e
 |cons o' os ih=>exact ih (zas _ e)
def IG:(pu h os).objs.size=h.objs.size+os.length:=by
 induction os generalizing h with
 |nil=>rfl
 |cons o os ih=>exact(ih).trans (by rw[zcp,zbB];lia)
def NP(a:∀o∈os,o.isFreed=false)(e:os[i]? =some o'):(pu h os).get? (ad h i)=some o':=by
 induction os generalizing h i with
 |nil=>cases e
 |cons o os ih=>
  cases i with
  |zero=>cases e;exact Et (os:=os) (zaS _ (a _ (by simp)))
  |succ i=>
   have q:=ih (h:=h.push o) (λx j=>a x (zaC _ j)) e;have l:ad (h.push o) i=ad h (i+1):=by
    show(h.push o).objs.size+i=h.objs.size+(i+1);rw[zcp];lia
   rw[l] at q;exact q
noncomputable abbrev p3(l1 l2 a:Addr):List Obj:=[Tt l1,P7 l2,Tt a]
noncomputable abbrev p6(h:Heap)(l1 l2 a:Addr):List Obj:=p3 l1 l2 a++[Bv (.ref (ad h 0)) (.ref (ad h 1)) (.ref (ad h 2)),Bv .none .none .none,HG h .none (.bool false)]
def P6(l1 l2 a)(x q n):
  Meets (Builtin.«zip.__new__» ⟨[.type "zip",.ref l1,.ref l2,.ref a],[]⟩) (λ_ R s=>s.heap.IsList l1 x/\s.heap.IsTuple l2 q/\s.heap.IsList a n/\R (.ok (.ret (.ref (ad s.heap 5)))) {s with heap:=pu s.heap (p6 s.heap l1 l2 a)}):=
 .of_wp λprog w A R s h=>by
  let⟨v,g,d,t,os⟩:=s;let⟨m,l,j,h⟩:=h;have u:=sub_zip;have m1  :=m;have m2:Heap.IsTuple (Shared.heap ⟨v.push (Tt l1),g,d,t,os⟩) l2 q:=l.at λo e=>zas _ e;have y:Heap.IsList (Shared.heap ⟨(v.push (Tt l1)).push (P7 l2),g,d,t,os⟩) a n:=j.at λo e=>zas _ (zas _ e)
  wp_walk using wpAny_pyIter_list m1,wpAny_pyIter_tuple m2,wpAny_pyIter_list y
  simp only[zcp];refine⟨_,rfl,h⟩
section
variable {l1 l2 l3:Addr}{xs ys zs:Array yai}{hb:Heap}
def Mf(l:s.heap.IsList l1 xs)(j:s.heap.IsTuple l2 ys)(a:s.heap.IsList l3 zs)(h:∀h',ZZ s.heap h' h' (s.heap.objs.size+6) l1 l2 l3 0 (HG s.heap .none (.bool false))->Q (.ref (ad s.heap 5)) {s with heap:=h'}):
  yar (model prog w) A (call (.type "zip") [.ref l1,.ref l2,.ref l3]) Q E s:=by
 refine callType_new PySem.F.called_zip (by decide) (F.nZ _ _ _) (F.qO _ _ _) (λobj=>F.ju obj _ _ _) PySem.F.entry_zip_new (P6 l1 l2 l3 xs ys zs) ⟨l,j,a,?_⟩;have g:=λi o=>NP (os:=p6 s.heap l1 l2 l3) (h:=s.heap) (i:=i) (o':=o) λo h=>by
  simp only[zbJ,zcb,zcq,zbH,or_false] at h;obtain rfl|rfl|rfl|rfl|rfl|rfl:=h<;>rfl
 exact⟨⟨_,g 5 _ rfl,rfl⟩,h _ ⟨_,_,_,_,_,_,⟨rfl,rfl⟩,⟨rfl,rfl⟩,⟨rfl,rfl⟩,λ_ _ e=>Et e,g,λ_ _ _ e=>e,IG⟩⟩
def Fp(a:s.TypeIs (.ref I) "zip")(h:d true s):yar (model prog w) A (Builtin.List.listLengthHint (.ref I)) d E s:=by
 refine yaa (wpAny_specialOf a F.xj ?_);exact yaa (wpAny_specialOf a F.uH (yab h))
def Tl(hb:Heap)(xs ys zs:Array yai)(i:Nat)(h:Heap):Prop:=∃a c,h.get? (ad hb 6)=some {cls:=.type "list",dict:=none,data:=.seq a c,slots:=#[]}/\a.toList=(zcV i).map (λj=>Value.ref (ad hb (7+j)))/\
 ∀j x y v,j<i->xs[j]? =some x->ys[j]? =some y->zs[j]? =some v->h.get? (ad hb (7+j))=some (Bv x y v)
theorem Me{R:Result->yah->Prop}(hh:A.handled=none)(M1:Sq true hb l1 xs)(M2:Sq false hb l2 ys)(W:Sq true hb l3 zs)(e1:xs.size=m)(e2:ys.size=m)(e3:zs.size=m)(hm:0<m)(hn:m<=yag)(res)(hR:∀h',(∀c o,hb.get? c=some o->h'.get? c=some o)->Tl hb xs ys zs m h'->R (.ok (.ret res)) {s with heap:=h'}):
  ∀(k i)(h)(t q),m - i=k->i<=m->ZZ hb h h (hb.objs.size+(7+i)) l1 l2 l3 i (HG hb t q)->(i=0/\t=.none/\q=.bool false)∨Fr hb h t q->Tl hb xs ys zs i h->
   codeAny (model prog w) A (.builtin "list.extend.loop" ⟨[.ref (ad hb 6),.ref (ad hb 5),res],[]⟩) R {s with heap:=h}:=by
 intro k;have E:∀j,hb.objs.size+6<hb.objs.size+(7+j):=λj=>by lia
 induction k with
 |zero=>
  intro i h t q hk hi L C u;obtain rfl:i=m:=by lia
  refine codeAny_builtin PySem.F.entry_extend_loop ?_;refine yaa (CK M1 M2 W L (C.imp And.right id) (E _) (.inr ⟨zaq (by lia),λe=>?_,hh,λh' k1 S=>?_⟩))
  ·rcases C with⟨h,_⟩|⟨_,_,_,h,_⟩
   ·lia
   ·rw[h] at e;cases e
  ·let⟨l,c,G,q2,q3⟩:=u;exact yab (hR h' k1 ⟨l,c,S _ _ (zcR _) G,q2,λj x y v n a b c=>S _ _ (zcI (E j)) (q3 j x y v n a b c)⟩)
 |succ k ih=>
  intro i h t q hk hi L C u;let⟨l,c,G,q2,q3⟩:=u;have hsz:l.size=i:=by rw[<-zaR,q2,zbV,zbo]
  refine codeAny_builtin PySem.F.entry_extend_loop ?_;refine yaa (CK M1 M2 W L (C.imp And.right id) (E _) (.inl ⟨_,_,_,zaj (by lia),zaj (by lia),zaj (by lia),λh' P O I H u kp=>?_⟩));have U:=kp (ad hb 6) _ (zcR _) G;have up:∀b o,b≠ad hb 6->h'.get? b=some o->(h'.update (ad hb 6) (Obj.mapSeq (·.push (Value.ref (ad hb (7+i)))))).get? b=some o:=λb o hb e=>(zat _ _ (Ne.symm hb)).trans e;have n7:∀j,ad hb (7+j)≠ad hb 6:=λj e=>by have:=zaQ e;lia
  refine yaa (wpAny_updateSeq U rfl (yab ⟨plainId_quiet PySem.F.plain_extend_loop _,ih (i+1) _ P O (by lia) (by lia) ?_ (.inr ?_) ⟨l.push (.ref (ad hb (7+i))),_,zaB _ U rfl,?_,λj x y v n a b c=>?_⟩⟩) (by lia) (by rw[Array.size_push];lia))
  ·let⟨o0,o1,o2,a,b,c,i0,i1,i2,Z⟩:=I;refine⟨o0,o1,o2,a,b,c,i0,i1,i2,Z.upd _ (zcR 6)⟩
  ·let⟨T,oT,f,r1,Y,X,Q⟩:=H;refine⟨T,oT,f,r1,Y,up _ _ (zcJ Q) X,Q⟩
  ·rw[zbw,q2,zcc,zca];rfl
  ·refine up _ _ (n7 j) ?_;obtain n|rfl:=Nat.lt_succ_iff_lt_or_eq.mp n
   ·exact kp _ _ (zcI (E j)) (q3 j x y v n a b c)
   ·rw[zaj (by lia)] at a b c;simp_all
end
end M12
namespace M12
open PySem PySem.Spec PyProof.Rows M9
def E8(hh:A.handled=none)(M1:Sq true z l1 g)(M2:Sq false z l2 k)(M3:Sq true z d r)(Z:ZZ z s.heap s.heap (z.objs.size+6) l1 l2 d 0 (HG z .none (.bool false)))(e1:g.size=m)(e2:k.size=m)(e3:r.size=m)(hm:0<m)(G:m<=yag)(hQ:∀h',(∀c o,z.get? c=some o->h'.get? c=some o)->Tl z g k r m h'->Q (.ref (ad z 6)) {s with heap:=h'}):
  yar (model prog w) A (call (.type "list") [.ref (ad z 5)]) Q E s:=by
 let⟨U,S,P,a,b,c,Y,X,W,Z⟩:=Z;have u:=Z.z;refine callType_codes (Q₁:=λobj q=>obj=.ref (ad z 6)/\q={s with heap:=s.heap.push {cls:=.type "list",data:=.seq #[]}}) PySem.F.called_list (PySem.F.typeCall_list_1 _) PySem.F.entry_list_init
  (code_list_new _ ⟨by rw[u],rfl⟩) λobj q t=>?_
 let⟨rfl,rfl⟩:=t;have v:(s.heap.push {cls:=.type "list",data:=.seq #[]}).get? (ad z 6)=some {cls:=.type "list",data:=.seq #[]}:=by rw[show ad z 6=s.heap.objs.size from u.symm];exact zaS _ rfl
 replace Z:=Z.to (h':=s.heap.push {cls:=.type "list",data:=.seq #[]}) (m':=z.objs.size+7) (λ_ _ e=>zas _ e) (by simp_all)
 refine⟨⟨_,v,rfl⟩,PySem.F.args_list_init_2 _ _,?_⟩;generalize s.heap.push {cls:=.type "list",data:=.seq #[]}=g1 at v Z⊢;refine yaa ?_;refine yaa (wpAny_seqItems v rfl (yab ?_));refine yaa (wpAny_updateSeq v rfl (yaa (wpAny_letGo ?_)));have hS₂  :=zaB (Obj.mapSeq (λ_=>(#[]:Array yai))) v rfl
 replace Z:=Z.upd (Obj.mapSeq (λ_=>(#[]:Array yai))) (zcR 6)
 generalize g1.update (ad z 6) (Obj.mapSeq (λ_=>(#[]:Array yai)))=g2 at hS₂ Z⊢;have H:=Z.c 5 _ rfl;have L:Shared.TypeIs {s with heap:=g2} (.ref (ad z 5)) "zip":=⟨_,H,rfl⟩
 refine yaa (wpAny_typeOf L ?_);have h1:Builtin.List.listSameRef (.ref (ad z 6)) (.ref (ad z 5))=false:=by simp[Builtin.List.listSameRef]
 simp only[h1];refine yaa (wpAny_pyIter_zip H (yaa (yad (Fp L ?_))));refine yaa (wpAny_rule (yaa ?_));have n:=zaB (Obj.mapSeq (·.push Value.none)) hS₂ rfl;refine yaa (wpAny_updateSeq hS₂ rfl (wpAny_updateSeq n rfl ?_));exact yab ⟨plainId_quiet PySem.F.plain_extend_loop _,Me (A:=A.in1) hh M1 M2 M3 e1 e2 e3 hm G .none (λh' O q2=>⟨rfl,hQ h' O q2⟩) m 0 _ _ _ rfl (zcS _) ⟨U,S,P,a,b,c,Y,X,W,(Z.upd _ (zcR 6)).upd _ (zcR 6)⟩ (.inl ⟨rfl,rfl,rfl⟩) ⟨#[],_,zaB (Obj.mapSeq (·.pop)) n rfl,rfl,λj _ _ _ h=>absurd h (zcd j)⟩⟩
end M12
namespace M
open PySem PySem.Spec PyProof.Rows L2
noncomputable def xu(es fs a:List D):List (List D):=(es.zip (fs.zip a)).map λt=>[t.1,t.2.1,t.2.2]
def CP(h:(xu d g k)[j]? =some q):∃x y z,d[j]? =some x/\g[j]? =some y/\k[j]? =some z/\q=[x,y,z]:=by
 unfold xu at h;rw[zbl] at h;cases e:(d.zip (g.zip k))[j]? with
 |none=>rw[e] at h;cases h
 |some p=>
  rw[e] at h;let⟨h1,h2⟩:=zah.mp e;let⟨o,n⟩:=zah.mp h2;refine⟨_,_,_,h1,o,n,(zcU.inj h).symm⟩
def LR(a:AA):AE:=λq S Q=>a q S λds h=>∃o n m l fs j,ds=[o,n,m]/\aT h o=.lst l/\aT h n=.tup fs/\aT h m=.lst j/\l.length=fs.length/\j.length=fs.length/\0<fs.length/\fs.length<=1000/\Q (.new (.lst ((xu l fs j).map D.tup))) h
end M
namespace M10
open PySem PyProof.Rows
noncomputable def KR(R:Keyed->Int)(a:Array Keyed)(i:Nat):Int:=(a[i]?.map R).getD 0
def Up(R:Keyed->Int)(a:Array Keyed)(h m:Nat):Prop:=∀i j,h<=i->i<=j->j<h+m->KR R a i<=KR R a j
section
variable {R:Keyed->Int}{κ:SortKind}{T:Keyed->Prop}{a₀ b:Array Keyed}{p:Array (Nat×Nat×Nat)}{lo:Nat}
noncomputable def t3(lo n a:Nat):StateT SortSt Sem (Option Nat):=do
 let mut n:=n
 reverseSlice' lo (lo+n)
 for _ in [n:a] do
  let some sm <-ltAt' (lo+n) (lo+n - 1)|return none
  if sm then break
  n:=n+1
 return some n
end
end M10
namespace M10
open PySem PySem.Spec PyProof.Rows
section
variable {R:Keyed->Int}{T:Keyed->Prop}
def TS(ss:List Str)(p:Keyed):Prop:=∃x t,p.1=.str x t/\x∈ss
end
end M10
namespace M
open PySem PySem.Spec PyProof.Rows L2 M6
def Ur(F:Hz K x qual st f fd)(S:aH N ps (aj st))(len:∀ds S Q,sp ds S Q->ds.length=ps.length)(l:∀(f)(j)(A)(outer)(s)(H)(E),bB k (A.deeper (PyProof.Rows.envOfC qual (aj st) s.heap.objs.size f j))->∃a,yW (m5 qD P w K mg base N qual (aj st) f j A outer s H E).HH (bE st) a/\∀ds S Q,sp ds S Q->a {nx:=λ_ n=>Q (.dat .bU) n,rt:=Q} (aM N ds) S):eK P w K mg base qD (k+1) f fd ps (az K sp):=
 F.ok S (λvs H Q E h=>by
  let⟨w,ds,S,o,ok,rep,q,bk⟩:=h;rw[rep.length];exact len ds S o q) λj A outer s H vs Q E v h=>by
  let⟨a,y,hd⟩:=l f j A outer s H E v;let⟨w,ds,S,o,ok,rep,q,bk⟩:=h;refine⟨_,y.p,w,aM N ds,S,_,ok,lF rep,hd ds S o q,⟨λI n G t C le m env u=>?_,bk,λ_ _ _ _ _ _ _ _ z=>z.elim,λ_ _ _ _ _ _ _ _ z=>z.elim⟩⟩;exact bk (.dat .bU) n .bU t C le m (show Rep K t .bU .bU from .bU) u
def Au(F:wJ K C d qual ps st)(S:aH N ps (aj st))(len:∀ds S Q,sp ds S Q->ds.length=ps.length)(h:∀(f)(j)(A)(outer)(s)(H)(E),bB k (A.deeper (PyProof.Rows.envOfC qual (aj st) s.heap.objs.size f j))->∃a,yW (m5 qD P w K mg base N qual (aj st) f j A outer s H E).HH (bE st) a/\∀ds S Q,sp ds S Q->a {nx:=λ_ o=>Q (.dat .bU) o,rt:=Q} (aM N ds) S):kK P w K mg base (k+1) C d ps sp:=by
 let⟨f,fd,F,l,n⟩:=F.ex;refine⟨f,fd,Ur F S len h,l,n⟩
end M
namespace L2
open PySem PySem.Spec PyProof.Rows M6
theorem gO:∀{a:List V}{j:List yai},a.length=j.length->(∀(k:Nat)(x)(u),a[k]? =some x->j[k]? =some u->RelV x u)->Vals a j
 |[],[],_,_=>.nil
 |[],_::_,h,_=>by simp at h
 |_::_,[],h,_=>by simp at h
 |x::a,u::j,h,g=>.cons (g 0 x u rfl rfl) (gO (by simpa using h) λk y v h1 h2=>g (k+1) y v (by simp_all) (by simp_all))
end L2
namespace M
open PySem PySem.Spec PyProof.Rows L2 M6
def Gv(a:AA):AE:=λh S Q=>a h S λds l=>∃i j:Int,ds=[.int i,.int j]/\-(2 ^ 60)<=i/\i<2 ^ 60/\i<=j/\j<=i+1000/\Q (.new (.lst ((zcV (j - i).toNat).map λk:Nat=>D.int (i+k)))) l
end M
namespace M13
open PySem PySem.Spec PyProof.Rows M5 M7
def ty_int(h:fU prog w s.heap a d):s.TypeIs (.ref a) "set":=by let⟨o,l,_,_,_,j,_⟩:=h;refine⟨o,l,j.1⟩
def nS(a:s.TypeIs (.ref d) "set")(h:e true s):yar (model prog w) A (Builtin.Frozenset.isAnySet (.ref d)) e E s:=by
 unfold Builtin.Frozenset.isAnySet;refine yaa (wpAny_isInstance a PySem.F.sub_set_set ?_);exact yab h
def wo(a:s.TypeIs (.ref d) "set")(h:Q (.type "set") s):yar (model prog w) A (Builtin.Frozenset.baseOf d) Q E s:=by
 unfold Builtin.Frozenset.baseOf;refine yaa (wpAny_isInstance a PySem.F.sub_set_set ?_);exact yab h
end M13
namespace L2
open PySem PySem.Spec PyProof.Rows
def Vk(K:yaJ)(H:Hp)(x:V)(ss:List Int):Prop:=∃p,x=.ref p/\(eO K H p (ss.map V.int)∨dF K H p (ss.map V.int))/\ss.length<4000
section
variable {e f:Expr}{ta tb:TE}{p p3 pos3 pos4:Pos}
def zq(C:X.calm=true){t:St}{x:V}{v:yai}{ss:List Int}(I:Inv X pins t H s)(u:Vk X.K H x ss)(y:RelV x v)(h:∀(h')(tk),M7.fU X.prog X.w h' s.heap.objs.size (M7.allI (λi=>ss.getD i 0) ss.length)->(∀b o,s.heap.get? b=some o->h'.get? b=some o)->Q (.ref s.heap.objs.size) {s with heap:=h',toks:=tk}):
  yar (model X.prog X.w) X.A (call (.type "set") [v]) Q X.xe s:=by
 have q:=I.ok.hd C;let⟨a,rfl,j,n⟩:=u;obtain rfl:v=Value.ref a:=y;obtain j|j:=j
 ·let⟨its,m,pl,hz⟩:=I.tuple j;exact M7.oi (its:=its.toArray) (ss:=ss) q pl (by simpa using intsAre_of m) n λh' tk l kp=>h h' tk l λb o e=>kp b o (zcP e) e
 ·let⟨its,m,pl,hz⟩:=I.list j;exact M7.rg (its:=its.toArray) (ss:=ss) q pl.isList (by simpa using intsAre_of m) n λh' tk l kp=>h h' tk l λb o e=>kp b o (zcP e) e
end
end L2
namespace M
open PySem PySem.Spec PyProof.Rows L2
def LF(S:aK)(d:D)(ss:List Int):Prop:=(aT S d=.tup (ss.map D.int)∨aT S d=.lst (ss.map D.int))/\ss.length<4000
def LF.sq(ok:Ok K e H S)(r:Rep K e d v)(h:LF S d g):Vk K H v g:=by
 rcases h with⟨z|z,j⟩
 ·let⟨a,l,rfl,h1,h2⟩:=b7 ok r z;rw[dJ h2] at h1;refine⟨a,rfl,.inl h1,j⟩
 ·let⟨a,l,rfl,h1,h2⟩:=bh ok r z;rw[dJ h2] at h1;refine⟨a,rfl,.inr (dF.of h1),j⟩
end M
namespace L2
open PySem PySem.Spec PyProof.Rows M6
def Rw(a:Addr)(j:Heap->Prop)(es:Array yav)(ep:Nat):Prop:=∀P w H h,bK P w H h a (.ext j)->kB h a es ep
end L2
namespace M
open PySem PySem.Spec PyProof.Rows L2 M6
def yP(a b c:AE):AE:=λh S Q=>a h S λn q=>(∃j m,aT q n.d=.dct j m)/\b h q λt u=>c h u λs o=>∃l ds k,aT o n.d=.dct l ds/\l.length=ds.length/\keyOf t.d=some k/\Q (.dat ((dR l ds k).getD s.d)) o
theorem lG{k:Key}:∀{a:List (Key×V)}{ds:List D},ds.length=a.length->dR (a.map (·.1)) ds k=none->fN a k=none
 |[],ds,_,_=>rfl
 |(j,u)::r,[],h,_=>by simp at h
 |(j,u)::r,d::ds,h,e=>by
  unfold dR at e;rw[zcs,zaX,List.find?_cons] at e;unfold fN;rw[List.find?_cons];by_cases l:j=k
  ·simp_all
  ·simp only[l] at e⊢;exact lG (by simpa using h) e
def Iw:∀C H Q,aX K (yP e g r) C H Q->C0 (aX K e) (aX K g) (aX K r) C H Q:=by
 intro C H Q z;let⟨w,E,S,Qa,ok,env,q,bk⟩:=z;refine⟨w,E,S,_,ok,env,q,.go λr1 S1 v1 P H1 j u l ⟨⟨W,ds0,L⟩,U⟩=>?_⟩;let⟨e,x,rfl,h1,rfl,h3⟩:=dW u l L;refine⟨e,rfl,.inl ⟨x,.inl h1⟩,P,E,S1,_,u,env.le j,U,.go λr2 S2 v2 O H2 h F t q2=>?_⟩;refine⟨O,E,S2,_,F,(env.le j).le h,q2,.go λr3 S3 v3 w3 H3 n m s ⟨ks,ds,k,I,hl,G,q3⟩=>?_⟩;let⟨a',o,Z,Y,rfl,X⟩:=dW m (l.le (h.trans n)) I;cases Z;rw[jJ t G];refine⟨fN o k,.inl ⟨o,k,.inl Y,rfl,rfl⟩,?_⟩;cases y:dR (o.map (·.1)) ds k with
 |none=>
  rw[y] at q3;rw[lG (by simp_all) y];exact bk.dat ((j.trans h).trans n) m s q3
 |some d=>
  rw[y] at q3;let⟨v,e1,e2⟩:=iS X y;rw[e1];exact bk.dat ((j.trans h).trans n) m e2 q3
section
variable {o i e f:Expr}
theorem oX(h:X.A.units+1<cLine)(j:GE X o ta)(n:GE X e tb)(l:GE X f d)(m:M2 X o "get" apos e f cpos):GE X (.Call (.Attribute o "get" apos) [e,f] [] cpos) (yP ta tb d):=⟨mE (L2.oX h j.p n.p l.p m) Iw⟩
end
end M
namespace M14
open PySem PySem.Spec PyProof.Rows M6 M8
abbrev E3:=yam×Addr×yai
end M14
namespace M
open PySem PySem.Spec PyProof.Rows L2 M6
noncomputable def inter:List (D×D)->List D
 |[]=>[]
 |e::es=>e.1::e.2::inter es
end M
namespace L2
open PySem PySem.Spec PyProof.Rows
noncomputable def XN(C:Addr)(j:Option Addr)(x:Addr):HO:=.ext λh=>∃a:Addr,h.get? x=some (PySem.W.RL C j #[.ref a,.none,.none,.none,.bool false,.none])
noncomputable abbrev Cx.at(X:Cx)(e:yai):Cx:={X with A:=X.A.mark (some e),calm:=false,xe:=λ_ _=>False}
end L2
namespace M
open PySem L2
structure At(X:Cx)(pins:List (Addr×Obj))(σ:St)(H:Hp)(s:yah)(w:Wd)(δ:bH)(S:aK):Prop where
 i:Inv X pins σ H s
 k:Ok X.K w H S
 e:fc X.K w δ σ
section
variable {σ:St}{w:Wd}{e:Expr}{es:List Expr}
def Bh(X:Cx)(a:List (Addr×Obj))(σ:St)(w:Wd)(h:AK)(Q:yai->yah->Prop):Prop:=∀{u s' w' v H' r S'},w.le w'->Inv X a σ H' s'->Ok X.K w' H' S'->nh X.K w' H' S' r v->RelV v u->h r S'->Q u s'
theorem Bh.dat(b:Bh X pins σ w g Q)(l:w.le F)(i:Inv X pins σ H' z)(k:Ok X.K F H' J)(r:Rep X.K F d v)(n:RelV v u)(q:g (.dat d) J):Q u z:=b (r:=.dat d) l i k r n q
def GE.of(h:∀{j σ H s w δ S m Q},At X j σ H s w δ S->d δ S m->Bh X j σ w m Q->yar (model X.prog X.w) X.A (eval e X.env) Q X.xe s):GE X e d:=
 ⟨λj s σ H Q I z=>by
  let⟨w,δ,S,m,ok,env,q,bk⟩:=z;exact h ⟨I,ok,env⟩ q λl i k r n q=>⟨_,_,i,n,bk _ _ _ _ _ l k r q⟩⟩
def GE.new(h:GE X e d)(A:At X pins σ H s w δ S)(q:d δ S g)(f:∀{u o j v H' r m},w.le j->At X pins σ H' o j δ m->nh X.K j H' m r v->RelV v u->g r m->Q u o):yar (model X.prog X.w) X.A (eval e X.env) Q X.xe s:=
 cB (h.p pins s σ H (λv H'=>∃j r m,w.le j/\Ok X.K j H' m/\nh X.K j H' m r v/\g r m) A.i ⟨w,δ,S,g,A.k,A.e,q,λr m v j H' l k y q=>⟨j,r,m,l,k,y,q⟩⟩) λu o z=>by
  let⟨v,H',i,t,j,r,m,l,k,x,q⟩:=z;exact f l ⟨i,k,A.e.le l⟩ x t q
def GE.go(h:GE X e d)(A:At X pins σ H s w δ S)(q:d δ S g)(f:∀{u s' w' v H' r S'},w.le w'->At X pins σ H' s' w' δ S'->Rep X.K w' r.d v->RelV v u->g r S'->Q u s'):yar (model X.prog X.w) X.A (eval e X.env) Q X.xe s:=
 h.new A q λl j r n q=>by
  let⟨x,l2,t,o⟩:=freeze j.k r;exact f (l.trans l2) ⟨j.i,t,j.e.le l2⟩ o n q
def GA.go(h:GA X es d)(A:At X pins σ H s w δ S)(q:d δ S g)(f:∀{us o j vs H' ds m},w.le j->At X pins σ H' o j δ m->aD X.K j ds vs->Vals vs us->g ds m->F us o):yar (model X.prog X.w) X.A (spliced (yau pos (yao es X.env))) F X.xe s:=
 cB (h.p pos pins s σ H (λvs H'=>∃j ds m,w.le j/\Ok X.K j H' m/\aD X.K j ds vs/\g ds m) A.i ⟨w,δ,S,g,A.k,A.e,q,λds m vs j H' l k y q=>⟨j,ds,m,l,k,y,q⟩⟩) λu o z=>by
  let⟨v,H',i,t,j,r,m,l,k,x,q⟩:=z;exact f l ⟨i,k,A.e.le l⟩ x t q
def uz.of(h:∀{j σ H s w S ds vs m n Q},Inv X j σ H s->Ok X.K w H S->aD X.K w ds vs->Vals vs m->g ds S n->Bh X j σ w n Q->yar (model X.prog X.w) X.A (call d m) Q X.xe s):uz X d g:=
 ⟨λj s σ H t m Q I r z=>by
  let⟨w,ds,S,n,ok,rep,q,bk⟩:=z;exact h I ok rep r q λl i k r o q=>⟨_,_,i,o,bk _ _ _ _ _ l k r q⟩⟩
def arg1(h:aD K w [d] vs)(r:Vals vs us):∃v u,us=[u]/\Rep K w d v/\RelV v u:=by
 let⟨v,_,rfl,h,rfl⟩:=h;cases r with
 |cons r t=>cases t;refine⟨v,_,rfl,h,r⟩
end
end M
namespace L2
open PySem PySem.Spec PyProof.Rows M6 M14
def KP:List yam->List V->List E3->Prop
 |[],vs,ys=>vs=[]/\ys=[]
 |k::ks,vs,ys=>∃b v h u a,vs=.ref b::v::h/\ys=(k,b,u)::a/\RelV v u/\KP ks h a
def gA(W:yak)(po:Option Obj)(m:List yam)(a:Addr)(vs:List V):Heap->Prop:=λh=>(a==yas)=false/\(∀o,po=some o->h.get? a=some o)/\∃o l n,∃j:List E3,h.get? a=some o/\o.ExactDict/\o.data=Data.dict l n/\
 l.toList=j.map (λy=>({hash:=bJ W y.1,key:=.ref y.2.1,val:=y.2.2}:yav))/\(j.map (·.1)).Nodup/\KP m vs j
end L2
namespace M
open PySem PySem.Spec PyProof.Rows L2 M6 M14
noncomputable def kys(es:List (D×D)):List yam:=es.map λe=>py e.1
noncomputable def hO(W:yak)(po:Option Obj)(es:List (D×D)):MO:=.HJ (gA W po (kys es)) (inter es)
section
variable {σ:L2.St}{w:Wd}{po:Option Obj}{es:List (D×D)}{vs:List V}{ys:List E3}{d:D}
theorem Rep.loc(h:w.r n=some e):Rep K w (.loc n) (.ref e):=by refine⟨e,h,rfl⟩
theorem RelV.ref(a):RelV (.ref a) (.ref a):=rfl
def Uy(I:Inv X pins σ H s)(k:Ok X.K w H S)(r:Rep X.K w d v)(a:RelV v u)(g:wY d):∃b,v=.ref b/\u=.ref b/\isKey s.heap (py d) b:=by
 let⟨b,rfl,h⟩:=Ft k r g;refine⟨b,rfl,a,I.key g.2.1 g.2.2.1 h⟩
end
section
variable {o i e f:Expr}{W:yak}{tc:AE}
theorem zI{K:yaJ}{w:Wd}:∀{n:List D}{m:List V},aD K w n m->(∀k∈n,wY k)->∃a:List (D×Addr),n=a.map (·.1)/\m=a.map (λx=>V.ref x.2)/\∀x∈a,Rep K w x.1 (.ref x.2)
 |[],m,h,_=>by exact⟨[],rfl,h,λx l=>by cases l⟩
 |k::n,m,h,g=>by
  obtain⟨x,r,rfl,h1,h2⟩:=h;obtain⟨a,rfl,rfl,t⟩:=zI h2 λj q=>g j (zaC _ q);obtain⟨_,_,_,u,rfl⟩:=g k (by simp);have s:=h1;obtain⟨b,_,rfl,_⟩:=s;refine⟨(_,b)::a,rfl,rfl,λx l=>?_⟩;obtain rfl|l:=zcq.mp l
  ·exact h1
  ·exact t x l
end
noncomputable def tr(a:List D):List (D×D):=a.map λk=>(k,.bl true)
noncomputable abbrev hN(W:yak)(a:List D):MO:=hO W none (tr a)
end M
namespace L2
open PySem PySem.Spec PyProof.Rows
structure Bm(h:Heap)(e it l:Addr)(i:Nat):Prop where
 en:∃old,IsEnum h e it i old
 li:h.IsListIter it l i
end L2
namespace M
open PySem L2
section
variable {σ:St}{w:Wd}{e:Expr}{es:List Expr}{sts:List Stmt}{D:kO}
structure Vq(X:Cx)(pins:List (Addr×Obj))(w:Wd)(D:kO)(Q:Flow->yah->Prop):Prop where
 nx:∀{s' w' σ' H' δ' S'},w.le w'->At X pins σ' H' s' w' δ' S'->D.nx δ' S'->Q .next s'
 rt:∀{u s' w' σ' v H' r S'},w.le w'->Inv X pins σ' H' s'->Ok X.K w' H' S'->nh X.K w' H' S' r v->RelV v u->D.rt r S'->Q (.ret u) s'
 bk:∀{s' w' σ' H' δ' S'},w.le w'->At X pins σ' H' s' w' δ' S'->D.bk δ' S'->Q .brk s'
 ct:∀{s' w' σ' H' δ' S'},w.le w'->At X pins σ' H' s' w' δ' S'->D.ct δ' S'->Q .cont s'
def GS.Vd(h:∀{j σ H s w δ S D Q},At X j σ H s w δ S->d D δ S->Vq X j w D Q->yar (model X.prog X.w) X.A (exec st X.env) Q X.xe s):GS X st d:=
 ⟨λj s σ H D I z=>by
  let⟨w,δ,S,n,ok,env,q,bk⟩:=z;exact h ⟨I,ok,env⟩ q ⟨λl A q=>⟨_,_,A.i,bk.nx _ _ _ _ _ l A.k A.e q⟩,λl i k r m q=>⟨_,_,_,i,m,bk.rt _ _ _ _ _ l k r q⟩,λl A q=>⟨_,_,A.i,bk.bk _ _ _ _ _ l A.k A.e q⟩,λl A q=>⟨_,_,A.i,bk.ct _ _ _ _ _ l A.k A.e q⟩⟩⟩
def JT(K:yaJ)(w:Wd)(j:bH->aK->Prop)(σ:St)(H:Hp):Prop:=∃a h S,w.le a/\Ok K a H S/\fc K a h σ/\j h S
def JT.of:kM K w d (JT K w d):=λh S σ j H l k e q=>⟨j,h,S,l,k,e,q⟩
def yW.go(h:yW X sts d)(A:At X pins σ H s w δ S)(q:d D δ S)(f:Vq X pins w D g):yar (model X.prog X.w) X.A (execs sts X.env) g X.xe s:=by
 refine cB (h.p pins s σ H ⟨JT X.K w D.nx,λv o=>∃j r m,w.le j/\Ok X.K j o m/\nh X.K j o m r v/\D.rt r m,JT X.K w D.bk,JT X.K w D.ct⟩ A.i ⟨w,δ,S,D,A.k,A.e,q,JT.of,λr m v j o l k x q=>⟨j,r,m,l,k,x,q⟩,JT.of,JT.of⟩) λC E z=>?_;cases C with
 |next=>let⟨n,o,i,j,t,m,l,k,e,q⟩:=z;exact f.nx l ⟨i,k,e⟩ q
 |brk=>let⟨n,o,i,j,t,m,l,k,e,q⟩:=z;exact f.bk l ⟨i,k,e⟩ q
 |cont=>let⟨n,o,i,j,t,m,l,k,e,q⟩:=z;exact f.ct l ⟨i,k,e⟩ q
 |ret u=>let⟨v,n,o,i,y,j,r,m,l,k,x,q⟩:=z;exact f.rt l i k x y q
def GG.go(h:GG X tg g)(A:At X pins σ H s w δ S)(r:Rep X.K w d v)(y:RelV v u)(q:g d δ S F)(f:∀{o n m H' j t},w.le n->At X pins m H' o n j t->F j t->J () o):yar (model X.prog X.w) X.A (assign tg X.env u) J X.xe s:=
 cB (h.p pins s σ H v u _ A.i y ⟨w,d,δ,S,F,A.k,A.e,r,q,JT.of⟩) λ_ o z=>by
  let⟨m,H',i,n,j,t,l,k,e,q⟩:=z;exact f l ⟨i,k,e⟩ q
def GT.go(h:GT X e d)(A:At X pins σ H s w δ S)(q:d δ S g)(f:∀{b o j H' m},w.le j->At X pins σ H' o j δ m->g b m->r b o):yar (model X.prog X.w) X.A (isTrue e X.env (eval e X.env)) r X.xe s:=
 cB (h.p pins s σ H (λb H'=>∃j m,w.le j/\Ok X.K j H' m/\g b m) A.i ⟨w,δ,S,g,A.k,A.e,q,λb m j H' l k q=>⟨j,m,l,k,q⟩⟩) λb o z=>by
  let⟨H',i,j,m,l,k,q⟩:=z;exact f l ⟨i,k,A.e.le l⟩ q
def aZ(hp:PassesOwn (model X.prog X.w) X.A X.env X.xe)(hc:X.calm=true)(hi:GI X tg iter wi)(hg:GG X tg g)(j:yW X body W)(hs:∀x,foldedSetIterable iter X.env x=pure x:=by intro _;rfl):GS X (.For tg iter body [] pos) (dU wi g W):=by
 refine .Vd λ{pins σ H s w δ S D Q} A q f=>wpAny_For (cB (hi.p pins s σ H (λJ y=>∃ds P C h,w.le h/\Ok X.K h y C/\L5 X.K h J ds P/\cW P g W ds D δ C) A.i ⟨w,δ,S,_,A.k,A.e,q,λds P C J h y l k it q=>⟨ds,P,C,h,l,k,it,q⟩⟩) λv s1 h1=>cB h1 λitv s2 h2=>?_) hs;let⟨it,fp,tn,J,H2,rfl,I2,T,st2,f2,ds,P,S2,w2,l2,k2,L,E⟩:=h2;have Mu:∀{y:Hp},(∀b∈fp,y b=none)->∀b∈fp,nu X pins y b:=λhn b j=>⟨hn b j,(f2 b j).2⟩
 refine codeAny_forLoop_any (λn s'=>∃i G y h a C,At X pins G y s' h a C/\w2.le h/\tn i s'.heap/\(∀b∈fp,y b=none)/\n=ds.length - i/\i<=ds.length/\cW P g W (ds.drop i) D a C) ?_ ds.length ⟨0,σ,H2,w2,δ,S2,⟨I2,k2,A.e.le l2⟩,.refl,st2,λb j=>(f2 b j).1,rfl,zcS _,E⟩;intro n s3 V;let⟨i,Z,H3,w3,δ3,S3,F,Y,st3,fr3,rfl,hi3,E⟩:=V;by_cases O:i<ds.length
 ·rw[zai O] at E;let⟨hP,E⟩:=E;have hd:ds[i]? =some ds[i]:=zal O;refine wpAny_passesOwn hp (cB (T.item X rfl rfl rfl hc i pins s3 Z H3 X.xe F.i (Mu fr3) st3 (L.go i H3 S3 w3 _ Y F.k hP hd)) λr s4 z=>?_);let⟨u,rfl,h4⟩:=z;refine wpAny_passesOwn hp (cB h4 λ_ s5 z=>?_);let⟨x,H5,I5,r5,y5,I,fr5⟩:=z;let⟨w5,l5,k5,rx⟩:=L.HN i H3 S3 w3 _ x H5 Y F.k hP hd y5;refine wpAny_passesOwn hp (hg.go ⟨I5.pinned (Mu fr5) (T.obj _ _ I),k5,F.e.le l5⟩ rx r5 E λ{s6 w6 σ6 H6 δ6 S6} l6 A6 q6=>wpAny_passesOwn hp (j.go A6 q6 ?_));have l:=l2.trans (Y.trans (l5.trans l6));have t:∀{s7 w7 σ7 H7 δ7 S7},w6.le w7->At X (pins++jk fp s5.heap) σ7 H7 s7 w7 δ7 S7->cW P g W (ds.drop (i+1)) D δ7 S7->∃m,m<ds.length - i/\∃i G y h a C,At X pins G y s7 h a C/\w2.le h/\tn i s7.heap/\(∀b∈fp,y b=none)/\m=ds.length - i/\i<=ds.length/\cW P g W (ds.drop i) D a C:=λ{s7 w7 σ7 H7 δ7 S7} l7 U q7=>by
   have I7:=U.i;refine⟨_,by lia,i+1,σ7,H7,w7,δ7,S7,⟨I7.fV,U.k,U.e⟩,Y.trans (l5.trans (l6.trans l7)),T.keep _ _ _ I λb j o e=>(I7.pin (b,o) (zav _ (zav _ (gy j e)))).1,λb j=>?_,rfl,O,q7⟩;let⟨o,e,d⟩:=T.obj _ _ I b j;exact(I7.pin (b,o) (zav _ (zav _ (gy j e)))).2.1
  refine⟨t,λl7 i7=>f.rt (l.trans l7) i7.fV,λl7 U=>f.nx (l.trans l7) ⟨U.i.fV,U.k,U.e⟩,t⟩
 ·obtain rfl:i=ds.length:=by lia
  rw[List.drop_length] at E;refine wpAny_passesOwn hp (cB (T.done X rfl rfl rfl hc _ pins s3 Z H3 X.xe F.i (Mu fr3) st3 (L.stop _ H3 S3 w3 Y F.k E.1 rfl)) λr s4 z=>?_);let⟨rfl,I4⟩:=z;exact yaG (f.nx (l2.trans Y) ⟨I4,F.k,F.e⟩ E.2)
def dN(E:PassesOwn (model X.prog X.w) X.A X.env X.xe)(U:GT X d g)(Y:yW X body k):GS X (.While d body [] pos) (Pe g k):=by
 refine .Vd λ{pins σ H s w δ S D Q} A q f=>?_;let⟨W,⟨O,G⟩,turn⟩:=q;refine wpAny_While (codeAny_whileLoop (λn I=>∃j x o a u,w.le o/\At X pins j x I o a u/\W n a u) ?_ O ⟨σ,H,w,δ,S,.refl,A,G⟩);intro n s1 z;let⟨F,H1,w1,v,S1,l1,A1,h1⟩:=z;refine wpAny_passesOwn E (U.go A1 (turn n v S1 h1) λ{b s2 w2 H2 S2} l2 A2 q2=>?_);have l:=l1.trans l2;cases b with
 |true=>
  let⟨N,hN,q2⟩:=q2;have h:∀{s3 w3 σ3 H3 δ3 S3},w2.le w3->At X pins σ3 H3 s3 w3 δ3 S3->N δ3 S3->∃m,m<n/\∃j x o a u,w.le o/\At X pins j x s3 o a u/\W m a u:=λt A3 L=>by
   let⟨m,P,Z⟩:=hN _ _ L;refine⟨m,P,_,_,_,_,_,l.trans t,A3,Z⟩
  rw[yIp rfl];exact wpAny_passesOwn E (Y.go A2 q2 ⟨h,λt=>f.rt (l.trans t),λt=>f.nx (l.trans t),h⟩)
 |false=>
  rw[yIn zbe];exact yaG (f.nx l A2 q2)
end
end M
namespace M
open PySem PySem.Spec PyProof.Rows L2 M6 M8
section
variable {σ:L2.St}{w:Wd}{e:Expr}{p:Pos}{id:String}
def UO(I:Inv X pins σ H s)(n:Gl X x)(m:X.mg x=none)(j:bootBuiltins x=some (.builtin id))(a:notStar e=true)(h:yar (model X.prog X.w) X.A (eval e X.env) (λu s1=>yar (model X.prog X.w) X.A (call (.builtin id) [u]) Q X.xe s1) X.xe s)(l:x≠"__name__":=by decide+kernel)(hd:(x==("__debug__":Str))=false:=by decide+kernel):
  yar (model X.prog X.w) X.A (eval (.Call (.Name x p) [e] [] pos) X.env) Q X.xe s:=by
 refine wpAny_Call_Name_kw (eZ I n m j ?_ l hd);refine PyProof.Rows.callWith_builtin1 (E:=X.xe) ?_ (br [] X.env a) rfl;rw[br [] X.env a];exact zbi (cB h λu s1 h=>zbz h)
def O7(I:Inv X pins σ H s)(n:Gl X x)(m:X.mg x=none)(j:bootBuiltins x=some (.type id))(a:notStar e=true)(h:yar (model X.prog X.w) X.A (eval e X.env) (λu s1=>yar (model X.prog X.w) X.A (call (.type id) [u]) Q X.xe s1) X.xe s)(l:x≠"__name__":=by decide+kernel)(hd:(x==("__debug__":Str))=false:=by decide+kernel):
  yar (model X.prog X.w) X.A (eval (.Call (.Name x p) [e] [] pos) X.env) Q X.xe s:=by
 refine wpAny_Call_Name_kw (eZ I n m j ?_ l hd);refine PyProof.Rows.callWith_type1 (E:=X.xe) ?_ (br [] X.env a) rfl;rw[br [] X.env a];exact zbi (cB h λu s1 h=>zbz h)
def zu(k:Ok K w H S)(r:Rep K w d v)(z:aT S d=.tup ds∨aT S d=.lst ds):∃a h,v=.ref a/\(eO K H a h∨dF K H a h)/\aD K w ds h:=by
 obtain z|z:=z
 ·let⟨a,h,e,h1,h2⟩:=b7 k r z;refine⟨a,h,e,.inl h1,h2⟩
 ·let⟨a,h,e,h1,h2⟩:=bh k r z;refine⟨a,h,e,.inr (dF.of h1),h2⟩
theorem At.list{ds:List D}{vs:List V}{h:List yai}{h':Heap}{t c:Nat}{a:Addr}(A:At X pins σ H s w δ S)(kp:∀b o,s.heap.get? b=some o->h'.get? b=some o)(le:s.heap.objs.size<=a)(r:aD X.K w ds vs)(j:Vals vs h)(hz:h.length<=yag)(g:h'.get? a=some (seqObj "list" h.toArray c)):
  ∃H',Inv X pins σ H' {s with heap:=h',toks:=t}/\Ok X.K w H' S/\nh X.K w H' S (.new (.lst ds)) (.ref a):=by
 have l:H a=none:=A.i.hok.fresh le;refine⟨_,A.i.laid (a:=a) (t':=t) (o:=.lst vs) kp le ⟨by rw[j.length];exact hz,h,c,j,g⟩,A.k.alloc l,A.k.fresh l (m:=.lst ds) ⟨vs,rfl,r⟩⟩
def cC(hc:X.calm=true)(hg:Gl X "sorted")(hm:X.mg "sorted"=none)(W:Gl X "set")(O:X.mg "set"=none)(he:GE X e ta)(I:autoParam (notStar e=true) r0):GE X (.Call (.Name "sorted" p) [.Call (.Name "set" p2) [e] [] pos2] [] pos) (bZ ta):=by
 refine .of λ{pins σ H s w δ S Qa Q} A h b=>UO (id:="sorted") A.i hg hm (by decide+kernel) rfl (O7 (id:="set") A.i W O (by decide+kernel) I (he.go A h λ{u s1 w1 v H1 r S1} l1 A1 rp E z=>?_));have U:=A.i.ok.hd hc;let⟨ss,z,hl,q⟩:=z;let⟨a,xs,rfl,n,rs⟩:=zu A1.k rp z;cases E;obtain rfl:=jg rs;have C:∀(x:Heap)(F:Nat),M5.xg X.prog X.w x s1.heap.objs.size (M5.all1 (λi=>ss.getD i ⟨#[]⟩) ss.length)->(∀b o,b<s1.heap.objs.size->s1.heap.get? b=some o->x.get? b=some o)->
   yar (model X.prog X.w) X.A (call (.builtin "sorted") [.ref s1.heap.objs.size]) Q X.xe {s1 with heap:=x,toks:=F}:=by
  intro x F Y kp;have Z:=M5.pZ (λi=>ss.getD i ⟨#[]⟩) ss.length;refine M5.xB (s:={s1 with heap:=x,toks:=F}) U Y (by lia) λl s2 out j c G e1 e2 le g hS L I=>?_;let⟨h2,g2,d2,t2,o2⟩:=s2;obtain rfl:g2=s1.gens:=e1;obtain rfl:o2=s1.os:=e2;have lt:s1.heap.objs.size<=l:=by
   let⟨o,ho,_⟩:=Y;exact zcH (zcI (zcP ho)) le
  have E:=M.kR hS;have P:=E.length;rw[zbV,L.length_eq] at P;let⟨H',I',k',m⟩:=A1.list (t:=t2) (λb o z=>G b o (kp b o (zcP z) z)) lt (gp j) E (by rw[yaf];lia) g;exact b l1 (I'.mZ d2) k' m rfl (q j (L.nodup_iff.mpr (M5.o8 _ _)) (λy=>(L.mem_iff).trans (M5.BU ss y)) I)
 obtain n|n:=n
 ·let⟨its,m,pl,hz⟩:=A1.i.tuple n;exact M5.set_tuple (its:=its.toArray) (ss:=ss) U pl (by simpa using nA m) (by lia) C
 ·let⟨its,m,pl,hz⟩:=A1.i.list n;exact M5.set_list (its:=its.toArray) (ss:=ss) U pl.isList (by simpa using nA m) (by lia) C
def tu(hr:bB j X.A)(hc:X.calm=true)(hg:Gl X "sorted")(hm:X.mg "sorted"=none)(hg2:Gl X "set")(hm2:X.mg "set"=none)(he:GE X e ta)(hs:autoParam (notStar e=true) r0):GE X (.Call (.Name "sorted" p) [.Call (.Name "set" p2) [e] [] pos2] [] pos) (sF ta):=by
 refine .of λ{pins σ H s w δ S Qa Q} A h b=>UO (id:="sorted") A.i hg hm (by decide+kernel) rfl (O7 (id:="set") A.i hg2 hm2 (by decide+kernel) hs (he.go A h λ{u s1 w1 v H1 r S1} l1 A1 rp rv z=>?_));have m:=A.i.ok.hd hc;have hun:=hr.units;let⟨ks,z,g1,g2,hl,q⟩:=z;let⟨a,xs,rfl,L,rs⟩:=zu A1.k rp z;cases rv;let⟨n,rfl,rfl,h3⟩:=zI rs λk m=>(g1 k m).1;rw[zbV] at hl;have I:∀x∈n,x.1∈n.map (·.1):=λx l=>zcE.mpr ⟨x,l,rfl⟩;have ky:∀k∈n.map (λx:D×Addr=>(py x.1,x.2)),isKey s1.heap k.1 k.2:=λk m=>by
  let⟨x,l,rfl⟩:=zcE.mp m;let⟨_,e,_,kx⟩:=Uy A1.i A1.k (h3 x l) rfl (g1 _ (I x l)).1;cases e;exact kx
 have U:∀(P:Heap)(Y:Nat)(Z:List yam),Z.Nodup->(∀y,y∈Z↔y∈(n.map λx:D×Addr=>(py x.1,x.2)).map (·.1))->Z.length<63->Bl X.w (n.map λx=>(py x.1,x.2)) P s1.heap.objs.size Z->(∀b o,b<s1.heap.objs.size->s1.heap.get? b=some o->P.get? b=some o)->
   yar (model X.prog X.w) X.A (call (.builtin "sorted") [.ref s1.heap.objs.size]) Q X.xe {s1 with heap:=P,toks:=Y}:=by
  intro P Y Z n1 n2 n3 tS kp;have mS:∀d∈Z,∃x∈n,py x.1=d:=λd hd=>by
   have:=(n2 d).mp hd;rw[zcF] at this;exact zcE.mp this
  refine uN (s:={s1 with heap:=P,toks:=Y}) m tS (λd hd=>?_) (λx l y hy=>?_) (by lia) (by lia) λs2 h2 out c e1 e2 G kp2 g hB W C=>?_
  ·let⟨x,l,rfl⟩:=mS d hd;exact(g1 _ (I x l)).2
  ·let⟨x',hx',rfl⟩:=mS x l;let⟨y',hy',rfl⟩:=mS y hy;exact g2 _ (I x' hx') _ (I y' hy')
  ·let⟨hh2,g2,d2,t2,o2⟩:=s2;obtain rfl:g2=s1.gens:=e1;obtain rfl:o2=s1.os:=e2;let⟨F,o1,rfl⟩:=oS hB;have lt:s1.heap.objs.size<=hh2.objs.size:=by
    let⟨o,_,_,_,_,_,ho,_⟩:=tS;exact zcI (zcP (G _ _ ho))
   have O:=W.length_eq;rw[zcF] at g W O;rw[zbV] at O;let⟨H',I',k',E⟩:=A1.list (ds:=F.map (·.1)) (vs:=F.map λx=>V.ref x.2) (t:=t2) (λb o z=>kp2 b o (G b o (kp b o (zcP z) z))) lt (i6 λx l=>h3 x (o1 x l)) (kT (λx:D×Addr=>x.2) F) (by rw[zbV,yaf];lia) g;have e5:(F.map (·.1)).map py=F.map λx=>py x.1:=by rw[zcF];rfl
   have e6:(n.map (·.1)).map py=n.map λx=>py x.1:=by rw[zcF];rfl
   refine b l1 (I'.mZ d2) k' E rfl (q _ (λk m=>?_) (λy=>?_) (by rw[e5];exact W.nodup_iff.mpr n1) ?_)
   ·let⟨x,x1,rfl⟩:=zcE.mp m;exact I x (o1 x x1)
   ·rw[e5,e6];have:=n2 y;rw[zcF] at this;exact W.mem_iff.trans this
   ·rw[zbr] at C⊢;exact C
 obtain L|L:=L
 ·let⟨its,E,pl,hz⟩:=A1.i.tuple L;exact xD (its:=its.toArray) m pl (by have:=fM (λx:D×Addr=>x.2) E;simp[this]) ky (by lia) (by rw[zbV];exact hl) U
 ·let⟨its,E,pl,hz⟩:=A1.i.list L;exact BA (its:=its.toArray) m pl.isList (by have:=fM (λx:D×Addr=>x.2) E;simp[this]) ky (by lia) (by rw[zbV];exact hl) U
end
end M
namespace M
open PySem PySem.Spec PyProof.Rows L2 M6 M8 M12
section
variable {σ:L2.St}{w:Wd}{e a b c:Expr}{p:Pos}
def Fb(hN:X.s₀.heap.objs.size<=N)(fp:∀D:Nat,N<=D->D≠X.env.locals/\(∀x c,X.env.cells.lookup x=some c->c≠D)/\∀p∈X.pn++pins,p.1≠D){as:List Addr}{ts:List (List D)}(I:Inv X pins σ H s)(k:Ok X.K w H S)(e:as.length=ts.length)(nd:as.Nodup)(q:∀a∈as,N<=a/\H a=none)(h:∀(j:Nat) a t,as[j]? =some a->ts[j]? =some t->∃vs,aD X.K w t vs/\∀H',bK X.prog X.w H' s.heap a (.tup vs)):∃m H',w.le m/\Inv X pins σ H' s/\Ok X.K m H' S/\aD X.K m (ts.map D.tup) (as.map V.ref)/\∀b,b ∉ as->H' b=H b:=by
 induction as generalizing ts w H with
 |nil=>
  obtain rfl:=zab e.symm;refine⟨w,H,.refl,I,k,.nil,λ_ _=>rfl⟩
 |cons a as ih=>
  cases ts with
  |nil=>cases e
  |cons t ts=>
   rw[zbX] at nd;let⟨h1,h2⟩:=q a (by simp);let⟨vs,r,o⟩:=h 0 a t rfl rfl;let⟨w1,l1,L,C⟩:=k.lA h2 r;let⟨Q,P,O⟩:=fp a h1;have Z:=I.uJ (o:=.tup vs) h2 (zcH hN h1) Q P O (o _);let⟨v,H2,l2,Y,G,y,g⟩:=ih Z L (by simpa using e) nd.2 (λb l=>⟨(q b (by simp[l])).1,by rw[aR λz:b=a=>nd.1 (z▸l)];exact(q b (by simp[l])).2⟩) λj b u W U=>by
    let⟨n,E,F⟩:=h (j+1) b u (by simpa using W) (by simpa using U);refine⟨n,E.le l1,F⟩
   refine⟨v,H2,l1.trans l2,Y,G,.cons (C.le l2) y,λb l=>by rw[g b λz=>l (by simp[z]),aR λz:b=a=>l (by simp[z])]⟩
theorem Ez(hc:X.calm=true)(hg:Gl X "list")(hm:X.mg "list"=none)(Y:Gl X "zip")(W:X.mg "zip"=none)(v:GA X [a,b,c] d)(hs:autoParam (yao [a,b,c] X.env=[(false,eval a X.env),(false,eval b X.env),(false,eval c X.env)]) r0)(C:autoParam (yao [b,c] X.env=[(false,eval b X.env),(false,eval c X.env)]) r0):
  GE X (.Call (.Name "list" p) [.Call (.Name "zip" p2) [a,b,c] [] pos2] [] pos) (LR d):=by
 refine .of λ{pins σ H s w δ S Qa Q} A h f=>O7 (id:="list") A.i hg hm boot_list rfl (Call_ (eZ A.i Y W (u:=.type "zip") (by decide+kernel) (PyProof.Rows.callWith_type1 (v.go A h λ{us s1 w1 vs H1 ds S1} l A1 rp rv q=>?_) (by rw[hs,C]) (by rw[C];rfl)) (by decide+kernel) (by decide+kernel)));obtain⟨d1,d2,d3,es,fs,gs,rfl,z1,z2,z3,n1,n2,n3,n4,q⟩:=q;simp only[aD] at rp;obtain⟨x,_,rfl,g1,x',_,rfl,g2,x'',_,rfl,g3,rfl⟩:=rp;obtain⟨l1,xs,rfl,k1,j1⟩:=bh A1.k g1 z1;obtain⟨l2,ys,rfl,k2,j2⟩:=b7 A1.k g2 z2;obtain⟨l3,zs,rfl,F,j3⟩:=bh A1.k g3 z3;have m1:=j1.length;have m2:=j2.length;have m3:=j3.length;cases rv with
 |cons r rr=>cases rr with
  |cons r' rr'=>cases rr' with
   |cons r'' rr''=>
    cases rr'';cases r;cases r';cases r'';obtain⟨i1,v1,t1,_⟩:=A1.i.list (dF.of k1);obtain⟨i2,v2,t2,_⟩:=A1.i.tuple k2;obtain⟨i3,v3,t3,_⟩:=A1.i.list (dF.of F);have c1:=v1.length;have c2:=v2.length;have c3:=v3.length;have M2:s1.heap.IsTuple l2 i2.toArray:=t2;refine Mf t1.isList M2 t3.isList λh' Z=>?_;refine E8 (s:={s1 with heap:=h'}) (m:=fs.length) (A1.i.ok.hd hc) t1.isList M2 t3.isList Z (by simp;lia) (by simp;lia) (by simp;lia) n3 (by rw[yaf];lia) λh2 U T=>?_;obtain⟨E,cc,e2,e5,e4⟩:=T;have I2:Inv X pins σ H1 {s1 with heap:=h2}:=A1.i.kept (t':=s1.toks) U;have none:∀a,s1.heap.objs.size<=a->H1 a=none:=λa v=>A1.i.hok.fresh v;have I:∀D,s1.heap.objs.size<=D->D≠X.env.locals/\(∀x c,X.env.cells.lookup x=some c->c≠D)/\∀p∈X.pn++pins,p.1≠D:=λD hD=>let f:=A1.i.Fy (H':=H1) hD (none D hD);⟨f.2.1,f.2.2.2.2.1,f.2.2.2.2.2⟩;have inj:∀{i j:Nat},ad s1.heap (7+i)=ad s1.heap (7+j)->i=j:=λe=>by
     have:=zaQ e;lia
    have up:∀a∈(zcV fs.length).map (λj=>ad s1.heap (7+j)),s1.heap.objs.size+6<a:=λa v=>by
     obtain⟨j,_,rfl⟩:=zcE.mp v;show(_:Nat)<s1.heap.objs.size+(7+j);lia
    obtain⟨w3,H3,l3,I3,F,L,O⟩:=Fb (as:=(zcV fs.length).map (λj=>ad s1.heap (7+j))) (ts:=xu es fs gs) A1.i.sz I I2 A1.k (by simp[xu];lia) (zbr.mpr (zbM.imp λh e=>h (inj e))) (λa v=>⟨zcI (zcK (by lia) (up a v)),none _ (zcI (zcK (by lia) (up a v)))⟩) λj a t ea et=>by
     obtain⟨x,y,z,w1,w2,w3,rfl⟩:=CP et;obtain⟨u1,e1,r1⟩:=j1.get w1;obtain⟨u2,e2,r2⟩:=j2.get w2;obtain⟨u3,e3,L⟩:=j3.get w3;obtain⟨a1,a2,a3⟩:=v1.get e1;obtain⟨a4,a5,a6⟩:=v2.get e2;obtain⟨a7,a8,a9⟩:=v3.get e3;rw[zbl,zar] at ea;obtain⟨i,G,rfl⟩:=ea;obtain⟨hj,G⟩:=zaf.mp G;rw[List.getElem_range] at G;rw[zbo] at hj;subst G;exact⟨_,.cons r1 (.cons r2 (.cons L .nil)),λH'=>⟨by rw[yaf];show 3<=_;lia,[a1,a4,a7],.cons a3 (.cons a6 (.cons a9 .nil)),⟨_,e4 j _ _ _ hj (by simpa using a2) (by simpa using a5) (by simpa using a8),rfl,_,rfl⟩⟩⟩
    have n:s1.heap.objs.size<=(s1.heap.objs.size+6:Nat):=by lia
    have P:H3 (s1.heap.objs.size+6:Nat)=Option.none:=by
     rw[O _ λh=>zcv _ (up _ h)];exact none _ n
    have I4:=I3.uJ (D:=(s1.heap.objs.size+6:Nat)) (o:=.lst (((zcV fs.length).map (λj=>ad s1.heap (7+j))).map V.ref)) P (zcH A1.i.sz n) (I _ n).1 (I _ n).2.1 (I _ n).2.2
     ⟨by rw[zbV,zbV,zbo,yaf];lia,_,cc,kT (λa=>a) _,by rw[e2,zcF,show E=(E.toList).toArray from rfl,e5];rfl⟩
    exact f (l.trans l3) I4 (F.alloc P) (F.fresh P (m:=.lst ((xu es fs gs).map D.tup)) ⟨_,rfl,L⟩) rfl q
theorem BD(hc:X.calm=true)(hg:Gl X "list")(hm:X.mg "list"=none)(G:Gl X "range")(F:X.mg "range"=none)(ha:GA X [a,b] L)(hs:autoParam (yao [a,b] X.env=[(false,eval a X.env),(false,eval b X.env)]) r0)(y:autoParam (yao [b] X.env=[(false,eval b X.env)]) r0):
  GE X (.Call (.Name "list" p) [.Call (.Name "range" p2) [a,b] [] pos2] [] pos) (Gv L):=by
 refine .of λ{pins σ H s w δ S Qa Q} A h f=>O7 (id:="list") A.i hg hm boot_list rfl (Call_ (eZ A.i G F boot_range (PyProof.Rows.callWith_type1 (ha.go A h λ{us s1 w1 vs H1 ds S1} l A1 O W q=>?_) (by rw[hs,y]) (by rw[y];rfl))));obtain⟨i,j,rfl,n1,n2,n3,n4,q⟩:=q;simp only[aD,Rep] at O;obtain⟨x,_,rfl,rfl,x',_,rfl,rfl,rfl⟩:=O;cases W with
 |cons r rr=>
  cases rr with
  |cons E rr=>
   cases rr;obtain⟨t,rfl⟩:=r;obtain⟨t',rfl⟩:=E;refine call_range_2 ?_;refine call_list_range (s:={s1 with heap:=s1.heap.push _,toks:=_}) (n:=(j - i).toNat) (A1.i.ok.hd hc) (IsRange.new ..) (small_one (by lia) (by lia) (by lia) (by lia)) (by rw[rangeSize_one];split<;>lia) (by lia) λh' C I c kp g v=>?_;have U:Vals ((zcV (j - i).toNat).map λk:Nat=>V.int (i+k)) I.toList:=by
    refine gO (by rw[zbV,zbo,zaR,v.1]) λk x u P Z=>?_;rw[zbl,zar] at P;obtain⟨m,e,rfl⟩:=P;obtain⟨_,rfl⟩:=zaf.mp e;obtain⟨C,rfl⟩:=v.2 k u (by simpa using Z);exact⟨C,by simp⟩
   have er:∀l:List Nat,aD X.K w1 (l.map λk:Nat=>D.int (i+k)) (l.map λk:Nat=>V.int (i+k)):=λl=>by
    induction l with
    |nil=>exact .nil
    |cons k l ih=>exact .cons .int ih
   have lt:∀o:Obj,s1.heap.objs.size<=(s1.heap.push o).objs.size:=λo=>by rw[zcp];exact zcT _
   obtain⟨H',I',Y,E⟩:=A1.list (t:=C) (λb o e=>kp b o (zas _ e)) (lt _) (er _) U (by rw[<-U.length,zbV,zbo,yaf];lia) (by rw[zaI];exact g);exact f l I' Y E rfl q
end
end M
namespace M
open PySem PySem.Spec PyProof.Rows L2 M6
section
variable {σ:L2.St}{w w':Wd}{e a:Expr}{p:Pos}
def U6(X:Cx)(h:List (Addr×Obj))(σ:L2.St)(j:Expr)(w:Wd)(l:List D->(aK->Prop)->aK->Prop)(Q:yai->yah->Prop):Prop:=∀{it fp tn J H' s' w' ds P S'},w.le w'->Inv X h σ H' s'->Ok X.K w' H' S'->Turn X.prog X.w X.K j J fp it tn->tn 0 s'.heap->(∀b∈fp,nu X h H' b)->L5 X.K w' J ds P->l ds P S'->Q (.ref it) s'
def GI.of(h:∀{j σ H s w δ S m}{Q:yai->yah->Prop},At X j σ H s w δ S->d δ S m->U6 X j σ tg w m Q->yar (model X.prog X.w) X.A (eval e X.env) (λv s1=>yar (model X.prog X.w) X.A (pyIter v) Q X.xe s1) X.xe s):GI X tg e d:=
 ⟨λj s σ H R I z=>by
  let⟨w,δ,S,m,ok,env,q,bk⟩:=z;exact h ⟨I,ok,env⟩ q λl d k T n o it q=>⟨_,_,_,_,_,rfl,d,T,n,o,bk _ _ _ _ _ _ l k it q⟩⟩
theorem At.kept(A:At X pins σ H s w δ S)(kp:∀b o,s.heap.get? b=some o->h'.get? b=some o):At X pins σ H {s with heap:=h',toks:=d} w δ S:=⟨A.i.kept kp,A.k,A.e⟩
theorem U6.push(f:U6 X pins σ tg w d Q)(A:At X pins σ H s w' δ S)(l:w.le w')(T:Turn X.prog X.w X.K tg J [s.heap.objs.size] s.heap.objs.size tn)(m:tn 0 (s.heap.push g))(it:L5 X.K w' J ds r)(q:d ds r S):Q (.ref s.heap.objs.size) {s with heap:=s.heap.push g,toks:=k}:=
 f l (A.i.kept λb g e=>zas _ e) A.k T m (λb j=>by rw[zaY.mp j];exact A.i.Fy (zcR _) (A.i.hok.fresh (zcR _))) it q
def cD(h:aK)(Q:List D->(aK->Prop)->aK->Prop):D->Prop
 |.lst ds=>Q ds (λ_=>True) h
 |.tup ds=>Q ds (λ_=>True) h
 |.loc n=>∃ds,h[n]? =some (some (.lst ds))/\Q ds (λS=>S[n]? =some (some (.lst ds))) h
 |_=>False
def bR(t:AE):AI:=λh S Q=>t h S λr j=>cD j Q r.d
def aO(E:GE X e tl):GI X tg e (bR tl):=by
 refine .of λ{pins σ H s w δ S Qa Q} A h f=>E.go A h λ{u s1 w1 v H1 r S1} l1 A1 j o q=>?_;have t:∀{a m ds P},v=.ref a->dF X.K H1 a m->L5 X.K w1 (TL X.K a) ds P->Qa ds P S1->yar (model X.prog X.w) X.A (pyIter u) Q X.xe s1:=λe C it q=>by
  subst e;cases o;let⟨l,_,pl,_⟩:=A1.i.list C;exact wpAny_pyIter_list pl.isList (f.push A1 l1 (Bt _ _) ⟨_,zaS _ rfl,rfl,rfl⟩ it q)
 generalize r.d=d at j q;cases d with
 |lst ds=>
  simp only[Rep] at j;let⟨p,m,e,h1,h2⟩:=j;exact t e (dF.of (A1.k.base _ _ h1)) (Jk h1 h2) q
 |tup ds=>
  simp only[Rep] at j;let⟨p,m,rfl,h1,h2⟩:=j;cases o;let⟨l,_,pl,_⟩:=A1.i.tuple (eO.same A1.k.base h1);exact wpAny_pyIter_tuple (show s1.heap.IsTuple p l.toArray from pl) (f.push A1 l1 (xq _ _) ⟨_,zaS _ rfl,rfl,rfl⟩ (Jj h1 h2) q)
 |loc n=>
  simp only[Rep] at j;let⟨p,x,rfl⟩:=j;let⟨ds,e,q⟩:=q;let⟨G,u,y,L,F,m,rfl,I⟩:=A1.k.live n _ e;rw[x] at y;cases y;exact t rfl (dF.of F) (Jm x) q
 |_=>exact q.elim
def jl(v:Gl X "range")(u:X.mg "range"=none)(C:GA X [a] g)(s:autoParam (yao [a] X.env=[(false,eval a X.env)]) r0):GI X tg (.Call (.Name "range" p) [a] [] pos) (Jq g):=by
 refine .of λA h f=>Call_ (eZ A.i v u boot_range (PyProof.Rows.callWith_type1 (C.go A h λ{us s1 w1 vs H1 ds S1} l1 A1 l n q=>?_) s rfl));let⟨j,rfl,⟨h1,h2⟩,q⟩:=q;let⟨x,_,rfl,rfl,rfl⟩:=l;cases n with
 |cons r rr=>
  cases rr;let⟨g,rfl⟩:=r;refine call_range_1 (wpAny_pyIter_range (IsRange.new ..) (small_one (by lia) (by lia) h1 h2) ?_);refine f.push (A1.kept λb o e=>zas _ e) l1 (xr _ 0 j.toNat) ?_ ⟨λi H S w' d le ok m e=>(Ef e).1,λi H S w' d x G le ok m e y=>?_,λi H S w' le ok m e=>?_⟩ q
  ·have E:j.toNat - ((0:Nat):Int)=Builtin.Range.rangeSize 0 j 1:=by rw[rangeSize_one];split<;>lia
   rw[E];exact zaS _ rfl
  ·let⟨rfl,rfl⟩:=y;let⟨F,rfl⟩:=Ef e;refine⟨w',.refl,ok,.int⟩
  ·show _<=_;rw[e];simp[j4]
end
end M
namespace M13
open PySem PySem.Spec PyProof.Rows M5 M7
def entry_sub:entryFor table "set.__sub__"=some Builtin.«frozenset.__sub__»:=
 entryFor_alias (id':="frozenset.__sub__") (by kernel_rfl) rfl (by decide+kernel) (by kernel_rfl)
def Bm(prog:yaj)(w:yak)(h:Heap)(a:Addr)(S:List Int):Prop:=∃o j l t,h.get? a=some o/\o.ExactSet/\o.data=.set j l t/\ElemsOf (PySem.intKind prog w) j.toList/\(j.toList.map λe=>intOf e.2).Perm S/\t.fits j.size=true
def fU.e{S:List Int}(x:fU prog w h a S):Bm prog w h a S:=by
 let⟨o,n,s,u,t,j,hd,l,m,q,_⟩:=x;refine⟨o,s,u,t,n,j,hd,l,m,q⟩
def Ao(n:s.heap.get? a=some d)(hd:d.data=.set es ep t)(l:ElemsOf (PySem.intKind prog w) es.toList)(q:t.fits es.size=true)(v:es.size<4000)(h:∀r:Option Nat,r=es.toList.findIdx? (λe=>(PySem.intKind prog w).is g e.2)->z r s):yar (model prog w) A (setFind a (.int g tk) ((PySem.intKind prog w).hash g)) z E s:=by
 have u:=by show es.size<4096;lia
 refine yaa (wpAny_setState_of n hd q ?_);dsimp only;rw[byScan_of rfl u l];refine yaa (wpAny_rule ?_);refine yaa (wpAny_setScan_of (Jo g tk) n hd q l ?_);cases m:List.findIdx? (λe=>(PySem.intKind prog w).is g e.2) es.toList with
 |none=>exact yab (h none m.symm)
 |some j=>
  refine yab (h (some (0+j)) ?_);rw[m,Nat.zero_add]
def Af{x:Int}(j:ElemsOf (PySem.intKind prog w) d)(l:(d.map λe=>intOf e.2).Perm g):(d.findIdx? λe=>(PySem.intKind prog w).is x e.2).isSome=decide (x∈g):=by
 rw[List.findIdx?_isSome];by_cases a:x∈g
 ·rw[yDt a,zbI];let⟨e,h,z⟩:=zcE.mp (l.mem_iff.mpr a);let⟨⟨k,m,_⟩,_⟩:=j e h;rw[pI m] at z;subst z;refine⟨e,h,m⟩
 ·rw[yDf a,zbk];exact λe h z=>a (l.mem_iff.mp (zcE.mpr ⟨e,h,pI z⟩))
theorem Bm.size(a:(es.toList.map λe=>intOf e.2).Perm d):es.size=d.length:=by
 rw[<-a.length_eq,zbV,zaR]
def Ep(O:∀a∈d,∃S,Bm prog w s.heap a S)(h:g true s):yar (model prog w) A (setsQuiet d) g E s:=by
 refine yaa ?_;refine wpAny_forIn_list _ (λrest b q=>q=s/\b=⟨none,()⟩/\∀a∈rest,a∈d) _ (λa rest b q G=>?_) (λb q G=>?_) _ _ ⟨rfl,rfl,λa h=>h⟩
 ·let⟨rfl,rfl,H⟩:=G;let⟨S,o,W,Z,t,L,_,hd,y,X,U⟩:=O a (H a (by simp));refine yaa (wpAny_setEntries_of L hd U ?_);refine yaa ?_;refine wpAny_forIn_array' _ (λj b m=>m=q/\b=⟨none,()⟩/\∀e∈j,e∈W.toList) _ (λe j b m F=>?_) (λb m F=>?_) _ _ ⟨rfl,rfl,λa h=>h⟩
  ·let⟨rfl,rfl,n⟩:=F;let⟨⟨k,P,_⟩,_⟩:=y e (n e (by simp));let⟨I,C⟩:=Value.isInt_shape P;let⟨Y,v⟩:=e;subst C;exact yab ⟨rfl,rfl,λx u=>n x (zaC _ u)⟩
  ·let⟨rfl,rfl,_⟩:=F;exact yab ⟨rfl,rfl,λx u=>H x (zaC _ u)⟩
 ·let⟨rfl,rfl,_⟩:=G;exact yab h
theorem zb{f:Option Addr}{S U:List Int}(ha:fU prog w s.heap a S)(hq:∀b∈oth,∃T,Bm prog w s.heap b T)(X:∀r,f=some r->fU prog w s.heap r U)(hU:U.length<4000)(h:∀(l)(h'),(h'=s.heap∨∃r,f=some r/\Heap.SameBut r s.heap h'/\fU prog w h' r U)->ElemsOf (PySem.intKind prog w) l.toList->(l.toList.map λe=>intOf e.2).Perm S->k l {s with heap:=h'}):
  yar (model prog w) A (setWalkUnseen a oth f) k E s:=by
 have Z:=ha;let⟨o,ho,m,ep,t,hex,hd,O,hp,hf,j,hpl⟩:=ha;have hw:∀{Q':Array (Int×yai)->yah->Prop},((w.params.followText "set-order")||(t.led&&t.plain)||decide (m.size<=1))=true->(∀l,l.toList.Perm m.toList->Q' l s)->yar (model prog w) A (setWalk a) Q' E s:=by
  intro Q' C q;refine yaa (wpAny_setState_of ho hd hf ?_);refine yaa (fL ?_);cases Y:w.params.followText "set-order" with
  |true=>
   refine yaa (wpAny_askSetting (yab ?_));exact q _ (rM _ _)
  |false=>
   rw[Y] at j C;have G:=j;have C:=by simpa[G] using C
   have e1:(!t.plain&&decide (m.size> 1))=false:=by
    obtain z|z:=C
    ·rw[z];rfl
    ·lia
   show yar _ _ (if(!t.plain&&decide (m.size> 1))=true then _ else _) _ _ _;rw[e1];refine yaa ?_;show yar _ _ (if(!t.led&&decide (m.size> 1))=true then _ else _) _ _ _;rw[G];exact yab (yab (q _ .rfl))
 have P:=λl G=>h l s.heap (.inl rfl) (O.perm G) ((G.map _).trans hp);refine yaa (wpAny_setState_of ho hd hf ?_);dsimp only;refine yaa (fL ?_);cases C:((w.params.followText "set-order")||(t.led&&t.plain)||decide (m.size<=1)) with
 |true=>exact hw C P
 |false=>
  refine yaa (Ep (λx W=>?_) ?_)
  ·obtain rfl|W:=zcq.mp W
   ·exact⟨_,fU.e Z⟩
   ·exact hq x W
  refine yaa (wpAny_rule ?_);cases f with
  |none=>exact yab (P m .rfl)
  |some r=>
   let⟨o2,u,y,ep2,t2,I,v,L,F,H,LG,n⟩:=X r rfl;refine yaa (wpAny_setState_of u v H ?_);have hs2:y.size<4000:=by
    have:=F.length_eq;rw[zbV,zaR] at this;lia
   split
   ·refine yaa (wpAny_storeSet_of u v ?_ (by rw[yaf];lia));refine yab (h m _ (.inr ⟨r,rfl,Heap.SameBut.update s.heap r _,⟨_,dh y _ u v,y,_,_,I,rfl,L,F,H,?_,n.1,?_⟩⟩) O hp)
    ·rw[LG,j,zcw]
    ·intro z;exact n.2 (Bool.and_eq_true_iff.mp z).1
   ·exact yab (P m .rfl)
def E4{l:Array (Int×yai)}(hel:ElemsOf (PySem.intKind prog w) l.toList)(hp:(l.toList.map λe=>intOf e.2).Perm z)(hep:∃o es t,s.heap.get? a=some o/\o.data=.set es ep t/\t.fits es.size=true)(hb:fU prog w s.heap g T)(hr:fU prog w s.heap r [])(h1:a≠r)(h2:g≠r)(hS:z.length<4000)(hT:T.length<4000)(h:∀h' U,Heap.SameBut r s.heap h'->fU prog w h' r U->U.length<=z.length->(∀x,x∈U↔x∈z/\x ∉ T)->D ⟨⟩ {s with heap:=h'}):
  yar (model prog w) A (forIn l PUnit.unit λ(p:Int×yai)(_:PUnit)=>do
   holding [p.2] (do
    let f <-setFind g p.2 p.1;let there <-pure f.isSome
    if !there then
     let _ <-setAddHashed r p.2 p.1
     pure ()
    else pure ())
   Builtin.Frozenset.unchanged d a ep
   pure (ForInStep.yield PUnit.unit)) D E s:=by
 refine wpAny_forIn_array' _ (λrest _ X=>∃(n:List (Int×yai))(h':Heap)(U:List Int),n++rest=l.toList/\X={s with heap:=h'}/\Heap.SameBut r s.heap h'/\fU prog w h' r U/\U.length<=n.length/\∀x,x∈U↔x∈(n.map λe=>intOf e.2)/\x ∉ T) _ (λe rest _ X hI=>?_) (λ_ X hI=>?_) _ _ ⟨[],s.heap,[],rfl,rfl,Heap.SameBut.refl _ _,hr,zcR _,by simp⟩
 ·let⟨n,h',U,H,rfl,sb,W,hl,P⟩:=hI;let⟨⟨k,hk,hh⟩,_⟩:=hel e (by rw[<-H];simp);let⟨tk,Z⟩:=Value.isInt_shape hk;let⟨L,v⟩:=e;subst Z;subst hh;have hdl:n.length<z.length:=by
   have h3:=congrArg zcQ H;have h4:=hp.length_eq;simp at h3;simp at h4;lia
  have hb':=hb.keep λo e=>by rw[sb.2 g h2];exact e
  have un:∀(j:Heap){Q':ForInStep PUnit->yah->Prop},Heap.SameBut r s.heap j->Q' (.yield ⟨⟩) {s with heap:=j}->yar (model prog w) A (do
    Builtin.Frozenset.unchanged d a ep
    pure (ForInStep.yield PUnit.unit)) Q' E {s with heap:=j}:=by
   intro j Q' m q;let⟨o,es,t,ho,hd,hf⟩:=hep;refine yaa (yaa (wpAny_setEpoch_of (by rw[m.2 a h1];exact ho) hd hf ?_));rw[yIn (by simp)];exact yab (yab q)
  have nx:∀(j:Heap)(O:List Int),Heap.SameBut r s.heap j->fU prog w j r O->O.length<=n.length+1->(∀x,x∈O↔x∈(n.map λe=>intOf e.2)++[k]/\x ∉ T)->∃(n:List (Int×yai))(L:Heap)(U:List Int),n++rest=l.toList/\({s with heap:=j}:yah)={s with heap:=L}/\Heap.SameBut r s.heap L/\fU prog w L r U/\U.length<=n.length/\∀x,x∈U↔x∈(n.map λe=>intOf e.2)/\x ∉ T:=λj O m G hl' Y=>
   ⟨n++[((PySem.intKind prog w).hash k,.int k tk)],j,O,by rw[zbn];exact H,rfl,m,G,by rw[zaU];exact hl',λx=>by rw[zca];exact Y x⟩
  let⟨o1,ho1,es1,ep1,t1,_,hd1,C,I,hf1,_⟩:=hb';refine yaa (yad (yaa (Ao ho1 hd1 C hf1 (by have:=Bm.size I;lia) λr' u=>yaa (yab ?_))));have u:r'.isSome=decide (k∈T):=by rw[u];exact Af C I
  cases y:decide (k∈T) with
  |false=>
   rw[u,yIp (by rw[y];rfl)];refine yaa (add_int W (by lia) λ_ j m G=>yab ?_);refine un j (sb.trans m) (nx j _ (sb.trans m) G (zcH (wC ..) (by lia)) λx=>?_);rw[vC,zbU,P,zaY];lia
  |true=>
   rw[u,yIn (by rw[y];decide)];refine yab (un h' sb (nx h' U sb W (by lia) λx=>?_));rw[P,zbU,zaY];lia
 ·let⟨n,h',U,H,rfl,sb,W,hl,P⟩:=hI;rw[zbW] at H;subst H;refine h h' U sb W (by have:=hp.length_eq;rw[zbV] at this;lia) λx=>?_;rw[P,hp.mem_iff]
def Gs:∀n:Nat,n<64->5<=n->(SetTable.sizeAbove (n*2)=16∨SetTable.sizeAbove (n*2)=32∨SetTable.sizeAbove (n*2)=64∨SetTable.sizeAbove (n*2)=128)/\n*5<(SetTable.sizeAbove (n*2) - 1)*3:=by
 decide+kernel
def GV(w:yak)(h:Heap)(r:Addr)(n:Nat):Prop:=∃o a t,h.get? r=some o/\o.ExactSet/\o.data=.set #[] a t/\t.place=#[]/\t.dummies=#[]/\M8.full t.mask=true/\n*5<t.mask*3/\t.led=(!w.params.followText "set-order")/\t.plain=true
theorem GV.fits(h1:t.place=#[])(h2:t.dummies=#[]):t.fits (#[]:Array (Int×yai)).size=true:=by
 unfold SetTable.fits SetTable.fill;rw[h1,h2];simp
def Eb{r:Addr}{Q:Unit->yah->Prop}(a:s.heap.get? r=some (aW (!w.params.followText "set-order")))(y:n<64)(h:∀h',Heap.SameBut r s.heap h'->GV w h' r n->Q () {s with heap:=h'}):yar (model prog w) A (setRoomFor r n) Q E s:=by
 have j:(SetTable.fresh 0 0 (!w.params.followText "set-order")).fits (#[]:Array (Int×yai)).size=true:=by rfl
 refine yaa (wpAny_setState_of a rfl j ?_);have U:(SetTable.fresh 0 0 (!w.params.followText "set-order")).roomFor n=if(0+n)*5≥7*3 then some ((0+n)*2) else none:=rfl;rw[U,Nat.zero_add];by_cases q:n*5≥7*3
 ·rw[yIp q];let⟨x,C⟩:=Gs n y (by lia);have u:M8.full (SetTable.sizeAbove (n*2) - 1)=true:=by
   obtain e|e|e|e:=x<;>rw[e]
   ·rfl
   ·rfl
   ·rfl
   rfl
  refine yaa (wpAny_setState_of a rfl j ?_);dsimp only;rw[yIn (by rw[yaf];lia)];let⟨l,o,v,S,_,P,O,L,I,t,H,G⟩:=M8.tT (es:=#[]) (fi:=(SetTable.fresh 0 0 (!w.params.followText "set-order")).finger) (mv:=(SetTable.fresh 0 0 (!w.params.followText "set-order")).movedTo (SetTable.sizeAbove (n*2) - 1)) (ld:=(SetTable.fresh 0 0 (!w.params.followText "set-order")).led) (pn:=(SetTable.fresh 0 0 (!w.params.followText "set-order")).plain) u (by simp;lia);have m:=by
   have:=P.length_eq;simp at this;exact this
  subst m;have X:o.filterMap ((#[]:Array (Int×yai))[·]?)=#[]:=by
   simp
  refine yaa ?_;unfold SetTable.relaid;rw[S];show yar _ _ (if((o.filterMap ((#[]:Array (Int×yai))[·]?)).size != (#[]:Array (Int×yai)).size)=true then _ else _) _ _ _;rw[X];refine yab ?_;have W:=Array.eq_empty_of_size_eq_zero (by simpa using L);refine wpAny_storeSet_of a rfl (h _ (Heap.SameBut.update s.heap r _) ⟨_,_,l,dh _ l a rfl,⟨rfl,rfl,rfl⟩,rfl,W,I,by rw[t];exact u,by rw[t];exact C,H,G⟩) (by simp)
 ·rw[yIn q];exact yab (h _ (Heap.SameBut.refl _ _) ⟨_,_,_,a,⟨rfl,rfl,rfl⟩,rfl,rfl,rfl,M8.RE,by show n*5<7*3;lia,rfl,rfl⟩)
def Cut(prog:yaj)(w:yak)(h:Heap)(r:Addr)(M:Nat)(S:List Int)(k:Nat):Prop:=∃o a j t,h.get? r=some o/\o.ExactSet/\o.data=.set a j t/\ElemsOf (PySem.intKind prog w) a.toList/\(a.toList.map λe=>intOf e.2).Perm S/\t.fits a.size=true/\M<=t.mask/\t.dummies.size<=k
def Cut.e{M k:Nat}{S:List Int}(x:Cut prog w h a M S k):Bm prog w h a S:=by
 let⟨o,s,u,t,n,j,hd,l,m,q,_⟩:=x;refine⟨o,s,u,t,n,j,hd,l,m,q⟩
def BS{r:Addr}{S:List Int}{y:Sem Unit}{Q:Unit->yah->Prop}(ha:fU prog w s.heap a S)(hr:s.heap.get? r=some (aW (!w.params.followText "set-order")))(I:r≠a)(h0:0<S.length)(hS:S.length<64)(h:∀h':Heap,Heap.SameBut r s.heap h'->Cut prog w h' r S.length S 0->Q () {s with heap:=h'}):yar (model prog w) A (setMerge r a y) Q E s:=by
 let⟨o,ho,es,ep,t,hex,hd,x,H,L,Y,G⟩:=ha;have F:=Bm.size H;unfold setMerge;rw[yIn (by simpa using I)];refine yaa (wpAny_setState_of ho hd L ?_);dsimp only;rw[yIn λz=>by have:=Array.isEmpty_iff_size_eq_zero.mp z;lia,F];refine yaa (Eb hr hS λh1 q rm=>?_);let⟨o2,ep2,n,j,m,l,X,W,p3,p4,p5,p6⟩:=rm;refine yaa (wpAny_setState_of j l (GV.fits X W) ?_);have er:n.road t=if(n.mask==t.mask&&t.dummies.isEmpty)=true then .slotForSlot else .clean:=by
  unfold SetTable.road SetTable.fill;rw[X,W,yIn (by decide)]
 rw[er];cases hc:(n.mask==t.mask&&t.dummies.isEmpty) with
 |true=>
  refine wpAny_storeSet_of j l (h _ (q.trans (Heap.SameBut.update h1 r _)) ⟨_,es,_,_,dh es _ j l,m,rfl,x,H,L,?_,?_⟩) (by rw[yaf];lia)
  ·lia
  ·rw[G.1];simp
 |false=>
  let⟨U,C,l',g1,_,P,O,g5,g6,Z,g8,g9⟩:=M8.tT (es:=es) (fi:=n.finger) (mv:=n.moves) (ld:=n.led&&t.led) (pn:=n.plain&&t.plain) p3 (by lia);have v:=by
   have:=P.length_eq;rw[zbV] at this;exact this.trans zaR
  have u:(C.filterMap (es[·]?)).size=es.size:=by
   rw[<-zaR,O,zbV,v]
  rw[g1];refine yaa ?_;show yar _ _ (if((C.filterMap (es[·]?)).size != es.size)=true then _ else _) _ _ _;rw[u,yIn (by simp)];refine yab ?_;refine wpAny_storeSet_of j l (h _ (q.trans (Heap.SameBut.update h1 r _)) ⟨_,C.filterMap (es[·]?),_,U,dh _ U j l,m,rfl,x.perm (by rw[O];exact P),?_,?_,?_,?_⟩) (by rw[yaf];lia)
  ·rw[O];exact(P.map _).trans H
  ·unfold SetTable.fits SetTable.fill;rw[g6];simp;lia
  ·lia
  ·rw[g6];simp
def FY(j:fU prog w s.heap a d)(q:0<d.length)(n:d.length<64)(h:∀h' r,(∀c o,s.heap.get? c=some o->h'.get? c=some o)->(∀c o,s.heap.get? c=some o->c≠r)->Cut prog w h' r d.length d 0->Q (.ref r) {s with heap:=h'}):yar (model prog w) A (Builtin.Frozenset.copyOf a) Q E s:=by
 refine yaa (wo (ty_int j) ?_);refine yaa (yaa (fL ?_));refine yae ?_;have t:(s.heap.push (aW (!w.params.followText "set-order"))).get? s.heap.objs.size=some (aW (!w.params.followText "set-order")):=zaS _ rfl;have kp:∀c o,s.heap.get? c=some o->(s.heap.push (aW (!w.params.followText "set-order"))).get? c=some o:=λc o e=>zas _ e;have lt:∀c o,s.heap.get? c=some o->c≠s.heap.objs.size:=λc o e=>zcG (zcP e);have l:a≠s.heap.objs.size:=by let⟨o,m,_⟩:=j;exact lt a o m
 refine yaa (wpAny_of_eq rfl ?_);refine yaa (BS (j.keep (kp a)) t (Ne.symm l) q n λh' sb c=>?_);exact yab (h h' _ (λc o e=>by rw[sb.2 c (lt c o e)];exact kp c o e) lt c)
def gD{α:Type}(a:Array α)(i):(SetTable.eraseAt a i).toList=a.toList.take i++a.toList.drop (i+1):=by
 unfold SetTable.eraseAt;simp[List.extract];exact zan (by simp)
def JA(hC:Cut prog w s.heap r d g k)(hn:g.length<4000)(h:∀b h',Heap.SameBut r s.heap h'->Cut prog w h' r d (g.erase z) (k+1)->D b {s with heap:=h'}):yar (model prog w) A (setDiscardHashed r (.int z tk) ((PySem.intKind prog w).hash z)) D E s:=by
 let⟨o,j,ep,t,u,v,hd,l,C,F,P,hk⟩:=hC;have Z:=Bm.size C;refine yaa (Ao u hd l F (by lia) λi W=>?_);have m:=Af (x:=z) l C;rw[<-W] at m;cases i with
 |none=>
  have m:=of_decide_eq_false m.symm;refine yab (h false s.heap (Heap.SameBut.refl _ _) ⟨o,j,ep,t,u,v,hd,l,?_,F,P,by lia⟩);rw[List.erase_of_not_mem m];exact C
 |some i=>
  have m:=of_decide_eq_true m.symm;let⟨U,L,_⟩:=zaa.mp W.symm;have hj':=by simpa using U
  refine yaa (wpAny_setState_of u hd F ?_);have X:=F;unfold SetTable.fits SetTable.fill at X;have I:i<t.place.size:=by lia
  have H:(SetTable.eraseAt j i).toList.Sublist j.toList:=by
   rw[gD]
   conv=>rhs;rw[<-List.take_append_drop i j.toList]
   exact List.Sublist.append_left (List.drop_sublist_drop_left _ (zcT _)) _
  have Y:((SetTable.eraseAt j i).toList.map λe=>intOf e.2).Perm (g.erase z):=by
   refine List.Perm.cons_inv (.trans ?_ (C.trans (List.perm_cons_erase m)));rw[gD,zca];have e1:j.toList=j.toList.take i++j.toList[i]::j.toList.drop (i+1):=by
    conv=>lhs;rw[<-List.take_append_drop i j.toList]
    rw[zai U]
   have e2:=pI L
   conv=>rhs;rw[e1,zca,zcs,e2]
   exact zbL.symm
  have q:(SetTable.eraseAt j i).size=j.size - 1:=by
   rw[<-zaR,gD];simp;lia
  have O:t.drop i={t with place:=SetTable.eraseAt t.place i,dummies:=SetTable.insertAt t.dummies (SetTable.below t.dummies t.place[i]) t.place[i]}:=by
   unfold SetTable.drop;rw[zaj I]
  have G:(SetTable.eraseAt t.place i).size=t.place.size - 1:=by
   rw[<-zaR,gD];simp;lia
  have n:∀p y,(SetTable.insertAt t.dummies p y).size=t.dummies.size+1:=λp y=>by
   rw[<-zaR,M8.jY];simp;lia
  refine yaa (wpAny_storeSet_of u hd (yaa (wpAny_point (yab (h true _ (Heap.SameBut.update s.heap r _) ⟨_,SetTable.eraseAt j i,_,t.drop i,dh _ _ u hd,v,rfl,λe he=>l e (H.subset he),Y,?_,?_,?_⟩)))) (by rw[yaf];lia))
  ·rw[O];unfold SetTable.fits SetTable.fill;simp only[n];lia
  ·rw[O];exact P
  ·rw[O];rw[n];lia
def nD(u:Bm prog w s.heap a d)(h:e d.length s):yar (model prog w) A (Builtin.Frozenset.sizeOf a) e E s:=by
 let⟨o,v,x,t,l,n,hd,q,j,m⟩:=u;refine yaa (wpAny_setEntries_of l hd m (yab ?_));rw[Bm.size j];exact h
def HQ(L:fU prog w s.heap g T)(X:Cut prog w s.heap r D J 0)(C:g≠r)(hn:J.Nodup)(h1:T.length / 8<=J.length)(h4:T.length*4<=D)(hS:J.length<4000)(hT:T.length<4000)(h:∀h' U,Heap.SameBut r s.heap h'->Bm prog w h' r U->U.length<=J.length->(∀x,x∈U↔x∈J/\x ∉ T)->N () {s with heap:=h'}):yar (model prog w) A (Builtin.Frozenset.differenceUpdate d r (.ref g)) N E s:=by
 unfold Builtin.Frozenset.differenceUpdate;rw[yIn (by simpa using C)];refine yaa (nS (ty_int L) ?_);refine yaa (wpAny_of_eq rfl ?_);refine yaa (nD (fU.e L) (yaa (nD X.e ?_)));rw[yIn (by lia)];have hb0:=L;let⟨o,ho,es,ep,t,hex,hd,hel,hp,hf,I⟩:=L;refine yaa (wpAny_setEpoch_of ho hd hf ?_);refine yaa ?_;refine yad (yaa (zb (U:=[]) hb0 (λc hc=>⟨J,by rw[zaY.mp hc];exact X.e⟩) (λr z=>by cases z) (by simp) λl h' m G y=>?_));obtain rfl:h'=s.heap:=by
  lia
 refine yaa ?_;refine wpAny_forIn_array' _ (λrest _ P=>∃(q:List (Int×yai))(h':Heap)(U:List Int),q++rest=l.toList/\P={s with heap:=h'}/\Heap.SameBut r s.heap h'/\Cut prog w h' r D U q.length/\U.Nodup/\U.length<=J.length/\∀x,x∈U↔x∈J/\x ∉ (q.map λe=>intOf e.2)) _ (λe rest _ P hI=>?_) (λ_ P hI=>?_) _ _ ⟨[],s.heap,J,rfl,rfl,Heap.SameBut.refl _ _,X,hn,zcR _,by simp⟩
 ·let⟨q,h',U,H,rfl,sb,O,j,Z,I⟩:=hI;let⟨⟨k,hk,m⟩,_⟩:=G e (by rw[<-H];simp);let⟨tk,W⟩:=Value.isInt_shape hk;let⟨h0,v⟩:=e;subst W;subst m;refine yaa (yad (JA O (by lia) λ_ n u hU'=>?_));refine yaa (yaa (wpAny_setEpoch_of (by rw[(sb.trans u).2 g C];exact ho) hd hf ?_));rw[yIn (by simp)];refine yab (yab ⟨q++[((PySem.intKind prog w).hash k,.int k tk)],n,U.erase k,by rw[zbn];exact H,rfl,sb.trans u,by rw[zaU];exact hU',j.erase k,zcH (List.length_erase_le) Z,λx=>?_⟩);rw[zca,zbU,zcs,List.map_nil,zaY];show _↔_/\¬(_∨x=k)
  grind
 ·let⟨q,h',U,H,rfl,sb,O,j,Z,I⟩:=hI;rw[zbW] at H;subst H;have F:=y.length_eq;rw[zbV] at F;have hU0:=O.e;let⟨o2,es2,ep2,t2,Y,ab,hd2,ac,hp2,hf2,hm2,hk2⟩:=O;refine yab (yaa (wpAny_setState_of Y hd2 hf2 ?_));dsimp only;rw[yIn (by unfold SetTable.tooManyDummies;lia)];refine yab (h h' U sb hU0 Z λx=>?_);rw[I,y.mem_iff]
def sub_int(j:fU prog w s.heap a g)(n:fU prog w s.heap d T)(hab:a≠d)(hn:g.Nodup)(hS:g.length<64)(hT:T.length<4000)(h:∀h' r U,(∀c o,s.heap.get? c=some o->h'.get? c=some o)->Bm prog w h' r U->U.length<4000->(∀x,x∈U↔x∈g/\x ∉ T)->Q (.ref r) {s with heap:=h'}):yar (model prog w) A (binaryOp .Sub (.ref a) (.ref d)) Q E s:=by
 refine wpAny_binaryOp_same (ty_int j) (ty_int n) PySem.F.fills_set_sub PySem.F.slot_set_sub (wpAny_call_entry PySem.F.slot_set_sub (ty_int j) entry_sub ?_ (PySem.F.args_set_sub_2 _ _));refine yaa (wpAny_of_eq rfl ?_);refine yaa ?_;refine yaa (nS (ty_int j) ?_);refine nS (ty_int n) ?_;refine yaa (wpAny_of_eq rfl ?_);refine yaa ?_;refine yaa (nS (ty_int n) ?_);refine yaa (wpAny_of_eq rfl ?_);refine yaa (nD (fU.e n) (yaa (nD (fU.e j) ?_)));have la:∀{c:Addr}{g:List Int},fU prog w s.heap c g->∃o,s.heap.get? c=some o:=λ⟨o,v,_⟩=>⟨o,v⟩
 let⟨oa,O⟩:=la j;let⟨ob,u⟩:=la n;split
 ·next hlt=>
  refine yaa (wpAny_rule ?_);refine yaa (FY j (by lia) hS λh1 r k1 n1 c1=>?_);refine yaa (wpAny_of_eq rfl ?_);refine yaa ?_;refine yad (HQ (n.keep λo e=>k1 d o e) c1 (n1 d ob u) hn (by lia) (by lia) (by lia) hT λh2 U sb Z hl q=>?_);refine yab (yab ⟨_,rfl,by simp,h h2 r U (λc o e=>?_) Z (by lia) q⟩);rw[sb.2 c (n1 c o e)];exact k1 c o e
 ·refine yaa (wo (ty_int j) ?_);refine yaa (yaa (fL ?_));refine yae ?_;have gr:(s.heap.push (aW (!w.params.followText "set-order"))).get? s.heap.objs.size=some (aW (!w.params.followText "set-order")):=zaS _ rfl;have kp:∀c o,s.heap.get? c=some o->(s.heap.push (aW (!w.params.followText "set-order"))).get? c=some o:=λc o e=>zas _ e;have I:=sH (prog:=prog) gr;have na:=zcG (zcP O);have nb:=zcG (zcP u);have Y:=j.keep (kp a);have C:=n.keep (kp d);refine yaa (wpAny_of_eq rfl ?_);let⟨o,v,es,ep,t,W,hd,X,hp,P,q⟩:=Y;refine yaa (wpAny_setEpoch_of v hd P ?_);refine yaa (yad ?_);refine yaa (zb (f:=some s.heap.objs.size) ⟨o,v,es,ep,t,W,hd,X,hp,P,q⟩ (λc hc=>?_) (λr z=>by cases z;exact I) (by simp) λl h1 hh y L=>?_)
  ·simp only[zcq,zbH,or_false] at hc;obtain rfl|rfl:=hc
   ·exact⟨_,fU.e C⟩
   ·exact⟨_,fU.e I⟩
  obtain⟨m,H⟩:Heap.SameBut s.heap.objs.size (s.heap.push (aW (!w.params.followText "set-order"))) h1/\fU prog w h1 s.heap.objs.size []:=by
   obtain rfl|⟨r,z,g1,g2⟩:=hh
   ·exact⟨Heap.SameBut.refl _ _,I⟩
   ·cases z;exact⟨g1,g2⟩
  refine yaa (E4 y L ⟨o,es,t,by rw[m.2 a na];exact v,hd,P⟩ (C.keep λo e=>by rw[m.2 d nb];exact e) H na nb (by lia) hT λh2 U G Z hl q=>?_);refine yab (yab (yab ⟨_,rfl,by simp,h h2 _ U (λc o e=>?_) (fU.e Z) (by lia) q⟩));rw[(m.trans G).2 c (zcG (zcP e))];exact kp c o e
end M13
namespace M
open PySem PySem.Spec PyProof.Rows L2
def A4(a b:AE):AE:=λj S Q=>a j S λr n=>∃h:List Int,LF n r.d h/\h.length<64/\b j n λo m=>∃l:List Int,LF m o.d l/\∀u:List Int,(∀x,x∈u↔x∈h/\x ∉ l)->Q (.dat (.int u.length)) m
def SM:AN:=λds S Q=>∃(d:D)(bs:List Bool),ds=[d]/\aT S d=.lst (bs.map D.bl)/\Q (.dat (.bl (bs.any id))) S
section
variable {e f:Expr}{p p3 pos3 pos4:Pos}
def BE(hc:X.calm=true)(hg:Gl X "len")(hm:X.mg "len"=none)(E:Gl X "set")(x:X.mg "set"=none)(he:GE X e ta)(hf:GE X f tb)(hs:autoParam (notStar e=true) r0)(Y:autoParam (notStar f=true) r0):
  GE X (.Call (.Name "len" p) [.BinOp (.Call (.Name "set" p2) [e] [] pos2) .Sub (.Call (.Name "set" p3) [f] [] pos3) pos4] [] pos) (A4 ta tb):=by
 refine .of λ{pins σ H s w δ S Qa Q} A h b=>UO A.i hg hm (by rfl) rfl (wpAny_BinOp (O7 A.i E x (by rfl) hs (he.go A h λ{u s1 w1 v H1 r S1} l1 A1 rp rv q=>?_)));let⟨ss,W,hl,q⟩:=q;have hq:=W.sq A1.k rp;refine zq hc A1.i hq rv λh' tk tS kp=>?_;let⟨G,n,C⟩:=tS;have f1:=A1.i.Fy (zcR _) (A1.i.hok.fresh (zcR _));have j:At X pins σ H1 {s1 with heap:=h',toks:=tk} w1 δ S1:=A1.kept kp;have A2:At X _ σ H1 {s1 with heap:=h',toks:=tk} w1 δ S1:=⟨j.i.pinned (λb hb=>zaY.mp hb▸f1) (λb hb=>zaY.mp hb▸⟨G,n,λv z=>by
  let⟨es,ep,t,_,hd,_⟩:=C;lia⟩),j.k,j.e⟩
 refine O7 A2.i E x (by rfl) Y (hf.go A2 q λ{u2 s2 w2 v2 H2 r2 S2} l2 F O L q2=>?_);let⟨tt,hy,q2⟩:=q2;have Z:=hy.sq F.k O;refine zq hc F.i Z L λh2 a I l=>?_;have g1:=(F.i.pin (s1.heap.objs.size,G) (zav _ (zav _ (by
  unfold jk;rw[zaK,n];simp)))).1
 have n1:=M7.iy (λi=>ss.getD i 0) ss.length;have n2:=M7.iy (λi=>tt.getD i 0) tt.length;let⟨_,hl2⟩:=hy;refine M13.sub_int ⟨G,l _ _ g1,C⟩ I (zcG (zcP g1)) (M7.jm _ _) (by lia) (by lia) λh3 r U P hU hl W=>?_;let⟨o,es,ep,t,ho,hex,hd,hel,hpm,hf⟩:=hU;have m:=M13.Bm.size hpm;refine PySem.call_len_set ho hex hd hf (by lia) (b.dat (l1.trans l2) (F.i.fV.kept λb o z=>P b o (l b o z)) F.k .int ⟨_,by rw[m]⟩ (q2 U λy=>by rw[W,M7.lB,M7.lB]))
def Og(L:X.calm=true):uz X (.builtin "any") SM:=.of λ{pins σ H s w S ds vs us Qa Q} I k C l q b=>by
 let⟨d,bs,rfl,z,q⟩:=q;let⟨v,u,rfl,E,x⟩:=arg1 C l;let⟨a,U,rfl,h1,h2⟩:=bh k E z;rw[pW h2] at h1;cases x;let⟨F,l,pl,hz⟩:=I.list (dF.of h1);have O:=yH l;subst O;refine call_any_walk (AL pl.isList λt e st m=>?_);subst e;refine⟨_,_,_,_,_,_,λi=>bs.getD i true,rfl,Walks.list (A:=X.A.in1) (I.ok.hd L) _ a m _,st,λi v s P Y h j=>?_,λW y G=>?_⟩
 ·have h:(bs.map Value.bool).toArray[i]? =some v:=h;rw[List.getElem?_toArray,zbl] at h;cases n:bs[i]? with
  |none=>rw[n] at h;cases h
  |some b=>
   rw[n] at h;cases h;refine wpAny_truthy_bool ?_;have:bs.getD i true=b:=by rw[zad,n];rfl
   have j:P (bs.getD i true) s:=j;rw[this] at j;exact j
 ·refine b.dat .refl (I.kept λb o e=>G b o (by simp;intro z;exact absurd (z▸zcP e) (zcv _)) (zas _ e)) k .bl ?_ q;rw[<-any_range bs];show _=_;simp
end
end M
namespace M13
open PySem PySem.Spec PyProof.Rows
open Sem (wp)
def m6(x:A.handled=none)(m:IsRange s.heap r e g k z D J)(h:Builtin.Range.small e g k=true)(q:Builtin.Range.rangeSize e g k=n)(l:n<=2 ^ 24)(y:s.heap.get? d=some {cls:=.type "list",data:=.seq #[]})(C:∀h' tk j E,(∀g o,g≠d->s.heap.get? g=some o->h'.get? g=some o)->h'.get? d=some {cls:=.type "list",dict:=none,data:=.seq j E,slots:=#[]}->ItemsOf (λi J=>∃z,J=.int (e+i*k) z) j n->R (.ok (.ret (.ref d))) {s with heap:=h',toks:=tk}):
  codeAny (model prog w) A (.builtin "list.__iadd__" ⟨[.ref d,.ref r],[]⟩) R s:=by
 refine codeAny_builtin F.entry_list_iadd ?_;exact wpAny_extend_range x m h q l d (.ref d) 0 y C
def qR(H:A.handled=none)(y:IsRange s.heap r g k z D J N)(h:Builtin.Range.small g k z=true)(C:Builtin.Range.rangeSize g k z=n)(m:n<=2 ^ 24)(I:∀h' tk j,(∀k o,s.heap.get? k=some o->h'.get? k=some o)->ItemsOf (λi N=>∃D,N=.int (g+i*z) D) j n->d j.toList {s with heap:=h',toks:=tk}):
  yar (model prog w) A (collect (.ref r)) d E s:=by
 refine yaa (wpAny_runValue (codeAny_builtin F.entry_proto_collect ?_));refine yaa (yae ?_);refine yab ⟨plainId_quiet F.plain_list_iadd _,m6 H (zas _ y) h C m (zaS _ rfl) λh' tk j L G x q=>?_⟩;refine yaa (wpAny_load x ?_);exact yab (I h' tk j (λk o e=>G k o (zcG (zcP e)) (zas _ e)) q)
def jU(l:Builtin.Range.small d g k=true)(E:Builtin.Range.rangeSize d g k=n)(q:n<=2 ^ 24):Meets (Builtin.«tuple.__new__» ⟨[.type "tuple",.ref r],[]⟩)
   (λA R s=>A.handled=none/\IsRange s.heap r d g k z D J/\∀(h':Heap)(tk)(j),(∀g o,s.heap.get? g=some o->h'.get? g=some o)->ItemsOf (λi J=>∃z,J=.int (d+i*k) z) j n->R (.ok (.ret (.ref h'.objs.size))) {s with heap:=h'.push {cls:=.type "tuple",data:=.seq j},toks:=tk}):=
 .of_wp λprog w A R s h=>by
  let⟨H,C,h⟩:=h;have y:=sub_tuple_self;have L:=init_tuple_lookup;have F:=madeHere_tuple;have x:A.in1.handled=none:=H
  wp_walk using wpAny_typeOf I,qR x C l E q
  intro h' tk j G m;show yar _ _ (Builtin.Tuple.tupleExact j.toList.toArray >>= λJ=>ret J) _ _ _;refine yaa (yae ?_ (show j.toList.toArray.size<=yag by rw[m.1,yaf];lia));refine yab ⟨_,rfl,?_⟩;exact h h' tk j G m
def lJ(G:A.handled=none)(x:IsRange s.heap r d e g k z D)(j:Builtin.Range.small d e g=true)(y:Builtin.Range.rangeSize d e g=n)(m:n<=2 ^ 24)(h:∀(h':Heap)(tk)(l),(∀e o,s.heap.get? e=some o->h'.get? e=some o)->ItemsOf (λi D=>∃k,D=.int (d+i*g) k) l n->Q (.ref h'.objs.size) {s with heap:=h'.push {cls:=.type "tuple",data:=.seq l},toks:=tk}):
  yar (model prog w) A (call (.type "tuple") [.ref r]) Q E s:=by
 refine callType_new F.called_tuple (by decide) (F.typeCall_tuple_1 _) (F.newCall_tuple_1 _) (λobj=>F.args_object_init_2 obj _) F.entry_tuple_new
  (jU j y m) ⟨G,x,λh' tk l C q=>⟨⟨_,zaS _ rfl,rfl⟩,h h' tk l C q⟩⟩
end M13
namespace M
open PySem PySem.Spec PyProof.Rows L2
def LU(a:AA):AE:=λh S Q=>a h S λds l=>∃j:Nat,ds=[.int j]/\j<=1000/\Q (.dat (.tup ((zcV j).map λk:Nat=>D.int k))) l
def Gz(a b c:AE):AE:=λl S Q=>a l S λt o=>∃n,t.d=.loc n/\(∃h ds,o[n]? =some (some (.dct h ds)))/\b l o λs u=>c l u λq j=>∃h ds k m,q=.new m/\keyOf s.d=some k/\j[n]? =some (some (.dct h ds))/\ds.length<1000/\
 (∀d,dR h ds k=some d->Q (.dat d) j)/\(dR h ds k=none->Q (.dat (.loc j.length)) (List.set (j++[some m]) n (some (j9 h ds k (.loc j.length)))))
section
variable {a o e f:Expr}{tc:AE}{p:Pos}
theorem II(hc:X.calm=true)(hg:Gl X "tuple")(Z:X.mg "tuple"=none)(F:Gl X "range")(E:X.mg "range"=none)(ha:GA X [a] d)(W:autoParam (yao [a] X.env=[(false,eval a X.env)]) r0):
  GE X (.Call (.Name "tuple" p) [.Call (.Name "range" p2) [a] [] pos2] [] pos) (LU d):=by
 refine .of λ{pins σ H s w δ S Qa Q} A h f=>O7 A.i hg Z boot_tuple rfl (Call_ (eZ A.i F E boot_range (PyProof.Rows.callWith_type1 (ha.go A h λ{us s1 w1 vs H1 ds S1} l A1 G L q=>?_) W rfl)));obtain⟨j,rfl,n1,q⟩:=q;obtain⟨x,_,rfl,rfl,rfl⟩:=G;cases L with
 |cons r rr=>
  cases rr;obtain⟨d,rfl⟩:=r;refine call_range_1 ?_;refine M13.lJ (n:=j) (A1.i.ok.hd hc) (IsRange.new ..) (small_one (by lia) (by lia) (by lia) (by lia)) (by rw[rangeSize_one];split<;>lia) (by lia) λh' C y kp v=>?_;have ev:Vals ((zcV j).map λk:Nat=>V.int k) y.toList:=by
   refine gO (by rw[zbV,zbo,zaR,v.1]) λk x u I U=>?_;rw[zbl,zar] at I;obtain⟨m,e,rfl⟩:=I;obtain⟨_,rfl⟩:=zaf.mp e;obtain⟨C,rfl⟩:=v.2 k u (by simpa using U);exact⟨C,by simp⟩
  have er:∀l:List Nat,aD X.K w1 (l.map λk:Nat=>D.int k) (l.map λk:Nat=>V.int k):=λl=>by
   induction l with
   |nil=>exact .nil
   |cons k l ih=>exact .cons .int ih
  have lt:=zcI (zcP (kp _ _ (zaS _ rfl)));have Y:=A1.i.hok.fresh lt;obtain⟨w2,l2,P,O⟩:=A1.k.lA Y (er (zcV j));exact f.dat (l.trans l2) (A1.i.laid (λb o e=>zas _ (kp b o (zas _ e))) lt (show bK X.prog X.w _ _ _ (.tup _) from⟨by rw[zbV,zbo,yaf];lia,y.toList,ev,IsTup.new _ _⟩)) P O rfl q
def EC(ho:GE X o ta)(O:GE X e tb)(hf:GE X f tc)(m:M2 X o "setdefault" apos e f cpos):GE X (.Call (.Attribute o "setdefault" apos) [e,f] [] cpos) (Gz ta tb tc):=by
 refine .of λA q b=>wpAny_Call_method m.base m.few m.line PySem.F.plainAttrs_dict PySem.F.slot_dict_setdefault PySem.F.type_dict_setdefault (ho.go A q λl1 A1 U v1 I=>?_);let⟨n,z1,⟨ks0,ds0,z2⟩,I⟩:=I;rw[z1] at U;let⟨a,u,rfl,h0,h1,rfl,h3⟩:=pP A1.k U z2;cases v1;let⟨t1,t2,_⟩:=Fl A1.i (.inl ⟨u,.inl h1⟩:U1 _ a);refine⟨t1,t2,?_⟩;rw[m.trees];refine zau rfl (Calls.evalArgs_plain (zbi (O.go A1 I λl2 A2 r2 v2 q2=>zbi (hf.new A2 q2 λ{u3 s3 w3 x3 H3 y3 S3} G t r3 Q q3=>zbz ?_))));let⟨ks,ds,k,mo,rfl,zk,z,hl,qa,qb⟩:=q3;let⟨a',h,ea,P,C,rfl,l⟩:=pP t.k (Rep.loc ((l2.trans G).r _ _ h0)) z;cases ea;have e2:=jJ (r2.le G) zk;subst e2;let⟨Z,hd,vs,j,Y⟩:=As t.i.hok C;have x:h.length=ds.length:=by have:=l.length;simp_all
 refine call_meetsIn PySem.F.slot_dict_setdefault Y.typeIs PySem.F.entry_dict_setdefault (PySem.F.args_dict_setdefault_3 _ _ _) (kt_meets_setdefault (bA X.prog X.w) a (jW v2) hd _) ⟨vs,Y,by rw[<-j.length];exact Z,λv hv=>?_,λhn h' E hs=>?_⟩
 ·have r:=j.val k;rw[hv] at r;cases y:fN h k with
  |none=>rw[y] at r;exact r.elim
  |some v0=>
   rw[y] at r;cases s:dR (h.map (·.1)) ds k with
   |none=>rw[lG (by simp[x]) s] at y;cases y
   |some d=>
    let⟨v',H,W⟩:=iS l s;rw[y] at H;cases H;exact b.dat ((l1.trans l2).trans G) (t.i.tok _) t.k W r (qa d s)
 ·have s:dR (h.map (·.1)) ds k=none:=by
   cases s:dR (h.map (·.1)) ds k with
   |none=>rfl
   |some d=>
    let⟨v',H,W⟩:=iS l s;have r:=j.val k;rw[hn,H] at r;exact r.elim
  let⟨w4,L,k4,S⟩:=store t.k r3;have O:∃q,h'.get? a=some q:=by let⟨q,_,_,hq,_⟩:=E;exact⟨q,hq⟩
  have I':=nQ (t':=s3.toks+1) t.i (by rw[C];exact True.intro) hs O (yu (by have:=ef h k;rw[yaf];exact zcH (this _) (by lia)) hd (j.put k Q) E);exact b.dat (((l1.trans l2).trans G).trans L) I' (k4.put (by rw[zag (zaf.mp z).1];exact z) (L.r _ _ P) (jM S (l.le L))) S Q (qb s)
end
end M
namespace M
open PySem L2
section
variable {c:AT}{a b r:AS}{D:kO}
def aV(h:∀N:bH->aK->Prop,(∀j l,b D j l->N j l)->a {D with nx:=N} δ S):uo a b D δ S:=h (b D) λ_ _ z=>z
end
end M
namespace L2
open PySem
structure fq(K:yaJ)(x:Str)(st:Stmt):Prop where
 ex:∃f oc od kV doc pm an cdv ct osl,zcO K yaq x=some (some (.ref f))/\K.lookup f=some ⟨oc,od,.func (zcN x x (cR st) (bE st) (aj st) .none kV doc pm an cdv ct),osl⟩/\zco K cdv x=true/\zcn K (.ref f)=true
structure Hy(K:yaJ)(C:Addr)(m q:Str)(st:Stmt):Prop where
 ex:∃f oc od kV doc pm an cdv ct osl,zcm K (.ref C) m=some (some (.ref f))/\K.lookup f=some ⟨oc,od,.func (zcN m q (cR st) (bE st) (aj st) .none kV doc pm an cdv ct),osl⟩/\zco K cdv q=true/\zcn K (.ref f)=true/\zcM K (.ref f)=true
def fq.of(a:zcO K yaq x=some (some (.ref f)))(l:K.lookup f=some ⟨oc,d,.func (zcN x x (cR st) (bE st) (aj st) .none g q pm e r ct),osl⟩)(c:zco K r x=true)(k:zcn K (.ref f)=true):fq K x st:=⟨_,_,_,_,_,_,_,_,_,_,a,l,c,k⟩
def Hy.of(a:zcm K (.ref C) d=some (some (.ref f)))(l:K.lookup f=some ⟨oc,e,.func (zcN d q (cR st) (bE st) (aj st) .none r z pm g D ct),osl⟩)(c:zco K D q=true)(k:zcn K (.ref f)=true)(i:zcM K (.ref f)=true):Hy K C d q st:=⟨_,_,_,_,_,_,_,_,_,_,a,l,c,k,i⟩
def fq.src(e:fq K x st)(X:K.In h)(G:h.Ns yaq mg)(b:∀(kV j pm)(o)(m ct)(n),n.length=ps.length->yaA (zcN x x (cR st) (bE st) (aj st) .none kV j pm o m ct) ⟨n,[]⟩=pure (ps.zip n)):Src K mg x ps st:=by
 let⟨f,oc,s,kV,j,pm,o,m,ct,q,a,l,c,k⟩:=e.ex;exact J.Mw X G a l c k b
def Hy.src(e:Hy K C d q st)(b:∀(kV h pm)(o)(j ct)(n),n.length=ps.length->yaA (zcN d q (cR st) (bE st) (aj st) .none kV h pm o j ct) ⟨n,[]⟩=pure (ps.zip n)):M.wJ K C d q ps st:=by
 let⟨f,oc,t,kV,h,pm,o,j,ct,s,a,l,c,k,i⟩:=e.ex;refine⟨f,_,jo l c k,⟨a,i,k⟩,(jo l c k).binds b⟩
end L2
namespace M
open PySem PySem.Spec PyProof.Rows L2 M6
noncomputable abbrev Vh(k:Str×List D):D:=.tup (.str k.1::k.2)
def Pg:AM:=λx ds S Q=>∃(n:Nat)(a:List D)(k:Nat)(e:D),x=.loc n/\ds=[.int k]/\S[n]? =some (some (.lst a))/\a.length<=1000/\a[k]? =some e/\Q (.dat e) (S.set n (some (.lst (a.eraseIdx k))))
theorem aD.eraseIdx:∀(k){ds:List D}{a:List V},aD K e ds a->aD K e (ds.eraseIdx k) (a.eraseIdx k)
 |_,[],_,h=>by subst h;simp[aD]
 |0,d::ds,a,h=>by
  let⟨x,r,rfl,_,h2⟩:=h;exact h2
 |k+1,d::ds,a,h=>by
  let⟨x,r,rfl,h1,h2⟩:=h;exact aD.cons h1 (aD.eraseIdx k h2)
def Je:P1 X "list.pop" Pg:=⟨mM (X:=X) (t:=En) L2.ES λx I H Q h=>by
 let⟨w,d,ds,S,P,ok,y,u,⟨n,G,k,e,rfl,rfl,m,L,l,q⟩,bk⟩:=h;let⟨a,o,rfl,E,F,j⟩:=pB ok y m;let⟨v,rfl,s⟩:=f9 u;let⟨v,h1,h2⟩:=j.get l;have O:=(zaf.mp l).1;have C:=j.length;refine⟨a,o,k,k,v,rfl,by rw[bu s rfl],F,by lia,by lia,by unfold seqIndex?;simp;lia,h1,bk.dat .refl (ok.put m E (gb (j.eraseIdx k))) h2 q⟩⟩
end M
def L2.bT(h1:autoParam (e.kind=.function) r0)(h2:autoParam (e.isCoroutine=false) r0)(n:autoParam (e.isGenerator=false) r0)(m:N.Nodup:=by decide+kernel)(l:autoParam (N.take d.length=d) r0)(j:∀x∈d,e.names.lookup x=some .local∨e.names.lookup x=some .cell:=by decide+kernel)(h:∀y∈e.names,y.2≠ .free:=by decide+kernel):L2.aH N d e:=⟨h1,h2,n,m,l,j,h⟩
namespace M
open PySem L2
def ow(D:Def X.prog X.w X.K X.mg X.base k x ps (az X.K sp))(l:bB j X.A)(o:GA X (e::d) q)(m:autoParam (k<=j) r1)(n:autoParam (Gl X x) r0)(a:(x==("__debug__":Str))=false:=by decide+kernel)(h:autoParam ((e::d).all notStar=true) r0):GE X (.Call (.Name x g) (e::d) [] pos) (aCall sp q):=M.eF D (l.mono m) n o a h
section
variable {a b e:Expr}
def ixs(l:GE X a ta)(j:GE X b tb)(h:nU b:=by exact λ_ _=>rfl):GE X (.Subscript a b pos) (uF qF ta tb):=zR Rf l j h
def bx(l:GE X a ta)(h:nU (.Constant (.int d) g pos'):=by exact λ_ _=>rfl):GE X (.Subscript a (.Constant (.int d) g pos') pos) (uF qF ta (aC (.int d))):=zR Rf l ao h
def bC(i)(hN:X.N.Nodup)(n:GE X e ta)(l:autoParam (X.N[i]? =some x) r0)(h:Loc X.env.scope x:=by first|exact .inl rfl|exact .inr rfl)(j:autoParam (yat e (some (.Name x pos')) pos.line X.env=pure false) r0)(m:X.fn x=true∨X.env.scope.names.lookup x=some .local:=by first|exact .inl rfl|exact .inr rfl|assumption):GS X (.Assign [.Name x pos'] e pos) (ux ta (bN i)):=xU hN l h n j m
def gm(i)(hN:X.N.Nodup)(j:autoParam (X.N[i]? =some x) r0)(h:Loc X.env.scope x:=by first|exact .inl rfl|exact .inr rfl)(l:X.fn x=true∨X.env.scope.names.lookup x=some .local:=by first|exact .inl rfl|exact .inr rfl|assumption):GG X (.Name x pos) (bN i):=dX hN j h l
def kb(q:uz X (.builtin g) r)(n:X.mg x=none)(s:GA X (e::d) k)(o:autoParam (Gl X x) r0)(j:bootBuiltins x=some (.builtin g):=by decide+kernel)(m:x≠"__name__":=by decide+kernel)(h:(x==("__debug__":Str))=false:=by decide+kernel)(l:autoParam ((e::d).all notStar=true) r0):GE X (.Call (.Name x z) (e::d) [] pos) (aCall r k):=Q4 q o n j s m h l
def kt(q:uz X (.type T) r)(n:X.mg x=none)(s:GA X (e::d) g)(o:autoParam (Gl X x) r0)(j:bootBuiltins x=some (.type T):=by decide+kernel)(m:x≠"__name__":=by decide+kernel)(h:(x==("__debug__":Str))=false:=by decide+kernel)(l:autoParam ((e::d).all notStar=true) r0):GE X (.Call (.Name x k) (e::d) [] pos) (aCall r g):=Q3 q o n j s m h l
def qE(N)(caps)(v:GI X (.Name x d) a g)(q:∀s₀ H₀ C fp,SY (jv X scope N s₀ H₀ C fp) ifs k)(E:∀s₀ H₀ C fp,GE (jv X scope N s₀ H₀ C fp) e ta)(n:Pc scope N=true:=by decide+kernel)(h:autoParam (kh X.N X.env scope N caps=true) r0)(j:autoParam (freeOk X.env scope=true) r0)(F:autoParam (X.calm=true) r0)(o:autoParam (N[0]? =some x) r0)(u:∀s₀ H₀ C fp,Loc (jv X scope N s₀ H₀ C fp).env.scope x:=by exact λ_ _ _ _=>.inl rfl)(y:∀s₀ H₀ C fp,(jv X scope N s₀ H₀ C fp).fn x=true∨(jv X scope N s₀ H₀ C fp).env.scope.names.lookup x=some .local:=by first|exact λ_ _ _ _=>.inl rfl|exact λ_ _ _ _=>.inr rfl)(t:∀x,foldedSetIterable a X.env x=pure x:=by intro _;rfl):GE X (.ListComp e [⟨.Name x d,a,ifs,0⟩] scope pos) (b5 caps g (bN 0) k ta):=iQ (sy n) h j F v (λs H C f=>dX (sy n).nd o (u s H C f) (y s H C f)) q E t
def aS(j:GE X e ta)(h:autoParam (notStar e=true) r0):GA X [e] (iz ta lO):=aA j ai h
end
end M
open M renaming pv -> Vr, aA -> Vs, aS -> Vt, aa -> Vu, ah -> Vv, ai -> Vw, ao -> Vx, bx -> Vy, bC -> Vz, av -> VA, ow -> VB, aq -> VC, aN -> VD, aE -> VE, aF -> VF, aL -> VG, aP -> VH, aJ -> VI, bQ -> VJ, aO -> VL, gm -> VM, ck -> VN, aQ -> VO, aZ -> VP, nT -> VQ, kb -> VS, ret -> VT, bq -> VU, qE -> VW, bD -> VX, cZ -> VY, c9 -> VZ, ixs -> V0, gZ -> V1, cJ -> V2, bX -> V3, cX -> V4, fG -> V5, kt -> V6, cu -> V7, pw_pt -> V8, gf -> V9, cutD -> Wa, cj -> Wb, gY -> Wc, cO -> We, cP -> Wf, dO -> Wg, cQ -> Wh, pw_and -> Wi, cN -> Wj, GE -> Wk, aC -> Wl, pw_and1 -> Wm, tL -> Wn, eF -> Wq, dc -> Ws, fF -> Wt, fQ -> Wu, cC -> Wv, fP -> Ww, dN -> Wx, gu -> Wy, dY -> Wz, x6 -> WA, gq -> WB, pw_or -> WC, dX -> WE, rR -> WG, pw_or1 -> WO
namespace K61
open PySem L2
noncomputable def top(i:Nat):Stmt:=PySem.Challenge.pw_pathask_k61_what_shows_it.main.body.getD i (.Pass ⟨0,0,0,0⟩)
structure Txt(K:yaJ)(mg:Str->Option yai)(C fi:Addr):Prop where
 isinstance:mg "isinstance"=none
 dict:mg "dict"=none
 len:mg "len"=none
 tuple:mg "tuple"=none
 list:mg "list"=none
 range:mg "range"=none
 sorted:mg "sorted"=none
 set:mg "set"=none
 zip:mg "zip"=none
 max:mg "max"=none
 min:mg "min"=none
 any:mg "any"=none
 all:mg "all"=none
 int:mg "int"=none
 bool:mg "bool"=none
 begin:∃t,mg "BEGIN"=some (.int 0 t)
 end_:∃t,mg "END"=some (.int 1 t)
 Ox:∃a,mg "LEAVES"=some (.ref a)/\∀H:Hp,eO K H a ((["stay","step","at","off"]:List Str).map V.str)
 stay:∃a,mg "STAY"=some (.ref a)/\∀H:Hp,eO K H a ((["stay"]:List Str).map V.str)
 sides:∃a,mg "SIDES"=some (.ref a)/\∀H:Hp,eO K H a ((["on","back"]:List Str).map V.str)
 anyS:∃t,mg "ANY"=some (.str "*" t)
 letters:∃t,mg "LETTERS"=some (.str "abcdefghijklmnopqrstuvwxyz" t)
 mg_Abreast:mg "Abreast"=some (.ref C)
 cl:y9 K C
 mks:Mk K C fi
 n_firsts:eG K C "firsts"
 n_lasts:eG K C "lasts"
 n_choices:eG K C "choices"
 n_turns:eG K C "turns"
def LI(e:∃t,mg x=some (.int d t))(a:Gl X x)(h:X.mg=mg)(hd:(x==("__debug__":Str))=false):Wk X (.Name x pos) (Wl (.int d)):=by
 let⟨t,e⟩:=e;exact M.jP (v:=.int d) a (by simp_all) ⟨t,rfl⟩ (λ_=>.int) hd
theorem rB:∀ss:List Str,M.aD K d (ss.map M.D.str) (ss.map V.str)
 |[]=>.nil
 |s::ss=>.cons .str (rB ss)
def Fx(e:∃a,mg x=some (.ref a)/\∀H:Hp,eO K H a (ss.map V.str))(j:Gl X x)(m:X.mg=mg)(l:X.K=K)(hd:(x==("__debug__":Str))=false):Wk X (.Name x pos) (Wl (.tup (ss.map M.D.str))):=by
 let⟨a,e,h⟩:=e;subst l;exact M.jP (v:=.ref a) j (by simp_all) rfl (λw=>by refine⟨a,_,rfl,h _,rB ss⟩) hd
def LH(e:∃t,mg x=some (.str d t))(a:Gl X x)(h:X.mg=mg)(hd:(x==("__debug__":Str))=false):Wk X (.Name x pos) (Wl (.str d)):=by
 let⟨t,e⟩:=e;exact M.jP (v:=.str d) a (by simp_all) ⟨t,rfl⟩ (λ_=>.str) hd
def Txt.EF(T:Txt K mg C fi)(h:autoParam (Gl X "ANY") r0)(a:autoParam (X.mg=mg) r0):Wk X (.Name "ANY" pos) (Wl (.str "*")):=LH T.anyS h a (by rfl)
def Txt.dP(T:Txt K mg C fi)(h:autoParam (Gl X "LETTERS") r0)(a:autoParam (X.mg=mg) r0):Wk X (.Name "LETTERS" pos) (Wl (.str "abcdefghijklmnopqrstuvwxyz")):=LH T.letters h a (by rfl)
def Txt.EE(T:Txt K mg C fi)(h:autoParam (Gl X "SIDES") r0)(a:autoParam (X.mg=mg) r0)(j:autoParam (X.K=K) r0):Wk X (.Name "SIDES" pos) (Wl (.tup [.str "on",.str "back"])):=Fx (ss:=["on","back"]) T.sides h a j (by rfl)
def Txt.jR(T:Txt K mg C fi)(h:autoParam (Gl X "BEGIN") r0)(a:autoParam (X.mg=mg) r0):Wk X (.Name "BEGIN" pos) (Wl (.int 0)):=LI T.begin h a (by rfl)
def Txt.tG(T:Txt K mg C fi)(h:autoParam (Gl X "END") r0)(a:autoParam (X.mg=mg) r0):Wk X (.Name "END" pos) (Wl (.int 1)):=LI T.end_ h a (by rfl)
def Txt.rP(T:Txt K mg C fi)(h:autoParam (Gl X "LEAVES") r0)(a:autoParam (X.mg=mg) r0)(j:autoParam (X.K=K) r0):Wk X (.Name "LEAVES" pos) (Wl (.tup [.str "stay",.str "step",.str "at",.str "off"])):=Fx (ss:=["stay","step","at","off"]) T.Ox h a j (by rfl)
def Txt.tF(T:Txt K mg C fi)(h:autoParam (Gl X "STAY") r0)(a:autoParam (X.mg=mg) r0)(j:autoParam (X.K=K) r0):Wk X (.Name "STAY" pos) (Wl (.tup [.str "stay"])):=Fx (ss:=["stay"]) T.stay h a j (by rfl)
open M
def sz(h:decide (n<=100)=true):n<=yag:=by rw[yaf];lia
def au:qF (.tup ds) (.int d) S g=∃e,jw ds d=some e/\g (.dat e) S:=rfl
def yj:qF (.lst ds) (.int d) S g=∃e,jw ds d=some e/\g (.dat e) S:=rfl
def b6{α:Type}{a:α}{r:List α}:jw (a::r) (0:Int)=some a:=(gF (j:=0) rfl:jw (a::r) ((0:Nat):Int)=some a)
def cH{α:Type}{a b:α}{r:List α}:jw (a::b::r) (1:Int)=some b:=(gF (j:=1) rfl:jw (a::b::r) ((1:Nat):Int)=some b)
def at2{α:Type}{a b c:α}{r:List α}:jw (a::b::c::r) (2:Int)=some c:=(gF (j:=2) rfl:jw (a::b::c::r) ((2:Nat):Int)=some c)
def PZ{α:Type}{a b c d:α}{r:List α}:jw (a::b::c::d::r) (3:Int)=some d:=(gF (j:=3) rfl:jw (a::b::c::d::r) ((3:Nat):Int)=some d)
def AV{ds:List D}(h:z<ds.length):∃e,jw ds (z:Int)=some e/\e∈ds:=⟨ds[z],gF (zal h),zbG h⟩
def pick{z:Nat}(h:z<ds.length)(k:∀e∈ds,d (.dat e) S):qF (.lst ds) (.int z) S d:=by
 let⟨e,h1,h2⟩:=AV h;refine⟨e,h1,k e h2⟩
inductive Lf where
 |stay|step (b:Bool) (x:Str)|mk (b:Bool) (m:Str)
noncomputable def side(b:Bool):Str:=if b then "on" else "back"
noncomputable def Tr(b:Bool):Str:=if b then "at" else "off"
noncomputable def lD:Lf->D
 |.stay=>.tup [.str "stay"]
 |.step b x=>.tup [.str "step",.str (side b),.str x]
 |.mk b m=>.tup [.str (Tr b),.str m]
noncomputable def NN:List Str:=["a","ab","abc","b","ba","bab","c","on","back","at","stay","many","then","tie","k","w","xxxxxxxx","xxxxxxx","m","q","z"]
noncomputable def WD:List Str:="*"::NN
noncomputable def MK:List Str:=NN
def qG:Lf->Prop
 |.stay=>True
 |.step _ x=>x∈WD
 |.mk _ m=>m∈MK
def za(h:x∈WD):kP x=true:=zbE.mp (show WD.all kP=true by rfl) x h
def vq(h:x∈MK):kP x=true:=za (zaC _ h)
theorem jZ{m:Str}:∀{mg:List Str},r9 (.str m) mg=decide (m∈mg)
 |[]=>rfl
 |a::r=>by
  have h:=jZ (m:=m) (mg:=r);unfold r9 at h⊢;rw[zcr,h];simp only[OH];simp
noncomputable def hold(l:Lf)(ms:List Str):Bool:=match l with
 |.stay=>true
 |.step _ _=>false
 |.mk b m=>decide (m∈ms)==b
noncomputable def take(l:Lf)(s w:Str):Bool:=match l with
 |.step b x=>decide (side b=s)&&(decide (x=w)||decide (x="*"))
 |_=>false
def texts(ss:List Str):Prop:=ss.length<=50/\∀x∈ss,kP x=true
noncomputable def nL(ns:List Nat):List D:=ns.map λn:Nat=>D.int n
theorem iN:∀ns:List Nat,bM (nL ns)=true
 |[]=>rfl
 |n::ns=>by
  have:=iN ns;unfold nL at this⊢;simp only[zcs,bM,cg,this,zcw]
def ER:uu (.int d) (.int e) S g=(HE d e/\g (.dat (.int (d*e))) S):=rfl
open PySem L2 M
abbrev Mv:=Nat×Lf×Nat
inductive Pt where
 |lf (l:Lf)|many (p:Pt)|seq (ps:List Pt)|alt (ps:List Pt)
mutual
noncomputable def tD:Pt->D
 |.lf l=>lD l
 |.many p=>.tup [.str "many",tD p]
 |.seq ps=>.tup [.str "then",.tup (CY ps)]
 |.alt ps=>.tup [.str "either",.tup (CY ps)]
noncomputable def CY:List Pt->List D
 |[]=>[]
 |p::ps=>tD p::CY ps
end
theorem di:∀ps,CY ps=ps.map tD
 |[]=>rfl
 |p::ps=>by simp[CY,di ps]
mutual
noncomputable def oc:Pt->Nat
 |.lf _=>1
 |.many p=>oc p+2
 |.seq ps|.alt ps=>xZ ps+1
noncomputable def xZ:List Pt->Nat
 |[]=>0
 |p::ps=>oc p+xZ ps
end
mutual
noncomputable def dp:Pt->Nat
 |.lf _=>0
 |.many p=>dp p+1
 |.seq ps|.alt ps=>uE ps+1
noncomputable def uE:List Pt->Nat
 |[]=>0
 |p::ps=>max (dp p) (uE ps)
end
mutual
def ni:Pt->Prop
 |.lf l=>qG l
 |.many p=>ni p
 |.seq ps|.alt ps=>CA ps
def CA:List Pt->Prop
 |[]=>True
 |p::ps=>ni p/\CA ps
end
theorem gW:∀{ps:List Pt},CA ps->∀p∈ps,ni p
 |[],_,p,h=>by simp at h
 |q::ps,g,p,h=>by
  obtain rfl|h:=zcq.mp h
  ·exact g.1
  ·exact gW g.2 p h
theorem j6:∀{ps:List Pt},∀p∈ps,dp p<=uE ps
 |[],p,h=>by simp at h
 |q::ps,p,h=>by
  simp only[uE];obtain rfl|h:=zcq.mp h
  ·lia
  ·have:=j6 p h;lia
def lq:∀p,0<oc p:=λp=>by cases p<;>simp only[oc]<;>lia
theorem tK:∀ps:List Pt,ps.length<=xZ ps
 |[]=>zcR _
 |p::ps=>by
  have:=tK ps;have:=lq p;simp only[xZ,zbB];lia
structure Wr where
 ms:Nat->List Str
 sd:Nat->Str
 wd:Nat->Str
def UG(W:Wr)(l:Lf)(i j:Nat):Prop:=(hold l (W.ms i)=true/\i=j)∨(take l (W.sd i) (W.wd i)=true/\j=i+1)
inductive J6(R:Nat->Nat->Prop):Nat->Nat->Prop
 |nil {i:Nat}:J6 R i i
 |snoc {i k j:Nat}:J6 R i k->R k j->J6 R i j
mutual
def U5(W:Wr):Pt->Nat->Nat->Prop
 |.lf l,i,j=>UG W l i j
 |.many p,i,j=>J6 (U5 W p) i j
 |.seq ps,i,j=>Tc W ps i j
 |.alt ps,i,j=>Td W ps i j
def Tc(W:Wr):List Pt->Nat->Nat->Prop
 |[],i,j=>i=j
 |p::ps,i,j=>∃k,U5 W p i k/\Tc W ps k j
def Td(W:Wr):List Pt->Nat->Nat->Prop
 |[],_,_=>False
 |p::ps,i,j=>U5 W p i j∨Td W ps i j
end
abbrev Ed:=Nat×Pt×Nat
noncomputable def eM(m:Mv):Ed:=(m.1,.lf m.2.1,m.2.2)
structure gJ(p:Pt)(n:Nat)(E:List Ed):Prop where
 two:2<=n
 EL:∀e∈E,e.1<n/\e.2.2<n
def gJ.start(p):gJ p 2 [(0,p,1)]:=⟨zcR _,by simp⟩
def gJ.cut(h:gJ d n (e::g))(a:∀c∈q,c.1<n+k/\c.2.2<n+k):gJ d (n+k) (q++g):=
 ⟨by have:=h.two;lia,λc j=>(zbU.mp j).elim (a c) λz=>by have:=h.EL c (zaC _ z);lia⟩
def gJ.O8(h:gJ d n k)(g:∀e,e∈q↔e∈k):gJ d n q:=⟨h.two,λe j=>h.EL e ((g e).mp j)⟩
theorem gJ.alt(h:gJ d n ((e,.alt r,g)::z)):gJ d n (r.map (λq=>(e,q,g))++z):=
 h.cut (k:=0) λc j=>by let⟨q,_,rfl⟩:=zcE.mp j;exact h.EL (e,.alt r,g) (by simp)
theorem gJ.many(h:gJ d n ((e,.many q,g)::r)):gJ d (n+1) ([(e,.lf .stay,n),(n,q,n),(n,.lf .stay,g)]++r):=
 h.cut (k:=1) λc j=>by
  have l:=h.EL (e,.many q,g) (by simp);simp only[zcq,zbH,or_false] at j;obtain rfl|rfl|rfl:=j<;>simp<;>lia
def gJ.nil(h:gJ d n ((e,.seq [],g)::q)):gJ d n ([(e,.lf .stay,g)]++q):=
 h.cut (k:=0) λc j=>by rw[zaY.mp j];exact h.EL (e,.seq [],g) (by simp)
noncomputable def chain(a:Nat):List Pt->Nat->Nat->List Ed
 |[],_,_=>[]
 |[p],_,b=>[(a,p,b)]
 |p::q::ps,n,b=>(a,p,n)::chain n (q::ps) (n+1) b
theorem sr:∀(ps)(q){a n b k:Nat},a<k->b<k->n+ps.length<=k->∀c∈chain a (q::ps) n b,c.1<k/\c.2.2<k
 |[],q,_,_,_,_,ha,hb,_,c,h=>by simp[chain] at h;simp_all
 |p::ps,q,_,n,_,_,ha,hb,hn,c,h=>by
  simp only[zbB] at hn;obtain rfl|h:=zcq.mp (show c∈_::_ from h)
  ·exact⟨ha,by lia⟩
  ·exact sr ps p (by lia) hb (by lia) c h
theorem gJ.seq(ps)(q)(h:gJ d n ((e,.seq (q::ps),g)::r)):gJ d (n+ps.length) (chain e (q::ps) n g++r):=
 h.cut (k:=ps.length) λc j=>by
  have l:=h.EL (e,.seq (q::ps),g) (by simp);exact sr ps q (by lia) (by lia) (zcR _) c j
mutual
noncomputable def om:Pt->Nat->Nat->List Mv
 |.lf l,a,n=>[(a,l,n+1)]
 |.seq ps,a,n=>(a,.stay,n+1)::Vb ps (n+1)
 |.many p,a,n=>(a,.stay,n+1)::(om p (n+1) (n+1)++[(n+1+oc p,.stay,n+1),(n+1,.stay,n+1+oc p+1)])
 |.alt ps,a,n=>Vc ps a n++(ends ps n).map λe=>(e,.stay,n+xZ ps+1)
noncomputable def Vb:List Pt->Nat->List Mv
 |[],_=>[]
 |p::ps,n=>om p n n++Vb ps (n+oc p)
noncomputable def Vc:List Pt->Nat->Nat->List Mv
 |[],_,_=>[]
 |p::ps,a,n=>om p a n++Vc ps a (n+oc p)
noncomputable def ends:List Pt->Nat->List Nat
 |[],_=>[]
 |p::ps,n=>(n+oc p)::ends ps (n+oc p)
end
open PySem L2 M
theorem bw:∀(n)(l:List Nat),l.Nodup->(∀x∈l,x<n)->l.length<=n
 |0,[],_,_=>zcR _
 |0,x::_,_,h=>absurd (h x (by simp)) (by lia)
 |n+1,l,h1,h2=>by
  have:=bw n (l.erase n) (h1.erase n) λx a=>by
   have j:=(List.Nodup.mem_erase_iff h1).mp a;have:=h2 x j.2;lia
  have m:l.length - 1<=(l.erase n).length:=by
   rw[List.length_erase];split<;>lia
  lia
def o6{k:Nat}(h:d.Nodup)(j:k ∉ d):(d++[k]).Nodup:=by
 grind
inductive Reach(mv:List Mv)(ms:List Str)(st:List Nat):Nat->Prop
 |base {x:Nat}:x∈st->Reach mv ms st x
 |go {m:Mv}:Reach mv ms st m.1->m∈mv->hold m.2.1 ms=true->Reach mv ms st m.2.2
def CC(n:Nat)(m:Mv):Prop:=m.1<n/\qG m.2.1/\m.2.2<n
def Reach.lt(j:∀m∈mv,CC n m)(a:∀s∈d,s<n)(h:Reach mv ms d e):e<n:=by
 induction h with
 |base h=>exact a _ h
 |go _ h _ _=>exact(j _ h).2.2
def Reach.closed{st a:List Nat}(h1:∀s∈st,s∈a)(h2:∀m∈mv,m.1∈a->hold m.2.1 ms=true->m.2.2∈a)(h:Reach mv ms st d):d∈a:=by
 induction h with
 |base h=>exact h1 _ h
 |go _ h g ih=>exact h2 _ h ih g
def uG(mv:List Mv)(st:List Nat)(s w:Str)(x:Nat):Prop:=∃m∈mv,m.1∈st/\take m.2.1 s w=true/\m.2.2=x
theorem sub_len{α:Type}[DecidableEq α]:∀(l L:List α),l.Nodup->(∀x∈l,x∈L)->l.length<=L.length
 |[],_,_,_=>zcS _
 |a::l,L,h1,h2=>by
  rw[zbX] at h1;have j:=h2 a (by simp);have:=sub_len l (L.erase a) h1.2 λx h=>(List.mem_erase_of_ne (λe:x=a=>h1.1 (e▸h))).mpr (h2 x (zaC _ h));rw[List.length_erase_of_mem j] at this;have:=List.length_pos_of_mem j;rw[zbB];lia
open PySem L2 M M6
noncomputable abbrev G6:List Str:=["joint"]
noncomputable abbrev lR:=G6
def Qw:aH G6 lR (aj (top 20)):=L2.bT
noncomputable abbrev Hl:List Str:=["span","fresh","one","joint","other","firsts","lasts"]
noncomputable abbrev qw:=Hl.take 2
def rq:aH Hl qw (aj (top 21)):=L2.bT
noncomputable def eD(e:Ed):D:=.tup [.int e.1,tD e.2.1,.int e.2.2]
noncomputable def vK:Pt->Bool
 |.lf _=>true
 |_=>false
noncomputable def ns:Pt->Nat
 |.many _=>1
 |.seq ps=>ps.length - 1
 |_=>0
noncomputable def eS(a n b:Nat):Pt->List Ed
 |.lf _=>[]
 |.alt ps=>ps.map λq=>(a,q,b)
 |.many q=>[(a,.lf .stay,n),(n,q,n),(n,.lf .stay,b)]
 |.seq []=>[(a,.lf .stay,b)]
 |.seq (q::ps)=>chain a (q::ps) n b
noncomputable def CG(n k:Nat):List D:=(zcV k).map λi:Nat=>D.int ((n:Int)+i)
def Eg(n k):CG n (k+1)=.int n::CG (n+1) k:=by
 unfold CG;rw[List.range_succ_eq_map,zcs,zcF];refine congr (congrArg _ (by simp)) (zaN λi _=>?_);lia
theorem sj:∀(ps)(q)(a n b:Nat),(xu (.int a::CG n ps.length) (CY (q::ps)) (CG n ps.length++[.int b])).map D.tup=(chain a (q::ps) n b).map eD
 |[],q,a,n,b=>rfl
 |q2::ps,q,a,n,b=>by
  have h:=sj ps q2 n (n+1) b;rw[zbB,Eg,chain,zcs,<-h];rfl
mutual
theorem eW:∀p:Pt,cg (tD p)=true
 |.lf l=>by cases l<;>simp[tD,lD,cg,bM]
 |.many p=>by simp[tD,cg,bM,eW p]
 |.seq ps=>by simp[tD,cg,bM,jA ps]
 |.alt ps=>by simp[tD,cg,bM,jA ps]
theorem jA:∀ps:List Pt,bM (CY ps)=true
 |[]=>by simp[CY,bM]
 |p::ps=>by simp[CY,bM,eW p,jA ps]
end
def tZ(e):cg (eD e)=true:=by simp[eD,cg,bM,eW]
theorem aY{α:Type}{f:α->D}:∀{l:List α},(∀x∈l,cg (f x)=true)->bM (l.map f)=true
 |[],_=>rfl
 |x::l,h=>by simp only[zcs,bM,h x (by simp),aY λy a=>h y (zaC _ a),zcw]
def iL(ps):(CY ps).length=ps.length:=by rw[di,zbV]
local macro_rules
|`(tactic|push_cast[$x,*])=>do let y<-("wF Sz GD Ph SD aCall iz lO fR aC uF UQ aB J0 UT uo Cp Pj Pz US ux bN wG Px UR Gw ur wH Gu Co cT sY zZ Jh Jf Pp e8 Gq Ar Jz Mn HW HU true_and SI SH DB Dy Ii DA gQ bS Dz List.getElem?_cons_zero zam zaZ zba zcU.injEq exists_eq_left' zcW.injEq and_true D.ty.injEq D.bl.injEq D.int.injEq D.str.injEq and_assoc exists_and_left exists_eq_left exists_and_right ND IB Bool.false_eq_true if_true if_false Bool.not_true Bool.not_false".splitOn).toArray.mapM λs=>`(Lean.Parser.Tactic.simpLemma|$(Lean.mkIdent s.toName):term);`(tactic|simp only[$x,*,$y,*])
def Df:AN:=λds S Q=>∃p:Pt,ds=[tD p]/\vK p=false/\Q (.dat (.int (ns p))) S
def RZ(T:Txt K mg C fi)(F:Src K mg "new_stands" lR (top 20)):Def P w K mg base 1 "new_stands" lR (az K Df):=by
 refine cA F Qw (λds S Q h=>?_) (λf n A outer s H E a=>?_)
 ·let⟨p,rfl,_⟩:=h;rfl
 ·refine⟨_,(Vu (VH (VC (VJ a) (Vy (Vr 0)) VA (aG _)) (Vv (VE Vx)) VI) (Vv (VE (M.jO (VC (VJ a) (Vy (Vr 0)) VA (aG _)) (M.Q4 (M.Oe rfl) (by rfl) T.max (by rfl) (Vs (VD M.vn (M.Q4 V5 (by rfl) T.len (by rfl) (Vs (Vy (Vr 0)) Vw)) Vx) (Vt Vx))) Vx)))),λds S Q h=>?_⟩;let⟨p,rfl,j,q⟩:=h;have m:aM G6 [tD p]=[some (tD p)]:=rfl;rw[m];cases p with
  |lf l=>cases j
  |many p=>
   push_cast[tD,au,b6];exact q
  |seq ps=>
   push_cast[tD,au,b6,cH];refine⟨ps.length,by simp[gz,iL],_,_,rfl,?_⟩;have e:(if(0:Int)> ps.length - 1 then(0:Int) else ps.length - 1)=((ns (.seq ps):Nat):Int):=by
    simp only[ns];split<;>lia
   rw[e];exact bz rfl q
  |alt ps=>
   push_cast[tD,au,b6];exact q
def La:AN:=λds S Q=>∃(p:Pt)(a n b:Nat),ds=[eD (a,p,b),.int n]/\vK p=false/\n<=1000/\oc p<=100/\Q (.new (.lst ((eS a n b p).map eD))) S
def Sg(T:Txt K mg C fi)(F:Src K mg "cut" qw (top 21))(j:Def P w K mg base 1 "new_stands" lR (az K Df)):Def P w K mg base 2 "cut" qw (az K La):=by
 refine cA F rq (λds S Q h=>?_) (λf O A outer s H E t=>?_)
 ·let⟨p,a,n,b,rfl,_⟩:=h;rfl
 ·refine⟨_,(Vu (Vz 2 rq.nd (Vy (Vr 0))) (Vu (Vz 3 rq.nd (Vy (Vr 0))) (Vu (Vz 4 rq.nd (Vy (Vr 0))) (Vu (VH (VC (VJ t) (Vy (Vr 3)) VA (aG _)) (Vv (VE (M.iQ (caps:=[none,some 2,some 4]) (sy (by rfl)) (by rfl) (by rfl) rfl (VL (Vy (Vr 3))) (λ_ _ _ _=>(WE (i:=0) (by decide+kernel:List.Nodup (["part","one","other"]:List Str)) rfl (Or.inl rfl))) (λ_ _ _ _=>V3) (λ_ _ _ _=>(VF (Vs (Vr 1) (Vs (Vr 0) (Vt (Vr 2))))))))) VI) (Vu (VH (VC (VJ t) (Vy (Vr 3)) VA (aG _)) (Vv (VE (VG (Vs (VF (Vs (Vr 2) (Vs T.tF (Vt (Vr 1))))) (Vs (VF (Vs (Vr 1) (Vs (Vy (Vr 3)) (Vt (Vr 1))))) (Vs (VF (Vs (Vr 1) (Vs T.tF (Vt (Vr 4))))) Vw)))))) VI) (Vu (VH (M.k8 (V4 (Vy (Vr 3)))) (Vv (VE (VG (Vs (VF (Vs (Vr 2) (Vs T.tF (Vt (Vr 4))))) Vw)))) VI) (Vu (Vz 5 rq.nd (VD VN (VG (Vt (Vr 2))) (M.BD rfl (by rfl) T.list (by rfl) T.range (Vs (Vr 1) (Vs (VD VN (Vr 1) (VB j t (Vt (Vr 3)))) Vw))))) (Vu (Vz 6 rq.nd (VD VN (Wb Wc (Vr 5) (We Vx) Wf) (VG (Vt (Vr 4))))) (Vv (VE (M.Ez rfl (by rfl) T.list (by rfl) T.zip (Vs (Vr 5) (Vs (Vy (Vr 3)) (Vt (Vr 6))))))))))))))),λds S Q h=>?_⟩;let⟨p,a,n,b,rfl,y,W,u,q⟩:=h;have L:aM Hl [eD (a,p,b),.int n]=[some (eD (a,p,b)),some (.int n),none,none,none,none,none]:=rfl;rw[L];push_cast[eD,au,cH,at2];cases p with
  |lf l=>cases y
  |many p=>
   push_cast[tD,au,b6,cH];refine⟨sz rfl,sz rfl,sz rfl,sz rfl,cM ?_ q⟩;simp[cg,bM,eW]
  |alt ps=>
   push_cast[tD,au,b6];push_cast[b5,bR,au,cH];refine comp_map (δ:=[none,some (.int a),some (.int b)]) (λx=>.tup [.int a,x,.int b]) trivial _ [] _ rfl (λx U Q q=>?_) (by rw[iL,yaf];have:=tK ps;simp only[oc] at u;simp;lia) ?_
   ·push_cast[true_and];exact⟨sz rfl,q⟩
   ·have e:(CY ps).map (λx=>D.tup [.int a,x,.int b])=(eS a n b (.alt ps)).map eD:=by
     rw[di,zcF,eS,zcF];rfl
    rw[e];exact cM (aY λe _=>tZ e) q
  |seq ps=>
   push_cast[tD,au,b6,cH];cases ps with
   |nil=>
    refine⟨sz rfl,sz rfl,cM (by rfl) q⟩
   |cons o ps=>
    have v:ps.length<100:=by have:=tK (o::ps);simp only[oc,zbB] at u this;lia
    push_cast[Gv];refine⟨sz rfl,.seq (o::ps),rfl,rfl,?_⟩;have en:ns (.seq (o::ps))=ps.length:=by rfl
    have m:(CG n ps.length).length=ps.length:=by simp[CG]
    rw[en];refine⟨_,rfl,by lia,by lia,by lia,by lia,?_⟩;rw[show((n:Int)+ps.length - n).toNat=ps.length by lia,show(zcV ps.length).map (λk:Nat=>D.int (n+k))=CG n ps.length from rfl];refine⟨by rw[yaf];simp;lia,?_⟩;simp only[p9,bS];have I:cutD ([D.int a]++CG n ps.length) (some 1) none=CG n ps.length:=by
     unfold cutD;simp[HT.cV]
    rw[I];refine⟨sz rfl,?_⟩;refine⟨by rw[yaf];simp;lia,?_⟩;push_cast[LR,au,cH];refine⟨_,rfl,_,rfl,_,rfl,by simp[m,iL],by simp[m,iL],by simp[iL],by simp[iL];lia,?_⟩;have G:=sj ps o a n b;rw[show[D.int a]++CG n ps.length=.int a::CG n ps.length from rfl,G];exact cM (aY λe _=>tZ e) q
open PySem L2 M M6
noncomputable abbrev Ba:List Str:=["pattern","many","moves","spans","narrower","span"]
noncomputable abbrev kE:=Ba.take 1
def gT:aH Ba kE (aj (top 19)):=L2.bT
noncomputable abbrev G8:List Str:=["pattern","laid"]
noncomputable abbrev lT:=G8.take 1
def Lj:aH G8 lT (aj (top 26)):=L2.bT
noncomputable def vD(m:Mv):D:=.tup [.int m.1,lD m.2.1,.int m.2.2]
def KL(m):eD (eM m)=vD m:=rfl
noncomputable def mD(n b:Nat)(es:List Nat)(mv:List Mv):D:=.tup [.int n,.int b,.tup (nL es),.tup (mv.map vD)]
noncomputable def ws(E:List Ed):Nat:=(E.map λe=>oc e.2.1).sum
noncomputable def vs(E:List Ed):Nat:=(E.map λe=>oc e.2.1 - 1).sum
def Br(A B):ws (A++B)=ws A+ws B:=by simp[ws]
def Bs(A B):vs (A++B)=vs A+vs B:=by simp[vs]
def jz(e)(B):ws (e::B)=oc e.2.1+ws B:=by rfl
def nv(e)(B):vs (e::B)=(oc e.2.1 - 1)+vs B:=by rfl
theorem xm:∀E:List Ed,E.length<=ws E
 |[]=>zcS _
 |e::E=>by
  have:=xm E;have:=lq e.2.1;rw[jz,zbB];lia
theorem Gm{a b:Nat}:∀ps:List Pt,ws (ps.map λq=>(a,q,b))=xZ ps/\vs (ps.map λq=>(a,q,b))+ps.length=xZ ps
 |[]=>⟨rfl,rfl⟩
 |p::ps=>by
  let⟨h1,h2⟩:=Gm (a:=a) (b:=b) ps;have:=lq p;rw[zcs,jz,nv,zbB,xZ];lia
theorem we:∀(ps)(q)(a n b),ws (chain a (q::ps) n b)=xZ (q::ps)/\vs (chain a (q::ps) n b)+ps.length+1=xZ (q::ps)
 |[],q,a,n,b=>by
  have:=lq q;simp only[chain,xZ];simp[ws,vs];lia
 |q2::ps,q,a,n,b=>by
  let⟨h1,h2⟩:=we ps q2 n (n+1) b;have:=lq q;rw[chain,jz,nv,xZ,zbB];lia
theorem lI:∀(ps)(q)(a n b),∀e∈chain a (q::ps) n b,e.2.1∈q::ps
 |[],q,a,n,b,e,h=>by
  rw[chain] at h;simp_all
 |q2::ps,q,a,n,b,e,h=>by
  obtain rfl|h:=zcq.mp h
  ·simp
  ·exact zaC _ (lI ps q2 n (n+1) b e h)
def FP(a n b)(p)(h:vK p=false):ws (eS a n b p)<=oc p/\ns p+vs (eS a n b p)<=oc p - 1:=by
 cases p with
 |lf _=>cases h
 |many q=>
  simp only[eS,jz,nv,ns,oc];simp[ws,vs];lia
 |alt ps=>
  let⟨h1,h2⟩:=Gm (a:=a) (b:=b) ps;simp only[eS,ns,oc];lia
 |seq ps=>
  cases ps with
  |nil=>simp[eS,ws,vs,ns,oc]
  |cons q ps=>
   let⟨h1,h2⟩:=we ps q a n b;simp only[eS,ns,oc,zbB];lia
def O4(a n b)(p)(o:vK p=false)(l:ni p):∀e∈eS a n b p,ni e.2.1/\dp e.2.1<dp p:=by
 intro e j;cases p with
 |lf _=>cases o
 |many q=>
  simp only[eS,zcq,zbH,or_false] at j;obtain rfl|rfl|rfl:=j
  ·exact⟨by simp[ni,qG],by simp[dp]⟩
  ·exact⟨l,by simp[dp]⟩
  ·exact⟨by simp[ni,qG],by simp[dp]⟩
 |alt ps=>
  let⟨q,m,rfl⟩:=zcE.mp j;have:=j6 q m;exact⟨gW l q m,by simp only[dp];lia⟩
 |seq ps=>
  cases ps with
  |nil=>
   simp only[eS,zaY] at j;subst j;exact⟨by simp[ni,qG],by simp[dp]⟩
  |cons q ps=>
   have h:=lI ps q a n b e j;have:=j6 e.2.1 h;exact⟨gW l _ h,by simp only[dp];lia⟩
def gJ.step{p q:Pt}{a b:Nat}{E:List Ed}(h:gJ p n ((a,q,b)::E))(j:vK q=false):gJ p (n+ns q) (eS a n b q++E):=by
 cases q with
 |lf _=>cases j
 |many q=>exact h.many
 |alt ps=>exact h.alt
 |seq ps=>
  cases ps with
  |nil=>exact h.nil
  |cons q ps=>
   have:=gJ.seq ps q h;simpa[ns,eS] using this
def Js(h:qG d)(q:e (.dat (.bl true)) S):qF (lD d) (.int 0) S λr j=>mU false r.d (.tup [.str "stay",.str "step",.str "at",.str "off"]) j e:=by
 have key:∀x,x∈(["stay","step","at","off"]:List Str)->mU false (.str x) (.tup [.str "stay",.str "step",.str "at",.str "off"]) S e:=λx a=>by
  refine cF (n:=0) (ss:=["stay","step","at","off"]) (by simp only[zcq,zbH,or_false] at a;obtain rfl|rfl|rfl|rfl:=a<;>decide+kernel) (by decide) (by rfl) ?_;have:r9 (.str x) ["stay","step","at","off"]=true:=by simp only[zcq,zbH,or_false] at a;obtain rfl|rfl|rfl|rfl:=a<;>decide+kernel
  rw[this];exact q
 cases d with
 |stay=>refine⟨_,b6,key _ (by simp)⟩
 |step b x=>refine⟨_,b6,key _ (by simp)⟩
 |mk b m=>refine⟨_,b6,key _ (by cases b<;>simp[Tr])⟩
def Jr(h:vK d=false)(q:e (.dat (.bl false)) S):qF (tD d) (.int 0) S λr j=>mU false r.d (.tup [.str "stay",.str "step",.str "at",.str "off"]) j e:=by
 have key:∀x,x∈(["many","then","either"]:List Str)->mU false (.str x) (.tup [.str "stay",.str "step",.str "at",.str "off"]) S e:=λx a=>by
  refine cF (n:=0) (ss:=["stay","step","at","off"]) (by simp only[zcq,zbH,or_false] at a;obtain rfl|rfl|rfl:=a<;>decide+kernel) (by decide) (by rfl) ?_;have:r9 (.str x) ["stay","step","at","off"]=false:=by simp only[zcq,zbH,or_false] at a;obtain rfl|rfl|rfl:=a<;>decide+kernel
  rw[this];exact q
 cases d with
 |lf _=>cases h
 |many d=>refine⟨_,b6,key _ (by simp)⟩
 |seq ps=>refine⟨_,b6,key _ (by simp)⟩
 |alt ps=>refine⟨_,b6,key _ (by simp)⟩
def IC(h:cg d=true)(q:g (.dat d) S):VT S (S++T) (.dat d) g:=
 ⟨_,fE h,λk o a e=>.inl (by rw[zag a] at e;exact e),by rw[List.take_left];exact q⟩
abbrev LS:=Nat×List Mv×List Ed×List Ed
noncomputable def xw:LS->Option LS
 |(_,_,[],[])=>none
 |(n,mv,[],e::NR)=>some (n,mv,e::NR,[])
 |(n,mv,(a,.lf l,b)::R,NR)=>some (n,mv++[(a,l,b)],R,NR)
 |(n,mv,(a,q,b)::R,NR)=>some (n+ns q,mv,R,NR++eS a n b q)
noncomputable def runs(s:LS):Nat->Option LS
 |0=>some s
 |k+1=>(runs s k).bind xw
def Ry(p:Pt)(n:Nat)(mv:List Mv)(R NR:List Ed):Prop:=∃k,runs (2,[],[(0,p,1)],[]) k=some (n,mv,R,NR)
theorem oB(h:runs d k=some e)(a:xw e=none):∀j,runs d (k+1+j)=none
 |0=>by show(runs d k).bind xw=none;rw[h];exact a
 |j+1=>by show(runs d (k+1+j)).bind xw=none;rw[oB h a j];rfl
def Ry.go{s t:LS}(h:Ry d s.1 s.2.1 s.2.2.1 s.2.2.2)(e:xw s=some t):Ry d t.1 t.2.1 t.2.2.1 t.2.2.2:=by
 let⟨k,a⟩:=h;refine⟨k+1,?_⟩;show(runs _ k).bind xw=_;simp_all
def Ry.turn(h:Ry d n mv [] NR):Ry d n mv NR []:=by
 cases NR with
 |nil=>exact h
 |cons e NR=>exact Ry.go (s:=(n,mv,[],e::NR)) h rfl
def Ry.cut(h:Ry d n mv ((e,q,g)::k) NR)(j:vK q=false):Ry d (n+ns q) mv k (NR++eS e n g q):=by
 refine Ry.go (s:=(n,mv,(e,q,g)::k,NR)) (t:=(n+ns q,mv,k,NR++eS e n g q)) h ?_;cases q with
 |lf _=>cases j
 |_=>rfl
def Ry.uniq(h:Ry d n mv [] [])(h':Ry d g q [] []):n=g/\mv=q:=by
 let⟨k,m⟩:=h;let⟨j,a⟩:=h';have e:k=j:=by
  obtain z|z|z:=Nat.lt_trichotomy k j
  ·have:=oB m rfl (j - k - 1);rw[show k+1+(j - k - 1)=j by lia,a] at this;cases this
  ·exact z
  ·have:=oB a rfl (k - j - 1);rw[show j+1+(k - j - 1)=k by lia,m] at this;cases this
 lia
def Dk:AN:=λds S Q=>∃p:Pt,ds=[tD p]/\ni p/\oc p<=50/\∀(n)(a),Ry p n a [] []->gJ p n (a.map eM)->n<=oc p+1->a.length<=oc p->(∀m∈a,qG m.2.1)->Q (.dat (.tup [.int n,.lst (a.map vD)])) S
def OV(T:Txt K mg C fi)(F:Src K mg "laid_out" kE (top 19))(o:Def P w K mg base 1 "new_stands" lR (az K Df))(X:Def P w K mg base 2 "cut" qw (az K La)):Def P w K mg base 3 "laid_out" kE (az K Dk):=by
 refine cA F gT (λds S Q h=>?_) (λf cdv A outer s H E O=>?_)
 ·let⟨p,rfl,_⟩:=h;rfl
 ·refine⟨_,(Vu (Vz 1 gT.nd Vx) (Vu (Vz 2 gT.nd (VQ (VG Vw))) (Vu (Vz 3 gT.nd (VG (Vs (VF (Vs T.jR (Vs (Vr 0) (Vt T.tG)))) Vw))) (Vu (Wx PassesOwn.never (V4 (Vr 3)) (Vu (Vz 4 gT.nd (VQ (VG Vw))) (Vu (VP PassesOwn.never rfl (VL (Vr 3)) (VM 5 gT.nd) (Vv (VH (VC (V1 O) (Vy (Vy (Vr 5))) T.rP rfl) (Vv (VX (VY PySem.F.plainAttrs_list PySem.F.slot_list_append PySem.F.type_list_append V7 (Vr 2) (Vt (Vr 5))))) (Vu (VX (VY PySem.F.plainAttrs_list PySem.F.slot_list_extend PySem.F.type_list_extend M.jV (Vr 4) (Vs (VB X O (Vs (Vr 5) (Vt (Vr 1)))) Vw))) (Vv (M.rK (i:=1) gT.nd rfl (Or.inl rfl) (VB o O (Vs (Vy (Vr 5)) Vw)))))))) (Vv (Vz 3 gT.nd (Vr 4)))))) (Vv (VE (M.fre (VF (Vs (Vr 1) (Vt (Vr 2))))))))))),λds S Q h=>?_⟩;let⟨p,rfl,hp,ho,q⟩:=h;have e0:aM Ba [tD p]=[some (tD p),none,none,none,none,none]:=rfl;rw[e0];push_cast[bO];refine⟨sz rfl,sz rfl,sz rfl,?_⟩;have cH:∀a T,(S++some a::T)[S.length]? =some (some a):=λa T=>by simp
  have v:∀a T k,(S++some a::T)[S.length+1+k]? =T[k]?:=λa T k=>by
   rw[zac (by lia),show S.length+1+k - S.length=k+1 by lia,zam]
  have uT:∀a b T,(S++some a::T).set S.length b=S++b::T:=λa b T=>by simp
  have TY:∀a T x y,(S++some a::(T++[x])).set (S.length+1+T.length) y=S++some a::(T++[y]):=λa T x y=>by
   rw[zax _ _ (by lia),show S.length+1+T.length - S.length=T.length+1 by lia];simp
  obtain⟨W,hW⟩:∃W:Nat->bH->aK->Prop,W=λI G S2=>∃(n:Nat)(j:List Mv)(E:List Ed)(d:D)(v4 t:Option D)(T:aK),G=[some (tD p),some (.int n),some (.loc S.length),some d,v4,t]/\S2=S++some (.lst (j.map vD))::T/\(d=.lst (E.map eD)∨∃k,d=.loc (S.length+1+k)/\T[k]? =some (some (.lst (E.map eD))))/\Ry p n j E []/\
    gJ p n (j.map eM++E)/\n+vs E<=oc p+1/\j.length+ws E<=oc p/\(∀m∈j,qG m.2.1)/\∀e∈E,ni e.2.1/\dp e.2.1<I:=⟨_,rfl⟩
  have hop:=lq p;refine⟨W,⟨dp p+1,by rw[hW];refine⟨2,[],[(0,p,1)],_,none,none,[],rfl,rfl,.inl rfl,⟨0,rfl⟩,gJ.start p,by simp[vs];lia,by simp[ws],by simp,λe Y=>by simp_all⟩⟩,?_⟩;intro I G S2 hw;rw[hW] at hw;let⟨n,j,E,d,v4,t,T,rfl,rfl,hd,hR,hB,hv,Z,hlf,hE⟩:=hw;have OJ:aT (S++some (.lst (j.map vD))::T) d=.lst (E.map eD):=by
   obtain rfl|⟨k,rfl,hk⟩:=hd
   ·rfl
   ·simp only[aT,v,hk];rfl
  push_cast[true_and];refine⟨!E.isEmpty,by rw[OJ];simp[eN],cz (λhw=>?_) (λhw=>?_)⟩
  ·obtain⟨N,hN⟩:∃N:bH->aK->Prop,N=λG S2=>∃(n:Nat)(j:List Mv)(E:List Ed)(d:D)(v4 t:Option D)(T:aK),G=[some (tD p),some (.int n),some (.loc S.length),some d,v4,t]/\S2=S++some (.lst (j.map vD))::T/\(d=.lst (E.map eD)∨∃k,d=.loc (S.length+1+k)/\T[k]? =some (some (.lst (E.map eD))))/\Ry p n j E []/\
     gJ p n (j.map eM++E)/\n+vs E<=oc p+1/\j.length+ws E<=oc p/\(∀m∈j,qG m.2.1)/\∀e∈E,ni e.2.1/\dp e.2.1<I - 1:=⟨_,rfl⟩
   have hmu:0<I:=by
    cases E with
    |nil=>simp at hw
    |cons e E=>have:=(hE e (by simp)).2;lia
   refine⟨N,?_,?_⟩
   ·rw[hN,hW];rintro δ' S3 h;refine⟨I - 1,by lia,h⟩
   ·push_cast[bO,dU,bR];refine⟨zcS _,?_⟩;rw[zbn,show zcQ (S++some (MO.lst (j.map vD))::T)=S.length+1+T.length by simp;lia];have U:∀Q',(∀Pr,(∀a x,Pr (S++some a::(T++[x])))->Q' (E.map eD) Pr (S++some (.lst (j.map vD))::(T++[some (.lst [])])))->cD (S++some (.lst (j.map vD))::(T++[some (.lst [])])) Q' d:=λQ' h=>by
     obtain rfl|⟨k,rfl,hk⟩:=hd
     ·exact h _ λ_ _=>trivial
     ·have hkT  :=(zaf.mp hk).1;refine⟨_,by rw[v,zag hkT];exact hk,h _ λa x=>by rw[v,zag hkT];exact hk⟩
    refine U _ λPr hPr=>?_;refine bf (λrest G S3=>∃(n:Nat)(j:List Mv)(R NR:List Ed)(t:Option D),rest=R.map eD/\G=[some (tD p),some (.int n),some (.loc S.length),some d,some (.loc (S.length+1+T.length)),t]/\S3=S++some (.lst (j.map vD))::(T++[some (.lst (NR.map eD))])/\Ry p n j R NR/\gJ p n (j.map eM++(R++NR))/\n+vs R+vs NR<=oc p+1/\j.length+ws R+ws NR<=oc p/\(∀m∈j,qG m.2.1)/\(∀e∈R,ni e.2.1/\dp e.2.1<I)/\∀e∈NR,ni e.2.1/\dp e.2.1<I - 1) ?_ ?_ _ _ _ ⟨n,j,E,[],t,rfl,rfl,rfl,hR,by rw[zbW];exact hB,by exact hv,by exact Z,hlf,hE,by simp⟩
    ·intro G S3 z;let⟨n,j,R,NR,t,O,rfl,rfl,g0,g1,g2,g3,g4,g5,g6⟩:=z;have:R=[]:=by simp_all
     subst this;refine⟨hPr _ _,?_⟩;push_cast[true_and];rw[hN];refine⟨n,j,NR,_,_,_,_,rfl,rfl,  .inr ⟨T.length,rfl,by simp⟩,g0.turn,g1,by simpa[vs] using g2,by simpa[ws] using g3,g4,g6⟩
    ·intro x rest G S3 N' z hN';let⟨n,j,R,NR,t,O,rfl,rfl,g0,g1,g2,g3,g4,g5,g6⟩:=z;cases R with
     |nil=>simp at O
     |cons r R=>
      injection O with e1 e2;subst e1;subst e2;let⟨L,ok2⟩:=g5 r (by simp);refine⟨hPr _ _,?_⟩;rw[show eD r=.tup [.int r.1,tD r.2.1,.int r.2.2] from rfl];push_cast[au,K61.cH];have hwr:=jz r R;have hvr:=nv r R;cases u:vK r.2.1 with
      |true=>
       let⟨a,pr,b⟩:=r;cases pr with
       |lf l=>
        refine Js L ⟨_,rfl,?_⟩;push_cast[kQ];refine⟨by simp only[aT,cH];rfl,S.length,_,_,rfl,rfl,cH _ _,?_,?_⟩
        ·rw[zbV,yaf];lia
        ·rw[uT,show j.map vD++[D.tup [.int a,tD (.lf l),.int b]]=(j++[(a,l,b)]).map vD by rw[zca];rfl];refine hN' _ _ ⟨n,j++[(a,l,b)],R,NR,_,rfl,rfl,rfl,Ry.go (s:=(n,j,(a,.lf l,b)::R,NR)) g0 rfl,?_,?_,?_,?_,λe Y=>g5 e (zaC _ Y),g6⟩
         ·refine g1.O8 λe=>?_;simp only[zca,zbU,zcq,zcs,List.map_nil,zbH];rw[show eM (a,l,b)=(a,.lf l,b) from rfl];lia
         ·lia
         ·simp only[oc] at hwr;rw[zaU];show j.length+1+_+_<=_;lia
         ·intro m hm;obtain h|h:=zbU.mp hm
          ·exact g4 m h
          ·rw[zaY.mp h];exact L
       |_=>cases u
      |false=>
       refine Jr u ⟨_,rfl,?_⟩;push_cast[kQ,J3];refine⟨by simp only[aT,v];simp;rfl,r.2.1,r.1,n,r.2.2,rfl,u,by lia,by lia,?_⟩;refine⟨_,NR.map eD,_,_,rfl,rfl,by simp_all,.inl rfl,?_,?_⟩
       ·have h1:=xm NR;have h2:=xm (eS r.1 n r.2.2 r.2.1);have h3:=(FP r.1 n r.2.2 r.2.1 u).1;rw[zbV,zbV,yaf];lia
       ·rw[TY,<-zca];refine⟨_,rfl,r.2.1,rfl,u,_,_,rfl,rfl,?_⟩;have c1:=FP r.1 n r.2.2 r.2.1 u;have c2:=O4 r.1 n r.2.2 r.2.1 u L;refine hN' _ _ ⟨n+ns r.2.1,j,R,NR++eS r.1 n r.2.2 r.2.1,_,rfl,by rfl,rfl,g0.cut u,?_,by rw[Bs];lia,by rw[Br];lia,g4,λe Y=>g5 e (zaC _ Y),λe Y=>?_⟩
        ·have h1:gJ p n ((r.1,r.2.1,r.2.2)::(j.map eM++(R++NR))):=g1.O8 λe=>by
          simp only[zbU,zcq,zbJ];exact or_left_comm
         refine(h1.step u).O8 λe=>?_
         grind
        ·obtain h|h:=zbU.mp Y
         ·exact g6 e h
         ·have:=c2 e h;exact⟨this.1,by lia⟩
  ·have  :=by simpa using hw
   subst this;rw[zbW] at hB;push_cast[Pq];refine⟨sz rfl,S.length,_,_,rfl,cH _ _,?_⟩;rw[uT];have es:([D.int n,D.loc S.length]:List D).map (sb S.length (.lst (j.map vD)))=[.int n,.lst (j.map vD)]:=by simp[sb]
   rw[es];refine IC ?_ (q n j hR hB (by simpa[vs] using hv) (by simpa[ws] using Z) hlf);have:bM (j.map vD)=true:=aY λm _=>by rw[<-KL];exact tZ _
   simp only[cg,bM,this,zcw]
def kX(h:kP x=true):(PyData.str x).canLay0=true:=by
 have:=kW (n:=0) (d:=.str x) h (by decide);unfold fit PySem.SeqAt.shaped at this;simp only[zbR] at this;exact this.2.1
def LB(h:qG d):cU (py (lD d))=true/\(py (lD d)).depth<=1/\cg (lD d)=true:=by
 cases d with
 |stay=>refine⟨by simp only[lD,py,eE,cU,fu,zcx];exact kX (by rfl),by decide,rfl⟩
 |step b x=>
  refine⟨?_,by simp[lD,py,eE,PyData.depth,PyData.depthAll],rfl⟩;simp only[lD,py,eE,cU,fu,zcx,zbR];refine⟨kX (by rfl),kX (by cases b<;>decide+kernel),kX (za h)⟩
 |mk b m=>
  refine⟨?_,by simp[lD,py,eE,PyData.depth,PyData.depthAll],rfl⟩;simp only[lD,py,eE,cU,fu,zcx,zbR];exact⟨kX (by cases b<;>decide+kernel),kX (vq h)⟩
def Jd(h:qG d.2.1):wY (vD d):=by
 let⟨h1,h2,a⟩:=LB h;refine⟨by simp only[vD,cg,bM,a,zcw],?_,?_,_,rfl⟩
 ·simp only[vD,py,eE,cU,fu,h1,zcw]
 ·simp only[vD,py,eE,PyData.depth,PyData.depthAll];lia
def Ow(l k):cI (py (lD l)) (py (lD k))=true:=by cases l<;>cases k<;>simp[lD,py,eE,cI,e7]
def Om(m k):cI (py (vD m)) (py (vD k))=true:=by simp only[vD,py,eE,cI,e7,Ow,zcw]
def Ol(m):∃p r,py (vD m)=PyData.tuple (.int p::r):=⟨_,_,rfl⟩
def gJ.same{p:Pt}{mv a:List Mv}(h:gJ p n (mv.map eM))(h1:∀m∈a,m∈mv)(h2:∀m∈mv,∃m'∈a,py (vD m')=py (vD m)):gJ p n (a.map eM):=by
 have j:∀e∈a.map eM,e∈mv.map eM:=λe l=>by
  grind
 exact⟨h.two,λe l=>h.EL e (j e l)⟩
def NO{es:List Nat}:cg (mD n d es mv)=true:=by
 have:bM (mv.map vD)=true:=aY λm _=>by rw[<-KL];exact tZ _
 simp only[mD,cg,bM,iN,this,zcw]
noncomputable def pm(mv:List Mv):List yam:=mv.map λm=>py (vD m)
def nj(p:Pt)(n:Nat)(mv:List Mv):Prop:=(∃a,Ry p n a [] []/\∀y,y∈pm mv↔y∈pm a)/\(pm mv).Nodup/\(pm mv).Pairwise λx y=>ie y x=false
def Dh:AN:=λds S Q=>∃p:Pt,ds=[tD p]/\ni p/\oc p<=50/\∀(n)(a),nj p n a->gJ p n (a.map eM)->n<=oc p+1->a.length<=oc p->(∀m∈a,qG m.2.1)->Q (.dat (mD n 0 [1] a)) S
def Sb(T:Txt K mg C fi)(F:Src K mg "machine_of" lT (top 26))(a:Def P w K mg base 3 "laid_out" kE (az K Dk)):Def P w K mg base 4 "machine_of" lT (az K Dh):=by
 refine cA F Lj (λds S Q h=>?_) (λf cdv A outer s H E O=>?_)
 ·let⟨p,rfl,_⟩:=h;rfl
 ·refine⟨_,(Vu (Vz 1 Lj.nd (VB a O (Vt (Vr 0)))) (Vv (VE (VF (Vs (Vy (Vr 1)) (Vs T.jR (Vs (VF (Vt T.tG)) (Vs (M.Q3 Ws (by rfl) T.tuple (by rfl) (Vs (M.tu O rfl (by rfl) T.sorted (by rfl) T.set (Vy (Vr 1))) Vw)) Vw)))))))),λds S Q h=>?_⟩;let⟨p,rfl,hp,ho,q⟩:=h;have e0:aM G8 [tD p]=[some (tD p),none]:=rfl;rw[e0];push_cast[true_and];refine⟨p,rfl,hp,ho,λn L h0 h1 h2 h3 U=>?_⟩;push_cast[sF,au,b6,cH];refine⟨sz rfl,_,.inr rfl,λk G=>?_,λk G l hl=>?_,by rw[zbV];lia,λW Y v u X=>?_⟩
  ·let⟨m,o,rfl⟩:=zcE.mp G;exact⟨Jd (U m o),Ol m⟩
  ·let⟨m,_,rfl⟩:=zcE.mp G;let⟨t,_,rfl⟩:=zcE.mp hl;exact Om m t
  ·let⟨j,I,rfl⟩:=oS Y;refine⟨_,rfl,?_⟩;refine⟨sz rfl,bz (NO (es:=[1])) (q n j ⟨⟨L,h0,λy=>by have:=v y;rw[zcF,zcF] at this;exact this⟩,by rw[zcF] at u;exact u,zbr.mpr (zbr.mp X)⟩ (h1.same I λm o=>?_) h2 ?_ λm o=>U m (I m o))⟩
   ·let⟨d,hd,e⟩:=zcE.mp ((v (py (vD m))).mpr (zcE.mpr ⟨vD m,zcE.mpr ⟨m,o,rfl⟩,rfl⟩));let⟨t,x,rfl⟩:=zcE.mp hd;refine⟨t,x,e⟩
   ·have:=@sub_len yam (λ_ _=>Classical.propDecidable _) ((j.map vD).map py) ((L.map vD).map py) u λy Z=>(v y).mp Z;simp only[zbV] at this;lia
open PySem L2 M M6
noncomputable abbrev wV:List Str:=["leaf","marks"]
noncomputable abbrev iG:=wV
def Io:aH wV iG (aj (top 13)):=L2.bT
noncomputable abbrev wO:List Str:=["leaf","side","word"]
noncomputable abbrev iD:=wO
def Il:aH wO iD (aj (top 14)):=L2.bT
noncomputable abbrev Bd:List Str:=["near","stands","marks","found","waiting","stand","leaf","other"]
noncomputable abbrev kG:=Bd.take 3
def kZ:aH Bd kG (aj (top 23)):=L2.bT
noncomputable abbrev Be:List Str:=["near","stands","side","word","found","stand","leaf","other"]
noncomputable abbrev kH:=Be.take 4
def oz:aH Be kH (aj (top 24)):=L2.bT
noncomputable abbrev L4:List Str:=["many","moves","near","one","leaf","other"]
noncomputable abbrev wM:=L4.take 2
def DK:aH L4 wM (aj (top 22)):=L2.bT
noncomputable abbrev A9:List Str:=["machine"]
noncomputable abbrev kC:=A9
def MD:aH A9 kC (aj (top 27)):=L2.bT
noncomputable def pN(a:List Nat):List Key:=a.map λk:Nat=>Sum.inl (k:Int)
noncomputable def pM(a:List Nat):List D:=a.map λ_=>D.bl true
noncomputable def fO(a:List Nat):MO:=.dct (pN a) (pM a)
def RK(a):(fO a).d=.dct (pN a) (pM a):=rfl
noncomputable def ins(a:List Nat)(k:Nat):List Nat:=if k∈a then a else a++[k]
def tO:g∈ins d k↔g∈d∨g=k:=by
 unfold ins;split
 ·lia
 ·simp
def lz(h:d.Nodup):(ins d k).Nodup:=by
 unfold ins;split
 ·exact h
 ·next hk=>
  rw[zbp];refine⟨h,by simp,λa m b l=>?_⟩;rw[zaY.mp l];lia
def Ah{k:Nat}:lH (pN d) (.inl (k:Int))=decide (k∈d):=by
 unfold lH pN;rw[zcC];by_cases h:k∈d
 ·rw[yDt h,zbI];refine⟨k,h,by simp⟩
 ·rw[yDf h,zbk];intro j l;intro e;exact h (by rw[<-show j=k by lia];exact l)
def FN(a)(k:Nat):FO (pN a,pM a) (.inl (k:Int),.bl true)=(pN (ins a k),pM (ins a k)):=by
 unfold FO;rw[Ah];by_cases h:k∈a
 ·rw[yIp (yDt h)];have e:ins a k=a:=yIp h;rw[e];unfold pN pM;rw[List.zip_map'];simp
 ·rw[yIn (by lia)];have e:ins a k=a++[k]:=yIn h;rw[e];unfold pN pM;simp
def Er(a)(k:Nat):j9 (pN a) (pM a) (.inl (k:Int)) (.bl true)=fO (ins a k):=by
 have:=Az (pN a,pM a) (.inl k,.bl true);rw[FN] at this;exact this
noncomputable def gC(a st:List Nat):List Nat:=st.foldl ins a
theorem AF:∀(st a),(st.map λs:Nat=>((Sum.inl (s:Int):Key),D.bl true)).foldl FO (pN a,pM a)=(pN (gC a st),pM (gC a st))
 |[],a=>rfl
 |s::st,a=>by
  rw[zcs,zbZ,FN];exact AF st (ins a s)
theorem pq:∀(st a),d∈gC a st↔d∈a∨d∈st
 |[],a=>by simp[gC]
 |s::st,a=>by
  show d∈gC (ins a s) st↔_;rw[pq st,tO,zcq,or_assoc]
theorem jT:∀(st a),a.Nodup->(gC a st).Nodup
 |[],a,h=>h
 |s::st,a,h=>jT st (ins a s) (lz h)
noncomputable def qH(S:aK)(n:Nat)(g:Nat->Option MO)(d:Option MO):aK:=S++((zcV n).map g++[d])
section
variable {g g':Nat->Option MO}{d d' x:Option MO}
def yI(h:i<n):(qH S n g d)[S.length+i]? =some (g i):=by
 unfold qH;rw[zac (by lia),zag (by simp_all)];simp[h]
def Gi:(qH S n g d)[S.length+n]? =some d:=by
 unfold qH;simp
def AJ(h:i<n):(qH S n g d).set (S.length+i) x=qH S n (λj=>if j=i then x else g j) d:=by
 unfold qH;refine zbK (by simp) λj h1 h2=>?_
 grind
def Gh:(qH S n g d).set (S.length+n) x=qH S n g x:=by
 unfold qH;simp
def Gg:(qH S n g d).take S.length=S:=by unfold qH;simp
def lN(h:∀i,i<n->g i=g' i):qH S n g d=qH S n g' d:=by
 unfold qH;simp_all
end
def u7(n:S.length<=m)(e:d[m]? =some (some o))(j:d.take S.length=S)(h:gh S.length o=true)(q:g (.new o) S):VT S d (.dat (.loc m)) g:=by
 refine⟨.new o,?_,λk l s t=>.inl ?_,by rw[j];exact q⟩
 ·simp only[out];simp_all
 grind
noncomputable def kN(n:Nat):List Key:=(zcV n).map λi:Nat=>Sum.inl (i:Int)
noncomputable def pD(m:Mv):D:=.tup [lD m.2.1,.int m.2.2]
noncomputable def fH(mv:List Mv)(i:Nat):List D:=(mv.filter λm=>decide (m.1=i)).map pD
noncomputable def cS(n:Nat)(mv:List Mv):MO:=.dct (kN n) ((zcV n).map λi=>.lst (fH mv i))
def AD:lH (kN n) (.inl (i:Int))=decide (i<n):=by
 unfold lH kN
 grind
def t7(h:i<n):dR (kN n) ((zcV n).map d) (.inl (i:Int))=some (d i):=by
 unfold dR kN;have e:((zcV n).map (λi:Nat=>(Sum.inl i:Key))).zip ((zcV n).map d)=(zcV n).map λj:Nat=>((Sum.inl j:Key),d j):=by
  grind
 rw[e,List.find?_map];have:(zcV n).find? ((λp:Key×D=>decide (p.1=Sum.inl (i:Int))) ∘ λj:Nat=>(Sum.inl j,d j))=some i:=by
  simp;lia
 rw[this];rfl
def JN:yw ((zcV n).map λi:Nat=>(Sum.inl (i:Int),d i))=(kN n,(zcV n).map d):=by
 induction n with
 |zero=>rfl
 |succ n ih=>
  unfold yw at ih⊢;rw[zcc,zca,List.foldl_append,ih];show FO (kN n,(zcV n).map d) (Sum.inl n,d n)=_;unfold FO;rw[yIn (by rw[AD];simp)];simp[kN,zcc]
def yb(a)(r)(i):fH (a++[r]) i=if i=r.1 then fH a i++[pD r] else fH a i:=by
 unfold fH
 grind
theorem Al{S:aK}{n:Nat}{f:Nat->List D}:∀(j k),k+j=n->yX (S.length+n) (kN n) ((zcV n).map λi=>if i<k then D.lst (f i) else .loc (S.length+i)) (qH S n (λi=>if i<k then none else some (.lst (f i))) (some (.dct (kN n) ((zcV n).map λi=>if i<k then D.lst (f i) else .loc (S.length+i)))))
  ((zcV n).map λi=>D.lst (f i)) (qH S n (λ_=>none) (some (.dct (kN n) ((zcV n).map λi=>D.lst (f i)))))
 |0,k,h=>by
  have e:((zcV n).map λi=>if i<k then D.lst (f i) else .loc (S.length+i))=(zcV n).map λi=>D.lst (f i):=zaN λi a=>by
   simp_all
  rw[e,lN (g':=λ_=>none) (λi a=>by simp_all)];exact .nil
 |j+1,k,h=>by
  have l:k<n:=by lia
  refine .step (m:=S.length+k) (es:=f k) ?_ (by lia) ?_
  ·rw[yI l,yIn (by lia)]
  ·have q:(((zcV n).map λi=>if i<k then D.lst (f i) else .loc (S.length+i)).map (sb (S.length+k) (.lst (f k))))=(zcV n).map λi=>if i<k+1 then D.lst (f i) else .loc (S.length+i):=by
    rw[zcF];refine zaN λi a=>?_;show sb (S.length+k) (.lst (f k)) (if i<k then D.lst (f i) else .loc (S.length+i))=_;obtain h|h|h:=Nat.lt_trichotomy i k
    ·rw[yIp h,yIp (by lia)];rfl
    ·subst h;rw[yIn (by lia)];show(if S.length+i=S.length+i then _ else _)=_;simp
    ·rw[yIn (by lia),yIn (by lia)];show(if S.length+i=S.length+k then _ else _)=_;rw[yIn (by lia)]
   rw[q,AJ l,Gh];have o:=lN (S:=S) (n:=n) (d:=some (.dct (kN n) ((zcV n).map λi=>if i<k+1 then D.lst (f i) else .loc (S.length+i)))) (g:=λj=>if j=k then none else if j<k then none else some (MO.lst (f j))) (g':=λi=>if i<k+1 then none else some (.lst (f i))) (λi a=>by
    lia)
   rw[o];exact Al j (k+1) (by lia)
theorem zN:∀{mv:List Mv},(∀m∈mv,CC d m)->bM (mv.map pD)=true
 |[],_=>rfl
 |m::mv,h=>by
  have h1:=(LB (h m (by simp)).2.1).2.2;simp only[zcs,bM,pD,cg,h1,zN λk a=>h k (zaC _ a),zcw]
def wm(h:∀x∈mv,CC n x):gh m (cS n mv)=true:=by
 refine cy m _ ?_;generalize zcV n=l
 induction l with
 |nil=>rfl
 |cons i l ih=>
  have h1:bM (fH mv i)=true:=zN λx a=>h x (zbT.mp a).1;simp only[zcs,bM,cg,h1,ih,zcw]
def Qs:AN:=λds S Q=>∃(n:Nat)(a:List Mv),ds=[.int n,.tup (a.map vD)]/\n<=60/\(∀m∈a,CC n m)/\a.length<=60/\Q (.new (cS n a)) S
def UN(T:Txt K mg C fi)(F:Src K mg "by_stand" wM (top 22)):Def P w K mg base 1 "by_stand" wM (az K Qs):=by
 refine cA F DK (λds S Q h=>?_) (λf cdv A outer s H E a=>?_)
 ·let⟨n,t,rfl,_⟩:=h;rfl
 ·refine⟨_,(Vu (Vz 2 DK.nd (VQ (M.Q3 (M.zX a) (by rfl) T.dict (by rfl) (Vs (M.iQ (caps:=[none]) (sy (by rfl)) (by rfl) (by rfl) rfl (M.jl (by rfl) T.range (Vt (Vr 0))) (λ_ _ _ _=>(WE (i:=0) (by decide+kernel:List.Nodup (["stand"]:List Str)) rfl (Or.inl rfl))) (λ_ _ _ _=>V3) (λ_ _ _ _=>(VF (Vs (Vr 0) (Vs (VQ (VG Vw)) Vw))))) Vw)))) (Vu (VP PassesOwn.never rfl (VL (Vr 1)) (Wg rfl (VO (VM 3 DK.nd) (VO (VM 4 DK.nd) (VO (VM 5 DK.nd) Wh)))) (Vv (VX (VY PySem.F.plainAttrs_list PySem.F.slot_list_append PySem.F.type_list_append V7 (M.oW (dI a) (Vr 2) (Vr 3) (λ_ _=>rfl)) (Vs (VF (Vs (Vr 4) (Vt (Vr 5)))) Vw))))) (Vv (VE (M.RI (Vr 2)))))),λds S Q h=>?_⟩;let⟨n,t,rfl,n6,I,hl,q⟩:=h;have e0:aM L4 [.int n,.tup (t.map vD)]=[some (.int n),some (.tup (t.map vD)),none,none,none,none]:=rfl;rw[e0];push_cast[b5,Jq,bO];refine⟨by omega,by omega,?_⟩;refine t9 (λrest y m G=>∃(k:Nat)(v:Option D),k<=n/\rest=((zcV n).drop k).map (λi:Nat=>D.int i)/\y=(zcV k).map (λi:Nat=>D.tup [.int i,.loc (S.length+i)])/\G=S++(zcV k).map (λ_=>some (MO.lst []))/\m=[v]) ?_ ?_ _ [] _ _ ⟨0,none,zcS _,by simp[j4],rfl,by simp,rfl⟩
  ·intro y m G z;let⟨k,v,hk,a,rfl,rfl,rfl⟩:=z;obtain rfl:k=n:=by
    have:=congrArg zcQ a;simp at this;omega
   refine⟨trivial,_,(zcV k).map (λi:Nat=>(Sum.inl i,D.loc (S.length+i))),rfl,?_,by simp;omega,?_⟩
   ·rw[zcF];rfl
   ·rw[JN];push_cast[dU,bR,cD];have eb:∀o,S++(zcV k).map (λ_=>some (MO.lst []))++[some o]=qH S k (λi=>some (.lst (fH [] i))) (some o):=λo=>by
     unfold qH fH;simp
    rw[eb,show zcQ (S++(zcV k).map (λ_=>some (MO.lst [])))=S.length+k by simp];refine bf (λrest m G=>∃(j l:List Mv)(W U O:Option D),rest=l.map vD/\j++l=t/\G=qH S k (λi=>some (.lst (fH j i))) (some (.dct (kN k) ((zcV k).map λi=>.loc (S.length+i))))/\m=[some (.int k),some (.tup (t.map vD)),some (.loc (S.length+k)),W,U,O]) ?_ ?_ _ _ _ ⟨[],t,none,none,none,rfl,rfl,rfl,rfl⟩
    ·intro m G z;let⟨j,l,W,U,O,a,L,rfl,rfl⟩:=z;have:l=[]:=by cases l with
      |nil=>rfl
      |cons _ _=>simp at a
     subst this;rw[zbW] at L;subst L;push_cast[A5];have fz:=Al (S:=S) (n:=k) (f:=fH j) k 0 (by omega);refine⟨_,rfl,_,_,Gi,_,_,fz,?_⟩;exact u7 (by omega) Gi Gg (wm I) q
    ·intro x rest m G N' z u;let⟨j,l,W,U,O,a,L,rfl,rfl⟩:=z;cases l with
     |nil=>simp at a
     |cons r l=>
      injection a with h1 h2;subst h1;subst h2;have Z:r∈t:=by rw[<-L];simp
      have ok:=I r Z;have hqs  :=by have:=congrArg zcQ L;simp at this;omega
      refine⟨trivial,_,rfl,rfl,_,_,rfl,_,_,rfl,_,_,rfl,rfl,?_⟩;have sd:∀g,aT (qH S k g (some (.dct (kN k) ((zcV k).map λi=>D.loc (S.length+i))))) (.loc (S.length+k))=.dct (kN k) ((zcV k).map λi=>.loc (S.length+i)):=λg=>by simp only[aT,Gi];rfl
      push_cast[kQ,qc];refine⟨_,_,sd _,_,rfl,_,t7 ok.1,?_⟩;have Y:aT (qH S k (λi=>some (.lst (fH j i))) (some (.dct (kN k) ((zcV k).map λi=>D.loc (S.length+i))))) (.loc (S.length+r.1))=.lst (fH j r.1):=by simp only[aT,yI ok.1];rfl
      rw[Y];refine⟨rfl,sz rfl,S.length+r.1,_,_,rfl,rfl,yI ok.1,?_,?_⟩
      ·have h1:(fH j r.1).length<=j.length:=by rw[fH,zbV];exact zay ..
       rw[yaf];omega
      ·rw[AJ ok.1];refine u _ _ ⟨j++[r],l,_,_,_,rfl,by simp_all,?_,rfl⟩;refine lN λi X=>?_;rw[yb];by_cases e:i=r.1
       ·rw[yIp e,yIp e,e];rfl
       simp_all
  ·intro x rest y m G N' z u;let⟨k,v,hk,a,rfl,rfl,rfl⟩:=z;have X:k<n:=by
    obtain h|h:=zcL k n
    ·exact h
    ·rw[zao (by simp_all)] at a;simp at a
   rw[zai (by simp_all)] at a;injection a with e1 e2;subst e1;subst e2;push_cast[Cn,if_true,bO,Co,lO];refine⟨zcS _,sz rfl,by rw[zbV,zbo,yaf];omega,u _ _ _ ⟨k+1,_,X,rfl,?_,?_,rfl⟩⟩
   ·rw[zcc];simp
   ·rw[zcc,zca,<-zbn];rfl
def Dg:AN:=λds S Q=>∃(n b:Nat)(h:List Nat)(a:List Mv),ds=[mD n b h a]/\n<=60/\(∀m∈a,CC n m)/\a.length<=60/\Q (.new (cS n a)) S
def OT(T:Txt K mg C fi)(F:Src K mg "moves_near" kC (top 27))(a:Def P w K mg base 1 "by_stand" wM (az K Qs)):Def P w K mg base 2 "moves_near" kC (az K Dg):=by
 refine cA F MD (λds S Q h=>?_) (λf x A outer s H E t=>?_)
 ·let⟨n,b,m,j,rfl,_⟩:=h;rfl
 ·refine⟨_,(Vv (VE (VB a t (Vs (Vy (Vr 0)) (Vs (Vy (Vr 0)) Vw))))),λds S Q h=>?_⟩;let⟨n,b,m,j,rfl,o,l,u,q⟩:=h;have v:aM A9 [mD n b m j]=[some (mD n b m j)]:=rfl;rw[v];push_cast[mD,au,b6,PZ];refine⟨n,j,rfl,o,l,u,⟨.new (cS n j),?_,pU,by rw[zbF];exact q⟩⟩;simp only[out];rw[yIp (wm l)]
def zm:AN:=λds S Q=>∃(l:Lf)(ms:List Str),ds=[lD l,.tup (ms.map D.str)]/\qG l/\texts ms/\Q (.dat (.bl (hold l ms))) S
def JL(T:Txt K mg C fi)(F:Src K mg "holds" iG (top 13)):Def P w K mg base 1 "holds" iG (az K zm):=by
 refine cA F Io (λds S Q h=>?_) (λf G A outer s H E j=>?_)
 ·let⟨l,ms,rfl,_⟩:=h;rfl
 ·refine⟨_,(Vu (VH (VC (VJ j) (Vy (Vr 0)) VA (aG _)) (Vv (VE (VU (V1 j) (Vy (Vr 0)) (Vr 1) rfl))) VI) (Vu (VH (VC (VJ j) (Vy (Vr 0)) VA (aG _)) (Vv (VE (VU (Wt j) (Vy (Vr 0)) (Vr 1) rfl))) VI) (Vv (VE (VU (VJ j) (Vy (Vr 0)) VA (aG _)))))),λds S Q h=>?_⟩;let⟨l,ms,rfl,u,t,q⟩:=h;have y:aM wV [lD l,.tup (ms.map D.str)]=[some (lD l),some (.tup (ms.map D.str))]:=rfl;rw[y];have inl:∀{a:Bool}{m:Str}{o:AK},kP m=true->o (.dat (.bl (a != decide (m∈ms)))) S->mU a (.str m) (.tup (ms.map D.str)) S o:=λ{a m o} h1 v=>
   cF (n:=0) h1 (by decide) (zbE.mpr t.2) (by rw[jZ];exact v) (by have:=t.1;lia)
  cases l with
  |stay=>
   push_cast[lD,au,b6];exact q
  |step b x=>
   push_cast[lD,au,b6];exact q
  |mk b m=>
   push_cast[lD,au,b6,cH];cases b
   ·rw[yIn (by decide),yIp (by decide)];refine inl (vq u) (bz rfl ?_);have e:(true != decide (m∈ms))=hold (.mk false m) ms:=by simp only[hold];simp
    rw[e];exact q
   ·rw[yIp (by decide)];refine inl (vq u) (bz rfl ?_);have e:(false != decide (m∈ms))=hold (.mk true m) ms:=by simp only[hold];simp
    rw[e];exact q
def zj:AN:=λds S Q=>∃(l:Lf)(sd wd:Str),ds=[lD l,.str sd,.str wd]/\qG l/\kP wd=true/\Q (.dat (.bl (take l sd wd))) S
def JH(T:Txt K mg C fi)(F:Src K mg "takes" iD (top 14)):Def P w K mg base 1 "takes" iD (az K zj):=by
 refine cA F Il (λds S Q h=>?_) (λf t A outer s H E a=>?_)
 ·let⟨l,sd,wd,rfl,_⟩:=h;rfl
 ·refine⟨_,(Vv (VE (Wu (VU (VJ a) (Vy (Vr 0)) VA (aG _)) (Wu (VU (VJ a) (Vy (Vr 0)) (Vr 1) (aG _)) (Wy (VU (V1 a) (Vy (Vr 0)) (VF (Vs (Vr 2) (Vt T.EF))) rfl)))))),λds S Q h=>?_⟩;let⟨l,sd,wd,rfl,j,hw,q⟩:=h;have o:aM wO [lD l,.str sd,.str wd]=[some (lD l),some (.str sd),some (.str wd)]:=rfl;rw[o];cases l with
  |stay=>
   push_cast[lD,au,b6];exact q
  |step b x=>
   push_cast[lD,au,b6,cH,at2];rw[yIp (by decide)];refine cz (λh=>⟨sz rfl,cF (n:=0) (ss:=[wd,"*"]) (za j) (by decide) (by simp only[zct,hw];rfl) (bz rfl ?_) (by simp)⟩) (λh=>?_)
   ·have e:(false != r9 (.str x) [wd,"*"])=take (.step b x) sd wd:=by
     simp only[take,h,decide_true,zcy,r9,zcr,List.any_nil,Bool.or_false,OH,zck]
    rw[e];exact q
   ·have h:=λe=>h (yDt e);have e:take (.step b x) sd wd=false:=by simp only[take,yDf h,zcl]
    rw[e] at q;exact q
  |mk b m=>
   push_cast[lD,au,b6];rw[yIn (by cases b<;>decide)];exact q
def u9(h:gh S.length o=true)(q:d (.new o) S):VT S (S++T) (.new o) d:=by
 refine⟨.new o,?_,λk l j a=>.inl ?_,by rw[List.take_left];exact q⟩
 ·simp only[out];rw[yIp h]
 ·rw[zag j] at a;exact a
def Gk(m)(ns):gh m (.lst (nL ns))=true:=cy m _ (iN ns)
def jC{a:List Int}(n:a.Perm (d.map λk:Nat=>(k:Int)))(m:a.Pairwise (· <=·)):∃j:List Nat,j.Perm d/\j.Pairwise (· <=·)/\a.map D.int=nL j:=by
 let⟨j,h1,rfl⟩:=gV n;refine⟨j,h1,?_,by rw[zcF];rfl⟩;rw[zbr] at m;exact m.imp λh=>by lia
def Dn:AN:=λds S Q=>∃(n:Nat)(h:List Mv)(st:List Nat)(ms:List Str)(z:D),ds=[(cS n h).d,z,.tup (ms.map D.str)]/\(z=.lst (nL st)∨z=.tup (nL st))/\n<=60/\(∀m∈h,CC n m)/\h.length<=60/\(∀s∈st,s<n)/\st.length<=60/\texts ms/\
 ∀a:List Nat,a.Pairwise (· <=·)->a.Nodup->(∀x,x∈a↔Reach h ms st x)->Q (.new (.lst (nL a))) S
def OX(T:Txt K mg C fi)(F:Src K mg "gone_without_steps" kG (top 23))(ab:Def P w K mg base 1 "holds" iG (az K zm)):Def P w K mg base 2 "gone_without_steps" kG (az K Dn):=by
 refine cA F kZ (λds S Q h=>?_) (λf cdv A outer s H E u=>?_)
 ·let⟨n,O,st,ms,z,rfl,_⟩:=h;rfl
 ·refine⟨_,(Vu (Vz 3 kZ.nd (VQ (V6 (M.zX u) T.dict (Vs (VW ["stand"] [none] (VL (Vr 1)) (λ_ _ _ _=>V3) (λ_ _ _ _=>(VF (Vs (Vr 0) (Vt VZ))))) Vw)))) (Vu (Vz 4 kZ.nd (VQ (V6 (M.IY u) T.list (Vt (Vr 3))))) (Vu (Wx PassesOwn.never (V4 (Vr 4)) (Vu (Vz 5 kZ.nd (M.xW PySem.F.plainAttrs_list PySem.F.slot_list_pop PySem.F.type_list_pop M.Rm (Vr 4))) (Vv (VP PassesOwn.never rfl (VL (M.oW (dI u) (Vr 0) (Vr 5) (λ_ _=>rfl))) (Wg rfl (VO (VM 6 kZ.nd) (VO (VM 7 kZ.nd) Wh))) (Vv (VH (V8 (Wi (VC (M.EJ u) (Vr 7) (Vr 3) rfl) (Wm (V4 (VB ab u (Vs (Vr 6) (Vt (Vr 2)))))))) (Vu (M.vj (dI u) (Vr 3) (Vr 7) VZ rfl) (Vv (VX (VY PySem.F.plainAttrs_list PySem.F.slot_list_append PySem.F.type_list_append V7 (Vr 4) (Vt (Vr 7)))))) VI)))))) (Vv (VE (VS (M.zW u) T.sorted (Vt (Vr 3)))))))),λds S Q h=>?_⟩;let⟨n,O,st,ms,z,rfl,hz,n6,hmv,hl,hst,hsl,hms,q⟩:=h;have e0:aM Bd [(cS n O).d,z,.tup (ms.map D.str)]=[some (cS n O).d,some z,some (.tup (ms.map D.str)),none,none,none,none,none]:=rfl;rw[e0];push_cast[bO,b5,bR];have it:∀Q',Q' (nL st) (λ_=>True) S->cD S Q' z:=λQ' q'=>by obtain rfl|rfl:=hz<;>exact q'
  refine it _ ?_;refine t9 (λrest acc X t=>∃(G Z:List Nat)(v:Option D),rest=nL Z/\G++Z=st/\acc=G.map (λi:Nat=>D.tup [.int i,.bl true])/\t=S/\X=[v]) ?_ ?_ _ [] _ _ ⟨[],st,none,rfl,rfl,rfl,rfl,rfl⟩
  ·intro acc X t V;let⟨G,Z,v,u,he,rfl,rfl,rfl⟩:=V;have:Z=[]:=by cases Z with
    |nil=>rfl
    |cons _ _=>simp[nL] at u
   subst this;rw[zbW] at he;subst he;refine⟨trivial,_,G.map (λi:Nat=>(Sum.inl i,D.bl true)),rfl,?_,by rw[zbV];lia,?_⟩
   ·rw[zcF];rfl
   ·have e1:yw (G.map (λi:Nat=>(Sum.inl i,D.bl true)))=(pN (gC [] G),pM (gC [] G)):=AF G [];rw[e1];obtain⟨U,hk0⟩:∃U,U=gC [] G:=⟨_,rfl⟩
    rw[<-hk0];have hm0:∀x,x∈U↔x∈G:=λx=>by rw[hk0,pq];simp
    have hn0:U.Nodup:=by rw[hk0];exact jT G [] .nil
    have PZ:∀a b,(t++[some a,some b])[t.length]? =some (some a):=λa b=>by simp
    have at4:∀a b,(t++[some a,some b])[t.length+1]? =some (some b):=λa b=>by simp
    have TZ:∀a b c,(t++[some a,some b]).set t.length (some c)=t++[some c,some b]:=λa b c=>by simp
    have Ie:∀a b c,(t++[some a,some b]).set (t.length+1) (some c)=t++[some a,some c]:=λa b c=>by simp
    have Ij:∀a b,aT (t++[some a,some b]) (.loc t.length)=a.d:=λa b=>by simp only[aT,PZ]
    have DC:∀a b,aT (t++[some a,some b]) (.loc (t.length+1))=b.d:=λa b=>by simp only[aT,at4]
    refine⟨_,pN U,pM U,rfl,by simp only[aT,zac (zcR _),Nat.sub_self];rfl,?_⟩;dsimp only;rw[show(pN U).map kD=nL U by unfold pN nL;rw[zcF];rfl,show t++[some (MO.dct (pN U) (pM U))]++[some (MO.lst (nL U))]=t++[some (fO U),some (.lst (nL U))] by rw[zbn];rfl,show zcQ (t++[some (MO.dct (pN U) (pM U))])=t.length+1 by simp];refine⟨λμ X S2=>∃(I ws:List Nat)(v5 v6 v7:Option D),X=[some (cS n O).d,some z,some (.tup (ms.map D.str)),some (.loc t.length),some (.loc (t.length+1)),v5,v6,v7]/\S2=t++[some (fO I),some (.lst (nL ws))]/\μ=n - I.length+ws.length/\I.Nodup/\(∀s∈G,s∈I)/\(∀k∈I,Reach O ms G k)/\(∀k∈ws,k∈I)/\(∀m∈O,m.1∈I->m.1 ∉ ws->hold m.2.1 ms=true->m.2.2∈I)/\ws.length<=I.length,⟨_,U,U,none,none,none,rfl,rfl,rfl,hn0,λs hs=>(hm0 s).mpr hs,λk W=>.base ((hm0 k).mp W),λk W=>W,λm hm h1 h2=>absurd h1 h2,zcR _⟩,?_⟩;intro μ X S2 V;let⟨I,ws,v5,v6,v7,rfl,rfl,rfl,hn,h1,h2,h3,h4,h5⟩:=V;have hlt:=λk W=>(h2 k W).lt hmv hst;have hkl:=bw n I hn hlt;refine⟨_,rfl,!ws.isEmpty,by show eN (aT _ (.loc (t.length+1)))=_;rw[DC];cases ws<;>rfl,cz (λhw=>?_) (λhw=>?_)⟩
    ·obtain⟨L,a,rfl⟩:∃L a,ws=L++[a]:=by
      obtain rfl|⟨l,a,rfl⟩:=List.eq_nil_or_concat ws
      ·simp at hw
      ·refine⟨l,a,by simp⟩
     have ha:=h3 a (by simp);obtain⟨N,hN⟩:∃N:bH->aK->Prop,N=λX S2=>∃(j o:List Nat)(v5 v6 v7:Option D),X=[some (cS n O).d,some z,some (.tup (ms.map D.str)),some (.loc t.length),some (.loc (t.length+1)),v5,v6,v7]/\S2=t++[some (fO j),some (.lst (nL o))]/\n - j.length+o.length<n - I.length+(L++[a]).length/\
      j.Nodup/\(∀s∈G,s∈j)/\(∀k∈j,Reach O ms G k)/\(∀k∈o,k∈j)/\(∀m∈O,m.1∈j->m.1 ∉ o->hold m.2.1 ms=true->m.2.2∈j)/\o.length<=j.length:=⟨_,rfl⟩
     refine⟨N,?_,?_⟩
     ·rw[hN];intro δ' S3 V;let⟨j,o,w5,w6,w7,g1,g2,g3,g4⟩:=V;refine⟨_,g3,j,o,w5,w6,w7,g1,g2,rfl,g4⟩
     ·push_cast[Py,SA];have et:nL (L++[a])=nL L++[.int a]:=by simp[nL]
      refine⟨by rw[DC];rfl,_,rfl,_,at4 _ _,.int a,by rw[et];simp,?_⟩;rw[Ie,show(nL (L++[a])).dropLast=nL L by rw[et];simp];push_cast[dU,bR,qc];refine⟨kN n,_,rfl,_,rfl,_,t7 (hlt a ha),?_⟩;refine bf (λrest X S3=>∃(qm Y:List Mv)(j o:List Nat)(v6 v7:Option D),rest=Y.map pD/\qm++Y=O.filter (λm=>decide (m.1=a))/\X=[some (cS n O).d,some z,some (.tup (ms.map D.str)),some (.loc t.length),some (.loc (t.length+1)),some (.int a),v6,v7]/\S3=t++[some (fO j),some (.lst (nL o))]/\n - j.length+o.length=n - I.length+L.length/\j.Nodup/\(∀s∈G,s∈j)/\(∀k∈j,Reach O ms G k)/\(∀k∈o,k∈j)/\(∀m∈O,m.1∈j->m.1 ∉ o->m.1≠a->hold m.2.1 ms=true->m.2.2∈j)/\(∀m∈qm,hold m.2.1 ms=true->m.2.2∈j)/\o.length<=j.length/\a∈j) ?_ ?_ _ _ _ ⟨[],O.filter (λm=>decide (m.1=a)),I,L,v6,v7,rfl,rfl,rfl,rfl,rfl,hn,h1,h2,λk W=>h3 k (by simp[W]),λm hm g1 g2 g3=>h4 m hm g1 (by simp[g2,g3]),by simp,by simp at h5;lia,ha⟩
      ·intro X S3 V;let⟨qm,Y,j,o,v6,v7,u,he,rfl,rfl,hm,g1,g2,g3,g4,g5,g6,g7,g8⟩:=V;have:Y=[]:=by cases Y with
        |nil=>rfl
        |cons _ _=>simp at u
       subst this;rw[zbW] at he;refine⟨trivial,?_⟩;rw[hN];refine⟨j,o,_,_,_,rfl,rfl,by rw[zaU];show _<_+(_+1);lia,g1,g2,g3,g4,λm y k1 k2 k3=>?_,g7⟩;by_cases e:m.1=a
       ·exact g6 m (by rw[he];exact zbT.mpr ⟨y,yDt e⟩) k3
       ·exact g5 m y k1 k2 e k3
      ·intro x rest X S3 N' V hN';let⟨qm,Y,j,o,v6,v7,u,he,rfl,rfl,hm,g1,g2,g3,g4,g5,g6,g7,g8⟩:=V;cases Y with
       |nil=>simp at u
       |cons r Y=>
        injection u with e1 e2;subst e1;subst e2;have u:r∈O.filter (λm=>decide (m.1=a)):=by rw[<-he];simp
        have hrm:=(zbT.mp u).1;have hra:=of_decide_eq_true (zbT.mp u).2;have ok:=hmv r hrm;have he':(qm++[r])++Y=O.filter (λm=>decide (m.1=a)):=by rw[zbn];exact he
        refine⟨trivial,_,rfl,rfl,_,_,rfl,_,_,rfl,rfl,?_⟩;push_cast[Gx,Ij];refine⟨_,rfl,?_⟩;rw[Ah];refine cz (λhb=>?_) (λhb=>?_)
        ·have hb:=by simpa using hb
         refine⟨r.2.1,ms,rfl,ok.2.1,hms,_,rfl,cz (λhh=>?_) (λhh=>?_)⟩
         ·push_cast[uv,kQ];refine⟨_,rfl,pN j,pM j,_,rfl,PZ _ _,?_,?_⟩
          ·rw[pM,zbV];have:=bw n j g1 λk W=>(g3 k W).lt hmv hst;lia
          ·rw[TZ,Er,show ins j r.2.2=j++[r.2.2] from yIn hb];have nd:=by
            have:=lz (k:=r.2.2) g1
            rwa [show ins j r.2.2=j++[r.2.2] from yIn hb] at this
           have rc:∀k∈j++[r.2.2],Reach O ms G k:=λk W=>by
            obtain h|h:=zbU.mp W
            ·exact g3 k h
            ·rw[zaY.mp h];exact .go (hra▸g3 a g8) hrm hh
           have hk1:=bw n _ nd λk W=>(rc k W).lt hmv hst;rw[zaU] at hk1;refine⟨by rw[DC];rfl,_,nL o,_,rfl,rfl,at4 _ _,by rw[nL,zbV,yaf];lia,?_⟩;rw[Ie,show nL o++[D.int (r.2.2:Int)]=nL (o++[r.2.2]) by simp[nL]];refine hN' _ _ ⟨qm++[r],Y,j++[r.2.2],o++[r.2.2],_,_,rfl,he',rfl,rfl,by rw[zaU,zaU];lia,nd,λs hs=>zaD _ (g2 s hs),rc,λk W=>?_,λm y k1 k2 k3 k4=>?_,λm y k=>?_,by rw[zaU,zaU];lia,zaD _ g8⟩
           ·obtain h|h:=zbU.mp W
            ·exact zaD _ (g4 k h)
            ·exact zav _ h
           ·obtain h|h:=zbU.mp k1
            ·exact zaD _ (g5 m y h (λh'=>k2 (zaD _ h')) k3 k4)
            ·exact absurd (zav _ h) k2
           ·obtain h|h:=zbU.mp y
            ·exact zaD _ (g6 m h k)
            ·rw[zaY.mp h];simp
         ·exact hN' _ _ ⟨qm++[r],Y,j,o,_,_,rfl,he',rfl,rfl,hm,g1,g2,g3,g4,g5,λm y k=>by
           obtain h|h:=zbU.mp y
           ·exact g6 m h k
           ·rw[zaY.mp h] at k;exact absurd k hh,g7,g8⟩
        ·have hb:=by simpa using hb
         exact hN' _ _ ⟨qm++[r],Y,j,o,_,_,rfl,he',rfl,rfl,hm,g1,g2,g3,g4,g5,λm y k=>by
          obtain h|h:=zbU.mp y
          ·exact g6 m h k
          ·rw[zaY.mp h];exact hb,g7,g8⟩
    ·have:=by simpa using hw
     subst this;refine⟨_,rfl,_,pM I,I.map (λk:Nat=>k),rfl,?_,by rw[zbV];lia,λns' hp hs=>?_⟩
     ·show aT _ (.loc t.length)=_;rw[Ij];rw[zcF];rfl
     ·let⟨Z,p1,p2,p3⟩:=jC hp hs;rw[p3];refine u9 (Gk _ _) (q Z p2 (p1.symm.nodup hn) λx=>?_);rw[p1.mem_iff];exact⟨h2 x,λhx=>hx.closed h1 λm hm W hh=>h4 m hm W (by simp) hh⟩
  ·intro x rest acc X t N' V hN';let⟨G,Z,v,u,he,rfl,rfl,rfl⟩:=V;cases Z with
   |nil=>simp[nL] at u
   |cons r Z=>
    injection u with h1 h2;subst h1;subst h2;push_cast[Cn];refine⟨sz rfl,by rw[zbV,yaf];have:=congrArg zcQ he;simp at this;lia,hN' _ _ _ ⟨G++[r],Z,_,rfl,by rw[zbn];exact he,by simp,rfl,rfl⟩⟩
def Dp:AN:=λds S Q=>∃(n:Nat)(h:List Mv)(st:List Nat)(sd wd:Str),ds=[(cS n h).d,.lst (nL st),.str sd,.str wd]/\n<=60/\(∀m∈h,CC n m)/\h.length<=60/\(∀s∈st,s<n)/\kP wd=true/\
 ∀a:List Nat,a.Pairwise (· <=·)->a.Nodup->(∀x,x∈a↔uG h st sd wd x)->Q (.new (.lst (nL a))) S
def C9:uG mv (d++[e]) sd wd g↔uG mv d sd wd g∨∃m∈mv.filter (λm=>decide (m.1=e)),take m.2.1 sd wd=true/\m.2.2=g:=by
 constructor
 ·rintro⟨m,h1,h2,j⟩;obtain h|h:=zbU.mp h2
  ·exact .inl ⟨m,h1,h,j⟩
  ·exact .inr ⟨m,zbT.mpr ⟨h1,yDt (zaY.mp h)⟩,j⟩
 ·rintro(⟨m,h1,h2,j⟩|⟨m,h1,h2⟩)
  ·refine⟨m,h1,zaD _ h2,j⟩
  ·let⟨h1,j⟩:=zbT.mp h1;refine⟨m,h1,zav _ (by rw[of_decide_eq_true j];simp),h2⟩
def OY(T:Txt K mg C fi)(F:Src K mg "gone_by_step" kH (top 24))(G:Def P w K mg base 1 "takes" iD (az K zj)):Def P w K mg base 2 "gone_by_step" kH (az K Dp):=by
 refine cA F oz (λds S Q h=>?_) (λf cdv A outer s H E l=>?_)
 ·let⟨n,u,st,sd,wd,rfl,_⟩:=h;rfl
 ·refine⟨_,(Vu (Vz 4 oz.nd (VQ M.jQ)) (Vu (VP PassesOwn.never rfl (VL (Vr 1)) (VM 5 oz.nd) (Vv (VP PassesOwn.never rfl (VL (M.oW (dI l) (Vr 0) (Vr 5) (λ_ _=>rfl))) (Wg rfl (VO (VM 6 oz.nd) (VO (VM 7 oz.nd) Wh))) (Vv (VH (V4 (VB G l (Vs (Vr 6) (Vs (Vr 2) (Vt (Vr 3)))))) (Vv (M.vj (dI l) (Vr 4) (Vr 7) VZ rfl)) VI))))) (Vv (VE (VS (M.zW l) T.sorted (Vt (Vr 4))))))),λds S Q h=>?_⟩;let⟨n,u,st,sd,wd,rfl,n6,hmv,hl,hst,hwd,q⟩:=h;have e0:aM Be [(cS n u).d,.lst (nL st),.str sd,.str wd]=[some (cS n u).d,some (.lst (nL st)),some (.str sd),some (.str wd),none,none,none,none]:=rfl;rw[e0];have at4:∀a,(S++[some a])[S.length]? =some (some a):=λa=>by simp
  have Ie:∀a c,(S++[some a]).set S.length (some c)=S++[some c]:=λa c=>by simp
  have DC:∀a,aT (S++[some a]) (.loc S.length)=a.d:=λa=>by simp only[aT,at4]
  push_cast[dU,bR];refine bf (λrest X S2=>∃(s1 L I:List Nat)(v5 W U:Option D),rest=nL L/\s1++L=st/\X=[some (cS n u).d,some (.lst (nL st)),some (.str sd),some (.str wd),some (.loc S.length),v5,W,U]/\S2=S++[some (fO I)]/\I.Nodup/\(∀k∈I,k<n)/\∀x,x∈I↔uG u s1 sd wd x) ?_ ?_ _ _ _
   ⟨[],st,[],none,none,none,rfl,rfl,rfl,rfl,.nil,by simp,λx=>⟨λh=>by simp at h,λ⟨m,_,h,_⟩=>by simp at h⟩⟩
  ·intro X S2 z;let⟨s1,L,I,v5,W,U,l,he,rfl,rfl,hn,Z,hx⟩:=z;have:L=[]:=by cases L with
    |nil=>rfl
    |cons _ _=>simp[nL] at l
   subst this;rw[zbW] at he;subst he;have hkl:=bw n I hn Z;push_cast[true_and];refine⟨_,pM I,I.map (λk:Nat=>k),rfl,?_,by rw[zbV];lia,λns' hp hs=>?_⟩
   ·rw[DC];rw[zcF];rfl
   ·let⟨rs,p1,p2,p3⟩:=jC hp hs;rw[p3];refine u9 (Gk _ _) (q rs p2 (p1.symm.nodup hn) λx=>?_);rw[p1.mem_iff,hx]
  ·intro x rest X S2 N' z hN';let⟨s1,L,I,v5,W,U,l,he,rfl,rfl,hn,Z,hx⟩:=z;cases L with
   |nil=>simp[nL] at l
   |cons a L=>
    injection l with e1 e2;subst e1;subst e2;have ha:=hst a (by rw[<-he];simp);push_cast[dU,bR,qc];refine⟨kN n,_,rfl,_,rfl,_,t7 ha,?_⟩;refine bf (λrest X S3=>∃(Y t:List Mv)(j:List Nat)(W U:Option D),rest=t.map pD/\Y++t=u.filter (λm=>decide (m.1=a))/\X=[some (cS n u).d,some (.lst (nL st)),some (.str sd),some (.str wd),some (.loc S.length),some (.int a),W,U]/\S3=S++[some (fO j)]/\j.Nodup/\(∀k∈j,k<n)/\∀x,x∈j↔uG u s1 sd wd x∨∃m∈Y,take m.2.1 sd wd=true/\m.2.2=x) ?_ ?_ _ _ _ ⟨[],u.filter (λm=>decide (m.1=a)),I,W,U,rfl,rfl,rfl,rfl,hn,Z,λx=>by rw[hx];simp⟩
    ·intro X S3 z;let⟨Y,t,j,W,U,l,y,rfl,rfl,v,o,O⟩:=z;have:t=[]:=by cases t with
      |nil=>rfl
      |cons _ _=>simp at l
     subst this;rw[zbW] at y;subst y;exact⟨trivial,hN' _ _ ⟨s1++[a],L,j,_,_,_,rfl,by rw[zbn];exact he,rfl,rfl,v,o,λx=>by rw[O,C9]⟩⟩
    ·intro x rest X S3 N2 z hN2;let⟨Y,t,j,W,U,l,y,rfl,rfl,v,o,O⟩:=z;cases t with
     |nil=>simp at l
     |cons r t=>
      injection l with e1 e2;subst e1;subst e2;have l:r∈u.filter (λm=>decide (m.1=a)):=by rw[<-y];simp
      have hrm:=(zbT.mp l).1;have ok:=hmv r hrm;have he':(Y++[r])++t=u.filter (λm=>decide (m.1=a)):=by rw[zbn];exact y
      refine⟨trivial,_,rfl,rfl,_,_,rfl,_,_,rfl,rfl,?_⟩;push_cast[true_and];refine⟨r.2.1,sd,wd,rfl,ok.2.1,hwd,_,rfl,cz (λhh=>?_) (λhh=>?_)⟩
      ·push_cast[uv];refine⟨_,rfl,pN j,pM j,_,rfl,at4 _,?_,?_⟩
       ·rw[pM,zbV];have:=bw n j v o;lia
       ·rw[Ie,Er];refine hN2 _ _ ⟨Y++[r],t,_,_,_,rfl,he',rfl,rfl,lz v,λk hk=>?_,λx=>?_⟩
        ·obtain h|h:=tO.mp hk
         ·exact o k h
         ·rw[h];exact ok.2.2
        ·rw[tO,O,or_assoc];refine or_congr Iff.rfl ⟨?_,?_⟩
         ·rintro(⟨m,h1,h2⟩|rfl)
          ·refine⟨m,zaD _ h1,h2⟩
          ·refine⟨r,by simp,hh,rfl⟩
         ·rintro⟨m,h1,h2⟩;obtain h|h:=zbU.mp h1
          ·exact .inl ⟨m,h,h2⟩
          ·rw[zaY.mp h] at h2;exact .inr h2.2.symm
      ·refine hN2 _ _ ⟨Y++[r],t,j,_,_,rfl,he',rfl,rfl,v,o,λx=>?_⟩;rw[O];refine or_congr Iff.rfl ⟨?_,?_⟩
       ·rintro⟨m,h1,h2⟩;refine⟨m,zaD _ h1,h2⟩
       ·rintro⟨m,h1,h2⟩;obtain h|h:=zbU.mp h1
        ·refine⟨m,h,h2⟩
        ·rw[zaY.mp h] at h2;exact absurd h2.1 hh
open PySem L2 M
noncomputable abbrev Bf:List Str:=["_law_script"]
noncomputable abbrev kI:=Bf
def ME:aH Bf kI (aj (top 39)):=L2.bT
noncomputable abbrev Bg:List Str:=["_law_feed_here","_law_many","_law_found","_law_at","_law_cell","_law_number"]
noncomputable abbrev d8:=Bg.take 2
def jf:aH Bg d8 (aj (top 40)):=L2.bT
noncomputable abbrev wQ:List Str:=["_law_feed_here","_law_many","_law_some_here","_law_names_here","_law_at"]
noncomputable abbrev iE:=wQ.take 2
def nF:aH wQ iE (aj (top 41)):=L2.bT
noncomputable abbrev wU:List Str:=["_law_feed_here","_law_words","_law_marks","_law_way"]
noncomputable abbrev gj:=wU.take 3
def zy:aH wU gj (aj (top 42)):=L2.bT
mutual
noncomputable def Lv:Pt->List Lf
 |.lf l=>[l]
 |.many p=>Lv p
 |.seq ps|.alt ps=>nV ps
noncomputable def nV:List Pt->List Lf
 |[]=>[]
 |p::ps=>Lv p++nV ps
end
mutual
noncomputable def N:Pt->Nat
 |.lf _=>1
 |.many p=>N p+1
 |.seq ps|.alt ps=>Ns ps+1
noncomputable def Ns:List Pt->Nat
 |[]=>0
 |p::ps=>N p+Ns ps
end
theorem iR:∀{ps:List Pt},d∈nV ps↔∃p∈ps,d∈Lv p
 |[]=>by simp[nV]
 |p::ps=>by simp only[nV,zbU,iR (ps:=ps),zcq,exists_eq_or_imp]
theorem gk:∀ps a,Ns (ps++a)=Ns ps+Ns a
 |[],a=>by simp[Ns]
 |p::ps,a=>by simp only[zbJ,Ns,gk ps a];lia
def SS:∀p,1<=N p:=λp=>by cases p<;>simp[N]
theorem yT:∀ps:List Pt,ps.length<=Ns ps
 |[]=>zcR _
 |p::ps=>by have:=yT ps;have:=SS p;simp only[Ns,zbB];lia
mutual
theorem vm:∀p,oc p+1<=2*N p
 |.lf _=>by simp[oc,N]
 |.many p=>by have:=vm p;simp only[oc,N];lia
 |.seq ps|.alt ps=>by have:=EI ps;simp only[oc,N];lia
theorem EI:∀ps,xZ ps<=2*Ns ps
 |[]=>by simp[xZ,Ns]
 |p::ps=>by have:=vm p;have:=EI ps;simp only[xZ,Ns];lia
end
mutual
theorem xY:∀{p:Pt},ni p↔∀l∈Lv p,qG l
 |.lf l=>by simp[ni,Lv]
 |.many p=>by simp only[ni,Lv];exact xY
 |.seq ps=>by simp only[ni,Lv];exact tH
 |.alt ps=>by simp only[ni,Lv];exact tH
theorem tH:∀{ps:List Pt},CA ps↔∀l∈nV ps,qG l
 |[]=>by simp[CA,nV]
 |p::ps=>by
  simp only[CA,nV,zbU];rw[xY,tH];exact⟨λh l a=>a.elim (h.1 l) (h.2 l),λh=>⟨λl a=>h l (.inl a),λl a=>h l (.inr a)⟩⟩
end
def P5(ws ms:List Str):Lf->Prop
 |.stay=>True
 |.step _ x=>x∈ws∨x="*"
 |.mk _ m=>m∈ms
def jy(ws ms:List Str)(p:Pt):Prop:=∀l∈Lv p,P5 ws ms l
def Nm(y:Str):Prop:=y∈NN
def o9(h:Nm d):kP d=true:=vq h
def P5.ok(h:P5 d ms e)(hw:∀y∈d,Nm y)(a:∀y∈ms,Nm y):qG e:=by
 cases e with
 |stay=>trivial
 |step b x=>
  obtain h|rfl:=h
  ·exact zaC _ (hw x h)
  ·exact zaV
 |mk b m=>exact a m h
theorem jy.ok(h:jy d ms e)(hw:∀y∈d,Nm y)(a:∀y∈ms,Nm y):ni e:=xY.mpr λl j=>(h l j).ok hw a
noncomputable def vO:List Key:=[.inr "cells",.inr "at",.inr "left"]
def Fd(n:Nat)(o:MO):Prop:=∃(ns:List Int)(a:Nat)(l:Int),o=.dct vO [.lst (ns.map D.int),.int a,.int l]/\a<=n/\0<=l
theorem k7:∀ns:List Int,bM (ns.map D.int)=true
 |[]=>rfl
 |n::ns=>by simp only[zcs,bM,cg,k7 ns,zcw]
theorem rJ:∀ns:List Str,bM (ns.map D.str)=true
 |[]=>rfl
 |n::ns=>by simp only[zcs,bM,cg,rJ ns,zcw]
theorem Fd.gH(h:Fd n o)(k):gh k o=true:=by
 let⟨ns,a,l,rfl,_⟩:=h;simp only[gh,iX,M.gH,zcx];exact cy k _ (k7 ns)
def Fd.mono(h:Fd n o)(e:n<=m):Fd m o:=by
 let⟨ns,a,l,rfl,h1,h2⟩:=h;refine⟨ns,a,l,rfl,by lia,h2⟩
def xE(h:S[d]? =some (some o)):(S.set d (some o'))[d]? =some (some o'):=by
 have a:d<S.length:=by
  obtain z|z:=zcL d S.length
  ·exact z
  ·rw[zaz z] at h;cases h
 rw[zbm,yIp rfl,yIp a]
def nR(h:gh S.length o=true):chg S (S.set d (some o)):=λk j l e=>by
 by_cases a:d=k
 ·rw[zbm] at e;lia
 ·rw[zaE a] at e;exact .inl e
def f7(h:cg d=true)(a:Fd n o)(q:g (.dat d) (S.set e (some o))):ret S (S.set e (some o)) (.dat d) g:=
 ⟨_,fE h,nR (a.gH _),by rw[zan (by simp)];exact q⟩
def sV(h:gh S.length o=true)(q:d (.new o) S):ret S (S++[some o]) (.dat (.loc S.length)) d:=by
 refine⟨.new o,?_,λk j a e=>.inl ?_,?_⟩
 ·simp only[out];rw[show(S++[some o])[S.length]? =some (some o) by simp];lia
 ·rw[zag a] at e;exact e
 ·rw[show(S++[some o]).take S.length=S by simp];exact q
theorem lay_ints:∀ns:List Int,PyData.canLayAll0 (eE (ns.map D.int))=true/\PyData.depthAll (eE (ns.map D.int))=0
 |[]=>⟨rfl,rfl⟩
 |n::ns=>by
  let⟨h1,h2⟩:=lay_ints ns;simp only[zcs,eE,py,PyData.canLayAll0,PyData.canLay0,PyData.depthAll,PyData.depth,h1,h2];simp
def FD(ns:List Int):fit (.lst (ns.map D.int))=true:=by
 let⟨h1,h2⟩:=lay_ints ns;unfold fit PySem.SeqAt.shaped;simp only[cg,k7,py,PyData.canLay0,PyData.depth,h1,h2];rfl
theorem iM(h:k<=n):HT.cV n d (some (k:Int))=k:=by
 rw[HT.iM];lia
def FT{α:Type}{a:List α}(h:k<=a.length):cutD a (some (k:Int)) none=a.drop k:=by
 unfold Wa;rw[iM h];show(a.drop k).take (a.length - k)=_;rw[zan (by simp)]
def FQ{α:Type}{a:List α}(h:k<=a.length):cutD a none (some (k:Int))=a.take k:=by
 unfold Wa;rw[iM h];rfl
def zH(h:out S.length d r=some r)(t:Fd n o)(l:d.take S.length=S.set g (some o))(q:z r (S.set g (some o))):ret S d r z:=by
 refine⟨r,h,λk j m e=>?_,by rw[l];exact q⟩;have s:(d.take S.length)[k]? =some (some j):=by rw[zaW,yIp m];exact e
 rw[l] at s;exact nR (t.gH _) k j m s
def IQ(h:bM ds=true):out n S (.new (.lst ds))=some (.new (.lst ds)):=by
 simp only[out];rw[yIp (show gh n (.lst ds)=true from cy n ds h)]
def CQ{a:List Str}(h:∀y∈a,kP y=true)(j:a.length<=100):uD 1 (.lst (a.map D.str))=true/\uD 1 (.tup (a.map D.str))=true:=by
 have:(a.map D.str).all (uD 0)=true:=by rw[zcB,zbE];exact h
 simp only[uD,this,zbV,yDt j];simp
def Dq:AN:=λds S Q=>∃ns:List Int,ds=[.mh ns]/\∀o,Fd 0 o->Q (.new o) S
def OZ(T:Txt K mg C fi)(F:Src K mg "_law_feed" kI (top 39)):Def P w K mg base 1 "_law_feed" kI (az K Dq):=by
 refine cA F ME (λds S Q h=>?_) (λf m A outer s H E n=>?_)
 ·let⟨ns,rfl,_⟩:=h;rfl
 ·refine⟨_,(Vv (VE (M.tE (M.gU (V6 M.jS T.list (Vs (Wb Wc (Vr 0) Wf (We Vx)) Vw)) (M.gU Vx (M.gU Vx M.sZ)))))),λds S Q h=>?_⟩;let⟨ns,rfl,q⟩:=h;have l:aM Bf [.mh ns]=[some (.mh ns)]:=rfl;rw[l];push_cast[Gy,uq,A0];have a:(S++[some (MO.dct [] [])])[S.length]? =some (some (MO.dct [] [])):=by simp
  refine⟨a,?_⟩;have j:List.set (S++[some (MO.dct [] [])]) S.length (some (MO.dct (zcY Sum.inr ["cells","at","left"]) [.lst (zcY D.int (cutD ns none (some 63))),.int 0,.int 0]))=S++[some (MO.dct vO [.lst ((cutD ns none (some 63)).map D.int),.int (0:Nat),.int 0])]:=by
   rw[zax _ _ (zcR _),Nat.sub_self];rfl
  rw[j];have fd:Fd 0 (.dct vO [.lst ((cutD ns none (some 63)).map D.int),.int (0:Nat),.int 0]):=⟨_,0,0,rfl,zcR _,Int.le_refl _⟩
  exact sV (fd.gH _) (q _ fd)
def eX:AN:=λds S Q=>∃(p n:Nat)(m:Int)(o:MO),ds=[.loc p,.int m]/\S[p]? =some (some o)/\Fd n o/\n<1000000000000/\0<m/\m<1000/\∀(z:Nat)(a),(z:Int)<m->Fd (n+1) a->Q (.dat (.int z)) (S.set p (some a))
def O1(T:Txt K mg C fi)(F:Src K mg "_law_draw" d8 (top 40)):Def P w K mg base 1 "_law_draw" d8 (az K eX):=by
 refine cA F jf (λds S Q h=>?_) (λf cdv A outer s H E I=>?_)
 ·let⟨p,n,m,o,rfl,_⟩:=h;rfl
 ·refine⟨_,(Vu (VH (VC M.IZ (Wz (dI I) (Vr 0) VA (λ_ _=>rfl)) Vx (aG _)) (Vu (Vz 2 jf.nd (VD V9 (Wz (dI I) (Vr 0) VA (λ_ _=>rfl)) (Vr 1))) (Vu (M.iO (dI I) (Vr 0) VA (VD M.tM (Wz (dI I) (Vr 0) VA (λ_ _=>rfl)) (Vr 1)) rfl) (Vv (VE (Vr 2))))) VI) (Vu (Vz 3 jf.nd (Wz (dI I) (Vr 0) VA (λ_ _=>rfl))) (Vu (M.iO (dI I) (Vr 0) VA (VD VN (Vr 3) Vx) rfl) (Vu (Vz 4 jf.nd (Vr 3)) (Vu (VH (VC (Wn I) (Wz (dI I) (Vr 0) VA (λ_ _=>rfl)) (VG Vw) (aG _)) (Vv (Vz 4 jf.nd (V0 (Wz (dI I) (Vr 0) VA (λ_ _=>rfl)) (VD V9 (Vr 3) (VS V5 T.len (Vs (Wz (dI I) (Vr 0) VA (λ_ _=>rfl)) Vw)))))) VI) (Vu (VH (VC M.Ja (Vr 4) (VD M.Lu Vx Vx) (aG _)) (Vu (M.iO (dI I) (Vr 0) VA (VD M.tM (Vr 4) (Vr 1)) rfl) (Vv (VE (VD V9 (Vr 4) (Vr 1))))) VI) (Vu (Vz 5 jf.nd (VD V9 (VD WG (VD VN (VD VN (VD VN (VD V9 (Vr 4) Vx) (VD WG (VD WG Vx (Vr 3)) (Vr 3))) (VD WG Vx (Vr 3))) Vx) Vx) Vx)) (Vu (Vz 5 jf.nd (VD V9 (VD WG (VD VN (VD WG (Vr 5) (Vr 5)) (Vr 3)) Vx) Vx)) (Vv (VE (VD V9 (VD M.tM (Vr 5) Vx) (Vr 1)))))))))))),λds S Q h=>?_⟩;let⟨p,n,m,o,rfl,hS,⟨ns,a,l,rfl,ha,hl⟩,hn,O,m1,q⟩:=h;have e0:aM Bg [.loc p,.int m]=[some (.loc p),some (.int m),none,none,none,none]:=rfl;rw[e0];have s1:aT S (.loc p)=.dct vO [.lst (ns.map D.int),.int a,.int l]:=by simp only[aT,hS];rfl
  have g1:∀x y z,dR vO [x,y,z] (.inr "left")=some z:=λx y z=>rfl;have g2:∀x y z,dR vO [x,y,z] (.inr "at")=some y:=λx y z=>rfl;have g3:∀x y z,dR vO [x,y,z] (.inr "cells")=some x:=λx y z=>rfl;have p2:∀x y z d,j9 vO [x,y,z] (.inr "at") d=.dct vO [x,d,z]:=λx y z d=>rfl;push_cast[GC,GB,s1,D.dct.injEq];refine⟨_,g1 _ _ _,?_⟩;push_cast[true_and];refine cz (λh=>?_) (λh=>?_)
  ·refine⟨_,_,s1,_,g1 _ _ _,?_⟩;push_cast[true_and];refine⟨O,_,_,s1,_,g1 _ _ _,?_⟩;push_cast[true_and];refine⟨⟨O,by lia⟩,p,rfl,_,_,hS,by simp,?_⟩;have h0:=zce l (show m≠0 by lia);have h1:=zbd l O;obtain⟨y,X⟩:∃y:Nat,l % m=y:=⟨(l % m).toNat,by lia⟩
   rw[X] at h1⊢;have fd:Fd (n+1) (.dct vO [.lst (ns.map D.int),.int a,.int (l / m)]):=⟨ns,a,_,rfl,by lia,Int.ediv_nonneg hl (by lia)⟩
   exact f7 rfl fd (q y _ h1 fd)
  ·refine⟨_,_,s1,_,g2 _ _ _,?_⟩;push_cast[true_and];refine⟨p,rfl,_,_,hS,by simp,?_⟩;rw[p2];have e1:a+1=((a+1:Nat):Int):=by lia
   rw[e1];have fd:Fd (n+1) (.dct vO [.lst (ns.map D.int),.int ((a+1:Nat):Int),.int l]):=⟨ns,a+1,_,rfl,by lia,hl⟩
   have W:=xE (o':=.dct vO [.lst (ns.map D.int),.int ((a+1:Nat):Int),.int l]) hS;generalize Z:S.set p (some (.dct vO [.lst (ns.map D.int),.int ((a+1:Nat):Int),.int l]))=G at W⊢;have s2:aT G (.loc p)=.dct vO [.lst (ns.map D.int),.int ((a+1:Nat):Int),.int l]:=by simp only[aT,W];rfl
   refine⟨_,_,s2,_,g3 _ _ _,zcS _,?_⟩;have L:∀c,KH 10 18/\if decide (10 ^ zcX 18<=c)=true then KI c m/\∃n,D.loc p=D.loc n/\∃x U,G[n]? =some (some (MO.dct x U))/\U.length<1000/\0<m/\VT S (List.set G n (some (j9 x U (Sum.inr "left") (D.int (c / m))))) (R.dat (D.int (c % m))) Q
      else
       (0:Int)<1000003/\
        uu (D.int 7) (D.int a) G λx G=>
         uu x.d (D.int a) G λy S2=>
          qd (D.int (c % 1000003)) y.d S2 λx G=>
           uu (D.int 31) (D.int a) G λy S2=>
            qd x.d y.d S2 λx G=>
             qd x.d (D.int 1) G λx G=>
              uu x.d (D.int 48271) G λx G=>
               aI (λx j=>0<j) (λi j=>D.int (i % j)) x.d (D.int 999983) G λr G=>
                uu r.d r.d G λx G=>
                 qd x.d (D.int a) G λx G=>
                  uu x.d (D.int 30269) G λx G=>
                   aI (λx j=>0<j) (λi j=>D.int (i % j)) x.d (D.int 2147483629) G
                    λr G=>
                    aI KI (λi j=>D.int (i / j)) r.d (D.int 7) G λx G=>
                     aI (λx j=>0<j) (λi j=>D.int (i % j)) x.d (D.int m) G λr S'=>
                      VT S S' r Q:=by
    intro c;refine⟨⟨by decide,by decide,by decide⟩,cz (λh=>?_) (λh=>?_)⟩
    ·have hc:=of_decide_eq_true h;have hc0:0<=c:=Int.le_trans (by decide) hc;refine⟨⟨O,by lia⟩,p,rfl,_,_,W,by simp,O,?_⟩;rw[<-Z,zcD];have h0:=zce c (show m≠0 by lia);have h1:=zbd c O;obtain⟨y,X⟩:∃y:Nat,c % m=y:=⟨(c % m).toNat,by lia⟩
     rw[X] at h1⊢;have fd2:Fd (n+1) (.dct vO [.lst (ns.map D.int),.int ((a+1:Nat):Int),.int (c / m)]):=⟨ns,a+1,_,rfl,by lia,Int.ediv_nonneg hc0 (by lia)⟩
     exact f7 rfl fd2 (q y _ h1 fd2)
    ·push_cast[ER];refine⟨by decide,.inl ⟨by decide,by decide⟩,.inr ⟨by lia,by lia⟩,.inl ⟨by decide,by decide⟩,.inr ⟨by decide,by decide⟩,by decide,?_⟩;generalize (c % 1000003+7*a*a+31*a+1)*48271=u;have c0:=zce u (show(999983:Int)≠0 by decide);have c1:=zbd u (show(0:Int)<999983 by decide);generalize u % 999983=v at c0 c1⊢;refine⟨.inl ⟨by lia,by lia⟩,.inr ⟨by decide,by decide⟩,by decide,⟨by decide,by decide⟩,O,?_⟩;generalize (v*v+a)*30269 % 2147483629 / 7=t;have h0:=zce t (show m≠0 by lia);have h1:=zbd t O;obtain⟨y,X⟩:∃y:Nat,t % m=y:=⟨(t % m).toNat,by lia⟩
     rw[X] at h1⊢;rw[<-Z];exact f7 rfl fd (q y _ h1 fd)
   refine⟨FD ns,rfl,_,rfl,cz (λh=>?_) (λh=>?_)⟩
   ·have hne:ns≠[]:=by
     intro e;subst e;exact absurd h (by show¬((!PyData.eqv (.list []) (.list []))=true);decide)
    have Y:=List.length_pos_iff.mpr hne;refine⟨_,_,s2,_,g3 _ _ _,_,_,s2,_,g3 _ _ _,ns.length,by simp[gz,aT],by lia,?_⟩;have hm:a % ns.length<ns.length:=Nat.mod_lt _ Y;refine⟨.int ns[a % ns.length],gF (by simp[hm]),?_⟩;push_cast[true_and];exact L _
   ·exact L _
def gE(j:S[d]? =some (some o))(a:Fd n o)(h:n<1000000000000)(l:0<e)(h1:e<1000)(k:∀(z:Nat)(o'),(z:Int)<e->Fd (n+1) o'->g (.dat (.int z)) (S.set d (some o'))):eX [.loc d,.int e] S g:=
 ⟨d,n,e,o,rfl,j,a,h,l,h1,k⟩
noncomputable def NA:List Str:=["a","ab","abc","b","ba","bab","c"]
noncomputable def NB:List Str:=["on","back","at","stay","many","then","tie"]
noncomputable def NC:List Str:=["k","w","xxxxxxxx","xxxxxxx","m","q","z"]
def Rj(l)(h:l=NA∨l=NB∨l=NC):l.length=7/\∀y∈l,Nm y:=by
 have key:∀l:List Str,(decide (l.length=7)&&l.all λy=>decide (y∈NN))=true->l.length=7/\∀y∈l,Nm y:=λl h=>by
  rw[zbR,zbE] at h;exact⟨of_decide_eq_true h.1,λy a=>(of_decide_eq_true (h.2 y a):y∈NN)⟩
 obtain rfl|rfl|rfl:=h
 ·exact key _ (by rfl)
 ·exact key _ (by rfl)
 ·exact key _ (by rfl)
def sN:AN:=λds S Q=>∃(p n m:Nat)(o:MO),ds=[.loc p,.int m]/\S[p]? =some (some o)/\Fd n o/\n+2<1000000000000/\m<=7/\∀(a:List Str)(h),a.length=m->(∀y∈a,Nm y)->Fd (n+2) h->Q (.new (.lst (a.map D.str))) (S.set p (some h))
def JI(T:Txt K mg C fi)(F:Src K mg "_law_names" iE (top 41))(a:Def P w K mg base 1 "_law_draw" d8 (az K eX)):Def P w K mg base 2 "_law_names" iE (az K sN):=by
 refine cA F nF (λds S Q h=>?_) (λf cdv A outer s H E hr=>?_)
 ·let⟨p,n,m,o,rfl,_⟩:=h;rfl
 ·refine⟨_,(Vu (Vz 2 nF.nd (VQ (VG (Vs (VG (Vs VA (Vs VA (Vs VA (Vs VA (Vs VA (Vs VA (Vt VA)))))))) (Vs (VG (Vs VA (Vs VA (Vs VA (Vs VA (Vs VA (Vs VA (Vt VA)))))))) Vw))))) (Vu (VX (VY PySem.F.plainAttrs_list PySem.F.slot_list_append PySem.F.type_list_append V7 (Vr 2) (Vs (VG (Vs VA (Vs VA (Vs VA (Vs VA (Vs VA (Vs VA (Vt VA)))))))) Vw))) (Vu (Vz 3 nF.nd (V0 (Vr 2) (VB a hr (Vs (Vr 0) (Vt Vx))))) (Vu (Vz 4 nF.nd (VB a hr (Vs (Vr 0) (Vt Vx)))) (Vv (VE (Wb Wc (VD VN (Wb Wc (Vr 3) (We (Vr 4)) Wf) (Wb Wc (Vr 3) Wf (We (Vr 4)))) Wf (We (Vr 1))))))))),λds S Q h=>?_⟩;let⟨p,n,m,o,rfl,W,ho,hn,hm,q⟩:=h;have e0:aM wQ [.loc p,.int m]=[some (.loc p),some (.int m),none,none,none]:=rfl;rw[e0];push_cast[bO,kQ,vJ,A8];have Z:p<S.length:=by
   obtain z|z:=zcL p S.length
   ·exact z
   ·rw[zaz z] at W;cases W
  have U:∀(S:aK)(o:MO),(S++[some o])[S.length]? =some (some o):=λS o=>by simp
  refine⟨sz rfl,sz rfl,sz rfl,by simp[aT,MO.d],sz rfl,S.length,rfl,_,U _ _,by decide,?_⟩;have e1:∀x y,List.set (S++[some x]) S.length (some y)=S++[some y]:=λx y=>by simp
  rw[e1];refine gE (by rw[zag Z];exact W) ho (by lia) (by decide) (by decide) λX Y hz1 ho1=>?_;rw[zaG _ _ Z];have O:(S.set p (some Y)).length=S.length:=zbY ..;have Ij:∀(S1:aK)(L:List D),S1.length=S.length->aT (S1++[some (.lst L)]) (.loc S.length)=.lst L:=λS1 L h=>by
   simp only[aT];rw[<-h,U];rfl
  unfold qF;rw[Ij _ _ O];let⟨e,he,I⟩:=AV (ds:=[D.lst (NA.map D.str),D.lst (NB.map D.str),D.lst (NC.map D.str)]) (by show X<3;lia);refine⟨e,he,?_⟩;obtain⟨l,rfl,hl⟩:∃l:List Str,e=.lst (l.map D.str)/\(l=NA∨l=NB∨l=NC):=by
   simp only[zcq,zbH,or_false] at I;obtain rfl|rfl|rfl:=I
   ·refine⟨_,rfl,.inl rfl⟩
   ·refine⟨_,rfl,.inr (.inl rfl)⟩
   ·refine⟨_,rfl,.inr (.inr rfl)⟩
  let⟨l7,G⟩:=Rj l hl;have u:p<(S.set p (some Y)).length:=by rw[O];exact Z
  refine gE (by rw[zag u];exact xE W) ho1 (by lia) (by decide) (by decide) λj o2 hz2 v=>?_;rw[zaG _ _ u];have hz:j<=(l.map D.str).length:=by rw[zbV];lia
  unfold p9;push_cast[true_and];rw[FT hz,FQ hz];refine⟨by rw[zbC,zbA,zbV,yaf];lia,?_⟩;have e4:(l.map D.str).drop j++(l.map D.str).take j=(l.drop j++l.take j).map D.str:=by simp
  have ab:(l.drop j++l.take j).length=7:=by rw[zaU,zbC,zbA];lia
  rw[e4,FQ (by rw[zbV];lia),<-zcu];refine zH (IQ (rJ _)) v (by simp) (q _ o2 (by rw[zbA];lia) (λy t=>?_) v);have t:=List.mem_of_mem_take t;obtain t|t:=zbU.mp t
  ·exact G y (List.mem_of_mem_drop t)
  ·exact G y (List.mem_of_mem_take t)
def nB:AN:=λds S Q=>∃(p n:Nat)(ws ms:List Str)(o:MO),ds=[.loc p,.lst (ws.map D.str),.lst (ms.map D.str)]/\(∀y∈ws,Nm y)/\(∀y∈ms,Nm y)/\ws.length<=7/\ms.length<=7/\S[p]? =some (some o)/\Fd n o/\n+2<1000000000000/\
 ∀(x)(a),P5 ws ms x->Fd (n+2) a->Q (.dat (lD x)) (S.set p (some a))
def JK(T:Txt K mg C fi)(F:Src K mg "_law_leaf" gj (top 42))(j:Def P w K mg base 1 "_law_draw" d8 (az K eX)):Def P w K mg base 2 "_law_leaf" gj (az K nB):=by
 refine cA F zy (λds S Q h=>?_) (λf cdv A outer s H E L=>?_)
 ·let⟨p,n,ws,ms,o,rfl,_⟩:=h;rfl
 ·refine⟨_,(Vu (Vz 3 zy.nd (VB j L (Vs (Vr 0) (Vt Vx)))) (Vu (VH (VC (VJ L) (Vr 3) Vx (aG _)) (Vv (VE (VF (Vt VA)))) VI) (Vu (VH (V8 (Wi (VC WA (Vr 3) Vx (aG _)) (Wm (VC (Wn L) (Vr 2) (VG Vw) (aG _))))) (Vv (VE (VF (Vs (V0 (VG (Vs VA (Vt VA))) (VD M.vn (Vr 3) Vx)) (Vs (V0 (Vr 2) (VB j L (Vs (Vr 0) (Vs (VS V5 T.len (Vt (Vr 2))) Vw)))) Vw))))) VI) (Vv (VE (VF (Vs VA (Vs (V0 (VG (Vs VA (Vs VA (Vt VA)))) (VD V9 (Vr 3) Vx)) (Vs (V0 (VD VN (Vr 1) (VG (Vt VA))) (VB j L (Vs (Vr 0) (Vs (VD VN (VS V5 T.len (Vt (Vr 1))) Vx) Vw)))) Vw))))))))),λds S Q h=>?_⟩;let⟨p,n,ws,ms,o,rfl,hw,hm,lw,lm,hS,ho,hn,q⟩:=h;have e0:aM wU [.loc p,.lst (ws.map D.str),.lst (ms.map D.str)]=[some (.loc p),some (.lst (ws.map D.str)),some (.lst (ms.map D.str)),none]:=rfl;rw[e0];push_cast[true_and];refine gE hS ho (by lia) (by decide) (by decide) λy W Y t=>?_;push_cast[true_and];have O:=xE (o':=W) hS;have step:∀u,u=S.set p (some W)->qF (D.lst [D.str "on",D.str "on",D.str "back"]) (D.int (y % 3)) u (λx u=>[D.str "*"].length<=yag/\(zcY D.str ws).length+[D.str "*"].length<=yag/\∃G,gz (D.lst (zcY D.str ws))=some G/\eX [D.loc p,D.int (G+1)] u λy S2=>qF (D.lst (zcY D.str ws++[D.str "*"])) y.d S2 λv u=>[D.str "step",x.d,v.d].length<=yag/\VT S u (R.dat (D.tup [D.str "step",x.d,v.d])) Q):=by
   rintro u rfl;refine pick (by show y % 3<3;lia) λe l=>?_;obtain⟨b,rfl⟩:∃b,e=.str (side b):=by
    simp only[zcq,zbH,or_false] at l;obtain rfl|rfl|rfl:=l
    ·exact⟨true,rfl⟩
    ·exact⟨true,rfl⟩
    ·exact⟨false,rfl⟩
   refine⟨sz rfl,by rw[zbV,yaf];show ws.length+1<=_;lia,ws.length,by simp[gz],?_⟩;refine gE O t (by lia) (by lia) (by lia) λz U hz m=>?_;rw[zcD];refine pick (by rw[zaU,zbV];show z<ws.length+1;lia) λe l=>?_;obtain⟨x,rfl,I⟩:∃x,e=.str x/\(x∈ws∨x="*"):=by
    obtain l|l:=zbU.mp l
    ·let⟨x,I,rfl⟩:=zcE.mp l;refine⟨x,rfl,.inl I⟩
    ·simp only[zaY] at l;refine⟨_,l,.inr rfl⟩
   exact⟨sz rfl,f7 (by rfl) m (q (.step b x) U I m)⟩
  refine cz (λh=>?_) (λh=>cz (λh3=>?_) (λh3=>?_))
  ·exact⟨sz rfl,f7 rfl t (q .stay W trivial (t.mono (by lia)))⟩
  ·refine⟨zcS _,?_⟩;refine⟨kW (CQ (λy Y=>o9 (hm y Y)) (by lia)).1 (by decide),rfl,_,rfl,cz (λhb=>?_) (λhb=>⟨sz rfl,by decide,step _ rfl⟩)⟩;have Z:0<ms.length:=by
    cases ms with
    |nil=>exact absurd hb (by show¬((!PyData.eqv (.list []) (.list []))=true);decide)
    |cons a r=>simp
   refine⟨sz rfl,?_⟩;have X:y - 1=((y - 1:Nat):Int):=by lia
   rw[X];refine pick (by show y - 1<2;lia) λe l=>?_;obtain⟨b,rfl⟩:∃b,e=.str (Tr b):=by
    simp only[zcq,zbH,or_false] at l;obtain rfl|rfl:=l
    ·exact⟨true,rfl⟩
    ·exact⟨false,rfl⟩
   refine⟨ms.length,by simp[gz],?_⟩;refine gE O t (by lia) (by lia) (by lia) λz U hz m=>?_;rw[zcD];refine pick (by rw[zbV];lia) λe l=>?_;let⟨x,I,rfl⟩:=zcE.mp l;exact⟨sz rfl,f7 (by rfl) m (q (.mk b x) U I m)⟩
  ·refine⟨sz rfl,by decide,step _ rfl⟩
open PySem L2 M
noncomputable abbrev uX:Stmt:=top 43
noncomputable abbrev Bb:List Str:=["_law_feed_here","_law_words","_law_marks","_law_bag","_law_deep","_law_way","_law_some_here","_law_k"]
noncomputable abbrev dG:=Bb.take 5
def ou:aH Bb dG (aj uX):=L2.bT
noncomputable def mZ:Nat->Nat
 |0=>3
 |k+1=>3+4*mZ k
def UJ(k):3<=mZ k:=by cases k<;>simp[mZ]<;>lia
def MC(h:d≠q)(e:S[q]? =k):(S.set d g)[q]? =k:=by rw[zaE h];exact e
def oG(h:out S.length d r=some r)(y:Fd n o)(t:gh S.length z=true)(u:d.take S.length=(S.set g (some o)).set q (some z))(x:F r ((S.set g (some o)).set q (some z))):ret S d r F:=by
 refine⟨r,h,λk s v e=>?_,by rw[u];exact x⟩;have a:(d.take S.length)[k]? =some (some s):=by rw[zaW,yIp v];exact e
 rw[u] at a;by_cases j:q=k
 ·rw[zbm] at a;lia
 ·rw[zaE j] at a;exact nR (y.gH _) k s v a
noncomputable def T2(S:aK)(p q:Nat)(o:MO)(c:Nat):aK:=(S.set p (some o)).set q (some (.lst [.int c]))
def vE(h:S[d]? =some (some o)):d<S.length:=by
 obtain z|z:=zcL d S.length
 ·exact z
 ·rw[zaz z] at h;cases h
def SO:(T2 S d q o c).length=S.length:=by simp[T2]
def UZ(h:q<S.length):(T2 S d q o c)[q]? =some (some (.lst [.int c])):=by
 unfold T2;rw[zbm,yIp rfl,yIp (by simpa using h)]
def TF(h:d<S.length)(a:d≠q):(T2 S d q o c)[d]? =some (some o):=by
 unfold T2;rw[zaE (λe=>a e.symm),zbm,yIp rfl,yIp h]
def J5(a:d≠q):(T2 S d q o c).set d (some o')=T2 S d q o' c:=by
 unfold T2;rw[List.set_comm _ _ (λe=>a e.symm),zcD]
def SN{a:Nat}:(T2 S d q o c).set q (some (.lst [.int a]))=T2 S d q o a:=by
 unfold T2;rw[zcD]
theorem FF:∀{ps:List Pt}{j:Nat},(∀x∈ps,dp x<=j)->uE ps<=j
 |[],j,_=>zcS _
 |p::ps,j,h=>by
  have h1:=h p zaV;have h2:=FF λx a=>h x (zaC _ a);simp only[uE];lia
def kY(k:Nat):AN:=λds S Q=>∃(p q n b:Nat)(ws ms:List Str)(o:MO),ds=[.loc p,.lst (ws.map D.str),.lst (ms.map D.str),.loc q,.int k]/\(∀y∈ws,Nm y)/\(∀y∈ms,Nm y)/\ws.length<=7/\ms.length<=7/\p≠q/\S[p]? =some (some o)/\S[q]? =some (some (.lst [.int b]))/\1<=b/\b<=8/\Fd n o/\n+mZ k<1000000000000/\
 ∀(x)(a)(c),dp x<=k->N x+c=b->jy ws ms x->Fd (n+mZ k) a->Q (.dat (tD x)) ((S.set p (some a)).set q (some (.lst [.int c])))
def Ay(T:Txt K mg C fi)(F:Src K mg "_law_pattern" dG uX)(G:Def P w K mg base 1 "_law_draw" d8 (az K eX))(fh:Def P w K mg base 2 "_law_leaf" gj (az K nB))(k)(hk:k<=4)(u:Def P w K mg base (k+2) "_law_pattern" dG (az K (λds S Q=>∃j,j+1=k/\kY j ds S Q))):
  Def P w K mg base (k+3) "_law_pattern" dG (az K (kY k)):=by
 refine cA F ou (λds S Q h=>?_) (λf cdv A outer s H E hr=>?_)
 ·let⟨p,q,n,b,ws,ms,o,rfl,_⟩:=h;rfl
 ·refine⟨_,(Vu (WB (Vr 3) Vx (VD M.vn (Vy (Vr 3)) Vx)) (Vu (Vz 5 ou.nd (Wq G (hr.mono (by lia)) (by rfl) (Vs (Vr 0) (Vt Vx)))) (Vu (VH (V8 (WC (VC WA (Vr 5) Vx (aG _)) (WC (VC WA (Vy (Vr 3)) Vx (aG _)) (WO (VC (VJ hr) (Vr 4) Vx (aG _)))))) (Vv (VE (Wq fh (hr.mono (by lia)) (by rfl) (Vs (Vr 0) (Vs (Vr 1) (Vt (Vr 2))))))) VI) (Vu (VH (VC (VJ hr) (Vr 5) Vx (aG _)) (Vv (VE (VF (Vs VA (Vs (Wq u (hr.mono (by lia)) (by rfl) (Vs (Vr 0) (Vs (Vr 1) (Vs (Vr 2) (Vs (Vr 3) (Vs (VD M.vn (Vr 4) Vx) Vw)))))) Vw))))) VI) (Vu (Vz 6 ou.nd (VQ (VG Vw))) (Vu (VP PassesOwn.never rfl (M.jl (by rfl) T.range (Vs (V0 (VG (Vs Vx (Vs Vx (Vs Vx (Vs Vx (Vs Vx (Vs Vx (Vs Vx (Vt Vx))))))))) (Wq G (hr.mono (by lia)) (by rfl) (Vs (Vr 0) (Vt Vx)))) Vw)) (VM 7 ou.nd) (Vv (VH (VC M.IZ (Vy (Vr 3)) Vx (aG _)) (Vv (VX (VY PySem.F.plainAttrs_list PySem.F.slot_list_append PySem.F.type_list_append V7 (Vr 6) (Vs (Wq u (hr.mono (by lia)) (by rfl) (Vs (Vr 0) (Vs (Vr 1) (Vs (Vr 2) (Vs (Vr 3) (Vs (VD M.vn (Vr 4) Vx) Vw)))))) Vw)))) VI))) (Vv (VE (VF (Vs (V0 (VG (Vs VA (Vt VA))) (VD V9 (Vr 5) Vx)) (Vs (V6 Ws T.tuple (Vt (Vr 6))) Vw))))))))))),λds S Q h=>?_⟩;let⟨p,q,n,b,ws,ms,o,rfl,hw,hm_,lw,lm,I,hS,hB,hb1,hb8,ho,hn,hq⟩:=h;have e0:aM Bb [.loc p,.lst (ws.map D.str),.lst (ms.map D.str),.loc q,.int k]=[some (.loc p),some (.lst (ws.map D.str)),some (.lst (ms.map D.str)),some (.loc q),some (.int k),none,none,none]:=rfl;rw[e0];have d3:=UJ k;have ix0:∀(S:aK)(c:Int),S[q]? =some (some (.lst [.int c]))->∀Q,Q (.dat (.int c)) S->qF (.loc q) (.int 0) S Q:=λS c h Q hq=>by
   unfold qF;rw[show aT S (.loc q)=.lst [.int c] by simp only[aT,h];rfl];refine⟨_,rfl,hq⟩
  push_cast[ko];refine ix0 S b hB _ ?_;push_cast[true_and];refine⟨q,rfl,_,hB,0,rfl,?_⟩;obtain⟨c,rfl⟩:∃c,b=c+1:=⟨b - 1,by lia⟩
  have ec:[D.int ((c+1:Nat):Int)].set 0 (D.int (((c+1:Nat):Int) - 1))=[D.int c]:=by
   simp
  rw[ec];refine gE (MC (λe=>I e.symm) hS) ho (by lia) (by decide) (by decide) λz o1 hz ho1=>?_;have hp:=vE hS;have Z:=vE hB;rw[show(S.set q (some (.lst [.int c]))).set p (some o1)=T2 S p q o1 c from List.set_comm _ _ (λe=>I e.symm)];have Y:∀r':Nat,nB [D.loc p,D.lst (ws.map D.str),D.lst (ms.map D.str)] (T2 S p q o1 c) λr S'=>VT S S' r Q:=λ_=>by
   refine⟨p,n+1,ws,ms,o1,rfl,hw,hm_,lw,lm,TF hp I,ho1,by lia,λx o' hok U=>?_⟩;rw[J5 I];exact oG (fE (eW (.lf x))) U rfl (zan (by simp[T2])) (hq (.lf x) o' c (zcS _) (by simp only[N];lia) (λl hl=>by rw[show Lv (.lf x)=[x] from rfl,zaY] at hl;exact hl▸hok) (U.mono (by lia)))
  push_cast[true_and];refine cz (λ_=>Y 0) (λ_=>?_);refine ix0 _ c (UZ Z) _ ?_;push_cast[true_and];refine cz (λ_=>Y 0) (λhc1=>?_);refine cz (λ_=>Y 0) (λhk0=>?_);obtain⟨j,rfl⟩:∃j,k=j+1:=⟨k - 1,by lia⟩
  have ej:((j+1:Nat):Int) - 1=j:=by lia
  have ed:mZ (j+1)=3+4*mZ j:=rfl;refine cz (λ_=>?_) (λ_=>?_)
  ·rw[ej];refine⟨j,rfl,p,q,n+1,c,ws,ms,o1,rfl,hw,hm_,lw,lm,I,TF hp I,UZ Z,by lia,by lia,ho1,by lia,λx o' c' hd hN hok U=>⟨sz rfl,?_⟩⟩;rw[J5 I,SN];have hN2:N (.many x)+c'=c+1:=by simp only[N];lia
   exact oG (fE (eW (.many x))) U rfl (zan (by simp[T2])) (hq (.many x) o' c' (by simp only[dp];lia) hN2 hok (U.mono (by lia)))
  ·push_cast[dU,Jq];refine⟨zcS _,sz rfl,?_⟩;have hl1:(T2 S p q o1 c).length=S.length:=SO;rw[hl1];refine gE (by rw[zag (by rw[hl1];exact hp)];exact TF hp I) ho1 (by lia) (by decide) (by decide) λy o2 X ho2=>?_;rw[zaG _ _ (by rw[hl1];exact hp),J5 I];refine pick (by show y<8;lia) λm hm=>?_;obtain⟨mm,rfl,hmm⟩:∃mm:Nat,m=.int mm/\mm<=4:=by
    simp only[zcq,zbH,or_false] at hm;obtain rfl|rfl|rfl|rfl|rfl|rfl|rfl|rfl:=hm
    ·refine⟨2,rfl,by decide⟩
    ·refine⟨3,rfl,by decide⟩
    ·refine⟨0,rfl,by decide⟩
    ·refine⟨1,rfl,by decide⟩
    ·refine⟨2,rfl,by decide⟩
    ·refine⟨2,rfl,by decide⟩
    ·refine⟨4,rfl,by decide⟩
    ·refine⟨3,rfl,by decide⟩
   refine⟨mm,rfl,by lia,by lia,?_⟩;have hmd:mm*mZ j<=4*mZ j:=Nat.mul_le_mul_right _ hmm;refine bf (λrest δ S'=>∃(n2 L:Nat)(O:MO)(v:List Pt)(v7:Option D),δ=[some (.loc p),some (.lst (ws.map D.str)),some (.lst (ms.map D.str)),some (.loc q),some (.int ((j+1:Nat):Int)),some (.int z),some (.loc S.length),v7]/\S'=T2 S p q O L++[some (.lst (v.map tD))]/\Fd n2 O/\n2+rest.length*mZ j<=n+2+mm*mZ j/\Ns v+L=c/\(∀x∈v,dp x<=j)/\(∀x∈v,jy ws ms x)/\v.length+rest.length<=mm) ?_ ?_ _ _ _
    ⟨n+2,c,o2,[],none,rfl,rfl,ho2,by simp[j4],by simp[Ns],by simp,by simp,by simp[j4]⟩
   ·intro δ S' i;let⟨n2,L,O,v,v7,rfl,rfl,ho3,hn2,hNs,hdp,hok,ab⟩:=i;push_cast[wD];have W:(T2 S p q O L).length=S.length:=SO;refine⟨sz rfl,by decide,pick (by show z % 2<2;lia) λa ha=>?_⟩;have es:aT (T2 S p q O L++[some (.lst (v.map tD))]) (.loc S.length)=.lst (v.map tD):=by
     simp only[aT];rw[<-W];simp[MO.d]
    rw[es];have dj:=FF hdp;have hin:∀l∈nV v,P5 ws ms l:=λl hl=>by
     let⟨p,hp,h⟩:=iR.mp hl;exact hok p hp l h
    have fin:∀x,tD x=.tup [a,.tup (v.map tD)]->dp x=uE v+1->N x=Ns v+1->jy ws ms x->[a,D.tup (v.map tD)].length<=yag/\VT S (T2 S p q O L++[some (.lst (v.map tD))]) (.dat (.tup [a,.tup (v.map tD)])) Q:=λx e1 e2 e3 e4=>by
     rw[<-e1];exact⟨sz rfl,oG (fE (eW x)) ho3 rfl (by rw[List.take_left' W];rfl) (hq x O L (by lia) (by lia) e4 (ho3.mono (by lia)))⟩
    simp only[zcq,zbH,or_false] at ha;obtain rfl|rfl:=ha
    ·exact fin (.seq v) (by simp only[tD,di]) rfl rfl hin
    ·exact fin (.alt v) (by simp only[tD,di]) rfl rfl hin
   ·intro t rest δ S' N' i hN';let⟨n2,L,O,v,v7,rfl,rfl,ho3,hn2,hNs,hdp,hok,ab⟩:=i;have W:(T2 S p q O L).length=S.length:=SO;push_cast[true_and];have hB3:∀x,(T2 S p q O L++[x])[q]? =some (some (.lst [.int L])):=λx=>by rw[zag (by rw[W];exact Z)];exact UZ Z
    have hS3:∀x,(T2 S p q O L++[x])[p]? =some (some O):=λx=>by rw[zag (by rw[W];exact hp)];exact TF hp I
    have ab:=by simpa using ab
    have hn2:=by simpa using hn2
    refine ix0 _ L (hB3 _) _ ?_;push_cast[true_and];refine cz (λhc=>?_) (λhc=>?_)
    ·have es:aT (T2 S p q O L++[some (.lst (v.map tD))]) (.loc S.length)=.lst (v.map tD):=by
      simp only[aT];rw[<-W];simp[MO.d]
     push_cast[kQ,vJ,es];rw[ej];refine⟨j,rfl,p,q,n2,L,ws,ms,O,rfl,hw,hm_,lw,lm,I,hS3 _,hB3 _,by lia,by lia,ho3,by lia,λx o' c' hd hN ae U=>?_⟩;rw[zaG _ _ (by rw[W];exact hp),J5 I,zaG _ _ (by rw[SO];exact Z),SN];have hl4:(T2 S p q o' c').length=S.length:=SO;refine⟨S.length,_,_,rfl,rfl,by rw[<-hl4];simp;rfl,by rw[zbV,yaf];lia,?_⟩;rw[zax _ _ (by rw[hl4];simp),hl4,Nat.sub_self];refine hN' _ _ ⟨n2+mZ j,c',o',v++[x],_,rfl,by rw[zca];rfl,U,by lia,by rw[gk];simp only[Ns];lia,λy X=>?_,λy X=>?_,by rw[zaU];show v.length+1+_<=_;lia⟩
     ·obtain X|X:=zbU.mp X
      ·exact hdp y X
      ·rw[zaY.mp X];exact hd
     ·obtain X|X:=zbU.mp X
      ·exact hok y X
      ·rw[zaY.mp X];exact ae
    ·exact hN' _ _ ⟨n2,L,O,v,_,rfl,rfl,ho3,by lia,hNs,hdp,hok,by lia⟩
def OR(F:Src K mg "_law_pattern" dG uX)(h:∀ds S Q,¬sp ds S Q):Def P w K mg base (k+1) "_law_pattern" dG (az K sp):=
 F.def ou (λvs H Q E z=>by let⟨_,_,_,_,_,_,q,_⟩:=z;exact(h _ _ _ q).elim) λf a A outer s H vs Q E j z=>by let⟨_,_,_,_,_,_,q,_⟩:=z;exact(h _ _ _ q).elim
theorem yv(T:Txt K mg C fi)(F:Src K mg "_law_pattern" dG uX)(a:Def P w K mg base 1 "_law_draw" d8 (az K eX))(l:Def P w K mg base 2 "_law_leaf" gj (az K nB)):∀k,k<=4->Def P w K mg base (k+3) "_law_pattern" dG (az K (kY k))
 |0,h=>Ay T F a l 0 h (OR F λds S Q ⟨j,e,_⟩=>by lia)
 |k+1,h=>Ay T F a l (k+1) h ((yv T F a l k (by lia)).imp λvs H Q E z=>by
   let⟨w,ds,S,m,ok,rep,⟨j,e,q⟩,bk⟩:=z;obtain rfl:j=k:=by lia
   refine⟨w,ds,S,m,ok,rep,q,bk⟩)
open PySem PySem.Spec L2 M PyProof.Rows
noncomputable abbrev sG:List Str:=["pattern"]
noncomputable abbrev gi:=sG
def DE:aH sG gi (aj (top 7)):=L2.bT
noncomputable abbrev wX:List Str:=["layer","found","pattern"]
noncomputable abbrev iH:=wX.take 1
def sQ:aH wX iH (aj (top 8)):=L2.bT
noncomputable abbrev Bj:List Str:=["pattern","found","layer"]
noncomputable abbrev iV:=Bj.take 1
def sR:aH Bj iV (aj (top 9)):=L2.bT
noncomputable abbrev GY:List Str:=["pattern"]
noncomputable abbrev qh:=GY
def Qu:aH GY qh (aj (top 11)):=L2.bT
noncomputable abbrev wN:List Str:=["pattern"]
noncomputable abbrev iC:=wN
def Ik:aH wN iC (aj (top 10)):=L2.bT
noncomputable abbrev wR:List Str:=["pattern"]
noncomputable abbrev iF:=wR
def Im:aH wR iF (aj (top 12)):=L2.bT
noncomputable def kid:Pt->List Pt
 |.many p=>[p]
 |.seq ps|.alt ps=>ps
 |_=>[]
def SV(p):Ns (kid p)+1=N p:=by cases p<;>simp[kid,N,Ns]
noncomputable def bG:List Pt->List Pt
 |[]=>[]
 |p::ps=>kid p++bG ps
theorem yU:∀a:List Pt,Ns (bG a)+a.length=Ns a
 |[]=>rfl
 |p::ps=>by
  have:=SV p;have:=yU ps;simp only[bG,gk,Ns,zbB];lia
noncomputable def own:Pt->List Lf
 |.lf l=>[l]
 |_=>[]
noncomputable def owns(ps:List Pt):List Lf:=(ps.map own).flatten
theorem pA:∀ps a,nV (ps++a)=nV ps++nV a
 |[],a=>rfl
 |p::ps,a=>by simp only[zbJ,nV,pA ps a,zbn]
def Ot(p):∀x,x∈Lv p↔x∈own p∨x∈nV (kid p):=λx=>by cases p<;>simp[Lv,own,kid,nV]
theorem z5:∀(ps) x,x∈nV ps↔x∈owns ps∨x∈nV (bG ps)
 |[],x=>by simp[owns,bG]
 |p::ps,x=>by
  have h1:=Ot p x;have h2:=z5 ps x;simp only[nV,bG,pA,owns] at h2⊢;grind
abbrev KD(a b:Str):Prop:=a.cps.toList<b.cps.toList
def nC(a):¬KD a a:=List.lt_irrefl _
def Mx(h:¬KD d k)(g:¬KD k d):d=k:=by
 have e:=List.le_antisymm (List.not_lt.mp g) (List.not_lt.mp h);obtain⟨d⟩:=d;obtain⟨k⟩:=k;have e:d.toList=k.toList:=e;rw[Array.toList_inj.mp e]
def SU(l:List Str):Prop:=l.Pairwise KD
theorem zF:∀(l)(p),risingS p l=true->(p::l).Pairwise λa b=>¬KD b a
 |[],p,_=>List.pairwise_singleton ..
 |x::r,p,h=>by
  have h:(!ltCps x.cps.toList p.cps.toList&&risingS x r)=true:=h;rw[zbR] at h;have n:=zF r x h.2;have o:¬KD x p:=by
   have:=h.1;rw[ltCps_eq] at this;lia
  refine zbb.mpr ⟨λy j=>?_,n⟩;obtain rfl|j:=zcq.mp j
  ·exact o
  ·intro m;have h2:=(zbb.mp n).1 y j;exact o (List.lt_of_le_of_lt (List.not_lt.mp h2) m)
def By(h:sortedS d=true):d.Pairwise λa b=>¬KD b a:=by
 cases d with
 |nil=>exact .nil
 |cons x r=>exact zF r x h
def qY(j:d.Nodup)(h:sortedS d=true):SU d:=by
 have h2:=j;refine((By h).and h2).imp λ{a b} ⟨h1,h2⟩=>?_;by_cases c:KD a b
 ·exact c
 ·exact absurd (Mx c h1) h2
theorem C7:∀{l m:List Str},SU l->SU m->(∀y,y∈l↔y∈m)->l=m
 |[],[],_,_,_=>rfl
 |[],y::m,_,_,h=>by have:=(h y).mpr (by simp);simp at this
 |x::l,[],_,_,h=>by have:=(h x).mp (by simp);simp at this
 |x::l,y::m,hl,hm,h=>by
  have h1:=zbb.mp hl;have h2:=zbb.mp hm;have e:x=y:=by
   have a:=(h x).mp (by simp);have b:=(h y).mpr (by simp);obtain a|a:=zcq.mp a
   ·exact a
   ·obtain b|b:=zcq.mp b
    ·lia
    ·exact absurd (List.lt_trans (h1.1 y b) (h2.1 x a)) (nC x)
  subst e;rw[C7 h1.2 h2.2 λz=>?_];have:=h z;simp only[zcq] at this;constructor
  ·intro hz;obtain e|e:=this.mp (.inr hz)
   ·subst e;exact absurd (h1.1 z hz) (nC z)
   ·exact e
  ·intro hz;obtain e|e:=this.mpr (.inr hz)
   ·subst e;exact absurd (h2.1 z hz) (nC z)
   ·exact e
def SU.nodup(h:SU d):d.Nodup:=h.imp λ{a b} h e=>by subst e;exact nC _ h
def rZ(a:kP x=true)(q:d (.dat (.bl (r9 (.str x) ["stay","step","at","off"]))) S):mU false (.str x) (.tup [.str "stay",.str "step",.str "at",.str "off"]) S d:=
 cF (n:=0) (ss:=["stay","step","at","off"]) a (by decide) (by rfl) (by rw[zck];exact q)
def Rt(a:kP x=true)(q:d (.dat (.bl (r9 (.str x) ["then","either"]))) S):mU false (.str x) (.tup [.str "then",.str "either"]) S d:=
 cF (n:=0) (ss:=["then","either"]) a (by decide) (by rfl) (by rw[zck];exact q)
theorem aU{α:Type}{P:aK->Prop}{o:AG}{t:AT}{e:AE}{Q:List D->aK->Prop}{S:aK}(g)(c)(f)(en:α->bH)(D0:bH->Prop)(l:P S)(m:∀a,D0 (en a)):∀(as:List α)(j)(δ),D0 δ->
  (∀a∈as,∀δ,D0 δ->∀Q:bH->aK->Prop,Q (en a) S->o (g a) δ S Q)->(∀a∈as,∀Q:Bool->aK->Prop,Q (c a) S->t (en a) S Q)->(∀a∈as,c a=true->∀Q:AK,Q (.dat (f a)) S->e (en a) S Q)->j.length+as.length<=yag->Q (j++(as.filter c).map f) S->
  eu P o t e (as.map g) j δ S Q
 |[],j,δ,_,_,_,_,_,q=>⟨l,by simpa using q⟩
 |a::as,j,δ,hd,hg,ht,he,hl,q=>by
  refine⟨l,hg a (by simp) δ hd _ (ht a (by simp) _ ?_)⟩;simp only[zbB] at hl;cases n:c a with
  |true=>
   refine he a (by simp) n _ ⟨by lia,?_⟩;refine aU g c f en D0 l m as _ _ (m a) (λx h=>hg x (by simp[h])) (λx h=>ht x (by simp[h])) (λx h=>he x (by simp[h])) (by simp;lia) ?_;rw[zbN,n] at q;simpa[R.d] using q
  |false=>
   refine aU g c f en D0 l m as _ _ (m a) (λx h=>hg x (by simp[h])) (λx h=>ht x (by simp[h])) (λx h=>he x (by simp[h])) (by lia) ?_;rw[zbN,n] at q;exact q
def uM:AN:=λds S Q=>∃p,ds=[tD p]/\Q (.dat (.tup ((kid p).map tD))) S
def FI(T:Txt K mg C fi)(F:Src K mg "right_within" gi (top 7)):Def P w K mg base 1 "right_within" gi (az K uM):=by
 refine cA F DE (λds S Q h=>?_) (λf n A outer s H E a=>?_)
 ·let⟨p,rfl,_⟩:=h;rfl
 ·refine⟨_,(Vu (VH (VC (V1 a) (Vy (Vr 0)) T.rP rfl) (Vv (VE (VF Vw))) VI) (Vv (VE (M.jO (VC (VJ a) (Vy (Vr 0)) VA (aG _)) (VF (Vs (Vy (Vr 0)) Vw)) (Vy (Vr 0)))))),λds S Q h=>?_⟩;let⟨p,rfl,q⟩:=h;have j:aM sG [tD p]=[some (tD p)]:=rfl;rw[j];cases p with
  |lf l=>
   cases l with
   |stay=>
    push_cast[tD,lD,au,b6];refine rZ (by rfl) ⟨_,rfl,?_⟩;exact⟨zcS _,bz rfl q⟩
   |step b x=>
    push_cast[tD,lD,au,b6];refine rZ (by rfl) ⟨_,rfl,?_⟩;exact⟨zcS _,bz rfl q⟩
   |mk b m=>
    push_cast[tD,lD,au,b6];refine rZ (by cases b<;>decide+kernel) ⟨_,rfl,?_⟩;rw[yIp (by cases b<;>decide)];exact⟨zcS _,bz rfl q⟩
  |many p=>
   push_cast[tD,au,b6,cH];refine rZ (by rfl) ⟨_,rfl,?_⟩;exact⟨sz rfl,bz (by simp only[cg,bM,eW,zcw]) q⟩
  |seq ps=>
   push_cast[tD,au,b6,cH];refine rZ (by rfl) ⟨_,rfl,?_⟩;exact bz (jA ps) (by rw[di];exact q)
  |alt ps=>
   push_cast[tD,au,b6,cH];refine rZ (by rfl) ⟨_,rfl,?_⟩;exact bz (jA ps) (by rw[di];exact q)
def zp:AN:=λds S Q=>∃L:List Pt,ds=[.lst (L.map tD)]/\Ns L<=1000/\Q (.new (.lst ((bG L).map tD))) S
def JM(T:Txt K mg C fi)(F:Src K mg "layer_below" iH (top 8))(j:Def P w K mg base 1 "right_within" gi (az K uM)):Def P w K mg base 2 "layer_below" iH (az K zp):=by
 refine cA F sQ (λds S Q h=>?_) (λf U A outer s H E l=>?_)
 ·let⟨L,rfl,_⟩:=h;rfl
 ·refine⟨_,(Vu (Vz 1 sQ.nd (VQ (VG Vw))) (Vu (VP PassesOwn.never rfl (VL (Vr 0)) (VM 2 sQ.nd) (Vv (VX (VY PySem.F.plainAttrs_list PySem.F.slot_list_extend PySem.F.type_list_extend M.jV (Vr 1) (Vs (VB j l (Vt (Vr 2))) Vw))))) (Vv (VE (Vr 1))))),λds S Q h=>?_⟩;let⟨L,rfl,X,q⟩:=h;have O:aM wX [.lst (L.map tD)]=[some (.lst (L.map tD)),none,none]:=rfl;rw[O];push_cast[dU,bR];refine⟨zcS _,bf (λrest n t=>∃(l1 l2:List Pt)(o:Option D),rest=l2.map tD/\l1++l2=L/\n=[some (.lst (L.map tD)),some (.loc S.length),o]/\t=S++[some (.lst ((bG l1).map tD))]) ?_ ?_ _ _ _ ⟨[],L,none,rfl,rfl,rfl,rfl⟩⟩
  ·intro n t z;let⟨l1,l2,o,l,m,rfl,rfl⟩:=z;obtain rfl:l2=[]:=by cases l2 with
    |nil=>rfl
    |cons _ _=>simp at l
   subst m;refine⟨trivial,_,rfl,zG (zcR _) (aY λx _=>eW x) (by simp) (by simp) q⟩
  ·intro x W n t Z z hN;let⟨l1,l2,o,l,m,rfl,rfl⟩:=z;cases l2 with
   |nil=>simp at l
   |cons r l2=>
    injection l with h1 h2;subst h1;subst h2;have v:∀a b,bG (a++b)=bG a++bG b:=λa b=>by
     induction a with
     |nil=>rfl
     |cons x a ih=>simp only[zbJ,bG,ih,zbn]
    have Y:=yU L;have G:=yT (bG L);have y:(bG L).length=(bG l1).length+((kid r).length+(bG l2).length):=by rw[<-m,v];simp only[bG,zaU]
    have u:(S++[some (MO.lst ((bG l1).map tD))])[S.length]? =some (some (.lst ((bG l1).map tD))):=by simp
    have I:aT (S++[some (MO.lst ((bG l1).map tD))]) (.loc S.length)=.lst ((bG l1).map tD):=by simp only[aT,u,MO.d]
    push_cast[kQ,I,vJ];refine⟨r,rfl,S.length,_,_,_,rfl,rfl,u,.inr rfl,by rw[zbV,zbV,yaf];lia,?_⟩;refine hN _ _ ⟨l1++[r],l2,some (tD r),rfl,by rw[zbn];exact m,rfl,?_⟩;rw[v];simp[bG]
def xA:AN:=λds S Q=>∃p,ds=[tD p]/\N p<=100/\∀A:List Pt,(∀x,x∈owns A↔x∈Lv p)->A.length<=N p->Q (.new (.lst (A.map tD))) S
def O2(T:Txt K mg C fi)(F:Src K mg "all_within" iV (top 9))(j:Def P w K mg base 2 "layer_below" iH (az K zp)):Def P w K mg base 3 "all_within" iV (az K xA):=by
 refine cA F sR (λds S Q h=>?_) (λf W A outer s H E v=>?_)
 ·let⟨p,rfl,_⟩:=h;rfl
 ·refine⟨_,(Vu (Vz 1 sR.nd (VQ (VG Vw))) (Vu (Vz 2 sR.nd (VG (Vt (Vr 0)))) (Vu (Wx PassesOwn.never (V4 (Vr 2)) (Vu (VX (VY PySem.F.plainAttrs_list PySem.F.slot_list_extend PySem.F.type_list_extend M.jV (Vr 1) (Vt (Vr 2)))) (Vv (Vz 2 sR.nd (VB j v (Vt (Vr 2))))))) (Vv (VE (Vr 1)))))),λds S Q h=>?_⟩;let⟨p,rfl,X,q⟩:=h;have U:aM Bj [tD p]=[some (tD p),none,none]:=rfl;rw[U];push_cast[bO];refine⟨zcS _,sz rfl,?_⟩;have ow:∀a b,owns (a++b)=owns a++owns b:=λa b=>by simp[owns]
  refine⟨λm n u=>∃(A L:List Pt),m=Ns L/\n=[some (tD p),some (.loc S.length),some (.lst (L.map tD))]/\u=S++[some (.lst (A.map tD))]/\A.length+Ns L=N p/\∀x,x∈Lv p↔x∈owns A∨x∈nV L,⟨N p,[],[p],by simp[Ns],rfl,rfl,by simp[Ns],λx=>by simp[owns,nV]⟩,?_⟩;intro m n u z;let⟨A,L,rfl,rfl,rfl,G,hw⟩:=z;push_cast[true_and];cases L with
  |nil=>
   refine zG (zcR _) (aY λx _=>eW x) (by simp) (by simp) (q A (λx=>?_) (by lia));have:=hw x;simp only[nV,zbH,or_false] at this;exact this.symm
  |cons a r=>
   have I:=yU (a::r);have o:(S++[some (MO.lst (A.map tD))])[S.length]? =some (some (.lst (A.map tD))):=by simp
   have O:aT (S++[some (MO.lst (A.map tD))]) (.loc S.length)=.lst (A.map tD):=by simp only[aT,o,MO.d]
   refine⟨λl t=>l=[some (tD p),some (.loc S.length),some (.lst ((bG (a::r)).map tD))]/\t=S++[some (.lst ((A++a::r).map tD))],?_,?_⟩
   ·rintro l t ⟨rfl,rfl⟩;refine⟨Ns (bG (a::r)),by simp only[zbB] at I;lia,A++a::r,bG (a::r),rfl,rfl,rfl,by rw[zaU];lia,λx=>?_⟩;rw[hw x,z5 (a::r) x,ow,zbU];lia
   ·push_cast[kQ,O,vJ];refine⟨S.length,_,_,_,rfl,rfl,o,.inl rfl,by rw[zbV,zbV,yaf];lia,?_⟩;refine⟨a::r,rfl,by lia,?_⟩;simp[sY,zZ]
noncomputable def C6:Pt->Option Str
 |.lf (.step _ x)=>some x
 |_=>none
noncomputable def Du:Pt->Option Str
 |.lf (.mk _ m)=>some m
 |_=>none
def Wo(p:Pt)(y:Str):Prop:=∃b,Lf.step b y∈Lv p
def Mo(p:Pt)(y:Str):Prop:=∃b,Lf.mk b y∈Lv p
def Bx(R:Pt->Str->Prop):AN:=λds S Q=>∃p,ds=[tD p]/\N p<=50/\ni p/\∀a:List Str,SU a->(∀y,y∈a↔R p y)->a.length<=50->Q (.new (.lst (a.map D.str))) S
def RQ(T:Txt K mg C fi)(F:Src K mg "words_of_steps" qh (top 11))(j:Def P w K mg base 3 "all_within" iV (az K xA)):Def P w K mg base 4 "words_of_steps" qh (az K (Bx Wo)):=by
 refine cA F Qu (λds S Q h=>?_) (λf cdv A outer s H E O=>?_)
 ·let⟨p,rfl,_⟩:=h;rfl
 ·refine⟨_,(Vv (VE (Wv rfl (by rfl) T.sorted (by rfl) T.set (VW ["part"] [none] (VL (VB j O (Vt (Vr 0)))) (λ_ _ _ _=>(Wj (VC (VJ O) (Vy (Vr 0)) VA (aG _)))) (λ_ _ _ _=>(Vy (Vr 0))))))),λds S Q h=>?_⟩;let⟨p,rfl,hn,hok,q⟩:=h;have e0:aM GY [tD p]=[some (tD p)]:=rfl;rw[e0];push_cast[bZ,b5,bR];refine⟨p,rfl,by lia,λA I hl=>?_⟩;refine aU (g:=tD) (c:=λp=>(C6 p).isSome) (f:=λp=>D.str ((C6 p).getD "")) (en:=λp=>[some (tD p)]) (D0:=λL=>∃v,L=[v]) trivial (λa=>⟨_,rfl⟩) A [] _ ⟨none,rfl⟩ ?_ ?_ ?_ (by rw[yaf];simp;lia) ?_
  ·rintro a _ L ⟨v,rfl⟩ Y n;exact n
  ·intro a _ Y n;cases a with
   |lf l=>
    cases l with
    |mk b m=>
     push_cast[tD,lD,au,b6];rw[yDf (by cases b<;>decide)];exact n
    |_=>push_cast[tD,lD,au,b6];exact n
   |_=>push_cast[tD,au,b6];exact n
  ·intro a _ U Y n;cases a with
   |lf l=>
    cases l<;>simp only[C6,Option.isSome_none,Bool.false_eq_true] at U;push_cast[tD,lD,au,at2];exact n
   |_=>cases U
  ·have em:(A.filter λp=>(C6 p).isSome).map (λp=>D.str ((C6 p).getD ""))=(A.filterMap C6).map D.str:=by
    clear I hl
    induction A with
    |nil=>rfl
    |cons a A ih=>
     cases h:C6 a<;>simp[h,ih]
   rw[em];have hml:=List.length_filterMap_le C6 A;refine⟨A.filterMap C6,.inr rfl,by lia,λW t X hs=>?_⟩;refine cM (aY λ_ _=>rfl) (q W (qY t hs) (λy=>(X y).trans ?_) ?_)
   ·rw[zaT];constructor
    ·rintro⟨a,G,e⟩;cases a with
     |lf l=>
      cases l<;>simp only[C6,zcU.injEq,reduceCtorEq] at e;subst e;exact⟨_,(I _).mp (zbO.mpr ⟨_,zcE.mpr ⟨_,G,rfl⟩,zaY.mpr rfl⟩)⟩
     |_=>cases e
    ·rintro⟨b,hb⟩;let⟨l,u,o⟩:=zbO.mp ((I _).mpr hb);let⟨a,G,rfl⟩:=zcE.mp u;cases a with
     |lf l=>refine⟨_,G,by rw[<-zaY.mp o];rfl⟩
     |_=>simp[own] at o
   ·have:=sub_len W (A.filterMap C6) t λx Z=>(X x).mp Z;lia
def JJ(T:Txt K mg C fi)(F:Src K mg "marks_in" iF (top 12))(j:Def P w K mg base 3 "all_within" iV (az K xA)):Def P w K mg base 4 "marks_in" iF (az K (Bx Mo)):=by
 refine cA F Im (λds S Q h=>?_) (λf cdv A outer s H E Z=>?_)
 ·let⟨p,rfl,_⟩:=h;rfl
 ·refine⟨_,(Vv (VE (Wv rfl (by rfl) T.sorted (by rfl) T.set (VW ["part"] [none] (VL (VB j Z (Vt (Vr 0)))) (λ_ _ _ _=>(Wj (VC (V1 Z) (Vy (Vr 0)) (VF (Vs VA (Vt VA))) rfl))) (λ_ _ _ _=>(Vy (Vr 0))))))),λds S Q h=>?_⟩;let⟨p,rfl,hn,hok,q⟩:=h;have e0:aM wR [tD p]=[some (tD p)]:=rfl;rw[e0];push_cast[bZ,b5,bR];refine⟨p,rfl,by lia,λA X hl=>?_⟩;refine aU (g:=tD) (c:=λp=>(Du p).isSome) (f:=λp=>D.str ((Du p).getD "")) (en:=λp=>[some (tD p)]) (D0:=λY=>∃v,Y=[v]) trivial (λa=>⟨_,rfl⟩) A [] _ ⟨none,rfl⟩ ?_ ?_ ?_ (by rw[yaf];simp;lia) ?_
  ·rintro a _ Y ⟨v,rfl⟩ G o;exact o
  ·intro a _ G o;have I:∀{x:Str}{v:Bool},kP x=true->r9 (.str x) ["at","off"]=v->G v S->[D.str "at",D.str "off"].length<=yag/\mU false (.str x) (.tup [.str "at",.str "off"]) S λr S1=>∃b,r.d=.bl b/\G b S1:=λ{x v} L e o=>⟨sz rfl,cF (n:=0) (ss:=["at","off"]) L (by decide) (by rfl) ⟨_,rfl,by rw[e,zck];exact o⟩⟩
   cases a with
   |lf l=>
    cases l with
    |mk b m=>
     push_cast[tD,lD,au,b6];exact I (v:=true) (by cases b<;>decide+kernel) (by cases b<;>decide+kernel) o
    |_=>push_cast[tD,lD,au,b6];exact I (by rfl) (by rfl) o
   |_=>push_cast[tD,au,b6];exact I (by rfl) (by rfl) o
  ·intro a _ hc G o;cases a with
   |lf l=>
    cases l<;>simp only[Du,Option.isSome_none,Bool.false_eq_true] at hc;push_cast[tD,lD,au,cH];exact o
   |_=>cases hc
  ·have em:(A.filter λp=>(Du p).isSome).map (λp=>D.str ((Du p).getD ""))=(A.filterMap Du).map D.str:=by
    clear X hl
    induction A with
    |nil=>rfl
    |cons a A ih=>
     cases h:Du a<;>simp[h,ih]
   rw[em];have hml:=List.length_filterMap_le Du A;refine⟨A.filterMap Du,.inr rfl,by lia,λW u hW hs=>?_⟩;refine cM (aY λ_ _=>rfl) (q W (qY u hs) (λy=>(hW y).trans ?_) ?_)
   ·rw[zaT];constructor
    ·rintro⟨a,U,e⟩;cases a with
     |lf l=>
      cases l<;>simp only[Du,zcU.injEq,reduceCtorEq] at e;subst e;exact⟨_,(X _).mp (zbO.mpr ⟨_,zcE.mpr ⟨_,U,rfl⟩,zaY.mpr rfl⟩)⟩
     |_=>cases e
    ·rintro⟨b,hb⟩;let⟨l,O,t⟩:=zbO.mp ((X _).mpr hb);let⟨a,U,rfl⟩:=zcE.mp O;cases a with
     |lf l=>refine⟨_,U,by rw[<-zaY.mp t];rfl⟩
     |_=>simp[own] at t
   ·have:=sub_len W (A.filterMap Du) u λx L=>(hW x).mp L;lia
def JG(T:Txt K mg C fi)(F:Src K mg "words_in" iC (top 10))(j:Def P w K mg base 4 "words_of_steps" qh (az K (Bx Wo))):Def P w K mg base 5 "words_in" iC (az K (Bx λp y=>Wo p y/\y≠"*")):=by
 refine cA F Ik (λds S Q h=>?_) (λf I A outer s H E n=>?_)
 ·let⟨p,rfl,_⟩:=h;rfl
 ·refine⟨_,(Vv (VE (VW ["word"] [none] (VL (VB j n (Vt (Vr 0)))) (λ_ _ _ _=>(Wj (VC (Wn n) (Vr 0) T.EF (aG _)))) (λ_ _ _ _=>(Vr 0))))),λds S Q h=>?_⟩;let⟨p,rfl,u,hok,q⟩:=h;have G:aM wN [tD p]=[some (tD p)]:=rfl;rw[G];push_cast[b5,bR];refine⟨p,rfl,u,hok,λt h1 h2 x=>?_⟩;refine aU (g:=D.str) (c:=λz=>!decide (z=("*":Str))) (f:=D.str) (en:=λz=>[some (.str z)]) (D0:=λm=>∃v,m=[v]) trivial (λa=>⟨_,rfl⟩) t [] _ ⟨none,rfl⟩ ?_ ?_ ?_ (by rw[yaf];simp;lia) ?_
  ·rintro a _ m ⟨v,rfl⟩ o l;exact l
  ·intro a _ o l;push_cast[true_and];refine⟨_,rfl,l⟩
  ·intro a _ L o l;push_cast[true_and];exact l
  ·refine cM (aY λ_ _=>rfl) (q _ (List.Pairwise.filter _ h1) (λy=>?_) (zcH (zay ..) x));rw[zbT,h2 y];simp
open PySem PySem.Spec L2 M PyProof.Rows
noncomputable abbrev G7:List Str:=["number","name"]
noncomputable abbrev qq:=G7.take 1
def zx:aH G7 qq (aj (top 2)):=L2.bT
noncomputable abbrev G1:List Str:=["words","number"]
noncomputable abbrev qk:=G1.take 1
def DG:aH G1 qk (aj (top 32)):=L2.bT
noncomputable abbrev Hr:List Str:=["marks","found","mark"]
noncomputable abbrev qx:=Hr.take 1
def zB:aH Hr qx (aj (top 30)):=L2.bT
noncomputable abbrev G0:List Str:=["words","found","side"]
noncomputable abbrev qj:=G0.take 1
def DF:aH G0 qj (aj (top 31)):=L2.bT
noncomputable def Tj:Str:="abcdefghijklmnopqrstuvwxyz"
noncomputable def lt(n:Nat):Str:=⟨#[Tj.cps.toList.getD n 0]⟩
structure uB(ws:List Str)(x:Str):Prop where
 ok:kP x=true
 st:x≠"*"
 no:x ∉ ws
def Rn{ws:List Str}(h:∀y∈ws,Nm y):lt 3 ∉ ws:=λz=>absurd (h _ z) (by show¬lt 3∈NN;decide+kernel)
def EY:∀n,n<=3->kP (lt n)=true/\lt n≠"*":=by decide+kernel
noncomputable def m8(ms:List Str):List (List Str):=ms.foldl (λf m=>f++f.map (· ++[m])) [[]]
noncomputable def kU(c:List Str):D:=.tup (c.map D.str)
def pT(ms)(m):m8 (ms++[m])=m8 ms++(m8 ms).map (· ++[m]):=by simp[m8]
theorem kg:∀ms:List Str,(m8 ms).length=2 ^ ms.length/\∀c∈m8 ms,c.length<=ms.length/\∀y∈c,y∈ms:=λms=>by
 obtain rfl|⟨ms,m,e⟩:=List.eq_nil_or_concat ms
 ·simp[m8]
 ·rw[List.concat_eq_append] at e;subst e;rw[pT];let⟨h1,h2⟩:=kg ms;refine⟨by simp[h1];lia,λc h=>?_⟩;obtain h|h:=zbU.mp h
  ·have:=h2 c h;exact⟨by simp;lia,λy a=>zaD _ (this.2 y a)⟩
  ·let⟨l,j,rfl⟩:=zcE.mp h;have:=h2 l j;refine⟨by simp;lia,λy a=>?_⟩;obtain a|a:=zbU.mp a
   ·exact zaD _ (this.2 y a)
   ·exact zav _ a
 termination_by ms=>ms.length
 decreasing_by subst e;simp
noncomputable def tn(ws:List Str)(x y:Str):List (Str×Str):=(ws++[x]).map (λw=>(side true,w))++(ws++[y]).map (λw=>(side false,w))
noncomputable def qJ(t:Str×Str):D:=.tup [.str t.1,.str t.2]
def K7:AN:=λds S Q=>∃n:Nat,ds=[.int n]/\n<26/\Q (.dat (.str (lt n))) S
def Sa(T:Txt K mg C fi)(F:Src K mg "name_of" qq (top 2)):Def P w K mg base 1 "name_of" qq (az K K7):=by
 refine cA F zx (λds S Q h=>?_) (λf v A outer s H E y=>?_)
 ·let⟨n,rfl,_⟩:=h;rfl
 ·refine⟨_,(Vu (Vz 1 zx.nd (V0 T.dP (VD V9 (Vr 0) (VS V5 T.len (Vt T.dP))))) (Vu (Wx PassesOwn.never (VC M.Ja (Vr 0) (VS V5 T.len (Vt T.dP)) (aG _)) (Vu (Vz 0 zx.nd (VD M.tM (Vr 0) (VS V5 T.len (Vt T.dP)))) (Vv (Vz 1 zx.nd (VD VN (V0 T.dP (VD V9 (Vr 0) (VS V5 T.len (Vt T.dP)))) (Vr 1)))))) (Vv (VE (Vr 1))))),λds S Q h=>?_⟩;let⟨n,rfl,l,q⟩:=h;have u:aM G7 [.int n]=[some (.int n),none]:=rfl;rw[u];have j:gz (.str "abcdefghijklmnopqrstuvwxyz")=some 26:=by rfl
  push_cast[j];have el:∀(k:Nat),k<26->jw Tj.cps.toList k=some (Tj.cps.toList.getD k 0):=λk t=>gF (by
   have o:=by exact t
   rw[zad,zal o];rfl)
  refine⟨by decide,?_⟩;rw[show(n % ((26:Nat):Int))=n by lia];refine⟨by decide+kernel,_,el n l,?_⟩;refine⟨λ_ a x=>a=[some (.int n),some (.str (lt n))]/\S=x,⟨0,rfl,rfl⟩,?_⟩;rintro m a _ ⟨rfl,rfl⟩;push_cast[j];rw[yDf (by lia)];exact bz rfl q
def K3:AN:=λds S Q=>∃ws:List Str,ds=[.lst (ws.map D.str)]/\(∀y∈ws,Nm y)/\ws.length<=50/\∀x,uB ws x->Q (.dat (.str x)) S
def RU(T:Txt K mg C fi)(F:Src K mg "strange_to" qk (top 32))(a:Def P w K mg base 1 "name_of" qq (az K K7)):Def P w K mg base 2 "strange_to" qk (az K K3):=by
 refine cA F DG (λds S Q h=>?_) (λf G A outer s H E l=>?_)
 ·let⟨ws,rfl,_⟩:=h;rfl
 ·refine⟨_,(Vu (Vz 1 DG.nd Vx) (Vu (Wx PassesOwn.never (VC (V1 l) (VB a l (Vt (Vr 1))) (Vr 0) rfl) (Vv (M.rK (i:=1) DG.nd rfl (Or.inl rfl) Vx))) (Vv (VE (VB a l (Vt (Vr 1))))))),λds S Q h=>?_⟩;let⟨ws,rfl,hw,I,q⟩:=h;refine⟨λm u t=>∃n:Nat,n<=3/\m=3 - n/\u=[some (.lst (ws.map D.str)),some (.int n)]/\S=t,⟨3,0,by decide,rfl,rfl,rfl⟩,?_⟩;intro m u _ k;let⟨n,o,rfl,rfl,rfl⟩:=k;push_cast[true_and];refine⟨n,rfl,by lia,rY (n:=0) (EY n o).1 (by decide) (zbE.mpr λy v=>o9 (hw y v)) ⟨_,rfl,?_⟩ (by lia)⟩;rw[cT,jZ,zck];refine cz (λh=>?_) (λh=>?_)
  ·have h:=of_decide_eq_true h;have L:n≠3:=λe=>Rn hw (e▸h);refine⟨λj t=>j=[some (.lst (ws.map D.str)),some (.int ((n+1:Nat):Int))]/\S=t,?_,?_⟩
   ·rintro j _ ⟨rfl,rfl⟩;refine⟨3 - (n+1),by lia,n+1,by lia,rfl,rfl,rfl⟩
   ·push_cast[J3];refine⟨_,_,rfl,rfl,by show D.int ((n:Int)+1)=_;rfl,rfl⟩
  ·have h:=λz=>h (yDt z);refine⟨n,rfl,by lia,bz rfl (q _ ⟨(EY n o).1,(EY n o).2,h⟩)⟩
def kj(h:d.length+e.length<=yag)(q:g (.dat (.tup (d++e))) S):wI (.tup d) (.tup e) S g:=by
 cases d with
 |nil=>exact q
 |cons x d=>refine⟨by simp,h,q⟩
noncomputable def CH(cs:List (List Str)):D:=.lst (cs.map kU)
def Lb:AN:=λds S Q=>∃ms:List Str,ds=[.lst (ms.map D.str)]/\ms.length<=6/\Q (.dat (CH (m8 ms))) S
def Sj(T:Txt K mg C fi)(F:Src K mg "choices_of" qx (top 30)):Def P w K mg base 1 "choices_of" qx (az K Lb):=by
 refine cA F zB (λds S Q h=>?_) (λf O A outer s H E a=>?_)
 ·let⟨ms,rfl,_⟩:=h;rfl
 ·refine⟨_,(Vu (Vz 1 zB.nd (VG (Vt (VF Vw)))) (Vu (VP PassesOwn.never rfl (VL (Vr 0)) (VM 2 zB.nd) (Vv (Vz 1 zB.nd (VD V2 (Vr 1) (VW ["fewer","mark"] [none,some 2] (VL (Vr 1)) (λ_ _ _ _=>V3) (λ_ _ _ _=>(VD V2 (Vr 0) (VF (Vt (Vr 1)))))))))) (Vv (VE (Vr 1))))),λds S Q h=>?_⟩;let⟨ms,rfl,y,q⟩:=h;have L:aM Hr [.lst (ms.map D.str)]=[some (.lst (ms.map D.str)),none,none]:=rfl;rw[L];refine aV λN1 o=>?_;refine⟨sz rfl,sz rfl,o _ _ ?_⟩;refine aV λN2 u=>?_;push_cast[dU,bR];refine bf (λrest j X=>∃(m1 m2:List Str)(v:Option D),rest=m2.map D.str/\m1++m2=ms/\j=[some (.lst (ms.map D.str)),some (CH (m8 m1)),v]/\S=X) ?_ ?_ _ _ _ ⟨[],ms,none,rfl,rfl,rfl,rfl⟩
  ·intro j _ z;let⟨m1,m2,v,a,n,rfl,rfl⟩:=z;obtain rfl:m2=[]:=by simpa using a.symm
   rw[zbW] at n;subst n;refine⟨trivial,u _ _ ?_⟩;push_cast[true_and];exact bz (aY λc _=>aY λ_ _=>rfl) q
  ·intro x Y j _ N z hN;let⟨m1,m2,v,a,n,rfl,rfl⟩:=z;cases m2 with
   |nil=>simp at a
   |cons m m2=>
    injection a with h1 h2;subst h1;subst h2;have Z:m1.length<6:=by rw[<-n] at y;simp at y;lia
    let⟨W,U⟩:=kg m1;have I:(m8 m1).length<=32:=by rw[W];exact zcH (zaH (by decide) (show m1.length<=5 by lia)) (by decide)
    push_cast[b5,bR];refine aU kU (λ_=>true) (λc=>kU (c++[m])) (λc=>[some (kU c),some (.str m)]) (λj=>∃v,j=[v,some (.str m)]) trivial (λc=>⟨_,rfl⟩) (m8 m1) [] _ ⟨none,rfl⟩ ?_ ?_ ?_ ?_ ?_
    ·rintro c t _ ⟨v,rfl⟩ G l;exact l
    ·exact λc t G l=>l
    ·intro c t _ G l;push_cast[kU];refine⟨sz rfl,?_⟩;have:=(U c t).1;refine kj (by rw[yaf];simp;lia) ?_;simpa[kU] using l
    ·rw[yaf];simp;lia
    ·rw[zaO.mpr λ_ _=>rfl];refine⟨by rw[yaf];simp;lia,?_⟩;refine hN _ _ ⟨m1++[m],m2,some (.str m),rfl,by rw[zbn];exact n,?_,rfl⟩;rw[pT];simp[CH,sY,MO.d]
def K2:AN:=λds S Q=>∃ws:List Str,ds=[.lst (ws.map D.str)]/\(∀y∈ws,Nm y)/\ws.length<=40/\∀x y,uB ws x->uB ws y->Q (.new (.lst ((tn ws x y).map qJ))) S
def RT(T:Txt K mg C fi)(F:Src K mg "turns_of" qj (top 31))(j:Def P w K mg base 2 "strange_to" qk (az K K3)):Def P w K mg base 3 "turns_of" qj (az K K2):=by
 refine cA F DF (λds S Q h=>?_) (λf cdv A outer s H E n=>?_)
 ·let⟨ws,rfl,_⟩:=h;rfl
 ·refine⟨_,(Vu (Vz 1 DF.nd (VQ (VG Vw))) (Vu (VP PassesOwn.never rfl (VL T.EE) (VM 2 DF.nd) (Vv (VX (VY PySem.F.plainAttrs_list PySem.F.slot_list_extend PySem.F.type_list_extend M.jV (Vr 1) (Vs (VW ["word","side"] [none,some 2] (VL (VD VN (Vr 0) (VG (Vs (VB j n (Vt (Vr 0))) Vw)))) (λ_ _ _ _=>V3) (λ_ _ _ _=>(VF (Vs (Vr 1) (Vt (Vr 0)))))) Vw))))) (Vv (VE (Vr 1))))),λds S Q h=>?_⟩;let⟨ws,rfl,hw,W,q⟩:=h;refine⟨zcS _,?_⟩;have cH:∀a,(S++[some a])[S.length]? =some (some a):=λa=>by simp
  refine bf (λrest o S2=>∃(r:List Bool)(l:List (Str×Str))(v:Option D),rest=r.map (λb=>.str (side b))/\o=[some (.lst (ws.map D.str)),some (.loc S.length),v]/\S2=S++[some (.lst (l.map qJ))]/\l.length+r.length*50<=100/\(∀m,m.length=r.length->(∀x∈m,uB ws x)->Q (.new (.lst ((l++((r.zip m).map λp=>(ws++[p.2]).map λw=>(side p.1,w)).flatten).map qJ))) S)) ?_ ?_ _ _ _
   ⟨[true,false],[],none,rfl,rfl,rfl,by decide,λm h1 h2=>?_⟩
  ·intro o _ z;let⟨r,l,v,n,rfl,rfl,W,q⟩:=z;obtain rfl:r=[]:=by simpa using n.symm
   push_cast[true_and];have q:=q [] rfl (by simp);simp only[List.zip_nil_left,List.map_nil,List.flatten_nil,zbW] at q;exact sV (cy _ _ (aY λ_ _=>rfl)) q
  ·intro x m o _ N z hN;let⟨r,l,v,n,rfl,rfl,u,q⟩:=z;cases r with
   |nil=>simp at n
   |cons b r=>
    injection n with h1 h2;subst h1;subst h2;have O:aT (S++[some (MO.lst (l.map qJ))]) (.loc S.length)=.lst (l.map qJ):=by simp only[aT,cH,MO.d]
    push_cast[kQ,b5,bR,O,vJ];refine⟨ws,rfl,hw,by lia,λx U=>?_⟩;refine⟨by rw[yaf];simp,?_⟩;push_cast[cD];have e:ws.map D.str++[D.str x]=(ws++[x]).map D.str:=by simp
    rw[e];refine⟨by rw[yaf];simp;lia,?_⟩;refine aU D.str (λ_=>true) (λw=>qJ (side b,w)) (λw=>[some (.str w),some (.str (side b))]) (λo=>∃v,o=[v,some (.str (side b))]) trivial (λc=>⟨_,rfl⟩) (ws++[x]) [] _ ⟨none,rfl⟩ ?_ ?_ ?_ ?_ ?_
    ·rintro c I _ ⟨v,rfl⟩ L t;exact t
    ·exact λc I L t=>t
    ·intro c I _ L t;push_cast[true_and];exact⟨sz rfl,t⟩
    ·rw[yaf];simp;lia
    ·rw[zaO.mpr λ_ _=>rfl];refine⟨_,_,_,_,rfl,rfl,cH _,.inl rfl,?_,?_⟩
     ·rw[yaf];simp;lia
     ·refine hN _ _ ⟨r,l++(ws++[x]).map (λw=>(side b,w)),_,rfl,rfl,?_,?_,λm Y X=>?_⟩
      ·simp[qJ]
      ·simp only[zbB] at u;simp;lia
      ·have:=q (x::m) (by simp[Y]) (λy G=>by
        obtain rfl|G:=zcq.mp G
        ·exact U
        ·exact X y G)
       simpa using this
  ·match m,h1 with
   |[x,y],_=>
    have:=q x y (h2 x (by simp)) (h2 y (by simp));simpa[tn] using this
open PySem PySem.Spec L2 M PyProof.Rows
noncomputable abbrev Hj:List Str:=["pairs","known","stand","stands"]
noncomputable abbrev qv:=Hj.take 1
def zA:aH Hj qv (aj (top 36)):=L2.bT
noncomputable abbrev Ho:List Str:=["known","pair"]
noncomputable abbrev lV:=Ho
def Qx:aH Ho lV (aj (top 37)):=L2.bT
def qM(h:S[n]? =some d):(S.set n o')[n]? =some o':=by
 rw[zbm,yIp rfl,yIp (zaf.mp h).1]
def dw(h:k≠n):(S.set n o')[k]? =S[k]?:=zaE (Ne.symm h)
def ng(h:n<S.length):(S++d)[n]? =S[n]?:=zag h
def p8:(S++[d])[S.length]? =some d:=by simp
def i_lt(h:S[n]? =some d):n<S.length:=(zaf.mp h).1
def d9(h:S[n]? =some (some o)):aT S (.loc n)=o.d:=by simp only[aT,h]
noncomputable def Ll(S:aK)(l:List Nat)(d:D):D:=match d with
 |.loc m=>if m∈l then aT S (.loc m) else .loc m
 |d=>d
theorem Ak{p:Nat}{q:List Key}:∀(l)(S)(ds),l.Nodup->p ∉ l->(∀m∈l,∃es,S[m]? =some (some (.lst es)))->S[p]? =some (some (.dct q ds))->
  ∃n,yX p q ds S (ds.map (Ll S l)) n/\n[p]? =some (some (.dct q (ds.map (Ll S l))))/\∀k,k≠p->k ∉ l->n[k]? =S[k]?
 |[],S,ds,_,_,_,hp=>by
  have e:ds.map (Ll S [])=ds:=by
   conv=>rhs;rw[<-List.map_id ds]
   exact zaN λd _=>by cases d<;>simp[Ll]
  rw[e];refine⟨S,.nil,hp,λ_ _ _=>rfl⟩
 |m::l,S,ds,hn,hp,hl,h=>by
  let⟨es,u⟩:=hl m (by simp);rw[zcq,not_or] at hp;rw[zbX] at hn;obtain⟨j,t⟩:∃j,j=(S.set m none).set p (some (.dct q (ds.map (sb m (.lst es))))):=⟨_,rfl⟩
  have o:∀k,k≠p->k≠m->j[k]? =S[k]?:=λk h1 h2=>by rw[t,dw h1,dw h2]
  have s:∀k∈l,k≠p/\k≠m:=λk a=>⟨λz=>hp.2 (z▸a),λz=>hn.1 (z▸a)⟩
  let⟨n,x,v,y⟩:=Ak l j (ds.map (sb m (.lst es))) hn.2 hp.2 (λk a=>by rw[o k (s k a).1 (s k a).2];exact hl k (by simp[a])) (by rw[t];exact qM (by rw[dw hp.1];exact h));have C:(ds.map (sb m (.lst es))).map (Ll j l)=ds.map (Ll S (m::l)):=by
   rw[zcF];refine zaN λd _=>?_;cases d with
   |loc k=>
    show Ll j l (if k=m then _ else _)=if k∈m::l then aT S (.loc k) else .loc k;by_cases a:k=m
    ·subst a;rw[yIp rfl,yIp (by simp),d9 u];rfl
    ·rw[yIn a];show(if k∈l then _ else _)=_;by_cases h2:k∈l
     ·rw[yIp h2,yIp (by simp[h2])];simp only[aT,o k (s k h2).1 a]
     ·rw[yIn h2,yIn (by simp[a,h2])]
   |_=>rfl
  rw[C] at x v;refine⟨n,.step u (Ne.symm hp.1) (t▸x),v,λk h1 h2=>by
   rw[zcq,not_or] at h2;rw[y k h1 h2.2,o k h1 h2.1]⟩
noncomputable abbrev iK(x:Int):Key:=Sum.inl x
section
variable {α:Type}{κ:α->Key}{f:α->D}
theorem tU:∀{l:List α},(l.map κ).Nodup->∀{a:α},a∈l->dR (l.map κ) (l.map f) (κ a)=some (f a)
 |x::l,hn,a,h=>by
  rw[zcs,zbX] at hn;unfold dR;rw[zcs,zcs,zaX,List.find?_cons];obtain rfl|h:=zcq.mp h
  ·simp
  ·have:κ x≠κ a:=λz=>hn.1 (z▸zaP h);rw[yDf this];exact tU hn.2 h
theorem Fg:∀{l:List α},k ∉ l.map κ->dR (l.map κ) (l.map f) k=none
 |[],_=>rfl
 |x::l,h=>by
  rw[zcs,zcq,not_or] at h;unfold dR;rw[zcs,zcs,zaX,List.find?_cons,yDf (λz=>h.1 z.symm)];exact Fg h.2
end
def EO{l:List Int}(h:l.Nodup):(l.map iK).Nodup:=zbr.mpr (h.imp λa z=>a (by injection z))
theorem tW{α m:Type}{f:α->m}:∀{l:List α},(l.map f).Nodup->∀{a b:α},a∈l->b∈l->f a=f b->a=b
 |x::l,hn,a,b,j,h,e=>by
  rw[zcs,zbX] at hn;obtain h1|j:=zcq.mp j<;>obtain h2|h:=zcq.mp h
  ·rw[h1,h2]
  ·exact absurd (h1▸e▸zaP h) hn.1
  ·exact absurd (h2▸e▸zaP j) hn.1
  ·exact tW hn.2 j h e
def mq{α:Type}{l:List α}{a:α}(h:l.Nodup)(n:a ∉ l):(l++[a]).Nodup:=by
 rw[zbp];refine⟨h,by simp,λx m y j=>by
  rw[zaY.mp j];lia⟩
abbrev Rw:=Int×List Int
noncomputable def tI(l:List Int):D:=.tup (l.map D.int)
noncomputable def bV(r:Rw):D:=.tup [.int r.1,tI r.2]
noncomputable def eY(rows:List Rw)(x:Int):List Rw:=rows.filter λr=>decide (r.1=x)
noncomputable def Tp(rows:List Rw)(x:Int):D:=.lst ((eY rows x).map λr=>tI r.2)
noncomputable def Ff(rows:List Rw)(a:List Int):D:=.dct (a.map iK) (a.map (Tp rows))
def Ms(l):cg (tI l)=true:=aY λ_ _=>rfl
def oA(rows)(r)(x):eY (rows++[r]) x=if r.1=x then eY rows x++[r] else eY rows x:=by
 unfold eY;by_cases h:r.1=x<;>simp[h]
noncomputable def t8(rows:List Rw)(a:Int)(st:List Nat):Bool:=rows.any λr=>decide (r.1=a)&&decide (∀y∈r.2,y∈st.map λs:Nat=>(s:Int))
def K9:AN:=λds S Q=>∃a:List Rw,ds=[.lst (a.map bV)]/\a.length<=100/\∀h:List Int,h.Nodup->(∀x,x∈h↔x∈a.map (·.1))->Q (.new (.dct (h.map iK) (h.map (Tp a)))) S
def Sf(T:Txt K mg C fi)(F:Src K mg "by_first" qv (top 36)):Def P w K mg base 1 "by_first" qv (az K K9):=by
 refine cA F zA (λds S Q h=>?_) (λf cdv A outer s H E hr=>?_)
 ·let⟨l,rfl,_⟩:=h;rfl
 ·refine⟨_,(Vu (Vz 1 zA.nd (VQ M.jQ)) (Vu (VP PassesOwn.never rfl (VL (Vr 0)) (Wg rfl (VO (VM 2 zA.nd) (VO (VM 3 zA.nd) Wh))) (Vv (VX (VY PySem.F.plainAttrs_list PySem.F.slot_list_append PySem.F.type_list_append V7 (M.EC (Vr 1) (Vr 2) (VG Vw) ⟨rfl,rfl,rfl,rfl⟩) (Vt (Vr 3)))))) (Vv (VE (M.RI (Vr 1)))))),λds S Q h=>?_⟩;let⟨l,rfl,hl,q⟩:=h;have e0:aM Hj [.lst (l.map bV)]=[some (.lst (l.map bV)),none,none,none]:=rfl;rw[e0];push_cast[dU,bR];refine bf (λrest δ t=>∃(I U:List Rw)(a:List (Int×Nat))(v2 v3:Option D),rest=U.map bV/\I++U=l/\δ=[some (.lst (l.map bV)),some (.loc S.length),v2,v3]/\t[S.length]? =some (some (.dct (a.map λe=>iK e.1) (a.map λe=>.loc e.2)))/\(∀k,k<S.length->t[k]? =S[k]?)/\(a.map (·.1)).Nodup/\(a.map (·.2)).Nodup/\(∀e∈a,S.length<e.2/\t[e.2]? =some (some (.lst ((eY I e.1).map λr=>tI r.2))))/\(∀x,x∈a.map (·.1)↔x∈I.map (·.1))/\a.length<=I.length) ?_ ?_ _ _ _
   ⟨[],l,[],none,none,rfl,rfl,rfl,p8,λk Z=>ng Z,.nil,.nil,by simp,by simp,zcR _⟩
  ·intro δ t i;let⟨I,U,a,v2,v3,hr,j,rfl,hd,Z,n1,n2,L,Y,hl2⟩:=i;obtain rfl:U=[]:=by simpa using hr.symm
   rw[zbW] at j;subst j;let⟨S3,g1,g2,g3⟩:=Ak (a.map (·.2)) t (a.map λe=>.loc e.2) n2 (λz=>by
    let⟨e,j,z⟩:=zcE.mp z;have:=(L e j).1;lia) (λm Y=>by
    let⟨e,j,rfl⟩:=zcE.mp Y;exact⟨_,(L e j).2⟩) hd
   have ee:(a.map λe=>D.loc e.2).map (Ll t (a.map (·.2)))=a.map λe=>Tp I e.1:=by
    rw[zcF];refine zaN λe j=>?_;show(if e.2∈_ then aT t (.loc e.2) else _)=_;rw[yIp (zaP j),d9 (L e j).2];rfl
   rw[ee] at g1 g2;push_cast[A5];refine⟨_,rfl,_,_,hd,_,_,g1,?_⟩;have q:=q (a.map (·.1)) n1 Y;rw[zcF,zcF] at q;refine u7 (zcR _) g2 ?_ (cy _ _ (aY λe _=>aY λr _=>Ms _)) q;refine zbq λk=>?_;rw[zaW];by_cases h:k<S.length
   ·rw[yIp h,g3 k (by lia) (λz=>?_),Z k h];let⟨e,j,rfl⟩:=zcE.mp z;have:=(L e j).1;lia
   ·rw[yIn h,zaz (by lia)]
  ·intro x xs δ t N i hN;let⟨I,U,a,v2,v3,hr,j,rfl,hd,Z,n1,n2,L,Y,hl2⟩:=i;cases U with
   |nil=>simp at hr
   |cons r U=>
    injection hr with h1 h2;subst h1;subst h2;have hql:I.length<100:=by rw[<-j] at hl;simp at hl;lia
    refine⟨trivial,_,rfl,rfl,_,_,rfl,_,_,rfl,rfl,?_⟩;push_cast[kQ,Gz];refine⟨_,rfl,⟨_,_,hd⟩,zcS _,_,_,_,_,rfl,rfl,hd,by rw[zbV];lia,λd G=>?_,λhno=>?_⟩
    ·have hin:r.1∈a.map (·.1):=by
      by_cases z:r.1∈a.map (·.1)
      ·exact z
      ·rw[Fg (λy=>z (by
        let⟨e,j,y⟩:=zcE.mp y;exact zcE.mpr ⟨e,j,by injection y⟩))] at G
       cases G
     let⟨e,u,e1⟩:=zcE.mp hin;have nk:(a.map λe=>iK e.1).Nodup:=by
      have:=EO n1
      rwa [zcF] at this
     have:=tU (f:=λe=>D.loc e.2) nk u;rw[show iK e.1=iK r.1 by rw[e1]] at this;rw[this] at G;cases G;let⟨c1,c2⟩:=L e u;rw[d9 c2];refine⟨rfl,e.2,_,_,rfl,rfl,c2,?_,?_⟩
     ·have:=zay (λr=>decide (r.1=e.1)) I;rw[zbV,eY,yaf];lia
     ·refine hN _ _ ⟨I++[r],U,a,_,_,rfl,by rw[zbn];exact j,rfl,?_,λk h=>?_,n1,n2,λO v=>?_,λx=>?_,by rw[zaU];lia⟩
      ·rw[dw (by lia)];exact hd
      ·rw[dw (by lia)];exact Z k h
      ·refine⟨(L O v).1,?_⟩;rw[oA];by_cases z:O=e
       ·subst z;rw[yIp e1.symm,qM c2];simp
       ·have X:=λy=>z (tW n1 v u y);have UD:=λy=>z (tW n2 v u y);rw[yIn (by lia),dw UD];exact(L O v).2
      ·rw[Y,zca,zbU,zcs,List.map_nil,zaY];exact⟨.inl,λh=>h.elim id λz=>z▸(Y _).mp hin⟩
    ·have W:r.1 ∉ a.map (·.1):=λz=>by
      let⟨e,u,e1⟩:=zcE.mp z;have nk:(a.map λe=>iK e.1).Nodup:=by
       have:=EO n1
       rwa [zcF] at this
      have:=tU (f:=λe=>D.loc e.2) nk u;lia
     have hgt:=i_lt hd;have X:t.length≠S.length:=by lia
     have ep:j9 (a.map λe=>iK e.1) (a.map λe=>D.loc e.2) (iK r.1) (.loc t.length)=.dct ((a++[(r.1,t.length)]).map λe=>iK e.1) ((a++[(r.1,t.length)]).map λe=>D.loc e.2):=by
      unfold j9;rw[yIn (λz=>?_)]
      ·simp
      ·let⟨k,Z,z⟩:=zbI.mp z;let⟨e,j,rfl⟩:=zcE.mp Z;have z:=of_decide_eq_true z;injection z with z;exact W (zcE.mpr ⟨e,j,z⟩)
     have h0:∀o,(List.set (t++[some (MO.lst [])]) S.length o)[t.length]? =some (some (.lst [])):=λo=>by rw[dw X];exact p8
     have hq0:∀x,x ∉ a.map (·.1)->eY I x=[]:=λx hx=>by
      refine zap.mpr λy hy z=>hx ((Y x).mpr (zcE.mpr ⟨y,hy,of_decide_eq_true z⟩))
     rw[d9 (h0 _)];refine⟨rfl,t.length,_,_,rfl,rfl,h0 _,by rw[yaf];decide,?_⟩;refine hN _ _ ⟨I++[r],U,a++[(r.1,t.length)],_,_,rfl,by rw[zbn];exact j,rfl,?_,λk h=>?_,?_,?_,λO v=>?_,λx=>?_,by simp;exact hl2⟩
     ·rw[dw (Ne.symm X),<-ep];exact qM (by rw[ng hgt];exact hd)
     ·rw[dw (by lia),dw (by lia),ng (by lia)];exact Z k h
     ·rw[zca];exact mq n1 W
     ·rw[zca];refine mq n2 λz=>?_;let⟨e,j,z⟩:=zcE.mp z;have:=i_lt (L e j).2;lia
     ·obtain h|h:=zbU.mp v
      ·let⟨c1,c2⟩:=L O h;have:=i_lt c2;refine⟨c1,?_⟩;rw[dw (by lia),dw (by lia),ng this,c2,oA,yIn (λz=>W (zcE.mpr ⟨O,h,z.symm⟩))]
      ·obtain rfl:O=(r.1,t.length):=by simpa using h
       refine⟨hgt,?_⟩;rw[qM (h0 _),oA,yIp rfl,hq0 _ W];rfl
     ·rw[zca,zbU,Y];simp
def Dr:AN:=λds S Q=>∃(h:List Rw)(j:List Int)(a:Int)(st:List Nat),ds=[Ff h j,.tup [.int a,.tup (nL st)]]/\j.Nodup/\(∀x,x∈j↔x∈h.map (·.1))/\h.length<=100/\(∀r∈h,r.2.length<64)/\st.length<=100/\Q (.dat (.bl (t8 h a st))) S
def Sh(T:Txt K mg C fi)(F:Src K mg "is_covered" lV (top 37)):Def P w K mg base 1 "is_covered" lV (az K Dr):=by
 refine cA F Qx (λds S Q h=>?_) (λf cdv A outer s H E o=>?_)
 ·let⟨j,l,a,st,rfl,_⟩:=h;rfl
 ·refine⟨_,(Vv (VE (VS (M.Og rfl) T.any (Vs (VW ["stands","pair"] [none,some 1] (VL (M.oX (dI o) (Vr 0) (Vy (Vr 1)) (VG Vw) ⟨rfl,rfl,rfl,rfl⟩)) (λ_ _ _ _=>V3) (λ_ _ _ _=>(VU (VJ o) (M.BE rfl (by rfl) T.len (by rfl) T.set (Vr 0) (Vy (Vr 1))) Vx (aG _)))) Vw)))),λds S Q h=>?_⟩;let⟨j,l,a,st,rfl,W,U,hl,o,hs,q⟩:=h;have e0:aM Ho [Ff j l,.tup [.int a,.tup (nL st)]]=[some (Ff j l),some (.tup [.int a,.tup (nL st)])]:=rfl;rw[e0];push_cast[b5,bR,yP,au,b6];have nk:=EO W;have Z:(dR (l.map iK) (l.map (Tp j)) (iK a)).getD (.lst [])=.lst ((eY j a).map λr=>tI r.2):=by
   by_cases h:a∈l
   ·rw[tU nk h];rfl
   ·rw[Fg λz=>?_]
    ·rw[show eY j a=[] from zap.mpr λy t z=>h ((U a).mpr (zcE.mpr ⟨y,t,of_decide_eq_true z⟩))];rfl
    ·let⟨e,Y,z⟩:=zcE.mp z;lia
  refine⟨⟨_,_,rfl⟩,zcS _,_,_,rfl,by simp,_,rfl,?_⟩;rw[Z];have X:=zay (λr=>decide (r.1=a)) j;refine aU (P:=λ_=>True) (λr=>tI r.2) (λ_=>true) (λr=>.bl (decide (∀y∈r.2,y∈st.map λs:Nat=>(s:Int)))) (λr=>[some (tI r.2),some (.tup [.int a,.tup (nL st)])]) (λO=>∃v,O=[v,some (.tup [.int a,.tup (nL st)])]) trivial (λr=>⟨_,rfl⟩) (eY j a) [] _ ⟨none,rfl⟩ ?_ ?_ ?_ ?_ ?_
  ·rintro r G _ ⟨v,rfl⟩ L m;exact m
  ·exact λr G L m=>m
  ·intro r G _ L m;have x:=o r (zbT.mp G).1;push_cast[A4,au,cH];refine⟨r.2,⟨.inl rfl,by lia⟩,x,st.map (λs:Nat=>s),⟨.inl (by rw[zcF];rfl),by rw[zbV];lia⟩,λu I=>?_⟩;have e:decide ((u.length:Int)=0)=decide (∀y∈r.2,y∈st.map λs:Nat=>(s:Int)):=by
    congr 1;refine propext ⟨λz y t=>?_,λz=>?_⟩
    ·have z:u=[]:=zab (by lia);by_cases n:y∈st.map λs:Nat=>(s:Int)
     ·exact n
     ·have:=(I y).mpr ⟨t,n⟩;rw[z] at this;simp at this
    ·cases u with
     |nil=>rfl
     |cons y u=>
      have:=(I y).mp (by simp);exact absurd (z y this.1) this.2
   rw[<-e] at m;exact m
  ·rw[yaf,eY];simp;lia
  ·rw[zaO.mpr λ_ _=>rfl];refine⟨_,(eY j a).map λr=>decide (∀y∈r.2,y∈st.map λs:Nat=>(s:Int)),rfl,by rw[zcF];rfl,bz rfl ?_⟩;have e:(((eY j a).map λr=>decide (∀y∈r.2,y∈st.map λs:Nat=>(s:Int))).any id)=t8 j a st:=by
    unfold t8 eY;rw[zcC,List.any_filter];rfl
   rw[e];exact q
open PySem PySem.Spec L2 M PyProof.Rows
noncomputable abbrev D3:Stmt:=inClass (top 29) 0
noncomputable abbrev Hv:List Str:=["self","one","other"]
noncomputable abbrev lY:=Hv
def Qz:aH Hv lY (aj D3):=L2.bT
noncomputable abbrev Nx:Stmt:=inClass (top 29) 1
noncomputable abbrev PK:List Str:=["self"]
noncomputable abbrev qC:=PK
def QA:aH PK qC (aj Nx):=L2.bT
noncomputable abbrev D4:Stmt:=inClass (top 29) 2
noncomputable abbrev Bk:List Str:=["self","pair"]
noncomputable abbrev kJ:=Bk
def MF:aH Bk kJ (aj D4):=L2.bT
noncomputable abbrev Nv:Stmt:=inClass (top 29) 3
noncomputable abbrev Hw:List Str:=["self","pair","marks","one"]
noncomputable abbrev qB:=Hw.take 3
def Lk:aH Hw qB (aj Nv):=L2.bT
noncomputable abbrev Nt:Stmt:=inClass (top 29) 4
noncomputable abbrev Ht:List Str:=["self","gone"]
noncomputable abbrev qz:=Ht
def Qy:aH Ht qz (aj Nt):=L2.bT
noncomputable abbrev Nu:Stmt:=inClass (top 29) 5
noncomputable abbrev Hu:List Str:=["self","gone","found","side","word","stands","stand"]
noncomputable abbrev qA:=Hu.take 2
def rA:aH Hu qA (aj Nu):=L2.bT
noncomputable abbrev al:List Str:=["firsts","lasts","choices","turns"]
structure Ab where
 n1:Nat
 bI:List Mv
 n2:Nat
 bL:List Mv
 cs:List (List Str)
 ts:List (Str×Str)
structure Ab.Ok(B:Ab):Prop where
 n1:B.n1<=60
 n2:B.n2<=60
 m1:∀m∈B.bI,CC B.n1 m
 m2:∀m∈B.bL,CC B.n2 m
 l1:B.bI.length<=60
 l2:B.bL.length<=60
 cs:∀c∈B.cs,texts c
 cl:B.cs.length<=100
 ts:∀t∈B.ts,kP t.2=true
 tl:B.ts.length<=100
noncomputable def Ab.ds(B:Ab):List D:=[(cS B.n1 B.bI).d,(cS B.n2 B.bL).d,CH B.cs,.lst (B.ts.map qJ)]
def uC(C:Addr)(S:aK)(g:Nat)(B:Ab):Prop:=S[g]? =some (some (.ins C al B.ds))
section
variable {g:Nat}{B:Ab}{Q:AK}
def af(X:uC C S g B)(h:(al.zip B.ds).lookup e=some d)(a:δ[i]? =some (some (.loc g)))(q:Q (.dat d) S):SK C (fR i) e δ S Q:=⟨_,a,g,_,_,_,rfl,X,h,q⟩
def am(X:uC C S g B)(a:δ[i]? =some (some (.loc g)))(j:d ∉ al)(h:e δ S λes l=>sp (.loc g::es) l Q):AZ C d sp (fR i) e δ S Q:=⟨_,a,g,_,_,rfl,X,j,h⟩
end
def vV:lH (kN n) (.inl d)=decide (0<=d/\d<n):=by
 by_cases h:0<=d
 ·obtain⟨k,rfl⟩:∃k:Nat,d=k:=⟨d.toNat,by lia⟩
  rw[AD];simp
 ·rw[yDf (by lia)];unfold lH kN;rw[zcC,zbk];lia
theorem Aa:∀l:List D,(∀d∈l,∃i,d=.int i)->bM l=true/\PyData.canLayAll0 (eE l)=true/\PyData.depthAll (eE l)<=1
 |[],_=>⟨rfl,rfl,zcS _⟩
 |d::l,h=>by
  let⟨i,rfl⟩:=h d (by simp);let⟨a,b,c⟩:=Aa l λx j=>h x (by simp[j]);refine⟨by simp only[bM,cg,a,zcw],?_,?_⟩
  ·simp only[eE,py,PyData.canLayAll0];simp[b,PyData.canLay0]
  ·simp only[eE,py,PyData.depthAll,PyData.depth];lia
def Fo{l:List Int}(a:aT S k=.lst (l.map D.int)∨aT S k=.tup (l.map D.int))(q:r (.dat (.bl (neg != decide (g∈l)))) S):mU neg (.int g) k S r:=by
 let⟨m,j,p3⟩:=Aa (l.map D.int) λd hd=>by let⟨i,_,rfl⟩:=zcE.mp hd;exact⟨i,rfl⟩
 have e:inD (.int g) (l.map D.int)=decide (g∈l):=by
  unfold inD;rw[zcC];by_cases h:g∈l
  ·rw[yDt h,zbI];refine⟨g,h,by simp[py,PyData.eqv]⟩
  ·rw[yDf h,zbk];intro z hz;have:z≠g:=λe=>h (e▸hz);simp[py,PyData.eqv,this]
 have n:fit (.int g)=true:=by rfl
 unfold mU;obtain a|a:=a<;>rw[a]<;>refine⟨n,?_,by rw[show aT S (.int g)=.int g from rfl,e];exact q⟩<;>unfold fit PySem.SeqAt.shaped<;>simp only[cg,m,py,PyData.canLay0,j,PyData.depth,zcy]<;>exact yDt (by lia)
def pJ{l:List Nat}{Q:AK}(a:aT S k=.lst (nL l)∨aT S k=.tup (nL l))(q:Q (.dat (.bl (neg != decide (g∈l)))) S):mU neg (.int g) k S Q:=by
 have e:nL l=(l.map λn:Nat=>(n:Int)).map D.int:=by rw[zcF];rfl
 rw[e] at a;refine Fo a ?_;rw[show decide ((g:Int)∈l.map λn:Nat=>(n:Int))=decide (g∈l) from by
  congr 1;exact propext ⟨λh=>by let⟨n,j,e⟩:=zcE.mp h;exact(Int.ofNat.inj e)▸j,λh=>zaP h⟩]
 exact q
noncomputable def qN(n1 n2:Nat)(r:Rw):Bool:=decide (0<=r.1/\r.1<n1)&&r.2.all λy=>decide (0<=y/\y<n2)
def Li:AN:=λds S Q=>∃d,ds=[d]/\Q (.dat (.tup [.int 0,.tup (nL [0])])) S
def Ss(T:Txt K mg C fi)(F:wJ K C "first" "Abreast.first" qC Nx):kK P w K mg base 1 C "first" qC Li:=by
 refine Au F QA (λds S Q h=>?_) (λf a A outer s H E j=>?_)
 ·let⟨d,rfl,_⟩:=h;rfl
 ·refine⟨_,(Vv (VE (VF (Vs T.jR (Vs (VF (Vt T.jR)) Vw))))),λds S Q h=>?_⟩;let⟨d,rfl,q⟩:=h;refine⟨sz rfl,sz rfl,q⟩
def Dt(C:Addr):AN:=λds S Q=>∃(g:Nat)(B:Ab)(r:Rw),ds=[.loc g,bV r]/\uC C S g B/\r.2.length<=100/\Q (.dat (.bl (qN B.n1 B.n2 r))) S
def O3(T:Txt K mg C fi)(F:wJ K C "has" "Abreast.has" kJ D4):kK P w K mg base 1 C "has" kJ (Dt C):=by
 refine Au F MF (λds S Q h=>?_) (λf u A outer s H E j=>?_)
 ·let⟨g,B,r,rfl,_⟩:=h;rfl
 ·refine⟨_,(Vv (VE (Wu (VU (M.Lw j) (Vy (Vr 1)) (Ww (Vr 0) T.cl T.n_firsts) rfl) (Wy (VS (M.zY rfl) T.all (Vs (VW ["stand","self"] [none,some 0] (VL (Vy (Vr 1))) (λ_ _ _ _=>V3) (λ_ _ _ _=>(VU (M.Lw j) (Vr 0) (Ww (Vr 1) T.cl T.n_lasts) rfl))) Vw)))))),λds S Q h=>?_⟩;let⟨g,B,r,rfl,X,x,q⟩:=h;have t:aM Bk [.loc g,bV r]=[some (.loc g),some (bV r)]:=rfl;rw[t];push_cast[bV,au,b6];refine af X rfl rfl ⟨_,rfl,?_⟩;have o:(false != lH (kN B.n1) (.inl r.1))=decide (0<=r.1/\r.1<B.n1):=by rw[vV,zck]
  rw[o];refine⟨_,rfl,cz (λh=>?_) (λh=>?_)⟩
  ·push_cast[b5,bR,au,cH];refine aU D.int (λ_=>true) (λy=>.bl (decide (0<=y/\y<B.n2))) (λy=>[some (.int y),some (.loc g)]) (λn=>∃v,n=[v,some (.loc g)]) trivial (λc=>⟨_,rfl⟩) r.2 [] _ ⟨none,rfl⟩ ?_ ?_ ?_ ?_ ?_
   ·rintro c l _ ⟨v,rfl⟩ m a;exact a
   ·exact λc l m a=>a
   ·intro c l _ m a;push_cast[true_and];refine af X rfl rfl ⟨_,rfl,?_⟩;rw[vV,zck];exact a
   ·rw[yaf];simp;lia
   ·rw[zaO.mpr λ_ _=>rfl];refine⟨_,r.2.map λy:Int=>decide (0<=y/\y<B.n2),rfl,by rw[bS,zcF];rfl,?_⟩;have e:((r.2.map λy=>decide (0<=y/\y<(B.n2:Int))).all id)=qN B.n1 B.n2 r:=by
     unfold qN;rw[h,zcB];rfl
    rw[e];exact q
  ·have e:qN B.n1 B.n2 r=false:=by
    unfold qN;rw[eq_false_of_ne_true h,zcl]
   rw[e] at q;exact q
def Lh(C:Addr):AN:=λds S Q=>∃(g:Nat)(B:Ab)(a:Nat)(st:List Nat)(ms:List Str),ds=[.loc g,.tup [.int a,.tup (nL st)],kU ms]/\uC C S g B/\B.Ok/\a<B.n1/\(∀s∈st,s<B.n2)/\st.length<=60/\texts ms/\
 ∀j h:List Nat,j.Pairwise (· <=·)->j.Nodup->(∀x,x∈j↔Reach B.bI ms [a] x)->h.Pairwise (· <=·)->h.Nodup->(∀x,x∈h↔Reach B.bL ms st x)->Q (.dat (.tup [.lst (nL j),.lst (nL h)])) S
def So(T:Txt K mg C fi)(F:wJ K C "gone" "Abreast.gone" qB Nv)(j:Def P w K mg base 2 "gone_without_steps" kG (az K Dn)):kK P w K mg base 3 C "gone" qB (Lh C):=by
 refine Au F Lk (λds S Q h=>?_) (λf U A outer s H E o=>?_)
 ·let⟨g,B,a,st,ms,rfl,_⟩:=h;rfl
 ·refine⟨_,(Vu (Vz 3 Lk.nd (VB j o (Vs (Ww (Vr 0) T.cl T.n_firsts) (Vs (VG (Vs (Vy (Vr 1)) Vw)) (Vt (Vr 2)))))) (Vv (VE (VF (Vs (Vr 3) (Vs (VB j o (Vs (Ww (Vr 0) T.cl T.n_lasts) (Vs (Vy (Vr 1)) (Vt (Vr 2))))) Vw)))))),λds S Q h=>?_⟩;let⟨g,B,a,st,ms,rfl,X,O,v,m,n,l,q⟩:=h;have L:aM Hw [.loc g,.tup [.int a,.tup (nL st)],kU ms]=[some (.loc g),some (.tup [.int a,.tup (nL st)]),some (kU ms),none]:=rfl;rw[L];push_cast[au,b6,cH];refine af X rfl rfl ⟨sz rfl,B.n1,B.bI,[a],ms,_,rfl,.inl rfl,O.n1,O.m1,O.l1,by simpa using v,by simp,l,λu h1 h2 x=>?_⟩;refine af X rfl rfl ⟨B.n2,B.bL,st,ms,_,rfl,.inr rfl,O.n2,O.m2,O.l2,m,n,l,λt I G y=>?_⟩;exact⟨sz rfl,q u t h1 h2 x I G y⟩
def Ld(C:Addr):AN:=λds S Q=>∃(d:D)(h a:List Nat),ds=[d,.tup [.lst (nL h),.lst (nL a)]]/\Q (.dat (.bl (decide (1∈h)&& !decide (1∈a)))) S
def Sl(T:Txt K mg C fi)(F:wJ K C "is_parted" "Abreast.is_parted" qz Nt):kK P w K mg base 1 C "is_parted" qz (Ld C):=by
 refine Au F Qy (λds S Q h=>?_) (λf n A outer s H E l=>?_)
 ·let⟨d,j,a,rfl,_⟩:=h;rfl
 ·refine⟨_,(Vv (VE (Wu (VU (V1 l) T.tG (Vy (Vr 1)) rfl) (Wy (VU (Wt l) T.tG (Vy (Vr 1)) rfl))))),λds S Q h=>?_⟩;let⟨d,j,a,rfl,q⟩:=h;have m:aM Ht [d,.tup [.lst (nL j),.lst (nL a)]]=[some d,some (.tup [.lst (nL j),.lst (nL a)])]:=rfl;rw[m];push_cast[au,b6,cH];refine pJ (.inl rfl) ⟨_,rfl,cz (λh=>?_) (λh=>?_)⟩
  ·refine pJ (.inl rfl) ?_;rw[zck] at h;rw[h] at q;rw[zcz];exact q
  ·rw[zck] at h;rw[eq_false_of_ne_true h] at q;exact q
noncomputable def LC(e:(Nat×List Nat)×Str×Str):D:=.tup [.tup [.int e.1.1,.tup (nL e.1.2)],.str e.2.1,.str e.2.2]
def Le(C:Addr):AN:=λds S Q=>∃(g:Nat)(B:Ab)(a h:List Nat),ds=[.loc g,.tup [.lst (nL a),.lst (nL h)]]/\uC C S g B/\B.Ok/\(∀x∈a,x<B.n1)/\(∀x∈h,x<B.n2)/\∀L:List ((Nat×List Nat)×Str×Str),
 (∀e∈L,e.2∈B.ts/\uG B.bI a e.2.1 e.2.2 e.1.1/\e.1.1<B.n1/\e.1.2.Nodup/\∀y,y∈e.1.2↔uG B.bL h e.2.1 e.2.2 y)->(∀t∈B.ts,∀x,uG B.bI a t.1 t.2 x->∃e∈L,e.2=t/\e.1.1=x)->L.length<=6000->Q (.new (.lst (L.map LC))) S
def Sm(T:Txt K mg C fi)(F:wJ K C "led" "Abreast.led" qA Nu)(j:Def P w K mg base 2 "gone_by_step" kH (az K Dp)):kK P w K mg base 3 C "led" qA (Le C):=by
 refine UL F rA (λds S Q h=>?_) (λf cdv A outer s H E l=>?_)
 ·let⟨g,B,U,Y,rfl,_⟩:=h;rfl
 ·refine⟨_,(Vu (Vz 2 rA.nd (VQ (VG Vw))) (Vu (VP PassesOwn.never rfl (VL (Ww (Vr 0) T.cl T.n_turns)) (Wg rfl (VO (VM 3 rA.nd) (VO (VM 4 rA.nd) Wh))) (Vu (Vz 5 rA.nd (V6 Ws T.tuple (Vs (VB j l (Vs (Ww (Vr 0) T.cl T.n_lasts) (Vs (Vy (Vr 1)) (Vs (Vr 3) (Vt (Vr 4)))))) Vw))) (Vv (VP PassesOwn.never rfl (VL (VB j l (Vs (Ww (Vr 0) T.cl T.n_firsts) (Vs (Vy (Vr 1)) (Vs (Vr 3) (Vt (Vr 4))))))) (VM 6 rA.nd) (Vv (VX (VY PySem.F.plainAttrs_list PySem.F.slot_list_append PySem.F.type_list_append V7 (Vr 2) (Vs (VF (Vs (VF (Vs (Vr 6) (Vt (Vr 5)))) (Vs (Vr 3) (Vt (Vr 4))))) Vw)))))))) (Vv (VE (Vr 2))))),λds S Q h=>?_⟩;let⟨g,B,U,Y,rfl,X,O,h1,h2,q⟩:=h;push_cast[dU];have a1:∀a,(S++[some a])[S.length]? =some (some a):=λa=>by simp
  have X1:∀a,uC C (S++[some a]) g B:=λa=>by
   have:=i_lt X;unfold uC;rw[ng this];exact X
  refine⟨zcS _,af (X1 _) rfl rfl ?_⟩;refine bf (λrest Z S2=>∃(t1 W:List (Str×Str))(L:List ((Nat×List Nat)×Str×Str))(v3 v4 v5 I:Option D),rest=W.map qJ/\t1++W=B.ts/\Z=[some (.loc g),some (.tup [.lst (nL U),.lst (nL Y)]),some (.loc S.length),v3,v4,v5,I]/\S2=S++[some (.lst (L.map LC))]/\(∀e∈L,e.2∈B.ts/\uG B.bI U e.2.1 e.2.2 e.1.1/\e.1.1<B.n1/\e.1.2.Nodup/\∀y,y∈e.1.2↔uG B.bL Y e.2.1 e.2.2 y)/\(∀t∈t1,∀x,uG B.bI U t.1 t.2 x->∃e∈L,e.2=t/\e.1.1=x)/\L.length<=60*t1.length) ?_ ?_ _ _ _
   ⟨[],B.ts,[],none,none,none,none,rfl,rfl,rfl,rfl,by simp,by simp,by simp⟩
  ·intro Z S2 z;let⟨t1,W,L,v3,v4,v5,I,l,v,rfl,rfl,g1,g2,g3⟩:=z;obtain rfl:W=[]:=by simpa using l.symm
   rw[zbW] at v;subst v;push_cast[true_and];have:=O.tl;exact sV (cy _ _ (aY λe _=>by simp only[LC,cg,bM,iN,zcw])) (q L g1 g2 (by lia))
  ·intro x rest Z S2 N z hN;let⟨t1,W,L,v3,v4,v5,I,l,v,rfl,rfl,g1,g2,g3⟩:=z;cases W with
   |nil=>simp at l
   |cons t W=>
    injection l with e1 e2;subst e1;subst e2;have ht:t∈B.ts:=by rw[<-v];simp
    have htl:t1.length<100:=by have h1:=congrArg zcQ v;have h2:=O.tl;simp at h1;lia
    refine⟨trivial,_,rfl,rfl,_,_,rfl,_,_,rfl,rfl,?_⟩;refine aV λN2 hN2=>?_;push_cast[au,cH];refine af (X1 _) rfl rfl ⟨B.n2,B.bL,Y,t.1,t.2,rfl,O.n2,O.m2,O.l2,h2,O.ts t ht,λst s1 s2 s3=>⟨_,rfl,?_⟩⟩;refine hN2 _ _ ?_;push_cast[dU,bR,au,b6];refine af (X1 _) rfl rfl ⟨B.n1,B.bI,U,t.1,t.2,rfl,O.n1,O.m1,O.l1,h1,O.ts t ht,λxs x1 x2 x3=>?_⟩;have hlx:∀x∈xs,x<B.n1:=λx hx=>by
     let⟨m,hm,_,_,rfl⟩:=(x3 x).mp hx;exact(O.m1 m hm).2.2
    have hxl:=bw B.n1 xs x2 hlx;have hn1:=O.n1;refine bf (λrest Z S2=>∃(xa G:List Nat)(I:Option D),rest=nL G/\xa++G=xs/\Z=[some (.loc g),some (.tup [.lst (nL U),.lst (nL Y)]),some (.loc S.length),some (.str t.1),some (.str t.2),some (.tup (nL st)),I]/\S2=S++[some (.lst ((L++xa.map λx=>((x,st),t)).map LC))]) ?_ ?_ _ _ _
     ⟨[],xs,I,rfl,rfl,rfl,by simp⟩
    ·intro Z S2 z;let⟨xa,G,I,l,o,rfl,rfl⟩:=z;obtain rfl:G=[]:=by
      cases G with
      |nil=>rfl
      |cons _ _=>simp[nL] at l
     rw[zbW] at o;subst o;refine⟨trivial,hN _ _ ⟨t1++[t],W,_,_,_,_,_,rfl,by rw[zbn];exact v,rfl,rfl,λe v=>?_,λu hu x hx=>?_,?_⟩⟩
     ·obtain h|h:=zbU.mp v
      ·exact g1 e h
      ·let⟨x,hx,rfl⟩:=zcE.mp h;refine⟨ht,(x3 x).mp hx,hlx x hx,s2,s3⟩
     ·obtain h|h:=zbU.mp hu
      ·let⟨e,v,h⟩:=g2 u h x hx;refine⟨e,zaD _ v,h⟩
      ·obtain rfl:=zaY.mp h;refine⟨((x,st),u),zav _ (zaP ((x3 x).mpr hx)),rfl,rfl⟩
     ·rw[zaU,zbV,zaU,zaw];lia
    ·intro x rest Z S2 N3 z hN3;let⟨xa,G,I,l,o,rfl,rfl⟩:=z;cases G with
     |nil=>simp[nL] at l
     |cons y G=>
      injection l with e1 e2;subst e1;subst e2;have hal:xa.length<=60:=by have h1:=congrArg zcQ o;simp at h1;lia
      push_cast[kQ];rw[show aT (S++[some (MO.lst ((L++xa.map λx=>((x,st),t)).map LC))]) (.loc S.length)=_ from d9 (a1 _)];refine⟨rfl,sz rfl,sz rfl,_,_,_,rfl,rfl,a1 _,?_,?_⟩
      ·rw[zbV,zaU,zbV,yaf];lia
      ·exact hN3 _ _ ⟨xa++[y],G,_,rfl,by rw[zbn];exact o,rfl,by simp[LC]⟩
abbrev HZ:AN:=Bx λp y=>Wo p y/\y≠"*"
def Lg(C:Addr):AN:=λds S Q=>∃(g:Nat)(p q:Pt),ds=[.loc g,tD p,tD q]/\S[g]? =some (some (.ins C [] []))/\N p<=25/\N q<=25/\(∃W a:List Str,jy W a p/\jy W a q/\W.length<=7/\a.length<=6/\(∀y∈W,Nm y)/\∀y∈a,Nm y)/\∀(n1 n2)(bI bL)(ms ws)(x y),nj p n1 bI->nj q n2 bL->SU ms->(∀z,z∈ms↔Mo p z∨Mo q z)->SU ws->(∀z,z∈ws↔(Wo p z∨Wo q z)/\z≠"*")->uB ws x->uB ws y->
 (Ab.mk n1 bI n2 bL (m8 ms) (tn ws x y)).Ok->Q (.dat .bU) (S.set g (some (.ins C al (Ab.mk n1 bI n2 bL (m8 ms) (tn ws x y)).ds)))
def Sn(T:Txt K mg C fi)(F:Hz K "__init__" "Abreast.__init__" D3 f fd)(j:Def P w K mg base 2 "moves_near" kC (az K Dg))(l:Def P w K mg base 4 "machine_of" lT (az K Dh))(u:Def P w K mg base 4 "marks_in" iF (az K (Bx Mo)))(o:Def P w K mg base 5 "words_in" iC (az K HZ))(v:Def P w K mg base 1 "choices_of" qx (az K Lb))(I:Def P w K mg base 3 "turns_of" qj (az K K2)):eK P w K mg base qD 6 f fd lY (az K (Lg C)):=by
 refine Ur F Qz (λds S Q h=>?_) (λf cdv A outer s H E L=>?_)
 ·let⟨g,p,q,rfl,_⟩:=h;rfl
 ·refine⟨_,(Vu (M.k9 (Vr 0) (VB j L (Vs (VB l L (Vt (Vr 1))) Vw)) T.cl T.n_firsts) (Vu (M.k9 (Vr 0) (VB j L (Vs (VB l L (Vt (Vr 2))) Vw)) T.cl T.n_lasts) (Vu (M.k9 (Vr 0) (VB v L (Vs (Wv rfl (by rfl) T.sorted (by rfl) T.set (VD VN (VB u L (Vt (Vr 1))) (VB u L (Vt (Vr 2))))) Vw)) T.cl T.n_choices) (Vv (M.k9 (Vr 0) (VB I L (Vs (Wv rfl (by rfl) T.sorted (by rfl) T.set (VD VN (VB o L (Vt (Vr 1))) (VB o L (Vt (Vr 2))))) Vw)) T.cl T.n_turns))))),λds S Q h=>?_⟩;let⟨g,p,q,rfl,hg,np,nq,⟨W,Mz,ip,Y,lW,lM,hW,hM⟩,k⟩:=h;have op:=ip.ok hW hM;have oq:=Y.ok hW hM;have cp:=vm p;have cq:=vm q;have X:∀{r:Pt},jy W Mz r->∀z,(Mo r z->z∈Mz)/\(Wo r z->z∈W∨z="*"):=λi z=>⟨λ⟨b,hb⟩=>i _ hb,λ⟨b,hb⟩=>i _ hb⟩
  have e0:aM Hv [.loc g,tD p,tD q]=[some (.loc g),some (tD p),some (tD q)]:=rfl;rw[e0];have mo:∀{r:Pt}{n:Nat}{mv:List Mv},gJ r n (mv.map eM)->(∀m∈mv,qG m.2.1)->∀m∈mv,CC n m:=λb h m hm=>⟨(b.EL (eM m) (zaP hm)).1,h m hm,(b.EL (eM m) (zaP hm)).2⟩
  refine aV λN1 G=>?_;push_cast[uY];refine⟨p,rfl,op,by lia,λn1 bI o1 b1 h1 l1 k1=>⟨n1,0,[1],bI,rfl,by lia,mo b1 k1,by lia,g,rfl,_,_,hg,by decide,G _ _ ?_⟩⟩;have hg1:=qM (o':=some (MO.ins C ["firsts"] [(R.new (cS n1 bI)).d])) hg;refine aV λN1 G=>?_;push_cast[uY];refine⟨q,rfl,oq,by lia,λn2 bL o2 b2 h2 l2 k2=>⟨n2,0,[1],bL,rfl,by lia,mo b2 k2,by lia,g,rfl,_,_,hg1,by decide,G _ _ ?_⟩⟩;rw[zcD];have hg2:=qM (o':=some (MO.ins C ["firsts","lasts"] [(R.new (cS n1 bI)).d,(R.new (cS n2 bL)).d])) hg;refine aV λN1 G=>?_;push_cast[uY,bZ];refine⟨p,rfl,by lia,op,λa1 u1 u2 u3=>⟨q,rfl,by lia,oq,λa2 v1 v2 v3=>?_⟩⟩;have U:∀{a:List Str}{Z:List Str},SU a->(∀y∈a,y∈Z)->a.length<=Z.length:=λh g=>sub_len _ _ h.nodup g;have l1':=U u1 λy O=>(X ip y).1 ((u2 y).mp O);refine⟨by rw[zbV,zbV,yaf];lia,a1++a2,.inr (by rw[zca];rfl),by rw[zaU];lia,λms m1 m2 m3=>?_⟩;have mz:∀z,z∈ms↔Mo p z∨Mo q z:=λz=>by rw[m2,zbU,u2,v2]
  have mM:=λz hz=>((mz z).mp hz).elim (X ip z).1 (X Y z).1;have mu:=qY m1 m3;have ml:=U mu mM;refine⟨ms,rfl,by lia,g,rfl,_,_,hg2,by decide,G _ _ ?_⟩;rw[zcD];have hg3:=qM (o':=some (MO.ins C ["firsts","lasts","choices"] [(R.new (cS n1 bI)).d,(R.new (cS n2 bL)).d,(R.dat (CH (m8 ms))).d])) hg;push_cast[uY,bZ];refine⟨p,rfl,by lia,op,λa3 u4 u5 u6=>⟨q,rfl,by lia,oq,λa4 v4 v5 v6=>?_⟩⟩;have sW:∀{r:Pt}{a:List Str},jy W Mz r->(∀y,y∈a↔Wo r y/\y≠"*")->∀y∈a,y∈W:=λi h y O=>((X i y).2 ((h y).mp O).1).elim id λz=>absurd z ((h y).mp O).2;have l3':=U u4 (sW ip u5);refine⟨by rw[zbV,zbV,yaf];lia,a3++a4,.inr (by rw[zca];rfl),by rw[zaU];lia,λws w1 w2 w3=>?_⟩;have wz:∀z,z∈ws↔(Wo p z∨Wo q z)/\z≠"*":=λz=>by rw[w2,zbU,u5,v5,or_and_right]
  have wW:=λz hz=>(zbU.mp ((w2 z).mp hz)).elim (sW ip u5 z) (sW Y v5 z);have wu:=qY w1 w3;have wl:=U wu wW;refine⟨ws,rfl,λy O=>hW y (wW y O),by lia,λx y ox oy=>⟨g,rfl,_,_,hg3,by decide,?_⟩⟩;rw[zcD];let⟨c1,c2⟩:=kg ms;have tm:∀t∈tn ws x y,kP t.2=true:=λt ht=>by
   have:t.2∈ws∨t.2=x∨t.2=y:=by
    unfold tn at ht;simp only[zbU,zcE,zaY] at ht;lia
   obtain h|h|h:=this
   ·exact o9 (hW _ (wW _ h))
   ·rw[h];exact ox.ok
   ·rw[h];exact oy.ok
  refine k n1 n2 bI bL ms ws x y o1 o2 mu mz wu wz ox oy ⟨by lia,by lia,mo b1 k1,mo b2 k2,by lia,by lia,λc hc=>⟨by have:=(c2 c hc).1;lia,λz hz=>o9 (hM _ (mM _ ((c2 c hc).2 z hz)))⟩,?_,tm,?_⟩
  ·rw[c1];exact zcH (zaH (by decide) (show ms.length<=6 by lia)) (by decide)
  ·unfold tn;simp;lia
open PySem PySem.Spec L2 M PyProof.Rows
noncomputable abbrev G4:List Str:=["abreast","known","pair","marks","gone"]
noncomputable abbrev qo:=G4.take 3
def DI:aH G4 qo (aj (top 35)):=L2.bT
noncomputable abbrev G3:List Str:=["one","other","pairs","abreast","known"]
noncomputable abbrev ql:=G3.take 3
def DH:aH G3 ql (aj (top 34)):=L2.bT
def kr(mv:List Mv)(R:Nat->Prop)(sd wd:Str)(x:Nat):Prop:=∃m∈mv,R m.1/\take m.2.1 sd wd=true/\m.2.2=x
def Cv(rows:List Rw)(x:Nat)(P:Nat->Prop):Prop:=∃r∈rows,r.1=x/\∀y∈r.2,∃s:Nat,y=s/\P s
def iA(B:Ab)(rows:List Rw)(a:Nat)(st:List Nat):Prop:=∀ms∈B.cs,(Reach B.bI ms [a] 1->Reach B.bL ms st 1)/\∀t∈B.ts,∀x,kr B.bI (Reach B.bI ms [a]) t.1 t.2 x->Cv rows x (kr B.bL (Reach B.bL ms st) t.1 t.2)
def jd(B:Ab)(rows:List Rw):Prop:=(∀r∈rows,qN B.n1 B.n2 r=true)/\Cv rows 0 (· =0)/\∀r∈rows,iA B rows r.1.toNat (r.2.map zcX)
def iU{rows:List Rw}{a:Nat}{st:List Nat}:t8 rows a st=true↔Cv rows a (· ∈st):=by
 unfold t8 Cv;rw[zbI];refine exists_congr λr=>and_congr Iff.rfl ?_;rw[zbR,decide_eq_true_eq,decide_eq_true_eq];refine and_congr Iff.rfl (forall_congr' λy=>imp_congr Iff.rfl ?_);rw[zcE];exact⟨λ⟨s,h,e⟩=>⟨s,e.symm,h⟩,λ⟨s,e,h⟩=>⟨s,h,e.symm⟩⟩
def Cv.imp(h:∀s,g s->k s)(c:Cv rows d g):Cv rows d k:=by
 let⟨r,h1,h2,j⟩:=c;refine⟨r,h1,h2,λy a=>by let⟨s,e,z⟩:=j y a;refine⟨s,e,h s z⟩⟩
def fB(h:∀g,g∈d↔e g):uG mv d sd wd g↔kr mv e sd wd g:=by
 exact exists_congr λm=>and_congr Iff.rfl (and_congr (h _) Iff.rfl)
def bY(k)(h:∀Q:Bool->aK->Prop,Q k S->d δ S Q)(j:k=true->e q δ S)(l:k=false->g q δ S):Cp d e g q δ S:=h _ (by
 cases k
 ·exact l rfl
 ·exact j rfl)
def jG(h:cg d=true)(q:e (.dat d) S):VT S (S++T) (.dat d) e:=by
 refine⟨_,fE h,λk l j a=>.inl ?_,by rw[List.take_left];exact q⟩;rw[zag j] at a;exact a
def Uw(rows:List Rw)(a:List Int):Prop:=a.Nodup/\(∀x,x∈a↔x∈rows.map (·.1))/\rows.length<=100/\∀r∈rows,r.2.length<64
def K5(C:Addr):AN:=λds S Q=>∃(g:Nat)(B:Ab)(h:List Rw)(j:List Int)(a:Nat)(st:List Nat),ds=[.loc g,Ff h j,.tup [.int a,.tup (nL st)]]/\uC C S g B/\B.Ok/\Uw h j/\a<B.n1/\(∀s∈st,s<B.n2)/\st.length<=60/\∀b:Bool,(b=true↔iA B h a st)->Q (.dat (.bl b)) S
def RX(T:Txt K mg C fi)(F:Src K mg "is_shown" qo (top 35))(yZ:kK P w K mg base 3 C "gone" qB (Lh C))(o:kK P w K mg base 1 C "is_parted" qz (Ld C))(Bo:kK P w K mg base 3 C "led" qA (Le C))(l:Def P w K mg base 1 "is_covered" lV (az K Dr)):Def P w K mg base 4 "is_shown" qo (az K (K5 C)):=by
 refine cA F DI (λds S Q h=>?_) (λf cdv A outer s H E I=>?_)
 ·let⟨g,B,j,W,a,st,rfl,_⟩:=h;rfl
 ·refine⟨_,(Vu (VP PassesOwn.never rfl (VL (Ww (Vr 0) T.cl T.n_choices)) (VM 3 DI.nd) (Vu (Vz 4 DI.nd (M.iP (Vr 0) T.cl yZ (I.mono (by decide)) (Vs (Vr 2) (Vt (Vr 3))))) (Vu (VH (V4 (M.iP (Vr 0) T.cl o (I.mono (by decide)) (Vt (Vr 4)))) (Vv (VE VZ)) VI) (Vv (VH (M.k8 (V4 (VS (M.zY rfl) T.all (Vs (M.iQ (caps:=[none,none,none,some 1]) (sy (by rfl)) (by rfl) (by rfl) rfl (VL (M.iP (Vr 0) T.cl Bo (I.mono (by decide)) (Vt (Vr 4)))) (λ_ _ _ _=>(Wg (n:=3) rfl (VO (WE (i:=0) (by decide+kernel:List.Nodup (["behind","side","word","known"]:List Str)) rfl (Or.inl rfl)) (VO (WE (i:=1) (by decide+kernel:List.Nodup (["behind","side","word","known"]:List Str)) rfl (Or.inl rfl)) (VO (WE (i:=2) (by decide+kernel:List.Nodup (["behind","side","word","known"]:List Str)) rfl (Or.inl rfl)) Wh))))) (λ_ _ _ _=>V3) (λ_ _ _ _=>(VB l I (Vs (Vr 3) (Vt (Vr 0)))))) Vw)))) (Vv (VE VZ)) VI))))) (Vv (VE VZ))),λds S Q h=>?_⟩;let⟨g,B,j,W,a,st,rfl,X,O,⟨n1,n2,n3,n4⟩,ha,hst,hsl,q⟩:=h;refine aV λN1 hN1=>?_;push_cast[dU];refine af X rfl rfl ?_;refine bf (λrest δ S2=>∃(c1 U:List (List Str))(v3 v4:Option D),rest=U.map kU/\c1++U=B.cs/\δ=[some (.loc g),some (Ff j W),some (.tup [.int a,.tup (nL st)]),v3,v4]/\S=S2/\∀ms∈c1,(Reach B.bI ms [a] 1->Reach B.bL ms st 1)/\∀t∈B.ts,∀x,kr B.bI (Reach B.bI ms [a]) t.1 t.2 x->Cv j x (kr B.bL (Reach B.bL ms st) t.1 t.2)) ?_ ?_ _ _ _ ⟨[],B.cs,none,none,rfl,rfl,rfl,rfl,by simp⟩
  ·intro δ _ k;let⟨c1,U,v3,v4,I,u,rfl,rfl,hc⟩:=k;obtain rfl:U=[]:=by simpa using I.symm
   rw[zbW] at u;subst u;refine⟨trivial,hN1 _ _ ?_⟩;push_cast[true_and];exact q true ⟨λ_=>hc,λ_=>rfl⟩
  ·intro x rest δ _ N k hN;let⟨c1,U,v3,v4,I,u,rfl,rfl,hc⟩:=k;cases U with
   |nil=>simp at I
   |cons ms U=>
    injection I with e1 e2;subst e1;subst e2;have Z:ms∈B.cs:=by rw[<-u];simp
    refine⟨trivial,?_⟩;refine aV λN2 G=>?_;refine am X rfl (by decide+kernel) ⟨_,rfl,_,rfl,g,B,a,st,ms,rfl,X,O,ha,hst,hsl,O.cs ms Z,λr1 r2 h1 h2 h3 k1 k2 k3=>G _ _ ?_⟩;have l1:=λx hx=>((h3 x).mp hx).lt O.m1 (by simpa using ha);have l2:=λx hx=>((k3 x).mp hx).lt O.m2 hst;refine aV λN2 G=>?_;refine bY (decide (1∈r1)&& !decide (1∈r2)) (λQ' Y=>?_) (λv=>?_) (λv=>G _ _ ?_)
    ·refine am X rfl (by decide+kernel) ⟨_,rfl,_,r1,r2,rfl,_,rfl,Y⟩
    ·push_cast[true_and];refine q false ⟨λz=>absurd z (by decide),λz=>?_⟩;rw[zbR,zbv,decide_eq_true_eq,decide_eq_false_iff_not,h3,k3] at v;exact absurd ((z ms Z).1 v.1) v.2
    ·have hpt:=λz=>by
      rw[Bool.and_eq_false_iff,zbf,decide_eq_true_eq,decide_eq_false_iff_not,h3,k3] at v;exact v.elim (λy=>absurd z y) id
     push_cast[b5];refine am X rfl (by decide+kernel) ⟨_,rfl,g,B,r1,r2,rfl,X,O,l1,l2,λL g1 g2 g3=>?_⟩;have hL:=λe u=>by
      let⟨_,_,_,z1,z2⟩:=g1 e u;have:=bw B.n2 e.1.2 z1 λy hy=>by
       let⟨m,hm,_,_,rfl⟩:=(z2 y).mp hy;exact(O.m2 m hm).2.2
      exact zcH this O.n2
     refine aU LC (λ_=>true) (λe=>.bl (t8 j e.1.1 e.1.2)) (λe=>[some (.tup [.int e.1.1,.tup (nL e.1.2)]),some (.str e.2.1),some (.str e.2.2),some (Ff j W)]) (λδ=>∃v0 v1 v2,δ=[v0,v1,v2,some (Ff j W)]) trivial (λe=>⟨_,_,_,rfl⟩) L [] _ ⟨none,none,none,rfl⟩ ?_ ?_ ?_ ?_ ?_
     ·intro e u _ k Q' Y;let⟨v0,v1,v2,rfl⟩:=k;refine⟨_,rfl,rfl,_,_,rfl,_,_,rfl,_,_,rfl,rfl,Y⟩
     ·exact λe u Q' Y=>Y
     ·intro e u _ Q' Y;refine⟨_,rfl,_,rfl,j,W,e.1.1,e.1.2,rfl,n1,n2,n3,n4,zcH (hL e u) (by decide),Y⟩
     ·rw[yaf];simp;lia
     ·rw[zaO.mpr λ_ _=>rfl];refine⟨_,L.map λe=>t8 j e.1.1 e.1.2,rfl,by rw[bS,zcF];rfl,_,rfl,?_⟩;have cv:(∀e∈L,t8 j e.1.1 e.1.2=true)↔∀t∈B.ts,∀x,kr B.bI (Reach B.bI ms [a]) t.1 t.2 x->Cv j x (kr B.bL (Reach B.bL ms st) t.1 t.2):=by
       constructor
       ·intro h t ht x hx;let⟨e,u,rfl,rfl⟩:=g2 t ht x ((fB h3).mpr hx);exact(iU.mp (h e u)).imp λs hs=>(fB k3).mp (((g1 e u).2.2.2.2 s).mp hs)
       ·intro h e u;let⟨z1,z2,_,_,z3⟩:=g1 e u;exact iU.mpr ((h e.2 z1 _ ((fB h3).mp z2)).imp λs hs=>(z3 s).mpr ((fB k3).mpr hs))
      refine cz (λv=>?_) (λv=>?_)
      ·refine bz rfl (q false ⟨λz=>absurd z (by decide),λz=>?_⟩);rw[zcB] at v;have:=zbE.mpr (cv.mpr (z ms Z).2);rw[show(L.all (id ∘ λe=>t8 j e.1.1 e.1.2))=true from this] at v;lia
      ·refine hN _ _ ⟨c1++[ms],U,_,_,rfl,by rw[zbn];exact u,rfl,rfl,λc hc'=>?_⟩;obtain h|h:=zbU.mp hc'
       ·exact hc c h
       ·obtain rfl:=zaY.mp h;refine⟨hpt,cv.mp λe u=>?_⟩;have:(L.all λe=>t8 j e.1.1 e.1.2)=true:=by
         simpa using v
        exact zbE.mp this e u
structure HF(p q:Pt)(B:Ab):Prop where
 ok:B.Ok
 ex:∃(ms ws:List Str)(x y:Str),nj p B.n1 B.bI/\nj q B.n2 B.bL/\SU ms/\(∀z,z∈ms↔Mo p z∨Mo q z)/\SU ws/\(∀z,z∈ws↔(Wo p z∨Wo q z)/\z≠"*")/\uB ws x/\uB ws y/\B.cs=m8 ms/\B.ts=tn ws x y
def zU(h:qN n1 n2 r=true):r.1.toNat<n1/\(∀s∈r.2.map zcX,s<n2)/\bV r=.tup [.int r.1.toNat,.tup (nL (r.2.map zcX))]:=by
 unfold qN at h;rw[zbR,decide_eq_true_eq,zbE] at h;let⟨⟨h1,h2⟩,j⟩:=h;refine⟨by lia,λs l=>?_,?_⟩
 ·let⟨y,a,rfl⟩:=zcE.mp l;have:=j y a;lia
 ·have n:((r.1.toNat:Nat):Int)=r.1:=by lia
  have m:nL (r.2.map zcX)=r.2.map D.int:=by
   unfold nL;rw[zcF];refine zaN λy a=>?_;have:=j y a;show D.int y.toNat=_;rw[show y.toNat=y by lia]
  rw[n,m];rfl
def K4:AN:=λds S Q=>∃(p q:Pt)(a:List Rw),ds=[tD p,tD q,.lst (a.map bV)]/\N p<=25/\N q<=25/\(∃W h:List Str,jy W h p/\jy W h q/\W.length<=7/\h.length<=6/\(∀y∈W,Nm y)/\∀y∈h,Nm y)/\a.length<=100/\(∀r∈a,r.2.length<=60)/\
 ∀(B)(b),HF p q B->(b=true↔jd B a)->Q (.dat (.bl b)) S
def RW{Z:yap}(T:Txt K mg C fi)(F:Src K mg "shows" ql (top 34))(o:eK P w K mg base qD 6 fi Z lY (az K (Lg C)))(t:Binds K Z lY [])(G:kK P w K mg base 1 C "first" qC Li)(U:kK P w K mg base 1 C "has" kJ (Dt C))(n:Def P w K mg base 1 "by_first" qv (az K K9))(j:Def P w K mg base 1 "is_covered" lV (az K Dr))(m:Def P w K mg base 4 "is_shown" qo (az K (K5 C))):Def P w K mg base 8 "shows" ql (az K K4):=by
 refine cA F DH (λds S Q h=>?_) (λf cdv A outer s H E W=>?_)
 ·let⟨p,q,rows,rfl,_⟩:=h;rfl
 ·refine⟨_,(Vu (Vz 3 DH.nd (M.tw T.mks o t (W.mono (by decide)) (by rfl) T.mg_Abreast (Vs (Vr 0) (Vt (Vr 1))))) (Vu (VH (M.k8 (V4 (VS (M.zY rfl) T.all (Vs (VW ["pair","abreast"] [none,some 3] (VL (Vr 2)) (λ_ _ _ _=>V3) (λ_ _ _ _=>(M.iP (Vr 1) T.cl U (W.mono (by decide)) (Vt (Vr 0))))) Vw)))) (Vv (VE VZ)) VI) (Vu (Vz 4 DH.nd (VB n W (Vt (Vr 2)))) (Vv (VE (Wu (VB j W (Vs (Vr 4) (Vs (M.oV (Vr 3) T.cl G (W.mono (by decide))) Vw))) (Wy (VS (M.zY rfl) T.all (Vs (VW ["pair","abreast","known"] [none,some 3,some 4] (VL (Vr 2)) (λ_ _ _ _=>V3) (λ_ _ _ _=>(VB m W (Vs (Vr 1) (Vs (Vr 2) (Vt (Vr 0))))))) Vw))))))))),λds S Q h=>?_⟩;let⟨p,q,rows,rfl,np,nq,hin,hl,I,k⟩:=h;have e0:aM G3 [tD p,tD q,.lst (rows.map bV)]=[some (tD p),some (tD q),some (.lst (rows.map bV)),none,none]:=rfl;rw[e0];refine aV λN1 l=>?_;push_cast[LV];refine⟨S.length,p,q,rfl,p8,np,nq,hin,λn1 n2 bI bL ms ws x y o1 o2 mu mz wu wz ox oy O=>⟨rfl,l _ _ ?_⟩⟩;obtain⟨B,hB⟩:∃B,B=Ab.mk n1 bI n2 bL (m8 ms) (tn ws x y):=⟨_,rfl⟩
  have AO:HF p q B:=by subst hB;refine⟨O,ms,ws,x,y,o1,o2,mu,mz,wu,wz,ox,oy,rfl,rfl⟩
  rw[<-hB] at O⊢;have k:=λb=>k B b AO;have e1:(S++[some (MO.ins C [] [])]).set S.length (some (.ins C al B.ds))=S++[some (.ins C al B.ds)]:=by simp
  rw[e1];have X:uC C (S++[some (.ins C al B.ds)]) S.length B:=p8;generalize e2:S++[some (MO.ins C al B.ds)]=S1 at X⊢;refine aV λN1 l=>?_;push_cast[b5,bR];refine aU bV (λ_=>true) (λr=>.bl (qN B.n1 B.n2 r)) (λr=>[some (bV r),some (.loc S.length)]) (λδ=>∃v,δ=[v,some (.loc S.length)]) trivial (λr=>⟨_,rfl⟩) rows [] _ ⟨none,rfl⟩ ?_ ?_ ?_ ?_ ?_
  ·rintro r h _ ⟨v,rfl⟩ Q' u;exact u
  ·exact λr h Q' u=>u
  ·intro r h _ Q' u;exact am X rfl (by decide+kernel) ⟨_,rfl,S.length,B,r,rfl,X,by have:=I r h;lia,u⟩
  ·rw[yaf];simp;lia
  rw[zaO.mpr λ_ _=>rfl];refine⟨_,rows.map λr=>qN B.n1 B.n2 r,rfl,by rw[bS,zcF];rfl,_,rfl,cz (λL=>?_) (λL=>l _ _ ?_)⟩
  ·rw[<-e2];refine jG rfl (k false ⟨λz=>absurd z (by decide),λz=>?_⟩);have:((rows.map λr=>qN B.n1 B.n2 r).all id)=true:=by
    rw[zcB];exact zbE.mpr z.1
   lia
  have hok:=by
   rw[zcB] at L;have:(rows.all (id ∘ λr=>qN B.n1 B.n2 r))=true:=by lia
   exact zbE.mp this
  refine aV λN1 l=>?_;push_cast[true_and];refine⟨rows,rfl,hl,λxs h1 h2=>l _ _ ?_⟩;have Y:∀r∈rows,r.2.length<64:=λr h=>by have:=I r h;lia
  push_cast[b5,bR];have c0:=by
   have:=iU (rows:=rows) (a:=0) (st:=[0]);simpa using this
  refine am X rfl (by decide+kernel) ⟨_,rfl,rows,xs,0,[0],rfl,h1,h2,hl,Y,by decide,_,rfl,cz (λhc=>?_) (λhc=>?_)⟩
  ·refine aU bV (λ_=>true) (λr=>.bl (@decide (iA B rows r.1.toNat (r.2.map zcX)) (Classical.propDecidable _))) (λr=>[some (bV r),some (.loc S.length),some (Ff rows xs)]) (λδ=>∃v,δ=[v,some (.loc S.length),some (Ff rows xs)]) trivial (λr=>⟨_,rfl⟩) rows [] _ ⟨none,rfl⟩ ?_ ?_ ?_ ?_ ?_
   ·rintro r h _ ⟨v,rfl⟩ Q' u;exact u
   ·exact λr h Q' u=>u
   ·intro r h _ Q' u;let⟨z1,z2,z3⟩:=zU (hok r h);refine⟨_,rfl,_,rfl,_,rfl,S.length,B,rows,xs,r.1.toNat,r.2.map zcX,by rw[z3];rfl,X,O,⟨h1,h2,hl,Y⟩,z1,z2,by rw[zbV];exact I r h,λb L=>?_⟩;have:=zcf.mpr (L.trans (@decide_eq_true_iff _ (Classical.propDecidable _)).symm);rw[this];exact u
   ·rw[yaf];simp;lia
   ·rw[zaO.mpr λ_ _=>rfl];refine⟨_,rows.map λr=>@decide (iA B rows r.1.toNat (r.2.map zcX)) (Classical.propDecidable _),rfl,by rw[bS,zcF];rfl,?_⟩;rw[<-e2];refine jG rfl (k _ ⟨λz=>⟨hok,c0.mp hc,λr h=>?_⟩,λz=>?_⟩)
    ·rw[zcB] at z;exact(@decide_eq_true_iff _ (Classical.propDecidable _)).mp (zbE.mp z r h)
    ·rw[zcB];exact zbE.mpr λr h=>(@decide_eq_true_iff _ (Classical.propDecidable _)).mpr (z.2.2 r h)
  ·rw[<-e2];exact jG rfl (k false ⟨λz=>absurd z (by decide),λz=>absurd (c0.mpr z.2.1) hc⟩)
open PySem PySem.Spec L2 M PyProof.Rows
noncomputable abbrev DR:Stmt:=top 44
noncomputable abbrev Hi:List Str:=["_law_pattern_here","_law_found","_law_one"]
noncomputable abbrev fT:=Hi.take 1
def uW:aH Hi fT (aj DR):=L2.bT
noncomputable abbrev DQ:Stmt:=top 45
noncomputable abbrev Hg:List Str:=["_law_pattern_here","_law_found","_law_one"]
noncomputable abbrev fS:=Hg.take 1
def uV:aH Hg fS (aj DQ):=L2.bT
noncomputable abbrev Bc:List Str:=["_law_one","_law_other","_law_sets","_law_mark","_law_words","_law_more","_law_steps"]
noncomputable abbrev kF:=Bc.take 2
def je:aH Bc kF (aj (top 46)):=L2.bT
abbrev LW(p:Pt)(y:Str):Prop:=Wo p y/\y≠"*"
def sM(R:Pt->Str->Prop)(k:Nat):AN:=λds S Q=>∃p:Pt,ds=[tD p]/\dp p<=k/\N p<=25/\ni p/\∀a:List Str,a.Nodup->(∀y,y∈a↔R p y)->a.length<=N p->Q (.new (.lst (a.map D.str))) S
abbrev De(R:Pt->Str->Prop)(k:Nat):AN:=λds S Q=>∃j,k=j+1/\sM R j ds S Q
theorem zV(hm:∀e z,d (.many e) z↔d e z)(X:∀ps z,(d (.seq ps) z↔∃e∈ps,d e z)/\(d (.alt ps) z↔∃e∈ps,d e z))(hl:∀l,e=.lf l->∀z,¬d e z)(I:dp e<=k)(hn:N e<=25)(E:ni e)(q:∀ss:List Str,ss.Nodup->(∀y,y∈ss↔d e y)->ss.length<=N e->g (.new (.lst (ss.map D.str))) S):
  uo (ux (Co lO) (bN 1)) (uo (Cp (aB (uF Pu (uF qF (fR 0) (aC (.int 0))) (aC (.str "many")))) (wF (aCall (De d k) (iz (uF qF (fR 0) (aC (.int 1))) lO))) wG) (uo (Cp (aB (uF (mU false) (uF qF (fR 0) (aC (.int 0))) (Gu (iz (aC (.str "then")) (iz (aC (.str "either")) lO))))) (dU (bR (uF qF (fR 0) (aC (.int 1)))) (bN 2) (ux (uF qd (fR 1) (aCall (De d k) (iz (fR 2) lO))) (bN 1))) wG) (wF (bZ (fR 1)))))
   {nx:=λx a=>VT S a (.dat .bU) g,rt:=λr a=>VT S a r g} [some (tD e),none,none] S:=by
 have j:∀(l:List Str)(v:Option D),(∀z,z∈l↔d e z)->l.length<=N e->wF (bZ (fR 1)) {nx:=λx a=>VT S a (.dat .bU) g,rt:=λr a=>VT S a r g} [some (tD e),some (.lst (l.map D.str)),v] S:=λl v h1 h2=>by
  push_cast[bZ];refine⟨l,.inr rfl,by lia,λss n1 n2 W=>cM (aY λ_ _=>rfl) (q ss n1 (λy=>(n2 y).trans (h1 y)) (zcH (sub_len ss l n1 λx s=>(n2 x).mp s) h2))⟩
 have key:∀(ps:List Pt),(∀x∈ps,dp x+1<=k)->Ns ps+1<=N e->(∀x∈ps,ni x)->(∀z,d e z↔∃x∈ps,d x z)->cW (λ_=>True) (bN 2) (ux (uF qd (fR 1) (aCall (De d k) (iz (fR 2) lO))) (bN 1)) (ps.map tD)
   {nx:=wF (bZ (fR 1)) {nx:=λx a=>VT S a (.dat .bU) g,rt:=λr a=>VT S a r g},rt:=λr a=>VT S a r g} [some (tD e),some (.lst []),none] S:=λps h1 h2 h3 h4=>by
  refine bf (λrest F S2=>∃(t o:List Pt)(l:List Str)(v:Option D),rest=o.map tD/\t++o=ps/\F=[some (tD e),some (.lst (l.map D.str)),v]/\S=S2/\(∀z,z∈l↔∃x∈t,d x z)/\l.length<=Ns t) ?_ ?_ _ _ _ ⟨[],ps,[],none,rfl,rfl,rfl,rfl,by simp,zcR _⟩
  ·intro F _ i;let⟨t,o,l,v,C,u,rfl,rfl,L,g2⟩:=i;obtain rfl:o=[]:=by simpa using C.symm
   rw[zbW] at u;subst u;exact⟨trivial,j l v (λz=>(L z).trans (h4 z).symm) (by lia)⟩
  ·intro x rest F _ N' i hN;let⟨t,o,l,v,C,u,rfl,rfl,L,g2⟩:=i;cases o with
   |nil=>simp at C
   |cons x o=>
    injection C with P O;subst P;subst O;have s:x∈ps:=by rw[<-u];simp
    have hk1:=h1 x s;have Z:Ns t+(N x+Ns o)=Ns ps:=by rw[<-u,gk];rfl
    push_cast[true_and];refine⟨k - 1,by lia,x,rfl,by lia,by lia,h3 x s,λss n1 n2 W=>⟨by rw[zbV,zbV,yaf];lia,hN _ _ ⟨t++[x],o,l++ss,_,rfl,by rw[zbn];exact u,by rw[zca];rfl,rfl,λz=>?_,?_⟩⟩⟩
    ·rw[zbU,L,n2];simp
    ·rw[zaU,gk];simp only[Ns];lia
 have G:∀(b:Bool)(x:Str),kP x=true->r9 (.str x) ["then","either"]=b->∀U,U (.dat (.bl b)) S->mU false (.str x) (.tup [.str "then",.str "either"]) S U:=λb x h1 h2 U Y=>Rt h1 (by rw[h2];exact Y);cases e with
 |lf l=>
  have H:∃(n:Str)(r:List D),tD (.lf l)=.tup (.str n::r)/\kP n=true/\decide (n="many")=false/\r9 (.str n) ["then","either"]=false:=by
   cases l with
   |stay=>refine⟨_,_,rfl,by decide+kernel,by rfl,by rfl⟩
   |step b x=>refine⟨_,_,rfl,by decide+kernel,by rfl,by rfl⟩
   |mk b m=>cases b<;>refine⟨_,_,rfl,by decide+kernel,by rfl,by rfl⟩
  let⟨n,r,P,O,e3,e4⟩:=H;have j:=j [] none (λz=>⟨λh=>by simp at h,λh=>absurd h (hl l rfl z)⟩) (zcS _);rw[P] at j⊢;push_cast[au,b6,e3];refine⟨zcS _,sz rfl,G _ _ O e4 _ ⟨_,rfl,?_⟩⟩;exact j
 |many e=>
  push_cast[tD,au,b6,cH];simp only[dp,N] at I hn E q;refine⟨zcS _,?_⟩;refine⟨k - 1,by lia,e,rfl,by lia,by lia,E,λss n1 n2 W=>cM (aY λ_ _=>rfl) (q ss n1 (λy=>(n2 y).trans (hm e y).symm) (by lia))⟩
 |seq ps=>
  have h1:∀x∈ps,dp x+1<=k:=λx s=>by have:=j6 x s;simp only[dp] at I;lia
  have key:=key ps h1 (zcR _) (gW E) λz=>(X ps z).1;simp only[tD,di] at key;push_cast[tD,di,au,b6];refine⟨zcS _,?_⟩;refine⟨sz rfl,G true _ (by rfl) (by rfl) _ ⟨_,rfl,?_⟩⟩;push_cast[dU,bR,au,cH];exact key
 |alt ps=>
  have h1:∀x∈ps,dp x+1<=k:=λx s=>by have:=j6 x s;simp only[dp] at I;lia
  have key:=key ps h1 (zcR _) (gW E) λz=>(X ps z).2;simp only[tD,di] at key;push_cast[tD,di,au,b6];refine⟨zcS _,?_⟩;refine⟨sz rfl,G true _ (by rfl) (by rfl) _ ⟨_,rfl,?_⟩⟩;push_cast[dU,bR,au,cH];exact key
def LA:(∃b,Lf.mk b z∈nV d)↔∃p∈d,Mo p z:=by
 simp only[iR];exact⟨λ⟨b,p,h1,h2⟩=>⟨p,h1,b,h2⟩,λ⟨p,h1,b,h2⟩=>⟨b,p,h1,h2⟩⟩
def RA(p):∃(n:Str)(r:List D),tD p=.tup (.str n::r)/\kP n=true/\(r9 (.str n) ["at","off"]=true↔∃b m,p=.lf (.mk b m))/\(n="step"↔∃b x,p=.lf (.step b x)):=by
 cases p with
 |lf l=>
  cases l with
  |mk b m=>cases b<;>refine⟨_,_,rfl,by decide+kernel,⟨λ_=>⟨_,_,rfl⟩,λ_=>by rfl⟩,⟨λz=>absurd z (by decide+kernel),λ⟨_,_,z⟩=>by cases z⟩⟩
  |step b x=>refine⟨_,_,rfl,by decide+kernel,⟨λz=>absurd z (by decide+kernel),λ⟨_,_,z⟩=>by cases z⟩,⟨λ_=>⟨_,_,rfl⟩,λ_=>rfl⟩⟩
  |stay=>refine⟨_,_,rfl,by decide+kernel,⟨λz=>absurd z (by decide+kernel),λ⟨_,_,z⟩=>by cases z⟩,⟨λz=>absurd z (by decide+kernel),λ⟨_,_,z⟩=>by cases z⟩⟩
 |_=>refine⟨_,_,rfl,by decide+kernel,⟨λz=>absurd z (by decide+kernel),λ⟨_,_,z⟩=>by cases z⟩,⟨λz=>absurd z (by decide+kernel),λ⟨_,_,z⟩=>by cases z⟩⟩
def FL(T:Txt K mg C fi)(F:Src K mg "_law_marks_of" fT DR)(k)(a:Def P w K mg base (k+1) "_law_marks_of" fT (az K λds S Q=>∃j,k=j+1/\sM Mo j ds S Q)):Def P w K mg base (k+2) "_law_marks_of" fT (az K (sM Mo k)):=by
 refine cA F uW (λds S Q h=>?_) (λf W A outer s H E o=>?_)
 ·let⟨p,rfl,_⟩:=h;rfl
 ·refine⟨_,(Vu (VH (VC (V1 o) (Vy (Vr 0)) (VF (Vs VA (Vt VA))) rfl) (Vv (VE (VG (Vs (Vy (Vr 0)) Vw)))) VI) (Vu (Vz 1 uW.nd (VG Vw)) (Vu (VH (VC (VJ o) (Vy (Vr 0)) VA (aG _)) (Vv (VE (Wq a (o.mono (by lia)) (by rfl) (Vs (Vy (Vr 0)) Vw)))) VI) (Vu (VH (VC (V1 o) (Vy (Vr 0)) (VF (Vs VA (Vt VA))) rfl) (Vv (VP PassesOwn.never rfl (VL (Vy (Vr 0))) (VM 2 uW.nd) (Vv (Vz 1 uW.nd (VD VN (Vr 1) (Wq a (o.mono (by lia)) (by rfl) (Vt (Vr 2)))))))) VI) (Vv (VE (Wv rfl (by rfl) T.sorted (by rfl) T.set (Vr 1)))))))),λds S Q h=>?_⟩;let⟨p,rfl,I,G,x,q⟩:=h;have U:aM Hi [tD p]=[some (tD p),none,none]:=rfl;rw[U];let⟨n,r,O,L,u,Y⟩:=RA p;refine aV λN1 t=>?_;refine bY (r9 (.str n) ["at","off"]) (λZ v=>?_) (λh=>?_) (λh=>t _ _ ?_)
  ·rw[O];push_cast[au,b6];exact⟨sz rfl,cF (n:=0) (ss:=["at","off"]) L (by decide) (by rfl) ⟨_,rfl,by rw[zck];exact v⟩⟩
  ·let⟨b,m,rfl⟩:=u.mp h;push_cast[tD,lD,au,cH];refine⟨sz rfl,cM rfl (q [m] (by simp) (λy=>?_) (zcR _))⟩;simp[Mo,Lv]
  ·exact zV (λp z=>Iff.rfl) (λX z=>⟨LA,LA⟩) (λl e z hz=>by
    let⟨b,hz⟩:=hz;subst e;have:=by simpa[Lv] using hz
    subst this;lia) I G x q
def JF(F:Src K mg "_law_marks_of" fT DR)(h:∀ds S Q,¬sp ds S Q):Def P w K mg base (k+1) "_law_marks_of" fT (az K sp):=
 F.def uW (λvs H Q E z=>by let⟨_,_,_,_,_,_,q,_⟩:=z;exact(h _ _ _ q).elim) λf a A outer s H vs Q E j z=>by let⟨_,_,_,_,_,_,q,_⟩:=z;exact(h _ _ _ q).elim
theorem LL(T:Txt K mg C fi)(F:Src K mg "_law_marks_of" fT DR):∀k,Def P w K mg base (k+2) "_law_marks_of" fT (az K (sM Mo k))
 |0=>FL T F 0 (JF F λds S Q ⟨j,e,_⟩=>by lia)
 |k+1=>FL T F (k+1) ((LL T F k).imp λvs H Q E z=>by
   let⟨w,ds,S,a,ok,rep,⟨j,e,q⟩,bk⟩:=z;obtain rfl:j=k:=by lia
   refine⟨w,ds,S,a,ok,rep,q,bk⟩)
def KJ:((∃b,Lf.step b z∈nV d)/\z≠"*")↔∃p∈d,LW p z:=by
 simp only[iR];exact⟨λ⟨⟨b,p,h1,h2⟩,h⟩=>⟨p,h1,⟨b,h2⟩,h⟩,λ⟨p,h1,⟨b,h2⟩,h⟩=>⟨⟨b,p,h1,h2⟩,h⟩⟩
def FJ(T:Txt K mg C fi)(F:Src K mg "_law_words_of" fS DQ)(k)(a:Def P w K mg base (k+1) "_law_words_of" fS (az K λds S Q=>∃j,k=j+1/\sM LW j ds S Q)):Def P w K mg base (k+2) "_law_words_of" fS (az K (sM LW k)):=by
 refine cA F uV (λds S Q h=>?_) (λf W A outer s H E m=>?_)
 ·let⟨p,rfl,_⟩:=h;rfl
 ·refine⟨_,(Vu (VH (VC (VJ m) (Vy (Vr 0)) VA (aG _)) (Vv (VE (Wb Wc (VG (Vs (Vy (Vr 0)) Vw)) Wf (We (V6 M.Of T.int (Vs (VU (Wn m) (Vy (Vr 0)) VA (aG _)) Vw)))))) VI) (Vu (Vz 1 uV.nd (VG Vw)) (Vu (VH (VC (VJ m) (Vy (Vr 0)) VA (aG _)) (Vv (VE (Wq a (m.mono (by lia)) (by rfl) (Vs (Vy (Vr 0)) Vw)))) VI) (Vu (VH (VC (V1 m) (Vy (Vr 0)) (VF (Vs VA (Vt VA))) rfl) (Vv (VP PassesOwn.never rfl (VL (Vy (Vr 0))) (VM 2 uV.nd) (Vv (Vz 1 uV.nd (VD VN (Vr 1) (Wq a (m.mono (by lia)) (by rfl) (Vt (Vr 2)))))))) VI) (Vv (VE (Wv rfl (by rfl) T.sorted (by rfl) T.set (Vr 1)))))))),λds S Q h=>?_⟩;let⟨p,rfl,L,I,G,q⟩:=h;have U:aM Hg [tD p]=[some (tD p),none,none]:=rfl;rw[U];let⟨n,r,O,Z,Y,u⟩:=RA p;refine aV λN1 o=>?_;refine bY (decide (n="step")) (λQ' v=>?_) (λh=>?_) (λh=>o _ _ ?_)
  ·rw[O];push_cast[au,b6];exact v
  ·let⟨b,x,rfl⟩:=u.mp (of_decide_eq_true h);push_cast[tD,lD,au,at2];have t:∀y,LW (.lf (.step b x)) y↔y=x/\y≠"*":=λy=>by simp[Wo,Lv]
   refine⟨sz rfl,.inr ⟨_,rfl,_,rfl,?_⟩⟩;simp only[p9,bS];by_cases h:x="*"
   ·subst h;exact cM (by rfl) (q [] .nil (λy=>by rw[t];simp) (zcS _))
   ·have e:cutD [D.str x] none (some (if(!decide (x="*"))=true then 1 else 0))=[D.str x]:=by
     rw[yDf h];rfl
    rw[e];exact cM (by rfl) (q [x] (by simp) (λy=>by
     rw[t,zaY];exact⟨λz=>⟨z,z▸h⟩,λz=>z.1⟩) (zcR _))
  ·exact zV (λp z=>Iff.rfl) (λX z=>⟨KJ,KJ⟩) (λl e z hz=>by
    let⟨⟨b,hz⟩,_⟩:=hz;subst e;have:=by simpa[Lv] using hz
    subst this;lia) L I G q
def JE(F:Src K mg "_law_words_of" fS DQ)(h:∀ds S Q,¬sp ds S Q):Def P w K mg base (k+1) "_law_words_of" fS (az K sp):=
 F.def uV (λvs H Q E z=>by let⟨_,_,_,_,_,_,q,_⟩:=z;exact(h _ _ _ q).elim) λf a A outer s H vs Q E j z=>by let⟨_,_,_,_,_,_,q,_⟩:=z;exact(h _ _ _ q).elim
theorem LK(T:Txt K mg C fi)(F:Src K mg "_law_words_of" fS DQ):∀k,Def P w K mg base (k+2) "_law_words_of" fS (az K (sM LW k))
 |0=>FJ T F 0 (JE F λds S Q ⟨j,e,_⟩=>by lia)
 |k+1=>FJ T F (k+1) ((LK T F k).imp λvs H Q E z=>by
   let⟨w,ds,S,a,ok,rep,⟨j,e,q⟩,bk⟩:=z;obtain rfl:j=k:=by lia
   refine⟨w,ds,S,a,ok,rep,q,bk⟩)
noncomputable def UU:List Str:=["u","uu","uuu","uuuu","uuuuu"]
structure Mc(p q:Pt)(ms ws:List Str)(x:Str):Prop where
 mu:SU ms
 mz:∀z,z∈ms↔Mo p z∨Mo q z
 wu:SU ws
 wz:∀z,z∈ws↔(Wo p z∨Wo q z)/\z≠"*"
 ox:uB ws x
noncomputable def JX(ms ws:List Str)(x:Str):D:=.tup [CH (m8 ms),.lst ((tn ws x x).map qJ)]
def Dm:AN:=λds S Q=>∃(p q:Pt),ds=[tD p,tD q]/\dp p<=8/\dp q<=8/\N p<=25/\N q<=25/\(∃W a:List Str,jy W a p/\jy W a q/\W.length<=7/\a.length<=6/\(∀y∈W,Nm y)/\∀y∈a,Nm y)/\∀ms ws x,Mc p q ms ws x->ms.length<=6->ws.length<=7->Q (.dat (JX ms ws x)) S
def OW(T:Txt K mg C fi)(F:Src K mg "_law_asked" kF (top 46))(j:Def P w K mg base 10 "_law_marks_of" fT (az K (sM Mo 8)))(a:Def P w K mg base 10 "_law_words_of" fS (az K (sM LW 8))):Def P w K mg base 11 "_law_asked" kF (az K Dm):=by
 refine cA F je (λds S Q h=>?_) (λf cdv A outer s H E t=>?_)
 ·let⟨p,q,rfl,_⟩:=h;rfl
 ·refine⟨_,(Vu (Vz 2 je.nd (VG (Vt (VF Vw)))) (Vu (VP PassesOwn.never rfl (VL (Wv rfl (by rfl) T.sorted (by rfl) T.set (VD V2 (VB j t (Vt (Vr 0))) (VB j t (Vt (Vr 1)))))) (VM 3 je.nd) (Vv (Vz 2 je.nd (VD V2 (Vr 2) (VW ["_law_some_here","_law_mark"] [none,some 3] (VL (Vr 2)) (λ_ _ _ _=>V3) (λ_ _ _ _=>(VD V2 (Vr 0) (VF (Vt (Vr 1)))))))))) (Vu (Vz 4 je.nd (Wv rfl (by rfl) T.sorted (by rfl) T.set (VD V2 (VB a t (Vt (Vr 0))) (VB a t (Vt (Vr 1)))))) (Vu (Vz 5 je.nd (Vy (VW ["_law_word","_law_words"] [none,some 4] (VL (VG (Vs VA (Vs VA (Vs VA (Vs VA (Vt VA))))))) (λ_ _ _ _=>(Wj (VC (Wt t) (Vr 0) (Vr 1) rfl))) (λ_ _ _ _=>(Vr 0))))) (Vu (Vz 6 je.nd (VD V2 (VW ["_law_word"] [none] (VL (VD V2 (Vr 4) (VG (Vt (Vr 5))))) (λ_ _ _ _=>V3) (λ_ _ _ _=>(VF (Vs VA (Vt (Vr 0)))))) (VW ["_law_word"] [none] (VL (VD V2 (Vr 4) (VG (Vt (Vr 5))))) (λ_ _ _ _=>V3) (λ_ _ _ _=>(VF (Vs VA (Vt (Vr 0)))))))) (Vv (VE (VF (Vs (Vr 2) (Vt (Vr 6))))))))))),λds S Q h=>?_⟩;let⟨p,q,rfl,dp',dq,np,nq,⟨W,Mz,ip,iq,lW,lM,Z,hM⟩,k⟩:=h;have op:=ip.ok Z hM;have oq:=iq.ok Z hM;have e0:aM Bc [tD p,tD q]=[some (tD p),some (tD q),none,none,none,none,none]:=rfl;rw[e0];refine aV λN1 l=>?_;refine⟨sz rfl,sz rfl,l _ _ ?_⟩;refine aV λN1 l=>?_;push_cast[dU,bR,bZ];refine⟨p,rfl,dp',np,op,λa1 u1 U u3=>⟨q,rfl,dq,nq,oq,λa2 v1 O v3=>⟨by rw[zbV,zbV,yaf];lia,a1++a2,.inr (by rw[zca];rfl),by rw[zaU];lia,λms m1 m2 m3=>?_⟩⟩⟩;have mw:∀{r:Pt},jy W Mz r->∀z,(Mo r z->z∈Mz)/\(Wo r z->z∈W∨z="*"):=λi z=>⟨λ⟨b,hb⟩=>i _ hb,λ⟨b,hb⟩=>i _ hb⟩
  have mz:∀z,z∈ms↔Mo p z∨Mo q z:=λz=>by rw[m2,zbU,U,O]
  have mM:=λz hz=>((mz z).mp hz).elim (mw ip z).1 (mw iq z).1;have mu:=qY m1 m3;have ml:=zcH (sub_len _ _ mu.nodup mM) lM;clear u1 U u3 v1 O v3 m1 m2 m3;refine bf (λrest u S2=>∃(m1 m2:List Str)(v:Option D),rest=m2.map D.str/\m1++m2=ms/\u=[some (tD p),some (tD q),some (CH (m8 m1)),v,none,none,none]/\S=S2) ?_ ?_ _ _ _ ⟨[],ms,none,rfl,rfl,rfl,rfl⟩
  ·intro u _ V;let⟨m1,m2,v,t,X,rfl,rfl⟩:=V;obtain rfl:m2=[]:=by simpa using t.symm
   rw[zbW] at X;subst X;refine⟨trivial,l _ _ ?_⟩;refine aV λN1 l=>?_;push_cast[bZ];refine⟨p,rfl,dp',np,op,λa3 u1 U u3=>⟨q,rfl,dq,nq,oq,λa4 v1 O v3=>⟨by rw[zbV,zbV,yaf];lia,a3++a4,.inr (by rw[zca];rfl),by rw[zaU];lia,λws w1 w2 w3=>l _ _ ?_⟩⟩⟩;have wz:∀z,z∈ws↔(Wo p z∨Wo q z)/\z≠"*":=λz=>by rw[w2,zbU,U,O,or_and_right]
   have wW:=λz hz=>by
    let⟨h1,h2⟩:=(wz z).mp hz;exact(h1.elim (mw ip z).2 (mw iq z).2).elim id λe=>absurd e h2
   have wu:=qY w1 w3;have wl:=zcH (sub_len _ _ wu.nodup wW) lW;have ox:uB ws "u":=⟨by rfl,by decide+kernel,λz=>absurd (Z _ (wW _ z)) (by show¬("u":Str)∈NN;decide+kernel)⟩
   refine aV λN1 l=>?_;have hU:∀y∈UU,kP y=true/\y ∉ ws:=λy I=>by
    have h1:∀y∈UU,kP y=true/\y ∉ NN:=by decide+kernel
    exact⟨(h1 y I).1,λz=>(h1 y I).2 (Z _ (wW _ z))⟩
   refine⟨sz rfl,?_⟩;show eu (λ_=>True) _ _ _ (UU.map D.str) [] _ _ _;refine aU D.str (λy=>!decide (y∈ws)) D.str (λy=>[some (.str y),some (.lst (ws.map D.str))]) (λu=>∃v,u=[v,some (.lst (ws.map D.str))]) trivial (λc=>⟨_,rfl⟩) UU [] _ ⟨none,rfl⟩ ?_ ?_ ?_ ?_ ?_
   ·rintro c L _ ⟨v,rfl⟩ G o;exact o
   ·intro y I G o;refine⟨_,rfl,_,rfl,rY (n:=0) (hU y I).1 (by decide) (zbE.mpr λz hz=>o9 (Z _ (wW _ hz))) ⟨_,rfl,?_⟩ (by lia)⟩;rw[cT,jZ,zcz];exact o
   ·exact λy I _ G o=>⟨_,rfl,o⟩
   ·decide
   rw[zaO.mpr λy I=>by rw[yDf (hU y I).2];rfl];push_cast[yj,b6,UU,zcs,zcb];refine l _ _ ?_;have Y:∀(b:Bool)(δ0:List (Option D))(G:List D->aK->Prop),G (((ws++[("u":Str)]).map λw=>(side b,w)).map qJ) S->eu (λ_=>True) (bN 0) Cn (Gu (iz (aC (.str (side b))) (iz (fR 0) lO))) ((ws++[("u":Str)]).map D.str) [] [none] S G:=λb δ0 G o=>by
    refine aU D.str (λ_=>true) (λw=>qJ (side b,w)) (λw=>[some (.str w)]) (λu=>∃v,u=[v]) trivial (λc=>⟨_,rfl⟩) (ws++[("u":Str)]) [] _ ⟨none,rfl⟩ ?_ ?_ ?_ ?_ ?_
    ·rintro c L _ ⟨v,rfl⟩ Q2 q2;exact q2
    ·exact λc L Q2 q2=>q2
    ·intro c L _ Q2 q2;refine⟨_,rfl,sz rfl,q2⟩
    ·rw[yaf];simp;lia
    ·rw[zaO.mpr λ_ _=>rfl];rw[zcF] at o;exact o
   have al:ws.map D.str++[D.str "u"]=(ws++[("u":Str)]).map D.str:=by simp
   refine aV λN1 l=>?_;push_cast[b5,bR];refine⟨sz rfl,by rw[yaf];simp;lia,?_⟩;rw[al];refine Y true [] _ ⟨sz rfl,by rw[yaf];simp;lia,?_⟩;rw[al];refine Y false [] _ ⟨by rw[yaf];simp;lia,l _ _ ?_⟩;push_cast[true_and];refine⟨sz rfl,bz ?_ ?_⟩
   ·have h1:bM ((m8 m1).map kU)=true:=aY λc _=>aY λ_ _=>rfl;simp only[<-zca];have h2:bM (((ws++[("u":Str)]).map (λw=>(side true,w))++(ws++[("u":Str)]).map (λw=>(side false,w))).map qJ)=true:=aY λ_ _=>rfl;simp only[CH,cg,bM,h1,h2,zcw]
   ·have:=k m1 ws "u" ⟨mu,mz,wu,wz,ox⟩ ml wl;unfold JX tn at this;rw[zca] at this;exact this
  ·intro x xs u _ N V hN;let⟨m1,m2,v,t,X,rfl,rfl⟩:=V;cases m2 with
   |nil=>simp at t
   |cons m m2=>
    injection t with h1 h2;subst h1;subst h2;have hm:m1.length<6:=by rw[<-X] at ml;simp at ml;lia
    let⟨c1,c2⟩:=kg m1;have h64:(m8 m1).length<=32:=by rw[c1];exact zcH (zaH (by decide) (show m1.length<=5 by lia)) (by decide)
    push_cast[b5,bR];refine aU kU (λ_=>true) (λc=>kU (c++[m])) (λc=>[some (kU c),some (.str m)]) (λu=>∃v,u=[v,some (.str m)]) trivial (λc=>⟨_,rfl⟩) (m8 m1) [] _ ⟨none,rfl⟩ ?_ ?_ ?_ ?_ ?_
    ·rintro c L _ ⟨v,rfl⟩ G o;exact o
    ·exact λc L G o=>o
    ·intro c L _ G o;push_cast[kU];refine⟨sz rfl,?_⟩;have:=(c2 c L).1;refine kj (by rw[yaf];simp;lia) ?_;simpa[kU] using o
    ·rw[yaf];simp;lia
    ·rw[zaO.mpr λ_ _=>rfl];refine⟨by rw[yaf];simp;lia,?_⟩;refine hN _ _ ⟨m1++[m],m2,some (.str m),rfl,by rw[zbn];exact X,?_,rfl⟩;rw[pT];simp[CH,sY,MO.d]
open PySem PySem.Spec L2 M PyProof.Rows
noncomputable abbrev Hq:List Str:=["_law_machine","_law_stands","_law_marks","_law_found","_law_again","_law_begin","_law_leaf_here","_law_behind","_law_good"]
noncomputable abbrev lX:=Hq.take 3
def jE:aH Hq lX (aj (top 47)):=L2.bT
noncomputable abbrev G9:List Str:=["_law_machine","_law_stands","_law_step","_law_found","_law_begin","_law_leaf_here","_law_behind","_law_good"]
noncomputable abbrev lU:=G9.take 3
def rj:aH G9 lU (aj (top 48)):=L2.bT
noncomputable abbrev G2:List Str:=["_law_few","_law_many"]
noncomputable abbrev lQ:=G2
def Qv:aH G2 lQ (aj (top 49)):=L2.bT
theorem nI:∀{l:List D},(∀d∈l,cg d=true/\(py d).canLay0=true/\(py d).depth<=k)->bM l=true/\PyData.canLayAll0 (eE l)=true/\PyData.depthAll (eE l)<=k
 |[],_=>⟨rfl,rfl,zcS _⟩
 |d::l,h=>by
  let⟨n,m,o⟩:=h d (by simp);let⟨a,b,c⟩:=nI (l:=l) λx j=>h x (by simp[j]);refine⟨by simp only[bM,n,a,zcw],?_,?_⟩
  ·simp only[eE,PyData.canLayAll0,m,b,zcw]
  ·simp only[eE,PyData.depthAll];lia
def fJ(m:k<60)(h:∀d∈e,cg d=true/\(py d).canLay0=true/\(py d).depth<=k):fit (.lst e)=true:=by
 let⟨j,a,p3⟩:=nI h;unfold fit PySem.SeqAt.shaped;simp only[cg,j,py,PyData.canLay0,a,PyData.depth];exact yDt (by lia)
def jX(i):cg (.int i)=true/\(py (.int i)).canLay0=true/\(py (.int i)).depth<=1:=⟨rfl,rfl,by simp[py,PyData.depth]⟩
def rw_lay(r):cg (bV r)=true/\(py (bV r)).canLay0=true/\(py (bV r)).depth<=4:=by
 let⟨h1,h2,a⟩:=nI (l:=r.2.map D.int) λd hd=>by let⟨i,_,rfl⟩:=zcE.mp hd;exact jX i
 refine⟨by simp only[bV,tI,cg,bM,h1,zcw],?_,?_⟩
 ·simp only[bV,tI,py,eE,PyData.canLay0,PyData.canLayAll0,h2,zcw]
 ·simp only[bV,tI,py,eE,PyData.depth,PyData.depthAll];lia
def Aq(l):PyData.eqv (py (.lst l)) (py (.lst []))=l.isEmpty:=by cases l<;>simp[py,eE,PyData.eqv,PyData.eqvAll]
def eq_nil(a:fit (.lst d)=true)(q:e (.dat (.bl d.isEmpty)) S):Pu (.lst d) (.lst []) S e:=by
 unfold Pu;rw[bS,bS];refine⟨a,by rfl,by rw[Aq];exact q⟩
def ne_nil(a:fit (.lst d)=true)(q:e (.dat (.bl (!d.isEmpty))) S):Pk (.lst d) (.lst []) S e:=by
 unfold Pk;rw[bS,bS];refine⟨a,by rfl,by rw[Aq];exact q⟩
theorem yc:∀{l:List Int},(∀y∈l,∃k:Nat,y=k)->∃r:List Nat,l=r.map λk:Nat=>(k:Int)
 |[],_=>⟨[],rfl⟩
 |y::l,h=>by
  let⟨k,rfl⟩:=h y (by simp);let⟨r,rfl⟩:=yc (l:=l) λx a=>h x (by simp[a]);exact⟨k::r,rfl⟩
def nH{l:List Nat}{x:Nat}:(x:Int)∈(l.map λk:Nat=>(k:Int))↔x∈l:=by
 rw[zcE];exact⟨λ⟨k,a,e⟩=>(Int.ofNat.inj e)▸a,λh=>⟨x,h,rfl⟩⟩
def Ds:AN:=λds S Q=>∃(n b:Nat)(j:List Nat)(h:List Mv)(st:List Nat)(ms:List Str)(z:D),ds=[mD n b j h,z,.tup (ms.map D.str)]/\(z=.lst (nL st)∨z=.tup (nL st))/\n<=60/\(∀m∈h,CC n m)/\h.length<=60/\(∀s∈st,s<n)/\st.length<=60/\texts ms/\
 ∀a:List Nat,a.Pairwise (· <=·)->a.Nodup->(∀x,x∈a↔Reach h ms st x)->Q (.dat (.tup (nL a))) S
def Si(T:Txt K mg C fi)(F:Src K mg "_law_closure" lX (top 47)):Def P w K mg base 1 "_law_closure" lX (az K Ds):=by
 refine cA F jE (λds S Q h=>?_) (λf cdv A outer s H E G=>?_)
 ·let⟨n,b,es,v,st,ms,z,rfl,_⟩:=h;rfl
 ·refine⟨_,(Vu (Vz 3 jE.nd (VQ (M.cY rfl (by rfl) T.sorted (by rfl) T.set (Vr 1)))) (Vu (Vz 4 jE.nd VZ) (Vu (Wx PassesOwn.never (V4 (Vr 4)) (Vu (Vz 4 jE.nd VZ) (Vv (VP PassesOwn.never rfl (VL (Vy (Vr 0))) (Wg rfl (VO (VM 5 jE.nd) (VO (VM 6 jE.nd) (VO (VM 7 jE.nd) Wh)))) (Vu (Vz 8 jE.nd (M.EB (VU (VJ G) (Vy (Vr 6)) VA (aG _)) (Wy (Wu (VU (V1 G) (Vy (Vr 6)) (VF (Vs VA (Vt VA))) rfl) (Wy (VU (VJ G) (VU (V1 G) (Vy (Vr 6)) (Vr 2) rfl) (VU (VJ G) (Vy (Vr 6)) VA (aG _)) (aG _))))))) (Vv (VH (V8 (Wi (V4 (Vr 8)) (Wi (VC (V1 G) (Vr 5) (Vr 3) rfl) (Wm (VC (Wt G) (Vr 7) (Vr 3) rfl))))) (Vu (VX (VY PySem.F.plainAttrs_list PySem.F.slot_list_append PySem.F.type_list_append V7 (Vr 3) (Vt (Vr 7)))) (Vv (Vz 4 jE.nd VZ))) VI))))))) (Vv (VE (V6 Ws T.tuple (Vs (VS M.vo T.sorted (Vt (Vr 3))) Vw))))))),λds S Q h=>?_⟩;let⟨n,b,es,v,st,ms,z,rfl,hz,n6,hmv,hl,hst,hsl,hms,q⟩:=h;have e0:aM Hq [mD n b es v,z,.tup (ms.map D.str)]=[some (mD n b es v),some z,some (.tup (ms.map D.str)),none,none,none,none,none,none]:=rfl;rw[e0];refine aV λN1 t=>?_;push_cast[bO,dS];refine⟨st.map λk:Nat=>k,?_,by rw[zbV];lia,λss' s1 s2 _=>t _ _ ?_⟩
  ·rw[zcF];obtain rfl|rfl:=hz
   ·exact .inr rfl
   ·exact .inl rfl
  let⟨l0,rfl⟩:=yc λy hy=>by
   let⟨k,_,rfl⟩:=zcE.mp ((s2 y).mp hy);exact⟨k,rfl⟩
  have m0:∀x,x∈l0↔x∈st:=λx=>by
   have:=s2 x
   rwa [nH,nH] at this
  have n0:l0.Nodup:=List.Pairwise.of_map _ (λa b h e=>h (by rw[e])) s1;rw[show(l0.map λk:Nat=>(k:Int)).map D.int=nL l0 by rw[zcF];rfl];have a1:∀l,(S++[some (MO.lst (nL l))])[S.length]? =some (some (.lst (nL l))):=λl=>by simp
  have uT:∀(l:List Nat)(c:MO),(S++[some (MO.lst (nL l))]).set S.length (some c)=S++[some c]:=λl c=>by simp
  have uU:=λl=>d9 (a1 l);refine aV λN1 t=>?_;refine t _ _ ?_;refine aV λN1 t=>?_;obtain⟨J,hJ⟩:∃J:List Nat->Bool->Prop,J=λl I=>l.Nodup/\(∀s∈st,s∈l)/\(∀x∈l,Reach v ms st x)/\(I=false->∀m∈v,m.1∈l->hold m.2.1 ms=true->m.2.2∈l):=⟨_,rfl⟩
  have Jl:∀l I,J l I->l.length<=n/\l.Nodup/\(∀x∈l,x<n):=λl I h=>by
   subst hJ;have hlt:=λx O=>(h.2.2.1 x O).lt hmv hst;refine⟨bw n l h.1 hlt,h.1,hlt⟩
  refine⟨λμ δ S2=>∃(l:List Nat)(I:Bool)(v5 Z Y X:Option D),δ=[some (mD n b es v),some z,some (.tup (ms.map D.str)),some (.loc S.length),some (.bl I),v5,Z,Y,X]/\S2=S++[some (.lst (nL l))]/\μ=2*(n - l.length)+(if I then 1 else 0)/\J l I,⟨_,l0,true,none,none,none,none,rfl,rfl,rfl,by rw[hJ];refine⟨n0,λs hs=>(m0 s).mpr hs,λx O=>.base ((m0 x).mp O),λh=>by cases h⟩⟩,?_⟩;intro μ δ S2 i;let⟨l,I,v5,Z,Y,X,rfl,rfl,rfl,u⟩:=i;have Jn:=Jl l I u;push_cast[true_and];refine cz (λhag=>?_) (λhag=>t _ _ ?_)
  ·subst hag;have Jl':∀o:List Nat,o.Nodup->(∀x∈o,Reach v ms st x)->o.length<=n:=λo h1 h2=>bw n o h1 λx O=>(h2 x O).lt hmv hst;obtain⟨N,hN⟩:∃N:bH->aK->Prop,N=λδ' S'=>∃(o:List Nat)(j:Bool)(v5 Z Y X:Option D),δ'=[some (mD n b es v),some z,some (.tup (ms.map D.str)),some (.loc S.length),some (.bl j),v5,Z,Y,X]/\S'=S++[some (.lst (nL o))]/\J o j/\(j=true->l.length<o.length)/\(j=false->o=l):=⟨_,rfl⟩
   refine⟨N,?_,?_⟩
   ·rw[hN];intro δ' S' i;let⟨o,j,w5,w6,w7,w8,rfl,rfl,W,g2,U⟩:=i;have:=(Jl o j W).1;refine⟨_,?_,o,j,⟨_,_,_,_,rfl⟩,rfl,rfl,W⟩;cases j with
    |true=>lia
    |false=>rw[U rfl];simp
   push_cast[mD,dU,bR,au,PZ];refine bf (λrest δ S2=>∃(qm L:List Mv)(o:List Nat)(j:Bool)(v5 Z Y X:Option D),rest=L.map vD/\qm++L=v/\δ=[some (mD n b es v),some z,some (.tup (ms.map D.str)),some (.loc S.length),some (.bl j),v5,Z,Y,X]/\S2=S++[some (.lst (nL o))]/\o.Nodup/\(∀s∈st,s∈o)/\(∀x∈o,Reach v ms st x)/\(j=true->l.length<o.length)/\(j=false->o=l/\∀m∈qm,m.1∈l->hold m.2.1 ms=true->m.2.2∈l)) ?_ ?_ _ _ _ ⟨[],v,l,false,v5,Z,Y,X,rfl,rfl,rfl,rfl,Jn.2.1,by rw[hJ] at u;exact u.2.1,by rw[hJ] at u;exact u.2.2.1,λh=>absurd h (by decide),λ_=>⟨rfl,by simp⟩⟩
   ·intro δ S2 i;let⟨qm,L,o,j,w5,w6,w7,w8,G,he,rfl,rfl,W,g2,U,g4,g5⟩:=i;obtain rfl:L=[]:=by simpa using G.symm
    rw[zbW] at he;subst he;refine⟨trivial,?_⟩;rw[hN,hJ];refine⟨o,j,w5,w6,w7,w8,rfl,rfl,⟨W,g2,U,λh=>by let⟨rfl,h⟩:=g5 h;exact h⟩,g4,λh=>(g5 h).1⟩
   ·intro x rest δ S2 N' i hN';let⟨qm,L,o,j,w5,w6,w7,w8,G,he,rfl,rfl,W,g2,U,g4,g5⟩:=i;cases L with
    |nil=>simp at G
    |cons r L=>
     injection G with e1 e2;subst e1;subst e2;have hrm:r∈v:=by rw[<-he];simp
     have ok:=hmv r hrm;have he':(qm++[r])++L=v:=by rw[zbn];exact he
     let⟨m1,lf,m2⟩:=r;refine⟨trivial,_,rfl,rfl,_,_,rfl,_,_,rfl,_,_,rfl,rfl,?_⟩;refine aV λN2 hN2=>?_;have gd:N2 [some (mD n b es v),some z,some (.tup (ms.map D.str)),some (.loc S.length),some (.bl j),some (.int m1),some (lD lf),some (.int m2),some (.bl (hold lf ms))] (S++[some (.lst (nL o))]):=hN2 _ _ (by
      have hl1:=Jl' o W U;refine bY (hold lf ms&&(decide (m1∈o)&& !decide (m2∈o))) (λQ' q'=>?_) (λhb=>?_) (λhb=>?_)
      ·push_cast[true_and];refine cz (λh=>?_) (λh=>?_)
       ·rw[h] at q';refine pJ (.inl (uU o)) ⟨_,rfl,cz (λh2=>?_) (λh2=>?_)⟩
        ·rw[zck] at h2;rw[h2] at q';refine pJ (.inl (uU o)) ⟨_,rfl,?_⟩;rw[zcz];exact q'
        ·rw[zck] at h2;rw[eq_false_of_ne_true h2] at q';exact q'
       ·rw[eq_false_of_ne_true h] at q';exact q'
      ·simp only[zbR,decide_eq_true_eq,zbv,decide_eq_false_iff_not] at hb;let⟨b1,b2,b3⟩:=hb;have rc:Reach v ms st m2:=.go (U _ b2) hrm b1;push_cast[kQ];rw[uU];refine⟨rfl,_,_,_,rfl,rfl,a1 _,by rw[nL,zbV,yaf];lia,?_⟩;rw[uT,show nL o++[D.int m2]=nL (o++[m2]) by simp[nL]];have ab:l.length<(o++[m2]).length:=by
        rw[zaU,zaw];cases j with
        |true=>lia
        |false=>lia
       refine hN' _ _ ⟨qm++[(m1,lf,m2)],L,o++[m2],true,_,_,_,_,rfl,he',rfl,rfl,o6 W b3,λs hs=>zaD _ (g2 s hs),λx O=>?_,λ_=>ab,λh=>absurd h (by decide)⟩;obtain h|h:=zbU.mp O
       ·exact U x h
       ·rw[zaY.mp h];exact rc
      ·refine hN' _ _ ⟨qm++[(m1,lf,m2)],L,o,j,_,_,_,_,rfl,he',rfl,rfl,W,g2,U,g4,λh=>?_⟩;let⟨rfl,h⟩:=g5 h;refine⟨rfl,λm hm k1 k2=>?_⟩;obtain h'|h':=zbU.mp hm
       ·exact h m h' k1 k2
       ·obtain rfl:=zaY.mp h';lia)
     cases lf with
     |stay=>
      push_cast[lD,au,b6];exact gd
     |step bb x=>
      push_cast[lD,au,b6];refine⟨sz rfl,cF (n:=0) (ss:=["at","off"]) (by rfl) (by decide) (by rfl) ⟨_,rfl,?_⟩⟩;exact gd
     |mk bb m=>
      push_cast[lD,au,b6,cH];rw[yIn (by cases bb<;>decide)];refine⟨sz rfl,cF (n:=0) (ss:=["at","off"]) (by cases bb<;>decide+kernel) (by decide) (by rfl) ⟨_,rfl,?_⟩⟩;rw[yIp (by cases bb<;>decide+kernel)];refine cF (n:=0) (vq ok.2.1) (by decide) (zbE.mpr hms.2) ?_ (by have:=hms.1;lia);have e:decide ((false != r9 (.str m) ms)=decide (Tr bb="at"))=hold (.mk bb m) ms:=by
       rw[jZ];simp only[hold];cases bb<;>cases decide (m∈ms)<;>rfl
      rw[<-e] at gd;exact gd
  ·obtain rfl:I=false:=by lia
   push_cast[true_and];refine⟨_,rfl,.inr ⟨l.map λk:Nat=>k,?_,by rw[zbV];lia,λns' hp hs=>⟨_,rfl,?_⟩⟩⟩
   ·rw[uU,zcF];rfl
   let⟨rs,p1,p2,p3⟩:=jC hp hs;rw[p3];subst hJ;refine jG (iN rs) (q rs p2 (p1.symm.nodup u.1) λx=>?_);rw[p1.mem_iff];exact⟨u.2.2.1 x,λO=>O.closed u.2.1 (u.2.2.2 rfl)⟩
def Di:AN:=λds S Q=>∃(n b:Nat)(j:List Nat)(h:List Mv)(st:List Nat)(sd wd:Str),ds=[mD n b j h,.tup (nL st),.tup [.str sd,.str wd]]/\n<=60/\(∀m∈h,CC n m)/\h.length<=60/\kP wd=true/\
 ∀a:List Nat,a.Pairwise (· <=·)->a.Nodup->(∀x,x∈a↔uG h st sd wd x)->Q (.dat (.tup (nL a))) S
def Sd(T:Txt K mg C fi)(F:Src K mg "_law_led" lU (top 48)):Def P w K mg base 1 "_law_led" lU (az K Di):=by
 refine cA F rj (λds S Q h=>?_) (λf cdv A outer s H E a=>?_)
 ·let⟨n,b,X,t,st,sd,wd,rfl,_⟩:=h;rfl
 ·refine⟨_,(Vu (Vz 3 rj.nd (VQ (VG Vw))) (Vu (VP PassesOwn.never rfl (VL (Vy (Vr 0))) (Wg rfl (VO (VM 4 rj.nd) (VO (VM 5 rj.nd) (VO (VM 6 rj.nd) Wh)))) (Vu (Vz 7 rj.nd (Wu (VU (VJ a) (Vy (Vr 5)) VA (aG _)) (Wu (VU (VJ a) (Vy (Vr 5)) (Vy (Vr 2)) (aG _)) (Wy (VU (V1 a) (Vy (Vr 5)) (VF (Vs VA (Vs (Vy (Vr 2)) Vw))) rfl))))) (Vv (VH (V8 (Wi (V4 (Vr 7)) (Wi (VC (V1 a) (Vr 4) (Vr 1) rfl) (Wm (VC (Wt a) (Vr 6) (Vr 3) rfl))))) (Vv (VX (VY PySem.F.plainAttrs_list PySem.F.slot_list_append PySem.F.type_list_append V7 (Vr 3) (Vt (Vr 6))))) VI)))) (Vv (VE (V6 Ws T.tuple (Vs (VS M.vo T.sorted (Vt (Vr 3))) Vw)))))),λds S Q h=>?_⟩;let⟨n,b,X,t,st,sd,wd,rfl,n6,hmv,hl,hwd,q⟩:=h;have e0:aM G9 [mD n b X t,.tup (nL st),.tup [.str sd,.str wd]]=[some (mD n b X t),some (.tup (nL st)),some (.tup [.str sd,.str wd]),none,none,none,none,none]:=rfl;rw[e0];refine aV λN1 j=>?_;refine⟨sz rfl,j _ _ ?_⟩;refine aV λN1 j=>?_;push_cast[mD,dU,bR,au,PZ];have a1:∀l,(S++[some (MO.lst (nL l))])[S.length]? =some (some (.lst (nL l))):=λl=>by simp
  have uT:∀(l:List Nat)(c:MO),(S++[some (MO.lst (nL l))]).set S.length (some c)=S++[some c]:=λl c=>by simp
  have uU:=λl=>d9 (a1 l);refine bf (λrest δ S2=>∃(u o:List Mv)(l:List Nat)(v4 v5 v6 v7:Option D),rest=o.map vD/\u++o=t/\δ=[some (mD n b X t),some (.tup (nL st)),some (.tup [.str sd,.str wd]),some (.loc S.length),v4,v5,v6,v7]/\S2=S++[some (.lst (nL l))]/\l.Nodup/\(∀x∈l,x<n)/\∀x,x∈l↔uG u st sd wd x) ?_ ?_ _ _ _ ⟨[],t,[],none,none,none,none,rfl,rfl,rfl,rfl,.nil,by simp,λx=>⟨λh=>by simp at h,λ⟨m,h,_⟩=>by simp at h⟩⟩
  ·intro δ S2 z;let⟨u,o,l,w5,w6,w7,w8,a,I,rfl,rfl,y,W,Z⟩:=z;obtain rfl:o=[]:=by simpa using a.symm
   rw[zbW] at I;subst I;refine⟨trivial,j _ _ ?_⟩;have hl1:=bw n l y W;push_cast[true_and];refine⟨_,rfl,.inr ⟨l.map λk:Nat=>k,?_,by rw[zbV];lia,λns' hp hs=>⟨_,rfl,?_⟩⟩⟩
   ·rw[uU,zcF];rfl
   let⟨rs,p1,p2,p3⟩:=jC hp hs;rw[p3];exact jG (iN rs) (q rs p2 (p1.symm.nodup y) λx=>by rw[p1.mem_iff,Z])
  ·intro x rest δ S2 N' z U;let⟨u,o,l,w5,w6,w7,w8,a,I,rfl,rfl,y,W,Z⟩:=z;cases o with
   |nil=>simp at a
   |cons r o=>
    injection a with e1 e2;subst e1;subst e2;have hrm:r∈t:=by rw[<-I];simp
    have ok:=hmv r hrm;have G:(u++[r])++o=t:=by rw[zbn];exact I
    let⟨m1,lf,m2⟩:=r;refine⟨trivial,_,rfl,rfl,_,_,rfl,_,_,rfl,_,_,rfl,rfl,?_⟩;refine aV λN2 O=>?_;have sn:∀x,uG (u++[(m1,lf,m2)]) st sd wd x↔uG u st sd wd x∨(m1∈st/\take lf sd wd=true/\m2=x):=λx=>by
     unfold uG;simp
    have gd:N2 [some (mD n b X t),some (.tup (nL st)),some (.tup [.str sd,.str wd]),some (.loc S.length),some (.int m1),some (lD lf),some (.int m2),some (.bl (take lf sd wd))] (S++[some (.lst (nL l))]):=O _ _ (by
     have hl1:=bw n l y W;refine bY (take lf sd wd&&(decide (m1∈st)&& !decide (m2∈l))) (λQ' v=>?_) (λL=>?_) (λL=>?_)
     ·push_cast[true_and];refine cz (λh=>?_) (λh=>?_)
      ·rw[h] at v;refine pJ (.inr rfl) ⟨_,rfl,cz (λh2=>?_) (λh2=>?_)⟩
       ·rw[zck] at h2;rw[h2] at v;refine pJ (.inl (uU l)) ⟨_,rfl,?_⟩;rw[zcz];exact v
       ·rw[zck] at h2;rw[eq_false_of_ne_true h2] at v;exact v
      ·rw[eq_false_of_ne_true h] at v;exact v
     ·simp only[zbR,decide_eq_true_eq,zbv,decide_eq_false_iff_not] at L;let⟨b1,b2,b3⟩:=L;push_cast[kQ];rw[uU];refine⟨rfl,_,_,_,rfl,rfl,a1 _,by rw[nL,zbV,yaf];lia,?_⟩;rw[uT,show nL l++[D.int m2]=nL (l++[m2]) by simp[nL]];refine U _ _ ⟨u++[(m1,lf,m2)],o,l++[m2],_,_,_,_,rfl,G,rfl,rfl,o6 y b3,λx hx=>?_,λx=>?_⟩
      ·obtain h|h:=zbU.mp hx
       ·exact W x h
       ·rw[zaY.mp h];exact ok.2.2
      ·rw[sn,zbU,zaY,Z];exact or_congr Iff.rfl ⟨λh=>⟨b2,b1,h.symm⟩,λh=>h.2.2.symm⟩
     ·refine U _ _ ⟨u++[(m1,lf,m2)],o,l,_,_,_,_,rfl,G,rfl,rfl,y,W,λx=>?_⟩;rw[sn,<-Z];lia)
    cases lf with
    |stay=>
     push_cast[lD,au,b6];exact gd
    |step bb x=>
     push_cast[lD,au,b6,cH,at2];rw[yIp (by decide)];refine cz (λh=>?_) (λh=>?_)
     ·refine⟨sz rfl,cF (n:=0) (ss:=["*",wd]) (za ok.2.1) (by decide) (by simp only[zct,hwd];rfl) ?_ (by simp)⟩;have e:(false != r9 (.str x) ["*",wd])=take (.step bb x) sd wd:=by
       simp only[take,h,r9,zcr,List.any_nil,Bool.or_false,zck];exact Bool.or_comm ..
      rw[<-e] at gd;exact gd
     ·have h:=λe=>h (yDt e);have e:take (.step bb x) sd wd=false:=by simp only[take,yDf h,zcl]
      rw[e] at gd;exact gd
    |mk bb m=>
     push_cast[lD,au,b6];rw[yIn (by cases bb<;>decide)];exact gd
def Dd:AN:=λds S Q=>∃(l:List Int)(st:List Nat)(z:D),ds=[tI l,z]/\(z=.lst (nL st)∨z=.tup (nL st))/\l.length<=100/\st.length<=100/\Q (.dat (.bl (decide (∀y∈l,y∈st.map λs:Nat=>(s:Int))))) S
def RV(T:Txt K mg C fi)(F:Src K mg "_law_some" lQ (top 49)):Def P w K mg base 1 "_law_some" lQ (az K Dd):=by
 refine cA F Qv (λds S Q h=>?_) (λf u A outer s H E j=>?_)
 ·let⟨l,st,z,rfl,_⟩:=h;rfl
 ·refine⟨_,(Vv (VE (VU (VJ j) (VW ["_law_one","_law_many"] [none,some 1] (VL (Vr 0)) (λ_ _ _ _=>(Wj (VC (Wt j) (Vr 0) (Vr 1) rfl))) (λ_ _ _ _=>(Vr 0))) (VG Vw) (aG _)))),λds S Q h=>?_⟩;let⟨l,st,z,rfl,hz,G,x,q⟩:=h;have t:aM G2 [tI l,z]=[some (tI l),some z]:=rfl;rw[t];push_cast[b5,bR];refine aU D.int (λy=>!decide (y∈st.map λs:Nat=>(s:Int))) D.int (λy=>[some (.int y),some z]) (λn=>∃v,n=[v,some z]) trivial (λc=>⟨_,rfl⟩) l [] _ ⟨none,rfl⟩ ?_ ?_ ?_ ?_ ?_
  ·rintro c I _ ⟨v,rfl⟩ m a;exact a
  ·intro y o m a;refine⟨_,rfl,_,rfl,Fo (by rw[zcF];obtain rfl|rfl:=hz;exact .inl rfl;exact .inr rfl) ⟨_,rfl,?_⟩⟩;rw[zcz];exact a
  ·exact λy o _ m a=>⟨_,rfl,a⟩
  ·rw[yaf];simp;lia
  ·refine⟨sz rfl,eq_nil (fJ (k:=1) (by decide) λd hd=>by let⟨i,_,rfl⟩:=zcE.mp hd;exact jX i) (bz rfl ?_)⟩;have e:(([]:List D)++(l.filter λy=>!decide (y∈st.map λs:Nat=>(s:Int))).map D.int).isEmpty=decide (∀y∈l,y∈st.map λs:Nat=>(s:Int)):=by
    refine zcf.mpr ?_;simp
   rw[e];exact q
open PySem PySem.Spec L2 M PyProof.Rows
noncomputable abbrev G5:List Str:=["_law_first","_law_second","_law_rows","_law_asked_here","_law_pair","_law_marks","_law_ours","_law_theirs","_law_step","_law_there","_law_stand"]
noncomputable abbrev qp:=G5.take 5
def oj:aH G5 qp (aj (top 50)):=L2.bT
noncomputable abbrev Hh:List Str:=["_law_first","_law_second","_law_rows","_law_asked_here","_law_stand","_law_stands"]
noncomputable abbrev qu:=Hh.take 4
def DJ:aH Hh qu (aj (top 51)):=L2.bT
def Ru{bs:List Bool}(q:g (.dat (.bl (true != bs.any λb=>!b))) S):mU true (.bl false) (.lst (bs.map D.bl)) S g:=by
 refine⟨by rfl,fJ (k:=1) (by decide) λd hd=>?_,?_⟩
 ·let⟨b,_,rfl⟩:=zcE.mp hd;refine⟨rfl,rfl,by simp[py,PyData.depth]⟩
 ·have e:inD (aT S (.bl false)) (bs.map D.bl)=bs.any λb=>!b:=by
   unfold inD;rw[zcC];congr 1;funext b;cases b<;>rfl
  rw[e];exact q
def JP{y:Nat}:(([]:List D)++(rows.filter λr:Rw=>decide (r.1=(y:Int))&&decide (∀z∈r.2,z∈d.map λs:Nat=>(s:Int))).map bV).isEmpty= !t8 rows y d:=by
 rw[zcb,zbP];refine zcf.mpr ?_;rw[zbQ,zap,zbv,<-Bool.not_eq_true];unfold t8;rw[zbI];exact⟨λh ⟨r,h1,h2⟩=>h r h1 h2,λh r h1 h2=>h ⟨r,h1,h2⟩⟩
noncomputable def jx(B:Ab):D:=.tup [CH B.cs,.lst (B.ts.map qJ)]
def K6:AN:=λds S Q=>∃(B:Ab)(h:List Rw)(a:Nat)(st:List Nat),ds=[mD B.n1 0 [1] B.bI,mD B.n2 0 [1] B.bL,.lst (h.map bV),jx B,.tup [.int a,.tup (nL st)]]/\B.Ok/\h.length<=100/\(∀r∈h,r.2.length<=60)/\a<B.n1/\(∀s∈st,s<B.n2)/\st.length<=60/\∀b:Bool,(b=true↔iA B h a st)->Q (.dat (.bl b)) S
def RY(T:Txt K mg C fi)(F:Src K mg "_law_pair_stands" qp (top 50))(u:Def P w K mg base 1 "_law_closure" lX (az K Ds))(U:Def P w K mg base 1 "_law_led" lU (az K Di))(Y:Def P w K mg base 1 "_law_some" lQ (az K Dd)):Def P w K mg base 2 "_law_pair_stands" qp (az K K6):=by
 refine cA F oj (λds S Q h=>?_) (λf cdv A outer s H E G=>?_)
 ·let⟨B,j,a,st,rfl,_⟩:=h;rfl
 ·refine⟨_,(Vu (VP PassesOwn.never rfl (VL (Vy (Vr 3))) (VM 5 oj.nd) (Vu (Vz 6 oj.nd (VB u G (Vs (Vr 0) (Vs (VG (Vs (Vy (Vr 4)) Vw)) (Vt (Vr 5)))))) (Vu (Vz 7 oj.nd (VB u G (Vs (Vr 1) (Vs (Vy (Vr 4)) (Vt (Vr 5)))))) (Vu (VH (V8 (Wi (VC (Wn G) (VW ["_law_one","_law_first"] [none,some 0] (VL (Vr 6)) (λ_ _ _ _=>(Wj (VC (V1 G) (Vr 0) (Vy (Vr 1)) rfl))) (λ_ _ _ _=>(Vr 0))) (VG Vw) (aG _)) (Wm (VC (VJ G) (VW ["_law_one","_law_second"] [none,some 1] (VL (Vr 7)) (λ_ _ _ _=>(Wj (VC (V1 G) (Vr 0) (Vy (Vr 1)) rfl))) (λ_ _ _ _=>(Vr 0))) (VG Vw) (aG _))))) (Vv (VE VZ)) VI) (Vv (VP PassesOwn.never rfl (VL (Vy (Vr 3))) (VM 8 oj.nd) (Vu (Vz 9 oj.nd (VB U G (Vs (Vr 1) (Vs (Vr 7) (Vt (Vr 8)))))) (Vv (VP PassesOwn.never rfl (VL (VB U G (Vs (Vr 0) (Vs (Vr 6) (Vt (Vr 8)))))) (VM 10 oj.nd) (Vv (VH (VC (VJ G) (VW ["_law_row","_law_stand","_law_there"] [none,some 10,some 9] (VL (Vr 2)) (λ_ _ _ _=>(Wj (V8 (Wi (VC (VJ G) (Vy (Vr 0)) (Vr 1) (aG _)) (Wm (V4 (VB Y G (Vs (Vy (Vr 0)) (Vt (Vr 2)))))))))) (λ_ _ _ _=>(Vr 0))) (VG Vw) (aG _)) (Vv (VE VZ)) VI))))))))))) (Vv (VE VZ))),λds S Q h=>?_⟩;let⟨B,j,a,st,rfl,O,hl,hr2,ha,hst,hsl,q⟩:=h;have e0:aM G5 [mD B.n1 0 [1] B.bI,mD B.n2 0 [1] B.bL,.lst (j.map bV),jx B,.tup [.int a,.tup (nL st)]]=[some (mD B.n1 0 [1] B.bI),some (mD B.n2 0 [1] B.bL),some (.lst (j.map bV)),some (jx B),some (.tup [.int a,.tup (nL st)]),none,none,none,none,none,none]:=rfl;rw[e0];refine aV λN1 hN1=>?_;push_cast[dU,bR,jx,au,b6];show cW (λ_=>True) _ _ (B.cs.map kU) _ _ _;obtain⟨PM,hPM⟩:∃PM:List Str->Prop,PM=λms=>(Reach B.bI ms [a] 1->Reach B.bL ms st 1)/\∀t∈B.ts,∀x,kr B.bI (Reach B.bI ms [a]) t.1 t.2 x->Cv j x (kr B.bL (Reach B.bL ms st) t.1 t.2):=⟨_,rfl⟩
  have qf:¬iA B j a st->Q (.dat (.bl false)) S:=λh=>q false ⟨λz:false=true=>absurd z (by decide),λz=>absurd z h⟩;have qt:(∀ms∈B.cs,PM ms)->Q (.dat (.bl true)) S:=λh=>q true ⟨λ_=>by rw[hPM] at h;exact h,λ_=>rfl⟩;have qn:∀ms∈B.cs,¬PM ms->Q (.dat (.bl false)) S:=λms hms h=>qf λz=>h (by rw[hPM];exact z ms hms);clear q qf;refine bf (λrest Z S2=>∃(c1 c2:List (List Str))(v5 v6 v7 v8 v9 o:Option D),rest=c2.map kU/\c1++c2=B.cs/\Z=[some (mD B.n1 0 [1] B.bI),some (mD B.n2 0 [1] B.bL),some (.lst (j.map bV)),some (jx B),some (.tup [.int a,.tup (nL st)]),v5,v6,v7,v8,v9,o]/\S=S2/\∀ms∈c1,PM ms) ?_ ?_ _ _ _
   ⟨[],B.cs,none,none,none,none,none,none,rfl,rfl,rfl,rfl,by simp⟩
  ·intro Z _ V;let⟨c1,c2,v5,v6,v7,v8,v9,o,G,W,rfl,rfl,hc⟩:=V;obtain rfl:c2=[]:=by simpa using G.symm
   rw[zbW] at W;subst W;refine⟨trivial,hN1 _ _ ?_⟩;push_cast[true_and];exact qt hc
  ·intro x rest Z _ N V hN;let⟨c1,c2,v5,v6,v7,v8,v9,o,G,W,rfl,rfl,hc⟩:=V;cases c2 with
   |nil=>simp at G
   |cons ms c2=>
    rw[zcs] at G;injection G with e1 e2;subst e1;subst e2;have hms:ms∈B.cs:=by rw[<-W];simp
    have hN:PM ms->∀v6 v7 v8 v9 o:Option D,N [some (mD B.n1 0 [1] B.bI),some (mD B.n2 0 [1] B.bL),some (.lst (j.map bV)),some (jx B),some (.tup [.int a,.tup (nL st)]),some (kU ms),v6,v7,v8,v9,o] S:=λh v6 v7 v8 v9 o=>hN _ _ ⟨c1++[ms],c2,_,_,_,_,_,_,rfl,by rw[zbn];exact W,rfl,rfl,λc hc'=>by
     obtain h'|h':=zbU.mp hc'
     ·exact hc c h'
     ·exact zaY.mp h'▸h⟩
    have qn:=qn ms hms;clear hc W qt hN1;refine⟨trivial,?_⟩;simp only[bN,zba,zaZ];refine aV λN2 I=>?_;push_cast[au,b6];refine⟨sz rfl,B.n1,0,[1],B.bI,[a],ms,_,rfl,.inl rfl,O.n1,O.m1,O.l1,by simpa using ha,by simp,O.cs ms hms,λr1 p1 p2 p3=>I _ _ ?_⟩;clear I;refine aV λN2 I=>?_;push_cast[au,cH];refine⟨B.n2,0,[1],B.bL,st,ms,_,rfl,.inr rfl,O.n2,O.m2,O.l2,hst,hsl,O.cs ms hms,λr2 k1 k2 k3=>I _ _ ?_⟩;clear I;have l1:∀x∈r1,x<B.n1:=λx hx=>((p3 x).mp hx).lt O.m1 (by simpa using ha);have l2:∀x∈r2,x<B.n2:=λx hx=>((k3 x).mp hx).lt O.m2 hst;have z1:=bw _ _ p2 l1;have z2:=bw _ _ k2 l2;have on1:=O.n1;have on2:=O.n2;refine aV λN2 I=>?_;have cf:∀(r:List Nat)(b1:D)(n:Nat)(mv:List Mv)(Q':List D->aK->Prop),r.length<=60->b1=mD n 0 [1] mv->(∀L:List Nat,L.length<=60->(!(nL L).isEmpty)=decide (1∈r)->Q' (nL L) S)->eu (λ_=>True) (bN 0) (aB (uF (mU false) (fR 0) (uF qF (fR 1) (aC (.int 2))))) (fR 0) (nL r) [] [none,some b1] S Q':=λr b1 n mv Q' hrl hb1 q'=>by
     subst hb1;refine aU (P:=λ_=>True) (α:=Nat) (λn:Nat=>.int n) (λx=>decide (x∈[1])) (λn:Nat=>.int n) (λx=>[some (.int (x:Nat)),some (mD n 0 [1] mv)]) (λZ=>∃v,Z=[v,some (mD n 0 [1] mv)]) trivial (λc=>⟨_,rfl⟩) r [] _ ⟨none,rfl⟩ ?_ ?_ ?_ ?_ ?_
     ·rintro c hc _ ⟨v,rfl⟩ Q2 q2;exact q2
     ·intro x hx Q2 q2;refine⟨_,rfl,_,rfl,_,rfl,pJ (l:=[1]) (.inr rfl) ⟨_,rfl,?_⟩⟩;rw[zck];exact q2
     ·exact λx hx _ Q2 q2=>⟨_,rfl,q2⟩
     ·rw[yaf];simp;lia
     ·refine q' (r.filter λx=>decide (x∈[1])) (zcH (zay ..) hrl) ?_;refine zcf.mpr ?_;rw[zbv,<-Bool.not_eq_true,zbQ,decide_eq_true_eq,nL,List.map_eq_nil_iff,zap];simp
    have fn:∀L:List Nat,fit (.lst (nL L))=true:=λL=>fJ (k:=1) (by decide) λd hd=>by let⟨i,_,rfl⟩:=zcE.mp hd;exact jX i
    refine bY (decide (1∈r1)&& !decide (1∈r2)) (λQ' q'=>?_) (λX=>?_) (λX=>I _ _ ?_)
    ·push_cast[b5,bR,cD];refine cf r1 _ B.n1 B.bI _ (by lia) rfl λL1 h1 w1=>⟨sz rfl,ne_nil (fn L1) ⟨_,rfl,cz (λX=>?_) (λX=>?_)⟩⟩
     ·rw[w1] at X;rw[X,zcy] at q';refine cf r2 _ B.n2 B.bL _ (by lia) rfl λL2 h2 w2=>⟨sz rfl,eq_nil (fn L2) ⟨_,rfl,?_⟩⟩
      rw[<-w2,Bool.not_not] at q';exact q'
     ·rw[w1] at X;rw[eq_false_of_ne_true X,zcl] at q';exact q'
    ·push_cast[true_and];refine qn λz=>?_;rw[zbR,zbv,decide_eq_true_eq,decide_eq_false_iff_not,p3,k3] at X;rw[hPM] at z;exact X.2 (z.1 X.1)
    ·clear I;have hpt:Reach B.bI ms [a] 1->Reach B.bL ms st 1:=λz=>by
      rw[Bool.and_eq_false_iff,zbf,decide_eq_true_eq,decide_eq_false_iff_not,p3,k3] at X;exact X.elim (λy=>absurd z y) id
     push_cast[jx,dU,bR,au,cH];show cW (λ_=>True) _ _ (B.ts.map qJ) _ _ _;obtain⟨PT,hPT⟩:∃PT:Str×Str->Prop,PT=λt=>∀x,kr B.bI (Reach B.bI ms [a]) t.1 t.2 x->Cv j x (kr B.bL (Reach B.bL ms st) t.1 t.2):=⟨_,rfl⟩
     have qm:∀t∈B.ts,¬PT t->Q (.dat (.bl false)) S:=λt ht h=>qn λz=>h (by rw[hPM] at z;rw[hPT];exact z.2 t ht);have hN:(∀t∈B.ts,PT t)->_:=λh=>hN (by rw[hPM];rw[hPT] at h;exact⟨hpt,h⟩);clear qn;refine bf (λrest Z S2=>∃(t1 t2:List (Str×Str))(v8 v9 o:Option D),rest=t2.map qJ/\t1++t2=B.ts/\Z=[some (mD B.n1 0 [1] B.bI),some (mD B.n2 0 [1] B.bL),some (.lst (j.map bV)),some (jx B),some (.tup [.int a,.tup (nL st)]),some (kU ms),some (.tup (nL r1)),some (.tup (nL r2)),v8,v9,o]/\S=S2/\∀t∈t1,PT t) ?_ ?_ _ _ _
      ⟨[],B.ts,v8,v9,o,rfl,rfl,rfl,rfl,by simp⟩
     ·intro Z _ V;let⟨t1,t2,v8,v9,o,G,W,rfl,rfl,hc⟩:=V;obtain rfl:t2=[]:=by simpa using G.symm
      rw[zbW] at W;subst W;exact⟨trivial,hN hc _ _ _ _ _⟩
     ·intro x rest Z _ N' V hN';let⟨t1,t2,v8,v9,o,G,W,rfl,rfl,hc⟩:=V;cases t2 with
      |nil=>simp at G
      |cons t t2=>
       rw[zcs] at G;injection G with e1 e2;subst e1;subst e2;have ht:t∈B.ts:=by rw[<-W];simp
       have qm:=qm t ht;have hN':PT t->∀v9 o:Option D,N' [some (mD B.n1 0 [1] B.bI),some (mD B.n2 0 [1] B.bL),some (.lst (j.map bV)),some (jx B),some (.tup [.int a,.tup (nL st)]),some (kU ms),some (.tup (nL r1)),some (.tup (nL r2)),some (qJ t),v9,o] S:=λh v9 o=>hN' _ _ ⟨t1++[t],t2,_,_,_,rfl,by rw[zbn];exact W,rfl,rfl,λc hc'=>by
        obtain h'|h':=zbU.mp hc'
        ·exact hc c h'
        ·exact zaY.mp h'▸h⟩
       clear hc W hN;refine⟨trivial,?_⟩;simp only[bN,zba,zaZ];refine aV λN2 I=>?_;push_cast[true_and];refine⟨B.n2,0,[1],B.bL,r2,t.1,t.2,rfl,O.n2,O.m2,O.l2,O.ts t ht,λth h1 h2 h3=>I _ _ ?_⟩;clear I;have z3:=bw B.n2 th h2 λx hx=>by
        let⟨m,hm,_,_,rfl⟩:=(h3 x).mp hx;exact(O.m2 m hm).2.2
       push_cast[dU,bR];refine⟨B.n1,0,[1],B.bI,r1,t.1,t.2,rfl,O.n1,O.m1,O.l1,O.ts t ht,λxs g1 g2 g3=>?_⟩;show cW (λ_=>True) _ _ (nL xs) _ _ _;have cvi:∀x:Nat,Cv j x (· ∈th)↔Cv j x (kr B.bL (Reach B.bL ms st) t.1 t.2):=λx=>⟨Cv.imp λs hs=>(fB k3).mp ((h3 s).mp hs),Cv.imp λs hs=>(h3 s).mpr ((fB k3).mpr hs)⟩
       refine bf (λrest Z S2=>∃(xa xb:List Nat)(o:Option D),rest=nL xb/\xa++xb=xs/\Z=[some (mD B.n1 0 [1] B.bI),some (mD B.n2 0 [1] B.bL),some (.lst (j.map bV)),some (jx B),some (.tup [.int a,.tup (nL st)]),some (kU ms),some (.tup (nL r1)),some (.tup (nL r2)),some (qJ t),some (.tup (nL th)),o]/\S=S2/\∀x∈xa,Cv j x (· ∈th)) ?_ ?_ _ _ _
        ⟨[],xs,o,rfl,rfl,rfl,rfl,by simp⟩
       ·intro Z _ V;let⟨xa,xb,o,G,W,rfl,rfl,hc⟩:=V;obtain rfl:xb=[]:=by
         cases xb with
         |nil=>rfl
         |cons _ _=>simp[nL] at G
        rw[zbW] at W;subst W;refine⟨trivial,hN' ?_ _ _⟩;rw[hPT];exact λx hx=>(cvi x).mp (hc x ((g3 x).mpr ((fB p3).mpr hx)))
       ·intro x rest Z _ N3 V hN3;let⟨xa,xb,o,G,W,rfl,rfl,hc⟩:=V;cases xb with
        |nil=>simp[nL] at G
        |cons y xb=>
         rw[nL,zcs] at G;injection G with e1 e2;subst e1;subst e2;have hy:y∈xs:=by rw[<-W];simp
         refine⟨trivial,?_⟩;simp only[bN,zba,zaZ];refine bY (!t8 j y th) (λQ' q'=>?_) (λX=>?_) (λX=>?_)
         ·push_cast[b5,bR,cD];refine aU (P:=λ_=>True) (α:=Rw) bV (λr:Rw=>decide (r.1=(y:Int))&&decide (∀z∈r.2,z∈th.map λs:Nat=>(s:Int))) bV (λr=>[some (bV r),some (.int y),some (.tup (nL th))]) (λZ=>∃v,Z=[v,some (.int y),some (.tup (nL th))]) trivial (λr=>⟨_,rfl⟩) j [] _ ⟨none,rfl⟩ ?_ ?_ ?_ ?_ ?_
          ·rintro r h _ ⟨v,rfl⟩ Q2 q2;exact q2
          ·intro r h Q2 q2;have hr3:=hr2 r h;push_cast[bV,au,b6,cH];refine cz (λh=>?_) (λh=>?_)
           ·refine⟨r.2,th,_,rfl,.inr rfl,by lia,by lia,_,rfl,?_⟩;rw[h,zcy] at q2;exact q2
           ·rw[eq_false_of_ne_true h,zcl] at q2;exact q2
          ·exact λr h _ Q2 q2=>⟨_,rfl,q2⟩
          ·rw[yaf];simp;lia
          ·refine⟨sz rfl,eq_nil (fJ (k:=4) (by decide) λd hd=>by let⟨r,_,rfl⟩:=zcE.mp hd;exact rw_lay r) ⟨_,rfl,?_⟩⟩;have e:(([]:List D)++(j.filter λr:Rw=>decide (r.1=(y:Int))&&decide (∀z∈r.2,z∈th.map λs:Nat=>(s:Int))).map bV).isEmpty= !t8 j y th:=by
            rw[zcb,zbP];refine zcf.mpr ?_;rw[zbQ,zap,zbv,<-Bool.not_eq_true];unfold t8;rw[zbI];exact⟨λh ⟨r,h1,h2⟩=>h r h1 h2,λh r h1 h2=>h ⟨r,h1,h2⟩⟩
           rw[e];exact q'
         ·push_cast[true_and];refine qm λz=>?_;rw[hPT] at z;have:=(cvi y).mpr (z y ((fB p3).mp ((g3 y).mp hy)));rw[iU.mpr this] at X;exact absurd X (by decide)
         ·refine hN3 _ _ ⟨xa++[y],xb,_,rfl,by rw[zbn];exact W,rfl,rfl,λc hc'=>?_⟩;obtain h'|h':=zbU.mp hc'
          ·exact hc c h'
          ·rw[zaY.mp h'];exact iU.mp (by simpa using X)
def K8:AN:=λds S Q=>∃(B:Ab)(a:List Rw),ds=[mD B.n1 0 [1] B.bI,mD B.n2 0 [1] B.bL,.lst (a.map bV),jx B]/\B.Ok/\a.length<=100/\(∀r∈a,r.2.length<=60)/\∀b:Bool,(b=true↔jd B a)->Q (.dat (.bl b)) S
def Se(T:Txt K mg C fi)(F:Src K mg "_law_shows" qu (top 51))(m:Def P w K mg base 1 "_law_some" lQ (az K Dd))(j:Def P w K mg base 2 "_law_pair_stands" qp (az K K6)):Def P w K mg base 3 "_law_shows" qu (az K K8):=by
 refine cA F DJ (λds S Q h=>?_) (λf cdv A outer s H E o=>?_)
 ·let⟨B,rows,rfl,_⟩:=h;rfl
 ·refine⟨_,(Vu (VP PassesOwn.never rfl (VL (Vr 2)) (Wg (n:=2) rfl (VO (VM 4 DJ.nd) (VO (VM 5 DJ.nd) Wh))) (Vv (VH (V8 (WC (VC WA (Vr 4) Vx (aG _)) (WC (VC M.Ja (Vr 4) (Vy (Vr 0)) (aG _)) (WO (VC (Wn o) (VW ["_law_one","_law_second"] [none,some 1] (VL (Vr 5)) (λ_ _ _ _=>(Wj (V8 (WC (VC WA (Vr 0) Vx (aG _)) (WO (VC M.Ja (Vr 0) (Vy (Vr 1)) (aG _))))))) (λ_ _ _ _=>(Vr 0))) (VG Vw) (aG _)))))) (Vv (VE VZ)) VI))) (Vu (VH (VC (VJ o) (VW ["_law_row","_law_first","_law_second"] [none,some 0,some 1] (VL (Vr 2)) (λ_ _ _ _=>(Wj (V8 (Wi (VC (VJ o) (Vy (Vr 0)) (Vy (Vr 1)) (aG _)) (Wm (V4 (VB m o (Vs (Vy (Vr 0)) (Vs (VG (Vs (Vy (Vr 2)) Vw)) Vw))))))))) (λ_ _ _ _=>(Vr 0))) (VG Vw) (aG _)) (Vv (VE VZ)) VI) (Vv (VE (VU (Wt o) VZ (VW ["_law_row","_law_first","_law_second","_law_rows","_law_asked_here"] [none,some 0,some 1,some 2,some 3] (VL (Vr 2)) (λ_ _ _ _=>V3) (λ_ _ _ _=>(VB j o (Vs (Vr 1) (Vs (Vr 2) (Vs (Vr 3) (Vs (Vr 4) (Vt (Vr 0))))))))) rfl))))),λds S Q h=>?_⟩;let⟨B,rows,rfl,O,hl,I,q⟩:=h;have e0:aM Hh [mD B.n1 0 [1] B.bI,mD B.n2 0 [1] B.bL,.lst (rows.map bV),jx B]=[some (mD B.n1 0 [1] B.bI),some (mD B.n2 0 [1] B.bL),some (.lst (rows.map bV)),some (jx B),none,none]:=rfl;rw[e0];have qf:¬jd B rows->Q (.dat (.bl false)) S:=λh=>q false ⟨λz:false=true=>absurd z (by decide),λz=>absurd z h⟩;have c0:t8 rows 0 [0]=true↔Cv rows 0 (· =0):=by
   have:=iU (rows:=rows) (a:=0) (st:=[0]);simpa using this
  refine aV λN1 u=>?_;push_cast[dU,bR];show cW (λ_=>True) _ _ (rows.map bV) _ _ _;refine bf (λrest G S2=>∃(l q2:List Rw)(v4 v5:Option D),rest=q2.map bV/\l++q2=rows/\G=[some (mD B.n1 0 [1] B.bI),some (mD B.n2 0 [1] B.bL),some (.lst (rows.map bV)),some (jx B),v4,v5]/\S=S2/\∀r∈l,qN B.n1 B.n2 r=true) ?_ ?_ _ _ _
   ⟨[],rows,none,none,rfl,rfl,rfl,rfl,by simp⟩
  ·intro G _ V;let⟨l,q2,v4,v5,o,Y,rfl,rfl,Z⟩:=V;obtain rfl:q2=[]:=by simpa using o.symm
   rw[zbW] at Y;subst Y;refine⟨trivial,u _ _ ?_⟩;clear u;refine aV λN1 u=>?_;refine bY (!t8 l 0 [0]) (λQ' U=>?_) (λt=>?_) (λt=>u _ _ ?_)
   ·push_cast[b5,bR,cD];refine aU (P:=λ_=>True) (α:=Rw) bV (λr:Rw=>decide (r.1=((0:Nat):Int))&&decide (∀z∈r.2,z∈[0].map λs:Nat=>(s:Int))) bV (λr=>[some (bV r),some (mD B.n1 0 [1] B.bI),some (mD B.n2 0 [1] B.bL)]) (λG=>∃v,G=[v,some (mD B.n1 0 [1] B.bI),some (mD B.n2 0 [1] B.bL)]) trivial (λr=>⟨_,rfl⟩) l [] _ ⟨none,rfl⟩ ?_ ?_ ?_ ?_ ?_
    ·rintro r h _ ⟨v,rfl⟩ L q2;exact q2
    ·intro r h L q2;have hr3:=I r h;push_cast[bV,mD,au,b6,cH];refine cz (λh=>?_) (λh=>?_)
     ·refine⟨sz rfl,r.2,[0],_,rfl,.inl rfl,by lia,by decide,_,rfl,?_⟩;rw[h,zcy] at q2;exact q2
     ·rw[eq_false_of_ne_true h,zcl] at q2;exact q2
    ·exact λr h _ L q2=>⟨_,rfl,q2⟩
    ·rw[yaf];simp;lia
    ·refine⟨sz rfl,eq_nil (fJ (k:=4) (by decide) λd hd=>by let⟨r,_,rfl⟩:=zcE.mp hd;exact rw_lay r) ⟨_,rfl,?_⟩⟩;rw[JP];exact U
   ·push_cast[true_and];refine qf λz=>?_;rw[c0.mpr z.2.1] at t;exact absurd t (by decide)
   ·clear u;push_cast[b5,bR,cD];refine aU (P:=λ_=>True) (α:=Rw) bV (λ_=>true) (λr=>.bl (@decide (iA B l r.1.toNat (r.2.map zcX)) (Classical.propDecidable _))) (λr=>[some (bV r),some (mD B.n1 0 [1] B.bI),some (mD B.n2 0 [1] B.bL),some (.lst (l.map bV)),some (jx B)]) (λG=>∃v,G=[v,some (mD B.n1 0 [1] B.bI),some (mD B.n2 0 [1] B.bL),some (.lst (l.map bV)),some (jx B)]) trivial (λr=>⟨_,rfl⟩) l [] _ ⟨none,rfl⟩ ?_ ?_ ?_ ?_ ?_
    ·rintro r h _ ⟨v,rfl⟩ L q2;exact q2
    ·exact λr h L q2=>q2
    ·intro r h _ L q2;let⟨z1,z2,z3⟩:=zU (Z r h);refine⟨_,rfl,_,rfl,_,rfl,_,rfl,_,rfl,B,l,r.1.toNat,r.2.map zcX,by rw[z3];rfl,O,hl,I,z1,z2,by rw[zbV];exact I r h,λb t=>?_⟩;have:b=@decide (iA B l r.1.toNat (r.2.map zcX)) (Classical.propDecidable _):=zcf.mpr (t.trans (@decide_eq_true_iff _ (Classical.propDecidable _)).symm);rw[this];exact q2
    ·rw[yaf];simp;lia
    ·rw[zaO.mpr λ_ _=>rfl,zcb];rw[show(l.map λr=>D.bl (@decide (iA B l r.1.toNat (r.2.map zcX)) (Classical.propDecidable _)))=(l.map λr=>@decide (iA B l r.1.toNat (r.2.map zcX)) (Classical.propDecidable _)).map D.bl by rw[zcF];rfl];refine Ru (bz rfl (q _ ⟨λz=>⟨Z,c0.mp (by simpa using t),λr h=>?_⟩,λz=>?_⟩))
     ·rw[zcz,zbv,zbk] at z;have:=z _ (zaP h);rw[zbv,Bool.not_eq_false] at this;exact(@decide_eq_true_iff _ (Classical.propDecidable _)).mp this
     ·rw[zcz,zbv,zbk];intro b hb';let⟨r,h,rfl⟩:=zcE.mp hb';rw[(@decide_eq_true_iff _ (Classical.propDecidable _)).mpr (z.2.2 r h)];decide
  ·intro x rest G _ N V hN;let⟨l,q2,v4,v5,o,Y,rfl,rfl,Z⟩:=V;cases q2 with
   |nil=>simp at o
   |cons r q2=>
    rw[zcs] at o;injection o with e1 e2;subst e1;subst e2;have X:r∈rows:=by rw[<-Y];simp
    refine⟨trivial,_,rfl,rfl,_,_,rfl,_,_,rfl,rfl,?_⟩;refine bY (!qN B.n1 B.n2 r) (λQ' U=>?_) (λt=>?_) (λt=>?_)
    ·push_cast[mD,au,b6,b5,bR,cD];refine cz (λh1=>?_) (λh1=>cz (λh2=>?_) (λh2=>?_))
     ·have:qN B.n1 B.n2 r=false:=by
       unfold qN;have:=of_decide_eq_true h1;rw[yDf (by lia),zcl]
      rw[this] at U;exact U
     ·have:qN B.n1 B.n2 r=false:=by
       unfold qN;have:=of_decide_eq_true h2;rw[yDf (by lia),zcl]
      rw[this] at U;exact U
     ·have h1:¬r.1<0:=λz=>h1 (yDt z);have h2:¬(B.n1:Int)<=r.1:=λz=>h2 (yDt z);have hr3:=I r X;show eu (λ_=>True) _ _ _ (r.2.map D.int) [] _ _ _;refine aU (P:=λ_=>True) (α:=Int) D.int (λy=>decide (y<0)||decide ((B.n2:Int)<=y)) D.int (λy=>[some (.int y),some (mD B.n2 0 [1] B.bL)]) (λG=>∃v,G=[v,some (mD B.n2 0 [1] B.bL)]) trivial (λc=>⟨_,rfl⟩) r.2 [] _ ⟨none,rfl⟩ ?_ ?_ ?_ ?_ ?_
      ·rintro c Z _ ⟨v,rfl⟩ L q2;exact q2
      ·intro y W L q2;push_cast[mD,au,b6];refine cz (λh=>?_) (λh=>?_)
       ·rw[h,Bool.true_or] at q2;exact q2
       ·rw[eq_false_of_ne_true h,Bool.false_or] at q2;exact q2
      ·exact λy W _ L q2=>⟨_,rfl,q2⟩
      ·rw[yaf];simp;lia
      ·refine⟨sz rfl,ne_nil (fJ (k:=1) (by decide) λd hd=>by let⟨i,_,rfl⟩:=zcE.mp hd;exact jX i) ⟨_,rfl,?_⟩⟩;have e:(!(([]:List D)++(r.2.filter λy:Int=>decide (y<0)||decide ((B.n2:Int)<=y)).map D.int).isEmpty)= !qN B.n1 B.n2 r:=by
        congr 1;rw[zcb,zbP];refine zcf.mpr ?_;unfold qN;rw[zbQ,zap,zbR,decide_eq_true_eq,zbE];refine⟨λh=>⟨by lia,λy W=>?_⟩,λh y W=>?_⟩
        ·have:=h y W;simp at this⊢;exact this
        ·have:=h.2 y W;simp at this⊢;exact this
       rw[e];exact U
    ·push_cast[true_and];refine qf λz=>?_;rw[z.1 r X] at t;exact absurd t (by decide)
    ·refine hN _ _ ⟨l++[r],q2,_,_,rfl,by rw[zbn];exact Y,rfl,rfl,λc hc'=>?_⟩;obtain h'|h':=zbU.mp hc'
     ·exact Z c h'
     ·rw[zaY.mp h'];simpa using t
open PySem PySem.Spec L2 M PyProof.Rows
noncomputable abbrev GZ:List Str:=["_law_feed_here","_law_words","_law_marks","_law_one","_law_other","_law_way"]
noncomputable abbrev qi:=GZ.take 1
def eL:aH GZ qi (aj (top 52)):=L2.bT
def Fs(S a:aK)(p n:Nat):Prop:=(∃o,a[p]? =some (some o)/\Fd n o)/\S.length<=a.length/\∀k,k<S.length->k≠p->a[k]? =S[k]?
def Fs.mono(h:Fs S d e n)(q:n<=m):Fs S d e m:=by
 let⟨⟨o,h1,ns,a,l,h2,u,t⟩,s⟩:=h;exact⟨⟨o,h1,ns,a,l,h2,zcH u q,t⟩,s⟩
theorem Fs.set(h:Fs S d e n)(f:Fd (n+1) o'):Fs S (d.set e (some o')) e (n+1):=by
 let⟨⟨o,h1,_⟩,h2,m⟩:=h;refine⟨⟨o',qM h1,f⟩,by rw[zbY];exact h2,λk l a=>by rw[dw a];exact m k l a⟩
def Fs.ret(h:Fs S g r n)(m:r<S.length)(hd:cg d=true)(q:∀o',Fd n o'->z (.dat d) (S.set r (some o'))):VT S g (.dat d) z:=by
 let⟨⟨o,h1,f⟩,h2,l⟩:=h;refine zH (fE hd) f ?_ (q o f);refine zbq λk=>?_;rw[zaW];by_cases a:k<S.length
 ·rw[yIp a];by_cases e:k=r
  ·subst e;rw[h1,zbm,yIp rfl,yIp a]
  ·rw[dw e];exact l k a e
 ·rw[yIn a,zaz (by simp;lia)]
def Ex{x y:Pt}(m:jy d ms x)(j:jy d ms y):jy d ms (.alt [x,y])/\jy d ms (.seq [x,y]):=by
 have h:∀l∈Lv x++(Lv y++[]),P5 d ms l:=λl a=>by
  rw[zbW] at a;exact(zbU.mp a).elim (m l) (j l)
 exact⟨h,h⟩
structure TQ(x y:Pt):Prop where
 dx:dp x<=8
 dy:dp y<=8
 nx:N x<=25
 ny:N y<=25
 ex:∃W Mz:List Str,jy W Mz x/\jy W Mz y/\W.length<=7/\Mz.length<=6/\(∀y∈W,Nm y)/\∀y∈Mz,Nm y
def K1:AN:=λds S Q=>∃(p n:Nat)(o:MO),ds=[.loc p]/\S[p]? =some (some o)/\Fd n o/\n+4000<1000000000000/\∀(x y)(a),TQ x y->Fd (n+3000) a->Q (.dat (.tup [tD x,tD y])) (S.set p (some a))
def RS(T:Txt K mg C fi)(F:Src K mg "_law_two" qi (top 52))(u:Def P w K mg base 1 "_law_draw" d8 (az K eX))(v:Def P w K mg base 2 "_law_names" iE (az K sN))(U:Def P w K mg base 6 "_law_pattern" dG (az K (kY 3)))(O:Def P w K mg base 7 "_law_pattern" dG (az K (kY 4))):Def P w K mg base 8 "_law_two" qi (az K K1):=by
 refine cA F eL (λds S Q h=>?_) (λf cdv A outer s H E X=>?_)
 ·let⟨p,n,o,rfl,_⟩:=h;rfl
 ·refine⟨_,(Vu (Vz 1 eL.nd (VB v X (Vs (Vr 0) (Vs (VD VN Vx (VB u X (Vs (Vr 0) (Vt Vx)))) Vw)))) (Vu (Vz 2 eL.nd (VB v X (Vs (Vr 0) (Vs (V0 (VG (Vs Vx (Vs Vx (Vs Vx (Vt Vx))))) (VB u X (Vs (Vr 0) (Vt Vx)))) Vw)))) (Vu (VH (VC (VJ X) (VB u X (Vs (Vr 0) (Vt Vx))) Vx (aG _)) (Vu (Vz 1 eL.nd (VB v X (Vs (Vr 0) (Vt Vx)))) (Vv (Vz 2 eL.nd (VB v X (Vs (Vr 0) (Vt Vx)))))) VI) (Vu (Vz 3 eL.nd (VB U X (Vs (Vr 0) (Vs (Vr 1) (Vs (Vr 2) (Vs (VQ (VG (Vs (VD VN Vx (VB u X (Vs (Vr 0) (Vt Vx)))) Vw))) (Vt Vx))))))) (Vu (Vz 4 eL.nd (VB U X (Vs (Vr 0) (Vs (Vr 1) (Vs (Vr 2) (Vs (VQ (VG (Vs (VD VN Vx (VB u X (Vs (Vr 0) (Vt Vx)))) Vw))) (Vt Vx))))))) (Vu (Vz 5 eL.nd (VB u X (Vs (Vr 0) (Vt Vx)))) (Vu (VH (VC M.IZ (Vr 5) Vx (aG _)) (Vu (Vz 3 eL.nd (VB O X (Vs (Vr 0) (Vs (Vr 1) (Vs (Vr 2) (Vs (VQ (VG (Vs (VD VN Vx (VB u X (Vs (Vr 0) (Vt Vx)))) Vw))) (Vt Vx))))))) (Vv (Vz 4 eL.nd (VB O X (Vs (Vr 0) (Vs (Vr 1) (Vs (Vr 2) (Vs (VQ (VG (Vs (VD VN Vx (VB u X (Vs (Vr 0) (Vt Vx)))) Vw))) (Vt Vx))))))))) VI) (Vu (VH (VC (VJ X) (Vr 5) Vx (aG _)) (Vv (Vz 4 eL.nd (VF (Vs VA (Vs (VF (Vs (Vr 4) (Vt (Vr 3)))) Vw))))) VI) (Vu (VH (VC (VJ X) (Vr 5) Vx (aG _)) (Vv (Vz 4 eL.nd (VF (Vs VA (Vt (Vr 3)))))) VI) (Vu (VH (VC (VJ X) (Vr 5) Vx (aG _)) (Vv (Vz 4 eL.nd (VF (Vs VA (Vs (VF (Vs (VF (Vs VA (Vt (Vr 4)))) (Vt (Vr 3)))) Vw))))) VI) (Vu (VH (VC (VJ X) (Vr 5) Vx (aG _)) (Vu (Vz 3 eL.nd (VF (Vs VA (Vs (VF (Vs (Vr 3) (Vt (Vr 4)))) Vw)))) (Vv (Vz 4 eL.nd (VF (Vs VA (Vs (VF (Vs VA (Vs (VF (Vs (Vy (Vy (Vr 3))) (Vs (Vy (Vy (Vr 3))) Vw))) Vw))) Vw)))))) VI) (Vu (VH (VC (VJ X) (Vr 5) Vx (aG _)) (Vv (Vz 4 eL.nd (VF (Vs VA (Vs (VF (Vs (Vr 3) (Vs (VF (Vt VA)) Vw))) Vw))))) VI) (Vv (VE (VF (Vs (Vr 3) (Vt (Vr 4)))))))))))))))))),λds S Q h=>?_⟩;let⟨p,n,o,rfl,hS,hF,hn,q⟩:=h;have hp:=i_lt hS;have e0:aM GZ [.loc p]=[some (.loc p),none,none,none,none,none]:=rfl;rw[e0];have F0:Fs S S p n:=⟨⟨o,hS,hF⟩,zcR _,λ_ _ _=>rfl⟩
  have dr:∀{S2:aK}{n1:Nat}{m:Int}{Q':AK},Fs S S2 p n1->n1<=n+3500->0<m->m<1000->(∀(z:Nat)(S3:aK),(z:Int)<m->Fs S S3 p (n1+1)->Q' (.dat (.int z)) S3)->eX [.loc p,.int m] S2 Q':=λ{S2 n1 m Q'} h hn1 m0 m1 k=>by
   let⟨o1,h1,f1⟩:=id h.1;refine⟨p,n1,m,o1,rfl,h1,f1,by lia,m0,m1,λz o' hz f=>k z _ hz (h.set f)⟩
  have nm:∀{S2:aK}{n1 m:Nat}{Q':AK},Fs S S2 p n1->n1<=n+3500->m<=7->(∀(ys:List Str)(S3:aK),ys.length=m->(∀y∈ys,Nm y)->Fs S S3 p (n1+2)->Q' (.new (.lst (ys.map D.str))) S3)->sN [.loc p,.int m] S2 Q':=λ{S2 n1 m Q'} h hn1 m7 k=>by
   let⟨o1,h1,f1⟩:=id h.1;refine⟨p,n1,m,o1,rfl,h1,f1,by lia,m7,λys o' hl hy f=>k ys _ hl hy ((h.mono (zcT n1)).set f)⟩
  have pt:∀{S2:aK}{n1 b k:Nat}{ws ms:List Str}{Q':AK},Fs S S2 p n1->n1+mZ k<=n+3500->(∀y∈ws,Nm y)->(∀y∈ms,Nm y)->ws.length<=7->ms.length<=6->1<=b->b<=8->(∀(x:Pt)(S3:aK),dp x<=k->N x<=b->jy ws ms x->Fs S S3 p (n1+mZ k)->Q' (.dat (tD x)) S3)->
    kY k [.loc p,.lst (ws.map D.str),.lst (ms.map D.str),.loc S2.length,.int k] (S2++[some (.lst [.int b])]) Q':=λ{S2 n1 b k ws ms Q'} h hn1 hw hm lw lm b1 b8 c=>by
   let⟨⟨o1,h1,f1⟩,h2,h3⟩:=h;have hpl:=i_lt h1;refine⟨p,S2.length,n1,b,ws,ms,o1,rfl,hw,hm,lw,by lia,by lia,by rw[ng hpl];exact h1,p8,b1,b8,f1,by lia,λx o' c' Z g2 g3 g4=>c x _ Z (by lia) g3 ⟨⟨o',?_,g4⟩,?_,λj hj hjp=>?_⟩⟩
   ·rw[dw (by lia)];exact qM (by rw[ng hpl];exact h1)
   ·rw[zbY,zbY,zaU];lia
   ·rw[dw (by lia),dw hjp,ng (by lia)];exact h3 j hj hjp
  have d3:mZ 3=255:=rfl;have d4:mZ 4=1023:=rfl;refine aV λN1 t=>?_;push_cast[true_and];refine dr F0 (by lia) (by decide) (by decide) λz S1 hz F1=>?_;rw[cT,e8];rw[show(1+(z:Int))=((1+z:Nat):Int) by lia];refine nm F1 (by lia) (by lia) λws S2 lw hw F2=>t _ _ ?_;clear t;have lw:ws.length<=7:=by lia
  clear F0 F1 hz;refine aV λN1 t=>?_;push_cast[true_and];refine⟨sz rfl,dr F2 (by lia) (by decide) (by decide) λz S3 hz F3=>pick (by simp;lia) λe he=>?_⟩;obtain⟨m,hm,rfl⟩:∃m:Nat,m<=2/\e=.int m:=by
   simp only[zcq,zbH,or_false] at he;obtain rfl|rfl|rfl|rfl:=he
   ·refine⟨0,by decide,rfl⟩
   ·refine⟨1,by decide,rfl⟩
   ·refine⟨1,by decide,rfl⟩
   ·refine⟨2,by decide,rfl⟩
  refine nm F3 (by lia) (by lia) λms S4 lm hm F4=>t _ _ ?_;clear t he;have lm:ms.length<=6:=by lia
  clear F2 F3 hz;obtain⟨G,hG⟩:∃G:List Str->List Str->Prop,G=λws ms=>(∀y∈ws,Nm y)/\(∀y∈ms,Nm y)/\ws.length<=7/\ms.length<=6:=⟨_,rfl⟩
  refine aV λN1 t=>?_;have R1:∀(ws ms:List Str)(L:aK),G ws ms->Fs S L p (n+20)->N1 [some (.loc p),some (.lst (ws.map D.str)),some (.lst (ms.map D.str)),none,none,none] L:=λws ms L g Y=>t _ _ (by
   rw[hG] at g;let⟨hw,hm,lw,lm⟩:=g;clear t;refine aV λN1 t=>?_;push_cast[bO];refine dr Y (by lia) (by decide) (by decide) λb1 S6 hb1 F6=>?_;rw[cT,e8,show(1+(b1:Int))=((1+b1:Nat):Int) by lia];refine⟨sz rfl,pt (k:=3) F6 (by lia) hw hm lw lm (by lia) (by lia) λx S7 dx nx px F7=>t _ _ ?_⟩;clear t;refine aV λN1 t=>?_;push_cast[bO];refine dr F7 (by lia) (by decide) (by decide) λb2 S8 hb2 F8=>?_;rw[cT,e8,show(1+(b2:Int))=((1+b2:Nat):Int) by lia];refine⟨sz rfl,pt (k:=3) F8 (by lia) hw hm lw lm (by lia) (by lia) λy S9 dy ny py' F9=>t _ _ ?_⟩;clear t;refine aV λN1 t=>?_;push_cast[true_and];refine dr F9 (by lia) (by decide) (by decide) λwy S10 hwy F10=>t _ _ ?_;clear t;have hwy:wy<8:=by lia
   obtain⟨I,hI⟩:∃I:Nat->Pt->Pt->Prop,I=λk x y=>TQ x y/\(k<=wy->wy<=5->dp x<=3/\dp y<=3/\N x<=3/\N y<=3/\jy ws ms x/\jy ws ms y):=⟨_,rfl⟩
   have duo:∀x y:Pt,dp x<=8->dp y<=8->N x<=25->N y<=25->jy ws ms x->jy ws ms y->TQ x y:=λx y h1 h2 h3 h4 h5 h6=>⟨h1,h2,h3,h4,ws,ms,h5,h6,lw,lm,hw,hm⟩
   have I0:I 1 x y:=by rw[hI];exact⟨duo x y (by lia) (by lia) (by lia) (by lia) px py',λ_ _=>⟨dx,dy,by lia,by lia,px,py'⟩⟩
   clear Y F6 F7 F8 F9;refine aV λN1 t=>?_;have R2:∀(x y:Pt)(L:aK),I 1 x y->Fs S L p (n+2900)->N1 [some (.loc p),some (.lst (ws.map D.str)),some (.lst (ms.map D.str)),some (tD x),some (tD y),some (.int wy)] L:=λx y L W Y=>t _ _ (by
    clear t I0 dx nx px dy ny py';have step:∀(k:Nat)(x y x' y':Pt),1<=k->k<=5->I k x y->wy=k->dp x'<=8->dp y'<=8->N x'<=25->N y'<=25->(jy ws ms x->jy ws ms y->jy ws ms x'/\jy ws ms y')->I (k+1) x' y':=λk x y x' y' k1 k5 W hw' h1 h2 h3 h4 h5=>by
     rw[hI] at W⊢;let⟨_,_,_,_,Z,g2⟩:=W.2 (by lia) (by lia);let⟨g3,g4⟩:=h5 Z g2;exact⟨duo x' y' h1 h2 h3 h4 g3 g4,λh=>by lia⟩
    have ab:∀(k:Nat)(x y:Pt),I k x y->I (k+1) x y:=λk x y W=>by
     rw[hI] at W⊢;exact⟨W.1,λh=>W.2 (by lia)⟩
    have bnd:∀(k:Nat)(x y:Pt),1<=k->k<=5->I k x y->wy=k->dp x<=3/\dp y<=3/\N x<=3/\N y<=3:=λk x y k1 k5 W hw'=>by
     rw[hI] at W;let⟨h1,h2,h3,h4,_⟩:=W.2 (by lia) (by lia);refine⟨h1,h2,h3,h4⟩
    refine aV λN1 t=>?_;have R3:∀(x y:Pt)(L:aK),I 2 x y->Fs S L p (n+2900)->N1 [some (.loc p),some (.lst (ws.map D.str)),some (.lst (ms.map D.str)),some (tD x),some (tD y),some (.int wy)] L:=λx y L W Y=>t _ _ (by
     clear t;refine aV λN1 t=>?_;have R4:∀(x y:Pt)(L:aK),I 3 x y->Fs S L p (n+2900)->N1 [some (.loc p),some (.lst (ws.map D.str)),some (.lst (ms.map D.str)),some (tD x),some (tD y),some (.int wy)] L:=λx y L W Y=>t _ _ (by
      clear t;refine aV λN1 t=>?_;have R5:∀(x y:Pt)(L:aK),I 4 x y->Fs S L p (n+2900)->N1 [some (.loc p),some (.lst (ws.map D.str)),some (.lst (ms.map D.str)),some (tD x),some (tD y),some (.int wy)] L:=λx y L W Y=>t _ _ (by
       clear t;refine aV λN1 t=>?_;have R6:∀(x y:Pt)(L:aK),I 5 x y->Fs S L p (n+2900)->N1 [some (.loc p),some (.lst (ws.map D.str)),some (.lst (ms.map D.str)),some (tD x),some (tD y),some (.int wy)] L:=λx y L W Y=>t _ _ (by
        clear t;refine aV λN1 t=>?_;have R7:∀(x y:Pt)(L:aK),I 6 x y->Fs S L p (n+2900)->N1 [some (.loc p),some (.lst (ws.map D.str)),some (.lst (ms.map D.str)),some (tD x),some (tD y),some (.int wy)] L:=λx y L W Y=>t _ _ (by
         clear t;push_cast[true_and];exact⟨sz rfl,Y.ret hp (by simp[cg,bM,eW]) λo' f=>q x y o' (by rw[hI] at W;exact W.1) (by
          let⟨ns,a,l,h1,h2,h3⟩:=f;refine⟨ns,a,l,h1,by lia,h3⟩)⟩)
        clear t;refine bY (decide (wy=5)) (λQ' q'=>?_) (λh=>?_) (λh=>R7 x y L (ab 5 x y W) Y)
        ·push_cast[true_and];rw[show decide ((wy:Int)=5)=decide (wy=5) from by congr 1;exact propext ⟨λh=>by lia,λh=>by lia⟩];exact q'
        ·have h:=of_decide_eq_true h;let⟨d1,d2,n1,n2⟩:=bnd 5 x y (by decide) (by decide) W h;push_cast[true_and];have hj:=step 5 x y x (.seq [x,.lf .stay]) (by decide) (by decide) W h (by first|lia|(simp only[dp,uE];lia)) (by first|lia|(simp only[dp,uE];lia)) (by first|lia|(simp only[N,Ns];lia)) (by first|lia|(simp only[N,Ns];lia)) (λZ g2=>⟨Z,(Ex (y:=.lf .stay) Z (λl hl=>by rw[zaY.mp hl];trivial)).2⟩);refine⟨sz rfl,sz rfl,sz rfl,R7 _ _ L hj Y⟩)
       clear t;refine bY (decide (wy=4)) (λQ' q'=>?_) (λh=>?_) (λh=>R6 x y L (ab 4 x y W) Y)
       ·push_cast[true_and];rw[show decide ((wy:Int)=4)=decide (wy=4) from by congr 1;exact propext ⟨λh=>by lia,λh=>by lia⟩];exact q'
       ·have h:=of_decide_eq_true h;let⟨d1,d2,n1,n2⟩:=bnd 4 x y (by decide) (by decide) W h;push_cast[au,b6,cH];have hj:=step 4 x y (.seq [x,y]) (.many (.alt [y,x])) (by decide) (by decide) W h (by first|lia|(simp only[dp,uE];lia)) (by first|lia|(simp only[dp,uE];lia)) (by first|lia|(simp only[N,Ns];lia)) (by first|lia|(simp only[N,Ns];lia)) (λZ g2=>⟨(Ex Z g2).2,(Ex g2 Z).1⟩);refine⟨sz rfl,sz rfl,sz rfl,sz rfl,sz rfl,R6 _ _ L hj Y⟩)
      clear t;refine bY (decide (wy=3)) (λQ' q'=>?_) (λh=>?_) (λh=>R5 x y L (ab 3 x y W) Y)
      ·push_cast[true_and];rw[show decide ((wy:Int)=3)=decide (wy=3) from by congr 1;exact propext ⟨λh=>by lia,λh=>by lia⟩];exact q'
      ·have h:=of_decide_eq_true h;let⟨d1,d2,n1,n2⟩:=bnd 3 x y (by decide) (by decide) W h;push_cast[true_and];have hj:=step 3 x y x (.seq [.many y,x]) (by decide) (by decide) W h (by first|lia|(simp only[dp,uE];lia)) (by first|lia|(simp only[dp,uE];lia)) (by first|lia|(simp only[N,Ns];lia)) (by first|lia|(simp only[N,Ns];lia)) (λZ g2=>⟨Z,(Ex (x:=.many y) g2 Z).2⟩);refine⟨sz rfl,sz rfl,sz rfl,R5 _ _ L hj Y⟩)
     clear t;refine bY (decide (wy=2)) (λQ' q'=>?_) (λh=>?_) (λh=>R4 x y L (ab 2 x y W) Y)
     ·push_cast[true_and];rw[show decide ((wy:Int)=2)=decide (wy=2) from by congr 1;exact propext ⟨λh=>by lia,λh=>by lia⟩];exact q'
     ·have h:=of_decide_eq_true h;let⟨d1,d2,n1,n2⟩:=bnd 2 x y (by decide) (by decide) W h;push_cast[true_and];have hj:=step 2 x y x (.many x) (by decide) (by decide) W h (by first|lia|(simp only[dp,uE];lia)) (by first|lia|(simp only[dp,uE];lia)) (by first|lia|(simp only[N,Ns];lia)) (by first|lia|(simp only[N,Ns];lia)) (λZ g2=>⟨Z,Z⟩);exact⟨sz rfl,R4 _ _ L hj Y⟩)
    clear t;refine bY (decide (wy=1)) (λQ' q'=>?_) (λh=>?_) (λh=>R3 x y L (ab 1 x y W) Y)
    ·push_cast[true_and];rw[show decide ((wy:Int)=1)=decide (wy=1) from by congr 1;exact propext ⟨λh=>by lia,λh=>by lia⟩];exact q'
    ·have h:=of_decide_eq_true h;let⟨d1,d2,n1,n2⟩:=bnd 1 x y (by decide) (by decide) W h;push_cast[true_and];have hj:=step 1 x y x (.alt [y,x]) (by decide) (by decide) W h (by first|lia|(simp only[dp,uE];lia)) (by first|lia|(simp only[dp,uE];lia)) (by first|lia|(simp only[N,Ns];lia)) (by first|lia|(simp only[N,Ns];lia)) (λZ g2=>⟨Z,(Ex g2 Z).1⟩);refine⟨sz rfl,sz rfl,R3 _ _ L hj Y⟩)
   clear t;push_cast[bO];refine cz (λh=>?_) (λh=>R2 x y _ I0 (F10.mono (by lia)));have h5:5<wy:=by have:=of_decide_eq_true h;lia
   refine dr F10 (by lia) (by decide) (by decide) λb3 S11 hb3 F11=>?_;rw[cT,e8,show(3+(b3:Int))=((3+b3:Nat):Int) by lia];refine⟨sz rfl,pt (k:=4) F11 (by lia) hw hm lw lm (by lia) (by lia) λx' S12 dx' nx' px' F12=>?_⟩;refine dr F12 (by lia) (by decide) (by decide) λb4 S13 hb4 F13=>?_;rw[cT,e8,show(3+(b4:Int))=((3+b4:Nat):Int) by lia];refine⟨sz rfl,pt (k:=4) F13 (by lia) hw hm lw lm (by lia) (by lia) λy' S14 dy' ny' py2 F14=>?_⟩;exact R2 x' y' _ (by rw[hI];exact⟨duo x' y' (by lia) (by lia) (by lia) (by lia) px' py2,λ_ h=>by lia⟩) (F14.mono (by lia)))
  clear t;push_cast[true_and];refine dr F4 (by lia) (by decide) (by decide) λz L hz Y=>?_;rw[cT,Ar];refine⟨_,rfl,cz (λ_=>?_) (λ_=>R1 _ _ _ (by rw[hG];refine⟨hw,hm,lw,lm⟩) (Y.mono (by lia)))⟩;refine nm (m:=4) Y (by lia) (by decide) λws' S6 lw' hw' F6=>?_;refine nm (m:=3) F6 (by lia) (by decide) λms' S7 lm' hm' F7=>?_;exact R1 ws' ms' S7 (by rw[hG];refine⟨hw',hm',by lia,by lia⟩) (F7.mono (by lia))
open PySem PySem.Spec L2 M PyProof.Rows
noncomputable abbrev GX:List Str:=["_law_first","_law_second","_law_asked_here","_law_rows","_law_at","_law_marks","_law_ours","_law_theirs","_law_step","_law_there","_law_more"]
noncomputable abbrev qg:=GX.take 3
def gR:aH GX qg (aj (top 53)):=L2.bT
abbrev NR:=Nat×List Nat
noncomputable def ze(r:NR):Rw:=((r.1:Int),r.2.map λs:Nat=>(s:Int))
noncomputable def rN(r:NR):D:=.tup [.int r.1,.tup (nL r.2)]
def jL(r):rN r=bV (ze r):=by
 unfold rN bV ze tI nL;rw[zcF];rfl
def VR(B:Ab)(r:NR):Prop:=r.1<B.n1/\(∀s∈r.2,s<B.n2)/\r.2.length<=60
def K0:AN:=λds S Q=>∃B:Ab,ds=[mD B.n1 0 [1] B.bI,mD B.n2 0 [1] B.bL,jx B]/\B.Ok/\0<B.n1/\0<B.n2/\∀a:List NR,a.length<=24->0<a.length->(∀r∈a,VR B r)->Q (.new (.lst (a.map rN))) S
def RP(T:Txt K mg C fi)(F:Src K mg "_law_walk" qg (top 53))(j:Def P w K mg base 1 "_law_closure" lX (az K Ds))(G:Def P w K mg base 1 "_law_led" lU (az K Di)):Def P w K mg base 2 "_law_walk" qg (az K K0):=by
 refine cA F gR (λds S Q h=>?_) (λf cdv A outer s H E o=>?_)
 ·let⟨B,rfl,_⟩:=h;rfl
 ·refine⟨_,(Vu (Vz 3 gR.nd (VG (Vs (VF (Vs (Vy (Vr 0)) (Vs (VF (Vs (Vy (Vr 1)) Vw)) Vw))) Vw))) (Vu (Vz 4 gR.nd Vx) (Vu (Wx PassesOwn.never (V8 (Wi (VC WA (Vr 4) (VS V5 T.len (Vt (Vr 3))) (aG _)) (Wm (VC WA (VS V5 T.len (Vt (Vr 3))) Vx (aG _))))) (Vu (VP PassesOwn.never rfl (VL (Vy (Vr 2))) (VM 5 gR.nd) (Vu (Vz 6 gR.nd (VB j o (Vs (Vr 0) (Vs (VG (Vs (Vy (V0 (Vr 3) (Vr 4))) Vw)) (Vt (Vr 5)))))) (Vu (Vz 7 gR.nd (VB j o (Vs (Vr 1) (Vs (Vy (V0 (Vr 3) (Vr 4))) (Vt (Vr 5)))))) (Vv (VP PassesOwn.never rfl (VL (Vy (Vr 2))) (VM 8 gR.nd) (Vu (Vz 9 gR.nd (VB G o (Vs (Vr 1) (Vs (Vr 7) (Vt (Vr 8)))))) (Vu (M.jj (i:=10) gR.nd rfl rfl (caps:=[none,some 9]) (sy (by rfl)) (by rfl) (by rfl) rfl (VL (VB G o (Vs (Vr 0) (Vs (Vr 6) (Vt (Vr 8)))))) (λ_ _ _ _=>(WE (i:=0) (by decide+kernel:List.Nodup (["_law_stand","_law_there"]:List Str)) rfl (Or.inl rfl))) (λ_ _ _ _=>V3) (λ_ _ _ _=>(VF (Vs (Vr 0) (Vt (Vr 1)))))) (Vv (Vz 3 gR.nd (VD VN (Vr 3) (VW ["_law_row","_law_rows"] [none,some 3] (VL (Vr 10)) (λ_ _ _ _=>(Wj (VC (Wt o) (Vr 0) (Vr 1) rfl))) (λ_ _ _ _=>(Vr 0))))))))))))) (Vv (Vz 4 gR.nd (VD VN (Vr 4) Vx))))) (Vv (VE (Wb Wc (Vr 3) Wf (We Vx))))))),λds S Q h=>?_⟩;let⟨B,rfl,O,p1,p2,q⟩:=h;have e0:aM GX [mD B.n1 0 [1] B.bI,mD B.n2 0 [1] B.bL,jx B]=[some (mD B.n1 0 [1] B.bI),some (mD B.n2 0 [1] B.bL),some (jx B),none,none,none,none,none,none,none,none]:=rfl;rw[e0];have fr:∀L:List NR,fit (.lst (L.map rN))=true:=λL=>fJ (k:=4) (by decide) λd hd=>by let⟨r,_,rfl⟩:=zcE.mp hd;rw[jL];exact rw_lay _
  have f1:∀r,fit (rN r)=true:=λr=>by
   let⟨h1,h2,h3⟩:=rw_lay (ze r);rw[jL];unfold fit PySem.SeqAt.shaped;lia
  refine aV λN1 U=>?_;push_cast[mD,au,cH];refine⟨sz rfl,sz rfl,sz rfl,U _ _ ?_⟩;refine aV λN1 U=>?_;refine U _ _ ?_;refine aV λN1 U=>?_;refine⟨λμ W S2=>∃(a:List NR)(i:Nat)(v5 v6 v7 Y X u:Option D),W=[some (mD B.n1 0 [1] B.bI),some (mD B.n2 0 [1] B.bL),some (jx B),some (.lst (a.map rN)),some (.int i),v5,v6,v7,Y,X,u]/\S=S2/\μ=24 - i/\0<a.length/\(∀r∈a,VR B r),⟨24,[(0,[0])],0,none,none,none,none,none,none,rfl,rfl,rfl,by decide,λr o=>by rw[zaY.mp o];refine⟨p1,by simpa using p2,by decide⟩⟩,?_⟩;intro μ W _ V;let⟨a,i,v5,v6,v7,Y,X,u,rfl,rfl,rfl,hne,hv⟩:=V;have fin:∀(a:List NR)(i:Nat)(v5 v6 v7 Y X u:Option D),0<a.length->(∀r∈a,VR B r)->N1 [some (mD B.n1 0 [1] B.bI),some (mD B.n2 0 [1] B.bL),some (jx B),some (.lst (a.map rN)),some (.int i),v5,v6,v7,Y,X,u] S:=λa i v5 v6 v7 Y X u hne hv=>U _ _ (by
   push_cast[p9];have e:Wa (a.map rN) none (some 24)=(a.take 24).map rN:=by
    unfold Wa;simp[HT.cV]
   rw[e];exact cM (aY λr _=>by rw[jL];exact(rw_lay _).1) (q _ (List.length_take_le ..) (by rw[zbA];lia) λr o=>hv r (List.mem_of_mem_take o)))
  push_cast[true_and];refine⟨a.length,by simp[gz],cz (λh1=>⟨a.length,by simp[gz],cz (λh2=>?_) (λ_=>fin _ _ _ _ _ _ _ _ hne hv)⟩) (λ_=>fin _ _ _ _ _ _ _ _ hne hv)⟩;have h1:i<a.length:=by lia
  obtain⟨N,hN⟩:∃N:bH->aK->Prop,N=λδ' S'=>∃(y:List NR)(v5 v6 v7 Y X u:Option D),δ'=[some (mD B.n1 0 [1] B.bI),some (mD B.n2 0 [1] B.bL),some (jx B),some (.lst (y.map rN)),some (.int ((i+1:Nat):Int)),v5,v6,v7,Y,X,u]/\S=S'/\0<y.length/\∀r∈y,VR B r:=⟨_,rfl⟩
  refine⟨N,?_,?_⟩
  ·rw[hN];intro δ' _ V;let⟨y,w5,w6,w7,w8,w9,I,rfl,rfl,g1,g2⟩:=V;refine⟨24 - (i+1),by lia,y,i+1,⟨_,_,_,_,_,_,rfl⟩,rfl,rfl,g1,g2⟩
  push_cast[jx,dU,bR,au,b6];have hcl:=O.cl;have htl:=O.tl;refine bf (λrest W S2=>∃(c1 c2:List (List Str))(l:List NR)(v5 v6 v7 Y X u:Option D),rest=c2.map kU/\c1++c2=B.cs/\W=[some (mD B.n1 0 [1] B.bI),some (mD B.n2 0 [1] B.bL),some (jx B),some (.lst (l.map rN)),some (.int i),v5,v6,v7,Y,X,u]/\S=S2/\i<l.length/\(∀r∈l,VR B r)/\l.length<=24+c1.length*6000) ?_ ?_ _ _ _
   ⟨[],B.cs,a,v5,v6,v7,Y,X,u,rfl,rfl,rfl,rfl,h1,hv,by lia⟩
  ·intro W _ V;let⟨c1,c2,l,w5,w6,w7,w8,w9,I,o,Z,rfl,rfl,g1,g2,g3⟩:=V;push_cast[true_and];rw[hN];refine⟨l,w5,w6,w7,w8,w9,I,by push_cast;rfl,rfl,by lia,g2⟩
  ·intro x rest W _ N2 V hN2;let⟨c1,c2,l,w5,w6,w7,w8,w9,I,o,Z,rfl,rfl,g1,g2,g3⟩:=V;cases c2 with
   |nil=>simp at o
   |cons ms c2=>
    injection o with e1 e2;subst e1;subst e2;have hms:ms∈B.cs:=by rw[<-Z];simp
    have hc1:c1.length<100:=by have:=congrArg zcQ Z;simp at this;lia
    have hN2:∀(l:List NR)(w6 w7 w8 w9 I:Option D),i<l.length->(∀r∈l,VR B r)->l.length<=24+c1.length*6000+6000->N2 [some (mD B.n1 0 [1] B.bI),some (mD B.n2 0 [1] B.bL),some (jx B),some (.lst (l.map rN)),some (.int i),some (kU ms),w6,w7,w8,w9,I] S:=λl w6 w7 w8 w9 I g1 g2 g3=>hN2 _ _ ⟨c1++[ms],c2,l,_,_,_,_,_,_,rfl,by rw[zbn];exact Z,rfl,rfl,g1,g2,by rw[zaU,zaw];lia⟩;let⟨e,hat,hem⟩:=AV (ds:=l.map rN) (by rw[zbV];exact g1);let⟨r,o,rfl⟩:=zcE.mp hem;let⟨v1,v2,v3⟩:=g2 r o;refine⟨trivial,?_⟩;refine aV λN3 hN3=>?_;push_cast[yj];refine⟨_,hat,?_⟩;push_cast[rN,au,b6];refine⟨sz rfl,B.n1,0,[1],B.bI,[r.1],ms,_,rfl,.inl rfl,O.n1,O.m1,O.l1,by simpa using v1,by simp,O.cs ms hms,λr1 p1 p2 p3=>hN3 _ _ ?_⟩;refine aV λN3 hN3=>?_;push_cast[yj];refine⟨_,hat,?_⟩;push_cast[rN,au,cH];refine⟨B.n2,0,[1],B.bL,r.2,ms,_,rfl,.inr rfl,O.n2,O.m2,O.l2,v2,v3,O.cs ms hms,λr2 k1 k2 k3=>hN3 _ _ ?_⟩;push_cast[jx,dU,bR,au,cH];refine bf (λrest W S2=>∃(t1 t2:List (Str×Str))(l:List NR)(Y X u:Option D),rest=t2.map qJ/\t1++t2=B.ts/\W=[some (mD B.n1 0 [1] B.bI),some (mD B.n2 0 [1] B.bL),some (jx B),some (.lst (l.map rN)),some (.int i),some (kU ms),some (.tup (nL r1)),some (.tup (nL r2)),Y,X,u]/\S=S2/\i<l.length/\(∀r∈l,VR B r)/\l.length<=24+c1.length*6000+t1.length*60) ?_ ?_ _ _ _
     ⟨[],B.ts,l,w8,w9,I,rfl,rfl,rfl,rfl,g1,g2,by simpa using g3⟩
    ·intro W _ V;let⟨t1,t2,l,w8,w9,I,o,Z,rfl,rfl,g1,g2,g3⟩:=V;obtain rfl:t2=[]:=by simpa using o.symm
     rw[zbW] at Z;exact⟨trivial,hN2 l _ _ _ _ _ g1 g2 (by lia)⟩
    ·intro x rest W _ N4 V hN4;let⟨t1,t2,l,w8,w9,I,o,Z,rfl,rfl,g1,g2,g3⟩:=V;cases t2 with
     |nil=>simp at o
     |cons t t2=>
      injection o with e1 e2;subst e1;subst e2;have ht:t∈B.ts:=by rw[<-Z];simp
      have ht1:t1.length<100:=by have:=congrArg zcQ Z;simp at this;lia
      refine⟨trivial,?_⟩;refine aV λN5 hN5=>?_;push_cast[true_and];refine⟨B.n2,0,[1],B.bL,r2,t.1,t.2,rfl,O.n2,O.m2,O.l2,O.ts t ht,λth h1 h2 h3=>hN5 _ _ ?_⟩;have hth:∀x∈th,x<B.n2:=λx hx=>by
       let⟨m,hm,_,_,rfl⟩:=(h3 x).mp hx;exact(O.m2 m hm).2.2
      have z3:=bw B.n2 th h2 hth;have on1:=O.n1;have on2:=O.n2;refine aV λN5 hN5=>?_;push_cast[b5,bR];refine⟨B.n1,0,[1],B.bI,r1,t.1,t.2,rfl,O.n1,O.m1,O.l1,O.ts t ht,λxs q1 q2 q3=>?_⟩;have hxs:∀x∈xs,x<B.n1:=λx hx=>by
       let⟨m,hm,_,_,rfl⟩:=(q3 x).mp hx;exact(O.m1 m hm).2.2
      have z4:=bw B.n1 xs q2 hxs;refine aU (α:=Nat) (λn=>.int n) (λ_=>true) (λn=>rN (n,th)) (λx=>[some (.int x),some (.tup (nL th))]) (λW=>∃v,W=[v,some (.tup (nL th))]) trivial (λc=>⟨_,rfl⟩) xs [] _ ⟨none,rfl⟩ ?_ ?_ ?_ ?_ ?_
      ·rintro c hc _ ⟨v,rfl⟩ Q2 q2;exact q2
      ·exact λx hx Q2 q2=>q2
      ·intro x hx _ Q2 q2;push_cast[true_and];exact⟨sz rfl,q2⟩
      ·rw[yaf];simp;lia
      rw[zaO.mpr λ_ _=>rfl];refine hN5 _ _ ?_;have em:(xs.map λn=>rN (n,th))=(xs.map λn=>((n,th):NR)).map rN:=by rw[zcF];rfl
      rw[em];push_cast[b5,bR];refine aU rN (λr=>!inD (rN r) (l.map rN)) rN (λr=>[some (rN r),some (.lst (l.map rN))]) (λW=>∃v,W=[v,some (.lst (l.map rN))]) trivial (λc=>⟨_,rfl⟩) _ [] _ ⟨none,rfl⟩ ?_ ?_ ?_ ?_ ?_
      ·rintro c hc _ ⟨v,rfl⟩ Q2 q2;exact q2
      ·intro r o Q2 q2;refine⟨_,rfl,_,rfl,?_⟩;refine⟨f1 r,fr l,_,rfl,?_⟩;rw[zcz];exact q2
      ·exact λr o _ Q2 q2=>⟨_,rfl,q2⟩
      ·rw[yaf];simp;lia
      have hfl:=zay (λr=>!inD (rN r) (l.map rN)) (xs.map λn=>((n,th):NR));rw[zbV] at hfl;refine⟨by rw[yaf];simp only[zcb,zbV];lia,hN4 _ _ ⟨t1++[t],t2,l++(xs.map λn=>((n,th):NR)).filter (λr=>!inD (rN r) (l.map rN)),_,_,_,rfl,by rw[zbn];exact Z,by rw[zcb,zca],rfl,by rw[zaU];lia,λr o=>?_,by rw[zaU,zaU,zaw];lia⟩⟩;obtain h|h:=zbU.mp o
      ·exact g2 r h
      ·let⟨x,hx,rfl⟩:=zcE.mp (zbT.mp h).1;refine⟨hxs x hx,hth,by show th.length<=60;lia⟩
open PySem PySem.Spec L2 M PyProof.Rows
noncomputable abbrev Hs:List Str:=["_law_feed_here","_law_rows","_law_first","_law_second","_law_way","_law_at","_law_stand","_law_stands","_law_one"]
noncomputable abbrev qy:=Hs.take 4
def jF:aH Hs qy (aj (top 54)):=L2.bT
def Fs.Ub(h:Fs S d g n)(y:g<S.length)(C:S.length<=m)(e:d[m]? =some (some r))(u:gh S.length r=true)(q:∀o',Fd n o'->z (.new r) (S.set g (some o'))):VT S d (.dat (.loc m)) z:=by
 let⟨⟨o,h1,f⟩,h2,v⟩:=h;have s:d.take S.length=S.set g (some o):=by
  refine zbq λk=>?_;rw[zaW];by_cases a:k<S.length
  ·rw[yIp a];by_cases e:k=g
   ·subst e;rw[h1,zbm,yIp rfl,yIp a]
   ·rw[dw e];exact v k a e
  ·rw[yIn a,zaz (by simp;lia)]
 refine⟨.new r,?_,λk o' a x=>?_,by rw[s];exact q o f⟩
 ·simp only[out];rw[yIn (by lia),e];simp[u]
 ·have t:(d.take S.length)[k]? =some (some o'):=by rw[zaW,yIp a];exact x
  rw[s] at t;exact nR (f.gH _) k o' a t
def O5:Wa (nL d) none (some (j:Int))=nL (d.take j):=by
 unfold Wa nL;rw[HT.iM];simp[HT.cV]
def FU{ds:List D}:Wa ds (some (j:Int)) none=ds.drop j:=by
 unfold Wa;rw[HT.iM];simp[HT.cV];obtain h|h:=Nat.le_total j ds.length
 ·rw[Nat.min_eq_left h];exact zan (by simp)
 ·rw[Nat.min_eq_right h,zao h];simp
def O6:Wa (nL d) (some (j:Int)) none=nL (d.drop j):=by
 rw[FU];exact(List.map_drop ..).symm
def Oj(l):fit (.tup (nL l))=true:=by
 let⟨h,a,p3⟩:=nI (l:=nL l) λd hd=>by let⟨i,_,rfl⟩:=zcE.mp hd;exact jX i
 unfold fit PySem.SeqAt.shaped;simp only[cg,h,py,PyData.canLay0,a,PyData.depth];exact yDt (by lia)
def Oi(a:fit (.tup d)=true)(q:e (.dat (.bl (!d.isEmpty))) S):Pk (.tup d) (.tup []) S e:=by
 unfold Pk;rw[gQ,gQ];refine⟨a,by rfl,?_⟩;have:PyData.eqv (py (.tup d)) (py (.tup []))=d.isEmpty:=by cases d<;>simp[py,eE,PyData.eqv,PyData.eqvAll]
 rw[this];exact q
def Lc:AN:=λds S Q=>∃(p n:Nat)(o:MO)(B:Ab)(a:List NR),ds=[.loc p,.lst (a.map rN),mD B.n1 0 [1] B.bI,mD B.n2 0 [1] B.bL]/\S[p]? =some (some o)/\Fd n o/\n+100<1000000000000/\B.Ok/\0<B.n1/\0<B.n2/\a.length<=24/\0<a.length/\(∀r∈a,VR B r)/\
 ∀(h:List Rw)(r)(j),h.length<=50->(∀r∈h,r.2.length<=60)->r.d=.lst (h.map bV)->Fd (n+10) j->Q r (S.set p (some j))
def Sk(T:Txt K mg C fi)(F:Src K mg "_law_bent" qy (top 54))(v:Def P w K mg base 1 "_law_draw" d8 (az K eX)):Def P w K mg base 2 "_law_bent" qy (az K Lc):=by
 refine cA F jF (λds S Q h=>?_) (λf cdv A outer s H E hr=>?_)
 ·let⟨p,n,o,B,G,rfl,_⟩:=h;rfl
 ·refine⟨_,(Vu (Vz 1 jF.nd (VQ (V6 M.jS T.list (Vt (Vr 1))))) (Vu (Vz 4 jF.nd (VB v hr (Vs (Vr 0) (Vt Vx)))) (Vu (Vz 5 jF.nd (VB v hr (Vs (Vr 0) (Vs (VS V5 T.len (Vt (Vr 1))) Vw)))) (Vu (M.oQ (V0 (Vr 1) (Vr 5)) (Wg (n:=2) rfl (VO (VM 6 jF.nd) (VO (VM 7 jF.nd) Wh)))) (Vu (Vz 8 jF.nd (VB v hr (Vs (Vr 0) (Vs (Vy (Vr 3)) Vw)))) (Vu (VH (VC (VJ hr) (Vr 4) Vx (aG _)) (Vv (VX (VY PySem.F.plainAttrs_list PySem.F.slot_list_pop PySem.F.type_list_pop M.Je (Vr 1) (Vt (Vr 5))))) VI) (Vu (VH (VC (VJ hr) (Vr 4) Vx (aG _)) (Vv (VX (VY PySem.F.plainAttrs_list PySem.F.slot_list_append PySem.F.type_list_append V7 (Vr 1) (Vs (V0 (Vr 1) (Vr 5)) Vw)))) VI) (Vu (VH (VC (VJ hr) (Vr 4) Vx (aG _)) (Vv (WB (Vr 1) (Vr 5) (VF (Vs (Vr 6) (Vs (V6 Ws T.tuple (Vs (M.cY rfl (by rfl) T.sorted (by rfl) T.set (VD V2 (Vr 7) (VF (Vt (Vr 8))))) Vw)) Vw))))) VI) (Vu (VH (V8 (Wi (VC (VJ hr) (Vr 4) Vx (aG _)) (Wm (VC (Wn hr) (Vr 7) (VF Vw) (aG _))))) (Vv (WB (Vr 1) (Vr 5) (VF (Vs (Vr 6) (Vs (VD V2 (Wb Wc (Vr 7) Wf (We (VD V9 (Vr 8) (VS V5 T.len (Vt (Vr 7)))))) (Wb Wc (Vr 7) (We (VD V2 (VD V9 (Vr 8) (VS V5 T.len (Vt (Vr 7)))) Vx)) Wf)) Vw))))) VI) (Vu (VH (VC (VJ hr) (Vr 4) Vx (aG _)) (Vv (WB (Vr 1) (Vr 5) (VF (Vs (Vr 6) (Vt (VF Vw)))))) VI) (Vu (VH (VC (VJ hr) (Vr 4) Vx (aG _)) (Vv (WB (Vr 1) (Vr 5) (VF (Vs (Vr 6) (Vs (M.II rfl (by rfl) T.tuple (by rfl) T.range (Vs (Vy (Vr 3)) Vw)) Vw))))) VI) (Vu (VH (VC (VJ hr) (Vr 4) Vx (aG _)) (Vv (WB (Vr 1) (Vr 5) (VF (Vs (VB v hr (Vs (Vr 0) (Vs (Vy (Vr 2)) Vw))) (Vt (Vr 7)))))) VI) (Vu (VH (VC (VJ hr) (Vr 4) Vx (aG _)) (Vv (VX (VY PySem.F.plainAttrs_list PySem.F.slot_list_append PySem.F.type_list_append V7 (Vr 1) (Vs (VF (Vs (V0 (VG (Vs (Vy (Vr 2)) (Vs (M.zQ M.Rc Vx) (Vs (VD V2 (Vy (Vr 2)) (VD M.Lu Vx Vx)) Vw)))) (VB v hr (Vs (Vr 0) (Vt Vx)))) (Vt (Vr 7)))) Vw)))) VI) (Vu (VH (VC (VJ hr) (Vr 4) Vx (aG _)) (Vv (VX (VY PySem.F.plainAttrs_list PySem.F.slot_list_append PySem.F.type_list_append V7 (Vr 1) (Vs (VF (Vs (Vr 6) (Vs (VD V2 (Wb Wc (Vr 7) Wf (We Vx)) (VF (Vs (V0 (VG (Vs (Vy (Vr 3)) (Vs (VD V2 (Vy (Vr 3)) Vx) Vw))) (VB v hr (Vs (Vr 0) (Vt Vx)))) Vw))) Vw))) Vw)))) VI) (Vu (VH (VC (VJ hr) (Vr 4) Vx (aG _)) (Vv (WB (Vr 1) Vx (VF (Vs (Vy (Vr 2)) (Vs (V6 Ws T.tuple (Vs (M.cY rfl (by rfl) T.sorted (by rfl) T.set (VG (Vs (Vr 8) (Vs (Vy (Vr 3)) Vw)))) Vw)) Vw))))) VI) (Vu (VH (VC (VJ hr) (Vr 4) Vx (aG _)) (Vv (Vz 1 jF.nd (VQ (V0 (VG (Vs (M.nG (Vr 1)) (Vt (VG Vw)))) (VB v hr (Vs (Vr 0) (Vt Vx))))))) VI) (Vu (VH (VC (VJ hr) (Vr 4) Vx (aG _)) (Vv (VX (VY PySem.F.plainAttrs_list PySem.F.slot_list_append PySem.F.type_list_append V7 (Vr 1) (Vs (VF (Vs (Vr 6) (Vs (V6 Ws T.tuple (Vs (M.cY rfl (by rfl) T.sorted (by rfl) T.set (VD V2 (Vr 7) (VF (Vt (Vr 8))))) Vw)) Vw))) Vw)))) VI) (Vu (VH (VC (VJ hr) (Vr 4) Vx (aG _)) (Vv (Vz 1 jF.nd (VQ (VD V2 (M.nG (Vr 1)) (Wb Wc (Vr 1) (We (Vr 5)) Wf))))) VI) (Vv (VE (Vr 1))))))))))))))))))))),λds S Q h=>?_⟩;let⟨p,n,o,B,G,rfl,hS,hF,hn,O,b1,b2,hl,hne,hv,q⟩:=h;have hp:=i_lt hS;have e0:aM Hs [.loc p,.lst (G.map rN),mD B.n1 0 [1] B.bI,mD B.n2 0 [1] B.bL]=[some (.loc p),some (.lst (G.map rN)),some (mD B.n1 0 [1] B.bI),some (mD B.n2 0 [1] B.bL),none,none,none,none,none]:=rfl;rw[e0];have fdm:∀{o'},Fd (n+9) o'->Fd (n+10) o':=λ{o'} ⟨ns,a,l,h1,h2,h3⟩=>⟨ns,a,l,h1,by lia,h3⟩
  have F0:Fs S S p n:=⟨⟨o,hS,hF⟩,zcR _,λ_ _ _=>rfl⟩
  have dr:∀{S2:aK}{n1:Nat}{m:Int}{Q':AK},Fs S S2 p n1->n1<=n+50->0<m->m<1000->(∀(z:Nat)(o':MO),(z:Int)<m->Fs S (S2.set p (some o')) p (n1+1)->Q' (.dat (.int z)) (S2.set p (some o')))->eX [.loc p,.int m] S2 Q':=λ{S2 n1 m Q'} h hn1 m0 m1 k=>by
   let⟨o1,h1,f1⟩:=id h.1;refine⟨p,n1,m,o1,rfl,h1,f1,by lia,m0,m1,λz o' hz f=>k z _ hz (h.set f)⟩
  have L0:(S++[some (MO.lst (G.map rN))])[S.length]? =some (some (.lst (G.map rN))):=p8;refine aV λZ t=>?_;push_cast[bO];refine⟨_,rfl,t _ _ ?_⟩;clear t;have F1:Fs S (S++[some (MO.lst (G.map rN))]) p n:=⟨⟨o,by rw[ng hp];exact hS,hF⟩,by simp,λk hk _=>ng hk⟩
  generalize S++[some (MO.lst (G.map rN))]=S1 at L0 F1;have hpl:S.length≠p:=by lia
  refine aV λZ t=>?_;push_cast[true_and];refine dr F1 (by lia) (by decide) (by decide) λwy o1 hwy F2=>t _ _ ?_;clear t;have L1:(S1.set p (some o1))[S.length]? =some (some (.lst (G.map rN))):=by rw[dw hpl];exact L0
  generalize S1.set p (some o1)=S2 at L1 F2;refine aV λZ t=>?_;push_cast[true_and];rw[d9 L1];refine⟨G.length,by simp[gz,MO.d],dr F2 (by lia) (by lia) (by lia) λX o2 hia F3=>t _ _ ?_⟩;clear t;have L2:(S2.set p (some o2))[S.length]? =some (some (.lst (G.map rN))):=by rw[dw hpl];exact L1
  generalize S2.set p (some o2)=S3 at L2 F3;let⟨e,hat,hem⟩:=AV (ds:=G.map rN) (z:=X) (by rw[zbV];lia);let⟨r,hr,rfl⟩:=zcE.mp hem;let⟨v1,v2,v3⟩:=hv r hr;have ixl:∀{u:aK}{L:List Rw}{d:D}{j:Int}{Q':AK},u[S.length]? =some (some (.lst (L.map bV)))->jw (L.map bV) j=some d->Q' (.dat d) u->qF (.loc S.length) (.int j) u Q':=λ{u L d j Q'} h1 h2 Y=>by
   unfold qF;rw[d9 h1];refine⟨_,h2,Y⟩
  have eR:G.map rN=(G.map ze).map bV:=by rw[zcF];exact zaN λr _=>jL r
  rw[eR] at L2 hat;obtain⟨R0,hR0⟩:∃R0,R0=G.map ze:=⟨_,rfl⟩
  rw[<-hR0] at L2 hat;have R0l:R0.length=G.length:=by rw[hR0,zbV]
  have R0v:∀x∈R0,x.2.length<=60:=λx hx=>by
   rw[hR0] at hx;let⟨y,hy,rfl⟩:=zcE.mp hx;show(zcY _ y.2).length<=60;rw[zbV];exact(hv y hy).2.2
  refine aV λZ t=>?_;push_cast[true_and];refine ixl L2 hat ?_;refine⟨_,rfl,rfl,_,_,rfl,_,_,rfl,rfl,t _ _ ?_⟩;clear t;refine aV λZ t=>?_;push_cast[mD,au,b6];refine dr F3 (by lia) (by lia) (by have:=O.n2;lia) λone o3 ab F4=>t _ _ ?_;clear t;have L3:(S3.set p (some o3))[S.length]? =some (some (.lst (R0.map bV))):=by rw[dw hpl];exact L2
  generalize S3.set p (some o3)=S4 at L3 F4;have vr:(ze r).2.length<=60:=by show(zcY _ r.2).length<=60;rw[zbV];exact v3
  have bx:BZ (R0.map bV).length (X:Int)=some X:=by
   rw[zbV];unfold BZ;rw[yIp (by lia)];simp;lia
  have srt:∀{u:aK}{Q':List Int->aK->Prop},(∀l:List Int,l.length<=60->Q' l u)->wI (.tup (nL r.2)) (.tup [.int one]) u λr1 S1=>∃ss:List Int,(aT S1 r1.d=.tup (ss.map D.int)∨aT S1 r1.d=.lst (ss.map D.int))/\ss.length<64/\∀ss':List Int,ss'.Nodup->(∀y,y∈ss'↔y∈ss)->ss'.Pairwise (· <=·)->Q' ss' S1:=λ{u Q'} k=>by
   refine kj (by rw[yaf,nL,zbV];simp;lia) ⟨(r.2++[one]).map λn:Nat=>(n:Int),.inl (by simp[nL,gQ,cT]),by simp;lia,λss' h1 h2 h3=>k ss' ?_⟩;let⟨l0,rfl⟩:=yc (l:=ss') λy hy=>by
    let⟨k,_,rfl⟩:=zcE.mp ((h2 y).mp hy);exact⟨k,rfl⟩
   rw[zbV];have n0:l0.Nodup:=List.Pairwise.of_map _ (λa b h e=>h (by rw[e])) h1;refine zcH (bw B.n2 l0 n0 λx hx=>?_) O.n2;have:=(h2 (x:Int)).mp (nH.mpr hx);rw[nH,zbU,zaY] at this;obtain h|h:=this
   ·exact v2 x h
   ·rw[h];lia
  obtain⟨St,hSt⟩:∃St:Nat->D->aK->Prop,St=λk d u=>(k<=wy->d=.loc S.length/\u[S.length]? =some (some (.lst (R0.map bV)))/\Fs S u p (n+8))/\Fs S u p (n+9)/\∃rs:List Rw,rs.length<=50/\(∀x∈rs,x.2.length<=60)/\((∃m,S.length<=m/\d=.loc m/\u[m]? =some (some (.lst (rs.map bV))))∨d=.lst (rs.map bV)):=⟨_,rfl⟩
  have St0:St 0 (.loc S.length) S4:=by rw[hSt];refine⟨λ_=>⟨rfl,L3,F4.mono (by lia)⟩,F4.mono (by lia),R0,by lia,R0v,.inl ⟨_,zcR _,rfl,L3⟩⟩
  have U:∀(k:Nat)(d:D)(u:aK),St k d u->St (k+1) d u:=λk d u h=>by
   rw[hSt] at h⊢;exact⟨λz=>h.1 (by lia),h.2⟩
  have now:∀(k:Nat)(d:D)(u:aK),St k d u->wy=k->d=.loc S.length/\u[S.length]? =some (some (.lst (R0.map bV)))/\Fs S u p (n+8):=λk d u h e=>by
   rw[hSt] at h;exact h.1 (by lia)
  have put:∀(k:Nat)(rs:List Rw)(u:aK),wy=k->rs.length<=50->(∀x∈rs,x.2.length<=60)->Fs S u p (n+9)->u[S.length]? =some (some (.lst (R0.map bV)))->St (k+1) (.loc S.length) (u.set S.length (some (.lst (rs.map bV)))):=λk rs u e h1 h2 h3 h4=>by
   rw[hSt];refine⟨λz=>by lia,⟨?_,by rw[zbY];exact h3.2.1,λj hj hjp=>by rw[dw (by lia)];exact h3.2.2 j hj hjp⟩,rs,h1,h2,.inl ⟨_,zcR _,rfl,qM h4⟩⟩;let⟨o,g1,I⟩:=h3.1;refine⟨o,by rw[dw (Ne.symm hpl)];exact g1,I⟩
  have dat:∀(k:Nat)(rs:List Rw)(u:aK),wy=k->rs.length<=50->(∀x∈rs,x.2.length<=60)->Fs S u p (n+9)->St (k+1) (.lst (rs.map bV)) u:=λk rs u e h1 h2 h3=>by
   rw[hSt];refine⟨λz=>by lia,h3,rs,h1,h2,.inr rfl⟩
  have app:∀(k:Nat)(x:Rw)(u:aK)(d:D),wy=k->Fs S u p (n+9)->u[S.length]? =some (some (.lst (R0.map bV)))->d=bV x->x.2.length<=60->St (k+1) (.loc S.length) (u.set S.length (some (.lst (R0.map bV++[d])))):=λk x u d e h3 h4 hd hx=>by
   rw[hd,show R0.map bV++[bV x]=(R0++[x]).map bV by simp];refine(put k _ u e (by rw[zaU,zaw];lia) (λy hy=>?_) h3 h4);obtain h|h:=zbU.mp hy
   ·exact R0v y h
   ·rw[zaY.mp h];exact hx
  have upd:∀(k:Nat)(x:Rw)(u:aK)(j:Nat)(d:D),wy=k->Fs S u p (n+9)->u[S.length]? =some (some (.lst (R0.map bV)))->d=bV x->x.2.length<=60->St (k+1) (.loc S.length) (u.set S.length (some (.lst ((R0.map bV).set j d)))):=λk x u j d e h3 h4 hd hx=>by
   rw[hd,show(R0.map bV).set j (bV x)=(R0.set j x).map bV by rw[List.map_set]];refine(put k _ u e (by rw[zbY];lia) (λy hy=>?_) h3 h4);obtain h|h:=List.mem_or_eq_of_mem_set hy
   ·exact R0v y h
   ·rw[h];exact hx
  refine aV λZ t=>?_;have R1:∀(d:D)(u:aK),St 1 d u->Z [some (.loc p),some d,some (mD B.n1 0 [1] B.bI),some (mD B.n2 0 [1] B.bL),some (.int wy),some (.int X),some (.int (r.1:Nat)),some (.tup (nL r.2)),some (.int one)] u:=λd u W=>t _ _ (by
   clear t;refine aV λZ t=>?_;have R2:∀(d:D)(u:aK),St 2 d u->Z [some (.loc p),some d,some (mD B.n1 0 [1] B.bI),some (mD B.n2 0 [1] B.bL),some (.int wy),some (.int X),some (.int (r.1:Nat)),some (.tup (nL r.2)),some (.int one)] u:=λd u W=>t _ _ (by
    clear t;refine aV λZ t=>?_;have R3:∀(d:D)(u:aK),St 3 d u->Z [some (.loc p),some d,some (mD B.n1 0 [1] B.bI),some (mD B.n2 0 [1] B.bL),some (.int wy),some (.int X),some (.int (r.1:Nat)),some (.tup (nL r.2)),some (.int one)] u:=λd u W=>t _ _ (by
     clear t;refine aV λZ t=>?_;have R4:∀(d:D)(u:aK),St 4 d u->Z [some (.loc p),some d,some (mD B.n1 0 [1] B.bI),some (mD B.n2 0 [1] B.bL),some (.int wy),some (.int X),some (.int (r.1:Nat)),some (.tup (nL r.2)),some (.int one)] u:=λd u W=>t _ _ (by
      clear t;refine aV λZ t=>?_;have R5:∀(d:D)(u:aK),St 5 d u->Z [some (.loc p),some d,some (mD B.n1 0 [1] B.bI),some (mD B.n2 0 [1] B.bL),some (.int wy),some (.int X),some (.int (r.1:Nat)),some (.tup (nL r.2)),some (.int one)] u:=λd u W=>t _ _ (by
       clear t;refine aV λZ t=>?_;have R6:∀(d:D)(u:aK),St 6 d u->Z [some (.loc p),some d,some (mD B.n1 0 [1] B.bI),some (mD B.n2 0 [1] B.bL),some (.int wy),some (.int X),some (.int (r.1:Nat)),some (.tup (nL r.2)),some (.int one)] u:=λd u W=>t _ _ (by
        clear t;refine aV λZ t=>?_;have R7:∀(d:D)(u:aK),St 7 d u->Z [some (.loc p),some d,some (mD B.n1 0 [1] B.bI),some (mD B.n2 0 [1] B.bL),some (.int wy),some (.int X),some (.int (r.1:Nat)),some (.tup (nL r.2)),some (.int one)] u:=λd u W=>t _ _ (by
         clear t;refine aV λZ t=>?_;have R8:∀(d:D)(u:aK),St 8 d u->Z [some (.loc p),some d,some (mD B.n1 0 [1] B.bI),some (mD B.n2 0 [1] B.bL),some (.int wy),some (.int X),some (.int (r.1:Nat)),some (.tup (nL r.2)),some (.int one)] u:=λd u W=>t _ _ (by
          clear t;refine aV λZ t=>?_;have R9:∀(d:D)(u:aK),St 9 d u->Z [some (.loc p),some d,some (mD B.n1 0 [1] B.bI),some (mD B.n2 0 [1] B.bL),some (.int wy),some (.int X),some (.int (r.1:Nat)),some (.tup (nL r.2)),some (.int one)] u:=λd u W=>t _ _ (by
           clear t;refine aV λZ t=>?_;have R10:∀(d:D)(u:aK),St 10 d u->Z [some (.loc p),some d,some (mD B.n1 0 [1] B.bI),some (mD B.n2 0 [1] B.bL),some (.int wy),some (.int X),some (.int (r.1:Nat)),some (.tup (nL r.2)),some (.int one)] u:=λd u W=>t _ _ (by
            clear t;refine aV λZ t=>?_;have R11:∀(d:D)(u:aK),St 11 d u->Z [some (.loc p),some d,some (mD B.n1 0 [1] B.bI),some (mD B.n2 0 [1] B.bL),some (.int wy),some (.int X),some (.int (r.1:Nat)),some (.tup (nL r.2)),some (.int one)] u:=λd u W=>t _ _ (by
             clear t;refine aV λZ t=>?_;have R12:∀(d:D)(u:aK),St 12 d u->Z [some (.loc p),some d,some (mD B.n1 0 [1] B.bI),some (mD B.n2 0 [1] B.bL),some (.int wy),some (.int X),some (.int (r.1:Nat)),some (.tup (nL r.2)),some (.int one)] u:=λd u W=>t _ _ (by
              clear t;refine aV λZ t=>?_;have R13:∀(d:D)(u:aK),St 13 d u->Z [some (.loc p),some d,some (mD B.n1 0 [1] B.bI),some (mD B.n2 0 [1] B.bL),some (.int wy),some (.int X),some (.int (r.1:Nat)),some (.tup (nL r.2)),some (.int one)] u:=λd u W=>t _ _ (by
               clear t;rw[hSt] at W;let⟨_,hf,rs,h1,h2,h3⟩:=W;push_cast[true_and];rcases h3 with⟨m,hm,rfl,h3⟩|rfl
               ·exact hf.Ub hp hm h3 (cy _ _ (aY λr _=>(rw_lay r).1)) λo' f=>q rs _ o' h1 h2 rfl (fdm f)
               ·exact hf.ret hp (aY λr _=>(rw_lay r).1) λo' f=>q rs _ o' h1 h2 rfl (fdm f))
              clear t;refine bY (decide (wy=12)) (λQ' Y=>?_) (λh=>?_) (λh=>R13 d u (U 12 _ _ W))
              ·push_cast[true_and];rw[show decide ((wy:Int)=12)=decide (wy=12) from by congr 1;exact propext ⟨λh=>by lia,λh=>by lia⟩];exact Y
              ·have hw:=of_decide_eq_true h;let⟨hd,I,g3⟩:=now 12 _ _ W hw;subst hd;push_cast[mD,au,b6,cH,kQ];push_cast[bO,AY,p9];refine⟨_,d9 I,?_⟩;rw[d9 I];show wI (.lst (R0.map bV).reverse) (.lst (Wa (R0.map bV) (some (X:Int)) none)) u _;rw[FU,<-List.map_reverse,<-List.map_drop];refine⟨by rw[yaf,zbV,zbV,zaM,zbC];lia,?_⟩;rw[<-zca];refine R13 _ _ ?_;rw[hSt];refine⟨λz=>by lia,⟨?_,by rw[zaU];have:=g3.2.1;lia,λj hj hjp=>by rw[ng (by have:=g3.2.1;lia)];exact g3.2.2 j hj hjp⟩,R0.reverse++R0.drop X,by rw[zaU,zaM,zbC];lia,λx hx=>?_,.inl ⟨u.length,g3.2.1,rfl,p8⟩⟩
               ·let⟨o5,h1,h2⟩:=(g3.mono (show n+8<=n+9 by lia)).1;refine⟨o5,by rw[ng (i_lt h1)];exact h1,h2⟩
               ·obtain h|h:=zbU.mp hx
                ·exact R0v x (List.mem_reverse.mp h)
                ·exact R0v x (List.mem_of_mem_drop h))
             clear t;refine bY (decide (wy=11)) (λQ' Y=>?_) (λh=>?_) (λh=>R12 d u (U 11 _ _ W))
             ·push_cast[true_and];rw[show decide ((wy:Int)=11)=decide (wy=11) from by congr 1;exact propext ⟨λh=>by lia,λh=>by lia⟩];exact Y
             ·have hw:=of_decide_eq_true h;let⟨hd,I,g3⟩:=now 11 _ _ W hw;subst hd;push_cast[mD,au,b6,cH,kQ];refine⟨by rw[d9 I];rfl,?_⟩;push_cast[dS];refine⟨sz rfl,srt λl hl=>⟨_,rfl,sz rfl,S.length,_,_,rfl,rfl,I,by rw[yaf,zbV];lia,?_⟩⟩;exact R12 _ _ (app 11 ((r.1:Int),l) u _ hw (g3.mono (by lia)) I rfl hl))
            clear t;refine bY (decide (wy=10)) (λQ' Y=>?_) (λh=>?_) (λh=>R11 d u (U 10 _ _ W))
            ·push_cast[true_and];rw[show decide ((wy:Int)=10)=decide (wy=10) from by congr 1;exact propext ⟨λh=>by lia,λh=>by lia⟩];exact Y
            ·have hw:=of_decide_eq_true h;let⟨hd,I,g3⟩:=now 10 _ _ W hw;subst hd;push_cast[mD,au,b6,cH,kQ];push_cast[bO,AY];refine⟨_,d9 I,sz rfl,sz rfl,dr g3 (by lia) (by decide) (by decide) λz o4 hz F5=>pick (by simp;lia) λe he=>?_⟩;obtain⟨rs,h1,h2,rfl⟩:∃rs:List Rw,rs.length<=50/\(∀x∈rs,x.2.length<=60)/\e=.lst (rs.map bV):=by
              simp only[zcq,zbH,or_false] at he;obtain rfl|rfl:=he
              ·refine⟨R0.reverse,by rw[zaM];lia,λx hx=>R0v x (List.mem_reverse.mp hx),by rw[List.map_reverse]⟩
              ·refine⟨[],by decide,by simp,rfl⟩
             exact R11 _ _ (dat 10 rs _ hw h1 h2 F5))
           clear t;refine bY (decide (wy=9)) (λQ' Y=>?_) (λh=>?_) (λh=>R10 d u (U 9 _ _ W))
           ·push_cast[true_and];rw[show decide ((wy:Int)=9)=decide (wy=9) from by congr 1;exact propext ⟨λh=>by lia,λh=>by lia⟩];exact Y
           ·have hw:=of_decide_eq_true h;let⟨hd,I,g3⟩:=now 9 _ _ W hw;subst hd;push_cast[mD,au,b6,cH,kQ];push_cast[ko,dS,mD,au,cH];refine⟨sz rfl,[(one:Int),((0:Nat):Int)],.inr rfl,by show 2<64;decide,λss h1 h2 _=>⟨_,rfl,sz rfl,_,rfl,_,I,0,?_,?_⟩⟩
            ·rw[zbV];unfold BZ;rw[yIp (by decide),yIp (by lia)];rfl
            have hl9:ss.length<=2:=sub_len ss [(one:Int),((0:Nat):Int)] h1 λx hx=>(h2 x).mp hx;exact R10 _ _ (upd 9 (((0:Nat):Int),ss) u 0 _ hw (g3.mono (by lia)) I rfl (by show ss.length<=60;lia)))
          clear t;refine bY (decide (wy=8)) (λQ' Y=>?_) (λh=>?_) (λh=>R9 d u (U 8 _ _ W))
          ·push_cast[true_and];rw[show decide ((wy:Int)=8)=decide (wy=8) from by congr 1;exact propext ⟨λh=>by lia,λh=>by lia⟩];exact Y
          ·have hw:=of_decide_eq_true h;let⟨hd,I,g3⟩:=now 8 _ _ W hw;subst hd;push_cast[mD,au,b6,cH,kQ];refine⟨by rw[d9 I];rfl,?_⟩;simp only[p9,gQ];show[D.int B.n2,_].length<=yag/\_;refine⟨sz rfl,dr g3 (by lia) (by decide) (by decide) λz o4 hz F5=>pick (by simp;lia) λe he=>⟨sz rfl,?_⟩⟩;obtain⟨i,rfl⟩:∃i:Int,e=.int i:=by
            simp only[zcq,zbH,or_false] at he;obtain rfl|rfl:=he<;>exact⟨_,rfl⟩
           rw[cT,cT,show Wa (nL r.2) none (some 0)=[] by unfold Wa;simp[HT.cV]];refine⟨sz rfl,S.length,_,_,rfl,rfl,by rw[dw hpl];exact I,by rw[yaf,zbV];lia,?_⟩;exact R9 _ _ (app 8 ((r.1:Int),[i]) _ _ hw F5 (by rw[dw hpl];exact I) rfl (by simp)))
         clear t;refine bY (decide (wy=7)) (λQ' Y=>?_) (λh=>?_) (λh=>R8 d u (U 7 _ _ W))
         ·push_cast[true_and];rw[show decide ((wy:Int)=7)=decide (wy=7) from by congr 1;exact propext ⟨λh=>by lia,λh=>by lia⟩];exact Y
         ·have hw:=of_decide_eq_true h;let⟨hd,I,g3⟩:=now 7 _ _ W hw;subst hd;push_cast[mD,au,b6,cH,kQ];refine⟨by rw[d9 I];rfl,by unfold KH;decide,?_⟩;show[D.int B.n1,D.int (-1),_].length<=yag/\_;refine⟨sz rfl,dr g3 (by lia) (by decide) (by decide) λz o4 hz F5=>pick (by simp;lia) λe he=>⟨sz rfl,S.length,_,_,rfl,rfl,by rw[dw hpl];exact I,by rw[yaf,zbV];lia,?_⟩⟩;obtain⟨i,rfl⟩:∃i:Int,e=.int i:=by
           simp only[zcq,zbH,or_false] at he;obtain rfl|rfl|rfl:=he<;>exact⟨_,rfl⟩
          exact R8 _ _ (app 7 (i,(ze r).2) _ _ hw F5 (by rw[dw hpl];exact I) (by simp[bV,tI,ze,nL,cT]) vr))
        clear t;refine bY (decide (wy=6)) (λQ' Y=>?_) (λh=>?_) (λh=>R7 d u (U 6 _ _ W))
        ·push_cast[true_and];rw[show decide ((wy:Int)=6)=decide (wy=6) from by congr 1;exact propext ⟨λh=>by lia,λh=>by lia⟩];exact Y
        ·have hw:=of_decide_eq_true h;let⟨hd,I,g3⟩:=now 6 _ _ W hw;subst hd;push_cast[mD,au,b6,cH,kQ];push_cast[ko,mD,au,b6];refine dr g3 (by lia) (by lia) (by have:=O.n1;lia) λz o4 hz F5=>⟨sz rfl,_,rfl,_,by rw[dw hpl];exact I,X,bx,?_⟩
         exact R7 _ _ (upd 6 ((z:Int),(ze r).2) _ X _ hw F5 (by rw[dw hpl];exact I) (jL (z,r.2)) vr))
       clear t;refine bY (decide (wy=5)) (λQ' Y=>?_) (λh=>?_) (λh=>R6 d u (U 5 _ _ W))
       ·push_cast[true_and];rw[show decide ((wy:Int)=5)=decide (wy=5) from by congr 1;exact propext ⟨λh=>by lia,λh=>by lia⟩];exact Y
       ·have hw:=of_decide_eq_true h;let⟨hd,I,g3⟩:=now 5 _ _ W hw;subst hd;push_cast[mD,au,b6,cH,kQ];push_cast[ko,LU,mD,au,b6];refine⟨B.n2,rfl,by have:=O.n2;lia,sz rfl,_,rfl,_,I,X,bx,?_⟩;exact R6 _ _ (upd 5 ((r.1:Int),(zcV B.n2).map λk:Nat=>(k:Int)) u X _ hw (g3.mono (by lia)) I (by simp[bV,tI]) (by simp;exact O.n2)))
      clear t;refine bY (decide (wy=4)) (λQ' Y=>?_) (λh=>?_) (λh=>R5 d u (U 4 _ _ W))
      ·push_cast[true_and];rw[show decide ((wy:Int)=4)=decide (wy=4) from by congr 1;exact propext ⟨λh=>by lia,λh=>by lia⟩];exact Y
      ·have hw:=of_decide_eq_true h;let⟨hd,I,g3⟩:=now 4 _ _ W hw;subst hd;push_cast[mD,au,b6,cH,kQ];push_cast[ko];refine⟨sz rfl,sz rfl,_,rfl,_,I,X,bx,?_⟩;exact R5 _ _ (upd 4 ((r.1:Int),[]) u X _ hw (g3.mono (by lia)) I rfl (zcS _)))
     clear t;refine bY (decide (wy=3)&& !(nL r.2).isEmpty) (λQ' Y=>?_) (λh=>?_) (λh=>R4 d u (U 3 _ _ W))
     ·push_cast[true_and];rw[show decide ((wy:Int)=3)=decide (wy=3) from by congr 1;exact propext ⟨λh=>by lia,λh=>by lia⟩];refine cz (λh=>⟨sz rfl,Oi (Oj r.2) ⟨_,rfl,?_⟩⟩) (λh=>?_)
      ·rw[h,zcy] at Y;exact Y
      ·rw[eq_false_of_ne_true h,zcl] at Y;exact Y
     ·have Rv:=(Bool.and_eq_true_iff.mp h).2;have h:=(Bool.and_eq_true_iff.mp h).1;have hw:=of_decide_eq_true h;let⟨hd,I,g3⟩:=now 3 _ _ W hw;subst hd;push_cast[mD,au,b6,cH,kQ];push_cast[ko,p9];have hp3:0<r.2.length:=by
       cases e:r.2 with
       |nil=>rw[e] at Rv;simp[nL] at Rv
       |cons _ _=>simp
      have ej:(one:Int) % (r.2.length:Int)=((one % r.2.length:Nat):Int):=by push_cast;rfl
      refine⟨r.2.length,by simp[gz,nL],by lia,r.2.length,by simp[gz,nL],by lia,?_⟩;rw[ej,O5];show∃i,(R.dat (D.int (((one % r.2.length:Nat):Int)+1))).d=D.int i/\_;refine⟨((one % r.2.length+1:Nat):Int),by rw[cT];push_cast;rfl,?_⟩;rw[O6];refine kj (by rw[yaf];simp[nL];lia) ⟨sz rfl,_,rfl,_,I,X,bx,?_⟩;exact R4 _ _ (upd 3 (ze (r.1,r.2.take (one % r.2.length)++r.2.drop (one % r.2.length+1))) u X _ hw (g3.mono (by lia)) I (by rw[cT,<-jL];simp[rN,nL]) (by show(zcY _ _).length<=60;rw[zbV,zaU,zbA,zbC];lia)))
    clear t;refine bY (decide (wy=2)) (λQ' Y=>?_) (λh=>?_) (λh=>R3 d u (U 2 _ _ W))
    ·push_cast[true_and];rw[show decide ((wy:Int)=2)=decide (wy=2) from by congr 1;exact propext ⟨λh=>by lia,λh=>by lia⟩];exact Y
    ·have hw:=of_decide_eq_true h;let⟨hd,I,g3⟩:=now 2 _ _ W hw;subst hd;push_cast[mD,au,b6,cH,kQ];push_cast[ko,dS];refine⟨sz rfl,srt λl hl=>⟨_,rfl,sz rfl,_,rfl,_,I,X,bx,?_⟩⟩;exact R3 _ _ (upd 2 ((r.1:Int),l) u X _ hw (g3.mono (by lia)) I rfl hl))
   clear t;refine bY (decide (wy=1)) (λQ' Y=>?_) (λh=>?_) (λh=>R2 d u (U 1 _ _ W))
   ·push_cast[true_and];rw[show decide ((wy:Int)=1)=decide (wy=1) from by congr 1;exact propext ⟨λh=>by lia,λh=>by lia⟩];exact Y
   ·have hw:=of_decide_eq_true h;let⟨hd,I,g3⟩:=now 1 _ _ W hw;subst hd;push_cast[mD,au,b6,cH,kQ];refine⟨by rw[d9 I];rfl,ixl I hat ⟨S.length,_,_,rfl,rfl,I,by rw[yaf,zbV];lia,?_⟩⟩;exact R2 _ _ (app 1 (ze r) u _ hw (g3.mono (by lia)) I (jL r) vr))
  clear t;refine bY (decide (wy=0)) (λQ' Y=>?_) (λh=>?_) (λh=>R1 (.loc S.length) S4 (U 0 _ _ St0))
  ·push_cast[true_and];rw[show decide ((wy:Int)=0)=decide (wy=0) from by congr 1;exact propext ⟨λh=>by lia,λh=>by lia⟩];exact Y
  ·have hw:=of_decide_eq_true h;let⟨hd,I,g3⟩:=now 0 _ _ St0 hw;push_cast[mD,au,b6,cH,kQ];refine⟨by rw[d9 I];rfl,S.length,_,X,_,rfl,rfl,I,by rw[zbV];lia,zal (by rw[zbV];lia),?_⟩;rw[show(R0.map bV).eraseIdx X=(R0.eraseIdx X).map bV by simp[List.eraseIdx_eq_take_drop_succ,zcu,List.map_drop]];exact R1 _ _ (put 0 _ S4 hw (zcH (List.length_eraseIdx_le ..) (by lia)) (λx hx=>R0v x (List.mem_of_mem_eraseIdx hx)) (g3.mono (by lia)) I)
open PySem PySem.Spec L2 M PyProof.Rows
def Ov(h:py (lD d)=py (lD e)):d=e:=by
 cases d with
 |stay=>cases e<;>simp[lD,py,eE] at h;rfl
 |step b x=>
  cases e with
  |step b' x'=>
   simp only[lD,py,eE,PyData.tuple.injEq,zcW.injEq,PyData.str.injEq,true_and,and_true] at h;let⟨h1,rfl⟩:=h;have:b=b':=by cases b<;>cases b'<;>first|rfl|(exact absurd h1 (by decide))
   rw[this]
  |_=>simp[lD,py,eE] at h
 |mk b m=>
  cases e with
  |mk b' m'=>
   simp only[lD,py,eE,PyData.tuple.injEq,zcW.injEq,PyData.str.injEq,and_true] at h;let⟨h1,rfl⟩:=h;have:b=b':=by cases b<;>cases b'<;>first|rfl|(exact absurd h1 (by decide))
   rw[this]
  |_=>simp[lD,py,eE] at h
def Mi(h:py (vD d)=py (vD m')):d=m':=by
 simp only[vD,py,eE,PyData.tuple.injEq,zcW.injEq] at h;let⟨h1,h2,j⟩:=h;let⟨a,l,b⟩:=d;let⟨o,q,n⟩:=m';have:=Ov h2;simp only at this;rw[this,show a=o by lia,show b=n by lia]
def s9:py (vD d)∈pm mv↔d∈mv:=by
 unfold pm;rw[zcE];exact⟨λ⟨k,h1,h2⟩=>Mi h2▸h1,λh=>⟨d,h,rfl⟩⟩
def nj.same{p:Pt}{j:Nat}{mv a:List Mv}(h:nj p n mv)(h':nj p j a):n=j/\∀m,m∈mv↔m∈a:=by
 let⟨⟨l,h1,h2⟩,_⟩:=h;let⟨⟨bI,q,o⟩,_⟩:=h';let⟨s,rfl⟩:=h1.uniq q;exact⟨s,λm=>by rw[<-s9,h2,<-o,s9]⟩
def P4(p:Pt)(l:Lf):Prop:=l=.stay∨l∈Lv p
theorem yx{a b:Nat}{q:Pt}:∀e∈eS a n b q,∀l∈Lv e.2.1,l=.stay∨l∈Lv q:=λe h l j=>by
 cases q with
 |lf l'=>simp[eS] at h
 |many q=>
  simp only[eS,zcq,zbH,or_false] at h;obtain rfl|rfl|rfl:=h
  ·exact .inl (zaY.mp j)
  ·exact .inr j
  ·exact .inl (zaY.mp j)
 |alt ps=>
  simp only[eS] at h;let⟨x,m,rfl⟩:=zcE.mp h;exact .inr (iR.mpr ⟨x,m,j⟩)
 |seq ps=>
  cases ps with
  |nil=>
   simp only[eS,zcq,zbH,or_false] at h;subst h;exact .inl (zaY.mp j)
  |cons q0 ps=>exact .inr (iR.mpr ⟨e.2.1,lI ps q0 a n b e h,j⟩)
theorem D7:∀(k)(t),runs (2,[],[(0,d,1)],[]) k=some t->(∀m∈t.2.1,P4 d m.2.1)/\(∀e∈t.2.2.1,∀l∈Lv e.2.1,P4 d l)/\∀e∈t.2.2.2,∀l∈Lv e.2.1,P4 d l
 |0,t,h=>by
  cases h;refine⟨by simp,λe j l o=>?_,by simp⟩;rw[zaY.mp j] at o;exact .inr o
 |k+1,t,h=>by
  let⟨s,h1,h2⟩:=Option.bind_eq_some_iff.mp h;let⟨x,u,v⟩:=D7 k s h1;let⟨n,C,R,NR⟩:=s;cases R with
  |nil=>
   cases NR with
   |nil=>cases h2
   |cons e NR=>cases h2;refine⟨x,v,by simp⟩
  |cons e R=>
   let⟨a,q,b⟩:=e;cases q with
   |lf l=>
    cases h2;refine⟨λm y=>?_,λe j=>u e (zaC _ j),v⟩;obtain h|h:=zbU.mp y
    ·exact x m h
    ·rw[zaY.mp h];exact u (a,.lf l,b) (by simp) l (by simp[Lv])
   |many q=>
    cases h2;refine⟨x,λe j=>u e (zaC _ j),λe j l o=>?_⟩;obtain h|h:=zbU.mp j
    ·exact v e h l o
    ·obtain z|z:=yx e h l o
     ·exact .inl z
     ·exact u (a,.many q,b) (by simp) l z
   |seq ps=>
    cases h2;refine⟨x,λe j=>u e (zaC _ j),λe j l o=>?_⟩;obtain h|h:=zbU.mp j
    ·exact v e h l o
    ·obtain z|z:=yx e h l o
     ·exact .inl z
     ·exact u (a,.seq ps,b) (by simp) l z
   |alt ps=>
    cases h2;refine⟨x,λe j=>u e (zaC _ j),λe j l o=>?_⟩;obtain h|h:=zbU.mp j
    ·exact v e h l o
    ·obtain z|z:=yx e h l o
     ·exact .inl z
     ·exact u (a,.alt ps,b) (by simp) l z
def nj.lv(h:nj d n mv):∀m∈mv,P4 d m.2.1:=λm j=>by
 let⟨⟨a,⟨k,h1⟩,h2⟩,_⟩:=h;exact(D7 k _ h1).1 m (s9.mp ((h2 _).mp (s9.mpr j)))
def oN{mv a:List Mv}(h:∀m,m∈mv↔m∈a){st:List Nat}:∀x,Reach mv ms st x↔Reach a ms st x:=by
 have one:∀{mv a:List Mv},(∀m,m∈mv↔m∈a)->∀x,Reach mv ms st x->Reach a ms st x:=λ{mv a} h x j=>by
  induction j with
  |base h1=>exact .base h1
  |go _ hm hh ih=>exact .go ih ((h _).mp hm) hh
 exact λx=>⟨one h x,one (λm=>(h m).symm) x⟩
def CV(hw:∀z,Wo d z->z∈g∨z="*")(m:uB g x)(j:uB g k)(a:P4 d q):take q sd x=take q sd k:=by
 obtain rfl|a:=a
 ·rfl
 ·cases q with
  |step b z=>
   have n:∀{u:Str},uB g u->decide (z=u)=false:=λ{u} h=>yDf λe=>by
    subst e;exact(hw z ⟨b,a⟩).elim h.no h.st
   simp only[take,n m,n j]
  |_=>rfl
def HX(q:uB d x)(o:uB d e)(j:uB d g)(a:uB d k)(l:r∈tn d g k):∃t'∈tn d x e,t'.1=r.1/\(t'.2=r.2∨(uB d r.2/\uB d t'.2)):=by
 unfold tn at l⊢;simp only[zbU,zcE,zaY] at l;rcases l with⟨w,h|h,rfl⟩|⟨w,h|h,rfl⟩
 ·refine⟨(side true,w),by simp[h],rfl,.inl rfl⟩
 ·subst h;refine⟨(side true,x),by simp,rfl,.inr ⟨j,q⟩⟩
 ·refine⟨(side false,w),by simp[h],rfl,.inl rfl⟩
 ·subst h;refine⟨(side false,e),by simp,rfl,.inr ⟨a,o⟩⟩
theorem jd.same{p q:Pt}{B B':Ab}{rows:List Rw}(a:HF p q B)(a':HF p q B')(h:jd B rows):jd B' rows:=by
 let⟨_,ms,ws,x,y,o1,o2,mu,mz,wu,wz,ox,oy,ec,et⟩:=a;let⟨_,U,I,x',y',o,P,S,Q,H,G,O,L,ec',et'⟩:=a';obtain rfl:ms=U:=C7 mu S λz=>(mz z).trans (Q z).symm;obtain rfl:ws=I:=C7 wu H λz=>(wz z).trans (G z).symm;let⟨en1,E⟩:=o1.same o;let⟨en2,C⟩:=o2.same P;let⟨h1,h2,h3⟩:=h;refine⟨λr hr=>by rw[<-en1,<-en2];exact h1 r hr,h2,λr hr c hc=>?_⟩;let⟨g1,g2⟩:=h3 r hr c (by rw[ec];rw[ec'] at hc;exact hc);have r1:=λ{st:List Nat}=>oN E (ms:=c) (st:=st);have r2:=λ{st:List Nat}=>oN C (ms:=c) (st:=st);refine⟨λz=>(r2 1).mp (g1 ((r1 1).mpr z)),λt ht j hj=>?_⟩;rw[et'] at ht;let⟨n,Z,e1,F⟩:=HX ox oy O L ht;have wp:∀z,Wo p z->z∈ws∨z="*":=λz hz=>by
  by_cases e:z="*"
  ·exact .inr e
  ·exact .inl ((wz z).mpr ⟨.inl hz,e⟩)
 have wq:∀z,Wo q z->z∈ws∨z="*":=λz hz=>by
  by_cases e:z="*"
  ·exact .inr e
  ·exact .inl ((wz z).mpr ⟨.inr hz,e⟩)
 have tk:∀{u:Pt}{l:Lf},(∀z,Wo u z->z∈ws∨z="*")->P4 u l->take l t.1 t.2=take l n.1 n.2:=λ{u l} hu hl=>by
  rw[e1];obtain F|⟨F,e3⟩:=F
  ·rw[F]
  ·exact CV hu F e3 hl
 have s1:kr B.bI (Reach B.bI c [r.1.toNat]) n.1 n.2 j:=by
  let⟨m,v,Y,X,W⟩:=hj;refine⟨m,(E m).mpr v,(r1 _).mpr Y,by rw[<-tk wp (o.lv m v)];exact X,W⟩
 refine(g2 n (by rw[et];exact Z) j s1).imp λs hs=>?_;let⟨m,v,Y,X,W⟩:=hs;refine⟨m,(C m).mp v,(r2 _).mp Y,by rw[tk wq (o2.lv m v)];exact X,W⟩
def Uv(D:TQ d q)(I:nj d n1 bI)(b1:gJ d n1 (bI.map eM))(h1:n1<=oc d+1)(l1:bI.length<=oc d)(P:∀m∈bI,qG m.2.1)(H:nj q n2 bL)(Z:gJ q n2 (bL.map eM))(h2:n2<=oc q+1)(l2:bL.length<=oc q)(O:∀m∈bL,qG m.2.1)(A:Mc d q ms g x)(L:ms.length<=6)(lw:g.length<=7):HF d q ⟨n1,bI,n2,bL,m8 ms,tn g x x⟩:=by
 let⟨_,_,np,nq,W,u,C,y,lW,lM,Q,S⟩:=D;have cp:=vm d;have cq:=vm q;have j:∀{r:Pt},jy W u r->∀z,(Mo r z->z∈u)/\(Wo r z->z∈W∨z="*"):=λi z=>⟨λ⟨b,s⟩=>i _ s,λ⟨b,s⟩=>i _ s⟩
 have mM:∀z∈ms,z∈u:=λz hz=>((A.mz z).mp hz).elim (j C z).1 (j y z).1;have G:∀z∈g,z∈W:=λz hz=>by
  let⟨X,U⟩:=(A.wz z).mp hz;exact(X.elim (j C z).2 (j y z).2).elim id λe=>absurd e U
 have v:∀{r:Pt}{n:Nat}{l:List Mv},gJ r n (l.map eM)->(∀m∈l,qG m.2.1)->∀m∈l,CC n m:=λb h m o=>⟨(b.EL (eM m) (zaP o)).1,h m o,(b.EL (eM m) (zaP o)).2⟩
 let⟨Y,F⟩:=kg ms;refine⟨⟨by show n1<=60;lia,by show n2<=60;lia,v b1 P,v Z O,by show bI.length<=60;lia,by show bL.length<=60;lia,λc E=>⟨by have:=(F c E).1;lia,λz hz=>o9 (S _ (mM _ ((F c E).2 z hz)))⟩,?_,λt a=>?_,?_⟩,ms,g,x,x,I,H,A.mu,A.mz,A.wu,A.wz,A.ox,A.ox,rfl,rfl⟩
 ·show(m8 ms).length<=100;rw[Y];exact zcH (zaH (by decide) L) (by decide)
 ·have:t.2∈g∨t.2=x:=by
   have a:t∈tn g x x:=a;unfold tn at a;simp only[zbU,zcE,zaY] at a;rcases a with⟨w,h|h,rfl⟩|⟨w,h|h,rfl⟩
   ·exact .inl h
   ·exact .inr h
   ·exact .inl h
   ·exact .inr h
  obtain h|h:=this
  ·exact o9 (Q _ (G _ h))
  ·rw[h];exact A.ox.ok
 ·show(tn g x x).length<=100;unfold tn;simp;lia
open PySem PySem.Spec L2 M PyProof.Rows
noncomputable abbrev xN:Stmt:=top 55
noncomputable abbrev Hf:List Str:=["_law_script","_law_feed_here","_law_one","_law_other","_law_first","_law_second","_law_asked_here","_law_whole","_law_k","_law_rows","_law_handed","_law_told"]
noncomputable abbrev uy:=Hf.take 1
def fX:aH Hf uy (aj xN):=L2.bT
noncomputable def strOf:yai->Option Str
 |.str x _=>some x
 |_=>none
theorem qZ:∀{vs:List yai}{ss:List Str},vs.map strOf=ss.map some->Vals (ss.map V.str) vs
 |[],[],_=>.nil
 |v::vs,s::ss,h=>by
  rw[zcs,zcs] at h;have h1:=zcW.inj h;refine .cons ?_ (qZ h1.2);cases v<;>simp[strOf] at h1;let⟨rfl,_⟩:=h1;exact⟨_,rfl⟩
def xy(l:K.lookup a=some ⟨.type "tuple",d,.seq its n,sl⟩)(q:(its.toList.map strOf==ss.map some)=true)(h:ss.length<=100)(H):eO K H a (ss.map V.str):=by
 have v:=qZ (eq_of_beq q);refine .inr ⟨_,its,n,l,rfl,rfl,?_,v⟩;have:=v.length;rw[zbV] at this;rw[yaf,<-zaR];lia
def J.Vi(h:∀a b c d e,p [a,b,c,d,e])(j)(e:j.length=5):p j:=by
 cases j with
 |nil=>cases e
 |cons a r=>exact _root_.J.by4 (p:=λr=>p (a::r)) (h a) r (Nat.succ.inj e)
theorem tX:∀l:List D,(∀d∈l,PyData.eqv (py d) (py d)=true)->PyData.eqvAll (eE l) (eE l)=true
 |[],_=>rfl
 |d::l,h=>by simp only[eE,PyData.eqvAll,h d (by simp),tX l λx a=>h x (by simp[a]),zcw]
def Iz(a:List Rw):PyData.eqv (py (.lst (a.map bV))) (py (.lst (a.map bV)))=true:=by
 refine tX _ λd hd=>?_;let⟨r,_,rfl⟩:=zcE.mp hd;have h:=tX (r.2.map D.int) λd hd=>by
  let⟨i,_,rfl⟩:=zcE.mp hd;simp[py,PyData.eqv]
 simp[bV,tI,py,eE,PyData.eqv,PyData.eqvAll,h]
def Dj:AN:=λds S Q=>∃ns:List Int,ds=[.mh ns]/\S=[]/\ns.length<=63/\∀o,Q (.dat (.bl true)) [some o]
def OU(T:Txt K mg C fi)(F:Hz K "law" "law" xN f fd)(W:Def P w K mg base 1 "_law_feed" kI (az K Dq))(Y:Def P w K mg base 8 "_law_two" qi (az K K1))(v:Def P w K mg base 4 "machine_of" lT (az K Dh))(O:Def P w K mg base 11 "_law_asked" kF (az K Dm))(U:Def P w K mg base 2 "_law_walk" qg (az K K0))(X:Def P w K mg base 2 "_law_bent" qy (az K Lc))(ab:Def P w K mg base 8 "shows" ql (az K K4))(L:Def P w K mg base 3 "_law_shows" qu (az K K8)):eK P w K mg base qD 12 f fd uy (az K Dj):=by
 refine Ur F fX (λds S Q h=>?_) (λf cdv A outer s H E I=>?_)
 ·let⟨ns,rfl,_⟩:=h;rfl
 ·refine⟨_,(Vu (Vz 1 fX.nd (VQ (VB W I (Vt (Vr 0))))) (Vu (M.oQ (VB Y I (Vt (Vr 1))) (Wg (n:=2) rfl (VO (VM 2 fX.nd) (VO (VM 3 fX.nd) Wh)))) (Vu (Vz 4 fX.nd (VB v I (Vt (Vr 2)))) (Vu (Vz 5 fX.nd (VB v I (Vt (Vr 3)))) (Vu (Vz 6 fX.nd (VB O I (Vs (Vr 2) (Vt (Vr 3))))) (Vu (Vz 7 fX.nd (VB U I (Vs (Vr 4) (Vs (Vr 5) (Vt (Vr 6)))))) (Vu (VP PassesOwn.never rfl (M.jl (by rfl) T.range (Vs (VD VN Vx (VS (M.Od rfl) T.min (Vs Vx (Vs (VD VN Vx (VS V5 T.len (Vt (Vr 0)))) Vw)))) Vw)) (VM 8 fX.nd) (Vu (Vz 9 fX.nd (V6 M.jS T.list (Vt (Vr 7)))) (Vu (VH (VC M.IZ (Vr 8) Vx (aG _)) (Vv (Vz 9 fX.nd (VB X I (Vs (Vr 1) (Vs (Vr 7) (Vs (Vr 4) (Vt (Vr 5)))))))) VI) (Vu (Vz 10 fX.nd (V6 M.jS T.list (Vt (Vr 9)))) (Vu (Vz 11 fX.nd (VB ab I (Vs (Vr 2) (Vs (Vr 3) (Vt (Vr 10)))))) (Vv (VH (V8 (WC (M.k8 (V4 (VS M.Rg T.isinstance (Vs (Vr 11) (Vs (M.EA "bool" (by rfl) T.bool (by decide+kernel)) Vw))))) (WC (VC (Wn I) (Vr 11) (VB L I (Vs (Vr 4) (Vs (Vr 5) (Vs (Vr 9) (Vt (Vr 6)))))) (aG _)) (WO (VC (Wn I) (Vr 10) (Vr 9) (aG _)))))) (Vv (VE VZ)) VI))))))) (Vv (VE VZ))))))))),λds S Q h=>?_⟩;let⟨ns,rfl,rfl,hns,q⟩:=h;have e0:aM Hf [.mh ns]=[some (.mh ns),none,none,none,none,none,none,none,none,none,none,none]:=rfl;rw[e0];refine aV λN1 t=>?_;push_cast[bO];refine⟨ns,rfl,λo ho=>t _ _ ?_⟩;clear t;refine aV λN1 t=>?_;push_cast[true_and];refine⟨0,0,o,rfl,rfl,ho,by decide,λx y o' DU f1=>?_⟩;refine⟨_,rfl,rfl,_,_,rfl,_,_,rfl,rfl,t _ _ ?_⟩;clear t ho;show uo _ _ _ _ [some o'];let⟨_,_,_,_,W0,M0,ip,iq,lW,lM,hW,hM⟩:=id DU;have cp:=vm x;have cq:=vm y;have nx:=DU.nx;have ny:=DU.ny;refine aV λN1 t=>?_;push_cast[true_and];refine⟨x,rfl,ip.ok hW hM,by lia,λn1 bI o1 b1 h1 l1 k1=>t _ _ ?_⟩;clear t;refine aV λN1 t=>?_;push_cast[true_and];refine⟨y,rfl,iq.ok hW hM,by lia,λn2 bL o2 b2 h2 l2 k2=>t _ _ ?_⟩;clear t;refine aV λN1 t=>?_;push_cast[true_and];refine⟨x,y,rfl,DU.dx,DU.dy,DU.nx,DU.ny,DU.ex,λms ws u A lm lw=>t _ _ ?_⟩;clear t;have AB:=Uv DU o1 b1 h1 l1 k1 o2 b2 h2 l2 k2 A lm lw;have t1:=b1.two;have t2:=b2.two;obtain⟨B,hB⟩:∃B,B=Ab.mk n1 bI n2 bL (m8 ms) (tn ws u u):=⟨_,rfl⟩
  rw[<-hB] at AB;have e1:mD n1 0 [1] bI=mD B.n1 0 [1] B.bI:=by rw[hB]
  have e2:mD n2 0 [1] bL=mD B.n2 0 [1] B.bL:=by rw[hB]
  have e3:JX ms ws u=jx B:=by rw[hB];rfl
  have q1:0<B.n1:=by rw[hB];show 0<n1;lia
  have q2:0<B.n2:=by rw[hB];show 0<n2;lia
  show uo _ _ _ [some (.mh ns),some (.loc 0),some (tD x),some (tD y),some (mD n1 0 [1] bI),some (mD n2 0 [1] bL),some (JX ms ws u),none,none,none,none,none] _;rw[e1,e2,e3];clear hB e1 e2 e3 o1 b1 h1 l1 k1 o2 b2 h2 l2 k2 A lm lw t1 t2;refine aV λN1 t=>?_;push_cast[true_and];refine⟨B,rfl,AB.ok,q1,q2,λG hl hne hv=>t _ _ ?_⟩;clear t;refine aV λN1 t=>?_;push_cast[dU,Jq];refine⟨ns.length,by simp[gz],?_⟩;obtain⟨j,hj,hjl⟩:∃j:Nat,(if(3+(ns.length:Int))<10 then(3+(ns.length:Int)) else 10)=(j:Int)/\j<=10:=by
   split
   ·refine⟨3+ns.length,by push_cast;rfl,by lia⟩
   ·refine⟨10,rfl,zcR _⟩
  refine⟨_,_,rfl,?_⟩;simp only[hj,cT,e8,D.int.injEq,exists_eq_left',and_assoc];refine⟨by lia,by lia,?_⟩;obtain⟨m,hm⟩:∃m,m=1+j:=⟨_,rfl⟩
  have er:j4 0 ((1:Int)+(j:Int)).toNat=(zcV m).map λk:Nat=>.int (k:Int):=by
   rw[hm,show((1:Int)+(j:Int)).toNat=1+j by lia];unfold j4;exact zaN λk _=>by rw[Int.zero_add]
  rw[er];have m11:m<=11:=by lia
  clear er hm hj hjl;have eR:G.map rN=(G.map ze).map bV:=by rw[zcF];exact zaN λr _=>jL r
  have R0v:∀z∈G.map ze,z.2.length<=60:=λz hz=>by
   let⟨r,I,rfl⟩:=zcE.mp hz;show(zcY _ r.2).length<=60;rw[zbV];exact(hv r I).2.2
  refine bf (λrest δ S'=>∃(i:Nat)(Z:MO)(v8 v9 v10 v11:Option M.D),rest=((zcV m).drop i).map (λk:Nat=>M.D.int (k:Int))/\i<=m/\δ=[some (.mh ns),some (.loc 0),some (tD x),some (tD y),some (mD B.n1 0 [1] B.bI),some (mD B.n2 0 [1] B.bL),some (jx B),some (.lst (G.map rN)),v8,v9,v10,v11]/\S'=[some Z]/\Fd (3000+10*i) Z) ?_ ?_ _ _ _
   ⟨0,o',none,none,none,none,by simp,zcS _,rfl,rfl,f1⟩
  ·intro δ S' V;let⟨i,Z,v8,v9,v10,v11,I,hi,rfl,rfl,fo⟩:=V;refine⟨trivial,t _ _ ?_⟩;push_cast[true_and];exact q _
  ·intro z rest δ S' N V hN;let⟨i,Z,v8,v9,v10,v11,I,hi,rfl,rfl,fo⟩:=V;have hi':i<m:=by
    obtain h|h:=zcL i m
    ·exact h
    ·rw[zao (by simp;exact h)] at I;simp at I
   rw[zai (by simpa using hi')] at I;rw[zcs,List.getElem_range] at I;injection I with h1 h2;subst h1;subst h2;refine⟨trivial,?_⟩;simp only[bN,zba,zaZ];refine aV λN2 hN2=>?_;push_cast[true_and];refine⟨_,rfl,hN2 _ _ ?_⟩;clear hN2;refine aV λN2 hN2=>?_;have R1:∀(rs:List Rw)(o3:MO),rs.length<=50->(∀r∈rs,r.2.length<=60)->Fd (3000+10*(i+1)) o3->N2 [some (.mh ns),some (.loc 0),some (tD x),some (tD y),some (mD B.n1 0 [1] B.bI),some (mD B.n2 0 [1] B.bL),some (jx B),some (.lst (G.map rN)),some (.int (i:Nat)),some (.lst (rs.map bV)),v10,v11] [some o3]:=λrs o3 h1 h2 h3=>hN2 _ _ (by
    clear hN2;refine aV λN3 hN3=>?_;push_cast[true_and];refine⟨_,rfl,hN3 _ _ ?_⟩;clear hN3;refine aV λN3 hN3=>?_;push_cast[true_and];refine⟨x,y,rs,rfl,DU.nx,DU.ny,DU.ex,by lia,h2,λB' b AB' hb=>hN3 _ _ ?_⟩;clear hN3;have hbb:b=true↔jd B rs:=hb.trans ⟨jd.same AB' AB,jd.same AB AB'⟩;refine bY false (λQ' q'=>?_) (λz=>absurd z (by decide)) (λ_=>hN _ _ ⟨i+1,o3,_,_,_,_,rfl,hi',rfl,rfl,h3⟩);push_cast[true_and];refine⟨true,rfl,?_⟩;rw[yIn (by decide)];refine⟨B,rs,rfl,AB.ok,by lia,h2,λb2 hb2=>?_⟩;obtain rfl:b=b2:=zcf.mpr (hbb.trans hb2.symm);show∃c,(R.dat (D.bl (!decide (b=b)))).d=D.bl c/\_;refine⟨_,rfl,?_⟩;rw[yDt rfl,yIn (by decide)];unfold Pk;rw[bS];have fl:fit (.lst (rs.map bV))=true:=fJ (k:=4) (by decide) λd hd=>by let⟨r,_,rfl⟩:=zcE.mp hd;exact rw_lay r
    refine⟨fl,fl,_,rfl,?_⟩;rw[Iz];exact q')
   clear hN2;refine bY (decide (0<i)) (λQ' q'=>?_) (λh=>?_) (λh=>?_)
   ·push_cast[true_and];rw[show decide ((0:Int)<(i:Int))=decide (0<i) from by congr 1;exact propext ⟨λh=>by lia,λh=>by lia⟩];exact q'
   ·push_cast[true_and];refine⟨0,3000+10*i,Z,B,G,rfl,rfl,fo,by lia,AB.ok,q1,q2,hl,hne,hv,λrs r o3 h1 h2 h3 h4=>?_⟩;dsimp only;rw[h3];exact R1 rs o3 h1 h2 h4
   ·show N2 [_,_,_,_,_,_,_,_,_,some (.lst (G.map rN)),_,_] _;have:=R1 (G.map ze) Z (by rw[zbV];lia) R0v (by
     let⟨ns',a,l,g1,g2,g3⟩:=fo;refine⟨ns',a,l,g1,by lia,g3⟩)
    rw[<-eR] at this;exact this
def zl(K:yaJ):L2.Sp:=λvs H Q _=>∃(a:Addr)(ns:List Int),vs=[.ref a]/\dF K H a (ns.map V.int)/\ns.length<=63/\∀h,Q (.bl true) h
def Mp(h:eK P w K mg base qD k f fd uy (az K Dj)):eK P w K mg base qD k f fd uy (zl K):=h.imp λvs H Q E z=>by
 let⟨a,ns,rfl,l,j,q⟩:=z;refine⟨⟨H,λ_=>none⟩,[.mh ns],[],λr S=>r=.dat (.bl true),⟨gM.refl _,λn o e=>by simp at e,λn m o u e=>by simp,λ_ _=>rfl⟩,?_,⟨ns,rfl,rfl,j,λ_=>rfl⟩,λr x v t s _ _ rep e=>?_⟩
 ·refine⟨_,_,rfl,⟨a,rfl,l⟩,rfl⟩
 ·subst e;have:=oJ rep rfl;subst this;exact q s
open PySem L2
def all_mk{l:PySem.W.OpenLaw}(X:K.In h)(G:h.Ns yaq mg)(hfa:mg "law"=some (.ref fa)){j:Array yai}(a_C:zcO K yaq "Abreast"=some (some (.ref C)))(ag:fq K "holds" (top 13))(Z:fq K "takes" (top 14))(a3:fq K "laid_out" (top 19))(cq:fq K "new_stands" (top 20))(c4:fq K "cut" (top 21))(dv:fq K "by_stand" (top 22))(a6:fq K "gone_without_steps" (top 23))(a7:fq K "gone_by_step" (top 24))(cv:fq K "machine_of" (top 26))(a2:fq K "moves_near" (top 27))(x:fq K "right_within" (top 7))(ak:fq K "layer_below" (top 8))(ba:fq K "all_within" (top 9))(cd:fq K "words_of_steps" (top 11))(Y:fq K "words_in" (top 10))(ac:fq K "marks_in" (top 12))(cr:fq K "name_of" (top 2))(ch:fq K "strange_to" (top 32))(c7:fq K "choices_of" (top 30))(cf:fq K "turns_of" (top 31))(c3:fq K "by_first" (top 36))(c5:fq K "is_covered" (top 37))(cn:fq K "is_shown" (top 35))(cm:fq K "shows" (top 34))(a8:fq K "_law_feed" (top 39))(a9:fq K "_law_draw" (top 40))(ab:fq K "_law_names" (top 41))(ae:fq K "_law_leaf" (top 42))(a4:fq K "_law_pattern" uX)(c2:fq K "_law_marks_of" DR)(c0:fq K "_law_words_of" DQ)(a5:fq K "_law_asked" (top 46))(c6:fq K "_law_closure" (top 47))(cw:fq K "_law_led" (top 48))(ci:fq K "_law_some" (top 49))(cp:fq K "_law_pair_stands" (top 50))(c1:fq K "_law_shows" (top 51))(ce:fq K "_law_two" (top 52))(cc:fq K "_law_walk" (top 53))(c8:fq K "_law_bent" (top 54))(cx:fq K "law" xN)(y:Hy K C "__init__" "Abreast.__init__" D3)(de:Hy K C "first" "Abreast.first" Nx)(bb:Hy K C "has" "Abreast.has" D4)(dd:Hy K C "gone" "Abreast.gone" Nv)(da:Hy K C "is_parted" "Abreast.is_parted" Nt)(db:Hy K C "led" "Abreast.led" Nu)(n:zcO K yaq "isinstance"=some none)(dn:zcO K yaq "dict"=some none)(dV:zcO K yaq "len"=some none)(bj:zcO K yaq "tuple"=some none)(dl:zcO K yaq "list"=some none)(bm:zcO K yaq "range"=some none)(an:zcO K yaq "sorted"=some none)(dC:zcO K yaq "set"=some none)(dA:zcO K yaq "zip"=some none)(dL:zcO K yaq "max"=some none)(dE:zcO K yaq "min"=some none)(d1:zcO K yaq "any"=some none)(d2:zcO K yaq "all"=some none)(d0:zcO K yaq "int"=some none)(dq:zcO K yaq "bool"=some none)(b2:zcO K yaq "BEGIN"=some (some (.int 0 bp)))(d5:zcO K yaq "END"=some (some (.int 1 d3)))(ay:zcO K yaq "LEAVES"=some (some (.ref d)))(a0:K.lookup d=some ⟨.type "tuple",g,.seq k ax,r⟩)(q_LEAVES:(k.toList.map strOf==(["stay","step","at","off"]:List Str).map some)=true)(dt:zcO K yaq "STAY"=some (some (.ref z)))(du:K.lookup z=some ⟨.type "tuple",bv,.seq W dr,bt⟩)(q_STAY:(W.toList.map strOf==(["stay"]:List Str).map some)=true)(b1:zcO K yaq "SIDES"=some (some (.ref q)))(b4:K.lookup q=some ⟨.type "tuple",aw,.seq j b0,ar⟩)(q_SIDES:(j.toList.map strOf==(["on","back"]:List Str).map some)=true)(d6:zcO K yaq "ANY"=some (some (.str "*" d4)))(U:zcO K yaq "LETTERS"=some (some (.str "abcdefghijklmnopqrstuvwxyz" O)))(er:zbS K C Str.empty=true)(ev:zbx K C=true)(eq:PySem.W.plainOver K C=true)(ep:zcm K (.ref C) "__setattr__"=some (some (.builtin "object.__setattr__")))(ap:zcm K (.ref C) "firsts"=some none)(bo:zcm K (.ref C) "lasts"=some none)(L:zcm K (.ref C) "choices"=some none)(bn:zcm K (.ref C) "turns"=some none)(es:PySem.W.makesIn K C=true)(et:zcn K (.ref C)=true):
  ∃fd:yap,(∀(s)(v),yaB s fd ⟨[v],[]⟩ [("_law_script",v)])/\∀base:Heap,K.In base->base.Ns yaq mg->eK l.prog w K mg base qD 12 fa fd ["_law_script"] (zl K):=by
 have Cy:=ag.src (ps:=iG) X G λ_ _ _ _ _ _=>J.CJ (λ_ _=>rfl);have Cs:=Z.src (ps:=iD) X G λ_ _ _ _ _ _=>J.CI (λ_ _ _=>rfl);have GJ:=a3.src (ps:=kE) X G λ_ _ _ _ _ _=>J.qU (λ_=>rfl);have Kh:=cq.src (ps:=lR) X G λ_ _ _ _ _ _=>J.qU (λ_=>rfl);have Ks:=c4.src (ps:=qw) X G λ_ _ _ _ _ _=>J.CJ (λ_ _=>rfl);have PC:=dv.src (ps:=wM) X G λ_ _ _ _ _ _=>J.CJ (λ_ _=>rfl);have GL:=a6.src (ps:=kG) X G λ_ _ _ _ _ _=>J.CI (λ_ _ _=>rfl);have GN:=a7.src (ps:=kH) X G λ_ _ _ _ _ _=>J.by4 (λ_ _ _ _=>rfl);have Km:=cv.src (ps:=lT) X G λ_ _ _ _ _ _=>J.qU (λ_=>rfl);have GH:=a2.src (ps:=kC) X G λ_ _ _ _ _ _=>J.qU (λ_=>rfl);have yQ:=x.src (ps:=gi) X G λ_ _ _ _ _ _=>J.qU (λ_=>rfl);have Cz:=ak.src (ps:=iH) X G λ_ _ _ _ _ _=>J.qU (λ_=>rfl);have GR:=ba.src (ps:=iV) X G λ_ _ _ _ _ _=>J.qU (λ_=>rfl);have J8:=cd.src (ps:=qh) X G λ_ _ _ _ _ _=>J.qU (λ_=>rfl);have Cr:=Y.src (ps:=iC) X G λ_ _ _ _ _ _=>J.qU (λ_=>rfl);have Cu:=ac.src (ps:=iF) X G λ_ _ _ _ _ _=>J.qU (λ_=>rfl);have Kl:=cr.src (ps:=qq) X G λ_ _ _ _ _ _=>J.qU (λ_=>rfl);have Kc:=ch.src (ps:=qk) X G λ_ _ _ _ _ _=>J.qU (λ_=>rfl);have Kw:=c7.src (ps:=qx) X G λ_ _ _ _ _ _=>J.qU (λ_=>rfl);have Ka:=cf.src (ps:=qj) X G λ_ _ _ _ _ _=>J.qU (λ_=>rfl);have Kr:=c3.src (ps:=qv) X G λ_ _ _ _ _ _=>J.qU (λ_=>rfl);have Ku:=c5.src (ps:=lV) X G λ_ _ _ _ _ _=>J.CJ (λ_ _=>rfl);have Kf:=cn.src (ps:=qo) X G λ_ _ _ _ _ _=>J.CI (λ_ _ _=>rfl);have Ke:=cm.src (ps:=ql) X G λ_ _ _ _ _ _=>J.CI (λ_ _ _=>rfl);have GP:=a8.src (ps:=kI) X G λ_ _ _ _ _ _=>J.qU (λ_=>rfl);have GQ:=a9.src (ps:=d8) X G λ_ _ _ _ _ _=>J.CJ (λ_ _=>rfl);have Ct:=ab.src (ps:=iE) X G λ_ _ _ _ _ _=>J.CJ (λ_ _=>rfl);have Cw:=ae.src (ps:=gj) X G λ_ _ _ _ _ _=>J.CI (λ_ _ _=>rfl);have wK:=a4.src (ps:=dG) X G λ_ _ _ _ _ _=>J.Vi (λ_ _ _ _ _=>rfl);have Kq:=c2.src (ps:=fT) X G λ_ _ _ _ _ _=>J.qU (λ_=>rfl);have Ko:=c0.src (ps:=fS) X G λ_ _ _ _ _ _=>J.qU (λ_=>rfl);have GK:=a5.src (ps:=kF) X G λ_ _ _ _ _ _=>J.CJ (λ_ _=>rfl);have Kv:=c6.src (ps:=lX) X G λ_ _ _ _ _ _=>J.CI (λ_ _ _=>rfl);have Kn:=cw.src (ps:=lU) X G λ_ _ _ _ _ _=>J.CI (λ_ _ _=>rfl);have Kd:=ci.src (ps:=lQ) X G λ_ _ _ _ _ _=>J.CJ (λ_ _=>rfl);have Kg:=cp.src (ps:=qp) X G λ_ _ _ _ _ _=>J.Vi (λ_ _ _ _ _=>rfl);have Kp:=c1.src (ps:=qu) X G λ_ _ _ _ _ _=>J.by4 (λ_ _ _ _=>rfl);have J9:=ce.src (ps:=qi) X G λ_ _ _ _ _ _=>J.qU (λ_=>rfl);have J7:=cc.src (ps:=qg) X G λ_ _ _ _ _ _=>J.CI (λ_ _ _=>rfl);have Kx:=c8.src (ps:=qy) X G λ_ _ _ _ _ _=>J.by4 (λ_ _ _ _=>rfl);have TH:=y.src (ps:=lY) λ_ _ _ _ _ _=>J.CI (λ_ _ _=>rfl);have KC:=de.src (ps:=qC) λ_ _ _ _ _ _=>J.qU (λ_=>rfl);have GU:=bb.src (ps:=kJ) λ_ _ _ _ _ _=>J.CJ (λ_ _=>rfl);have KA:=dd.src (ps:=qB) λ_ _ _ _ _ _=>J.CI (λ_ _ _=>rfl);have Ky:=da.src (ps:=qz) λ_ _ _ _ _ _=>J.CJ (λ_ _=>rfl);have Kz:=db.src (ps:=qA) λ_ _ _ _ _ _=>J.CJ (λ_ _=>rfl);let⟨ew,eg,ed,a1,bc,as,bi,be,bd,ea,dj,b3,df,b8⟩:=cx.ex;let⟨cb,eh,ee,ei,ej,ec,eo,em,ek,eb,dk,t,E,u,ca⟩:=y.ex;have e:=hfa.symm.trans (zcA X G dj);cases e;have F:=jo (st:=xN) b3 df b8;have T:Txt K mg C cb:=⟨zbh X G n,zbh X G dn,zbh X G dV,zbh X G bj,zbh X G dl,zbh X G bm,zbh X G an,zbh X G dC,zbh X G dA,zbh X G dL,zbh X G dE,zbh X G d1,zbh X G d2,zbh X G d0,zbh X G dq,⟨_,zcA X G b2⟩,⟨_,zcA X G d5⟩,⟨_,zcA X G ay,λH=>xy a0 q_LEAVES (by decide) H⟩,⟨_,zcA X G dt,λH=>xy du q_STAY (by decide) H⟩,⟨_,zcA X G b1,λH=>xy b4 q_SIDES (by decide) H⟩,⟨_,zcA X G d6⟩,⟨_,zcA X G U⟩,zcA X G a_C,⟨er,ev,eq,ep⟩,⟨es,dk,ca,et⟩,ap,bo,L,bn⟩
 refine⟨zcN "law" "law" (cR xN) (bE xN) (aj xN) .none a1 bc as bi be bd,λs v=>.of_eq rfl,λbase _ _=>?_⟩;have L7:=RZ (P:=l.prog) (w:=w) (base:=base) T Kh;have PN:=OT (P:=l.prog) (w:=w) (base:=base) T GH (UN T PC);have L8:=Sb (P:=l.prog) (w:=w) (base:=base) T Km (OV T GJ L7 (Sg T Ks L7));have yZ:=OX (P:=l.prog) (w:=w) (base:=base) T GL (JL T Cy);have PR:=OY (P:=l.prog) (w:=w) (base:=base) T GN (JH T Cs);have HB:=O2 (P:=l.prog) (w:=w) (base:=base) T GR (JM T Cz (FI T yQ));have PL:=Sn (P:=l.prog) (w:=w) (base:=base) T (jo (st:=D3) t E u) PN L8 (JJ T Cu HB) (JG T Cr (RQ T J8 HB)) (Sj T Kw) (RT T Ka (RU T Kc (Sa T Kl)));have PU:=(jo (st:=D3) t E u).binds (ps:=lY) λ_ _ _ _ _ _=>J.CI (λ_ _ _=>rfl);have Ma:=Sh (P:=l.prog) (w:=w) (base:=base) T Ku;have Tf:=RW (P:=l.prog) (w:=w) (base:=base) T Ke PL PU (Ss T KC) (O3 T GU) (Sf T Kr) Ma (RX T Kf (So T KA yZ) (Sl T Ky) (Sm T Kz PR) Ma);have l8:=O1 (P:=l.prog) (w:=w) (base:=base) T GQ;have HA:=JK (P:=l.prog) (w:=w) (base:=base) T Cw l8;have Te:=RS (P:=l.prog) (w:=w) (base:=base) T J9 l8 (JI T Ct l8) (yv T wK l8 HA 3 (by lia)) (yv T wK l8 HA 4 (by lia));have Mb:=Si (P:=l.prog) (w:=w) (base:=base) T Kv;have Bo:=Sd (P:=l.prog) (w:=w) (base:=base) T Kn;have L6:=RV (P:=l.prog) (w:=w) (base:=base) T Kd;exact Mp (OU T F (OZ T GP) Te L8 (OW T GK (LL T Kq 8) (LK T Ko 8)) (RP T J7 Mb Bo) (Sk T Kx l8) Tf (Se T Kp L6 (RY T Kg Mb Bo L6)))
def walk{l:PySem.W.OpenLaw}{K:Params->yaJ}(o:l.most=some 63)(j:d.params.defaults=[])(v:∀(w)(h),YP w h->(K w.params).In h)(F:∀(w)(mg)(m)(h),(K w.params).In h->h.Ns yaq mg->mg d.name=some (.ref m)->∃fd:yap,(∀(s)(u),yaB s fd ⟨[u],[]⟩ [("_law_script",u)])/\∀base:Heap,(K w.params).In base->base.Ns yaq mg->eK l.prog w (K w.params) mg base qD 12 m fd ["_law_script"] (zl (K w.params))):
  PySem.W.WalkO q loose XP YP l.row.toRowW d [] (λf vs=>PySem.call f vs):=
 L2.HP (n:=63) (k:=12) (x:="_law_script") (CX:=λ_=>qD) (sp:=λw=>zl (K w.params)) o (by decide) j ⟨rfl,by decide,by decide,rfl⟩ v F (λ_ _ a ns t _ y=>⟨a,ns,rfl,y,t,λ_=>rfl⟩) λ_ _ _ _ _ z=>z
end K61
open PySem PySem.W PyProof.Rows
local macro_rules|`(universe $x*)=>return Lean.mkNullNode (<-x.mapM λi=>return (<-`(def $(Lean.mkIdent (.mkSimple s!"tw{i.getId.toString.foldl (λn c=>n*36+c.toNat-if c.isDigit then 48 else 87) 0-10*36^12}")):ident:=Nat)).raw)
namespace PySem.Challenge.cw_pathask_k61_what_shows_it_holds
universe baqbt1mwvf4yx an4p20bs8z874 dij16n8ki5prd dheqf66z5fk34 clvevr8a32nnr c0pef6joeasqv dkdpqzuj69jbq d000rnuomvbtd b1x3ug5t26vdy c7tto5xpvttqz dqpzu8lq36v10 dqhxyzi5kh5cw dplkj1x4d79rr cookewe03mne0 dhb31ugz9d7gv ds5k7xh228n75 dq8rfv7a5hj54 chd2znbym64zx dc2z739nfwnce dvgr1vq7sxxq2 d5h6mz6ifp7xx dno4wian5cpvp amc5l2nxyg74c d16cfws0emoa0 ck88udjph1pxo catckcsp4ex8d ain7217g8r6ce d4kwj1lba5knx a06k6py1ipivc daxftbictzd7o big2r8571riay a83wmyitmm3bp bt8iot5ixzuv3 deteeo9znsmc9 auulzt6u2qv63 agh7peysachnh dkszbs95nu47r cre69xtex5r8u d9m9bvbkbbfze c5ny92kh5wh9x cm6al7y8yb38j drjol7o5ed119 anugirexffonf d6b5517h9pi8l di325mnww74k2 cdxzv5pnbrmbx a8seg8oxbbbc3 bycrbv71n6exz cxpsrsqt07obc bx3ipmatcrcvc b74ola02haks0 cmad43976iyk5 dee85ymorxvs6 cb6hf1svu1cyd adlflqlc520du a473w02b11zx5 d3esou95huuu2 b3fxr95k96gf5 aeyon3uwhw1e6 a54293hr2ts6a aiq7vtlrsbeyw aiuhq3cdh2k9e a3aodi71ssg71 c9oeez00a24f9 bu8meik21stva b11x7nv671fq6 cudmfxnkf67i2 c77l4796donuo dqmvqks5isjzh as65urc7y4lxb awvl5ng6umhfq d1z061bc9jf8h byar5rj997xuw b57ktfq764c6z ajd5jepidab97 aqn51itqusq3p bdn1jiqc5db3a dsrrrggmmobqa a4p3d1bxkd0w1 bgo9im0qhj96a depyiac9kf868 cnitplgqhxe28 a3j3dd68eo197 d8dhjc7unct3a a3wmkcxuzoqpm bowy5wij4zyak b0avt2uou112v de7ihus9gk19p db0b1ah3gt6ea cayluwdd2vjaq d39hjku3hqzex ciawuiotoiee0 c3m93m3usyx9g au8595mk3rv3e burd5dmllmclz bh22k529kawvs cm7edlm3evtyk c3sq1mgzlpp12 dd8wtqqckn22u c8k4zku5x3akb cw0sdh9bg0kzq ahxwcidcjoeno d30d30rqs4sht cqg0s61mtcbs9 aw9dzl66fdw7g b5tj0f6zezh7k bk7t206xzz8up dh5ltu16vrroh agbhytabg55iq cxx7tyg8raa24 a5aohg3u5hatf clmvjh2r47jam culdpz64suzcy cxjjwcztd9rem d48ljpltwfu3d c986uryjqgwn8 b1f443f46thl5 dlixp3c8v26jq am8yyumx77guh conxe96roacyb b75ycvv60bdgv a8dbesaaf616z c8ajl09d698f2 aj0o9tegwuzvz drilpw1dwgk7g af7nv2hs2o6h3 dsglkvox0k062 bw81x1ull3gr4 da7usz14jh6hu b2y2dlp3sfeag a98e7dts8xrkh aoxhzggyg9zth cv0m19vu3eyx7 b1bpxi1rwpzny cgykqo908mk0f dghn39p1ot44l dbaqkhvxx42lb duaasrnixeebh d9iuybv58tcul a4rp44v0zy0em ac3z9t491mt9r cx1nmiypykg5v brje4ohfw02dm bs1k0lgas4i2f dv1nbzlti9r51 btufabm7t3304 avb8xjkh2rbsz cchfx23fw5dzn cew3kpi4rcvau d02cckyky6gve dvzuii8lhtoyx ap895j17i9xc7 d9g5csn01wnzn djmobj34sgjxf a7h6xgllfovzl a0kjtgjov4ltb b9gbysogaj8bu bbbt17ef69uql aeb55nws9zn7w aqmdmarxubuy7 c9kr8svv2vie8 dcjcfxqzckuvd c89p66tbhoyib duj7mjjmmwaen d0f5hygm9uiwu anoz1tl9bu9iy bw1o75c60ezsa d3kqyduf3hqpw dr6brke2z2580 bp8zi1p4ykb5s ae920t2lxnbu3 bn9r9chghhf2x bfcqhzhch9qyh a3xkzc3csgfsx atkm0z540y5rp c1ir9o9wgeeet a8uvezqtboyl6 dpedusy9x4wbb cdh9d8sbnq9tj cvys9vhivvcex dfh3x32hk26tv dqkzw3y0wmwgi af9x33hyk201q dio9z3h6ck0pa ckb4r0rs5gaj7 bg7a9ue93cr2m ae5foskjsnffz af4fi4v278v4o b5htta2gvy3la axvgn579rpdpg ae74xavf7vofu a28xcrou74dk5 cqju2pmu9efit dbys2w5zb7sh0 did953l13id10 clyc1s01nl2n9 ci003zwd94rp6
end PySem.Challenge.cw_pathask_k61_what_shows_it_holds
set_option Elab.async true in
set_option maxRecDepth 100000 in
set_option maxHeartbeats 0 in
theorem PySem.Challenge.cw_pathask_k61_what_shows_it_holds : PySem.Challenge.rw_pathask_k61_what_shows_it.Holds := by
 w_on;o_law;k_head;(case hw=>w_witness2)
 k_fill
 refine K61.walk (l:=PySem.Challenge.rw_pathask_k61_what_shows_it) rfl rfl (λw h Y=>PySem.W.kIn_of Y) ?F
 case F =>
  intro w mg fa h KX G hmg
  refine' K61.all_mk KX G hmg ?_ ?_ ?_ ?_ ?_ ?_ ?_ ?_ ?_ ?_ ?_ ?_ ?_ ?_ ?_ ?_ ?_ ?_ ?_ ?_ ?_ ?_ ?_ ?_ ?_ ?_ ?_ ?_ ?_ ?_ ?_ ?_ ?_ ?_ ?_ ?_ ?_ ?_ ?_ ?_ ?_ ?_ ?_ ?_ ?_ ?_ ?_ ?_ ?_ ?_ ?_ ?_ ?_ ?_ ?_ ?_ ?_ ?_ ?_ ?_ ?_ ?_ ?_ ?_ ?_ ?_ ?_ ?q_LEAVES ?_ ?_ ?q_STAY ?_ ?_ ?q_SIDES ?_ ?_ ?_ ?_ ?_ ?_ ?_ ?_ ?_ ?_ ?_ ?_
  (case q_LEAVES=>kernel_rfl)
  (case q_STAY=>kernel_rfl)
  (case q_SIDES=>kernel_rfl)
  all_goals try first | (refine' L2.fq.of ?a ?l ?c ?k;(case a=>k_is);(case l=>k_is);(case c=>k_is);(case k=>k_is)) | (refine' L2.Hy.of ?a ?l ?c ?k ?i;(case a=>k_is);(case l=>k_is);(case c=>k_is);(case k=>k_is);(case i=>k_is)) | k_is
